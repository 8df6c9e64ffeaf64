/- Layer 13: faults and their texts, as lists of bytes. -/
import Derived.Test.YtdjjihppaobbcaaGA
namespace Go.Proofs.Ytdjjihppaobbcaa
namespace Flt
/-- A fault: its number, its kind, its other sector. -/
structure F where
  pos : Int
  kind : Int
  to : Int
def okF (f : F) : Bool := decide (0 ≤ f.pos) && decide (1 ≤ f.kind) && decide (f.kind ≤ 7) && decide (0 ≤ f.to) && (decide (f.to = 0) || decide (f.kind = 3) || decide (f.kind = 5))
/-- Valid behind a fault with the number p. -/
def vldP (p : Int) : List F → Bool
  | [] => true
  | f :: L => decide (p < f.pos) && okF f && vldP f.pos L
def vld (L : List F) : Bool := vldP (-1) L
/-- The number of the last fault. -/
def last (p : Int) : List F → Int
  | [] => p
  | f :: L => last f.pos L
theorem last_snoc (L : List F) (f : F) : ∀ p, last p (L ++ [f]) = f.pos := by
  induction L with
  | nil => intro p; rfl
  | cons g L ih => intro p; exact ih _
theorem vldP_snoc (L : List F) (f : F) : ∀ p, vldP p (L ++ [f]) = (vldP p L && (decide (last p L < f.pos) && okF f)) := by
  induction L with
  | nil => intro p; simp [vldP, last]; try rfl
  | cons g L ih => intro p; simp only [List.cons_append, vldP, ih, last]; simp only [Bool.and_assoc]; try rfl
theorem vld_snoc (L : List F) (f : F) : vld (L ++ [f]) = (vld L && (decide (last (-1) L < f.pos) && okF f)) := vldP_snoc L f (-1)
theorem vldP_append (L M : List F) : ∀ p, vldP p (L ++ M) = (vldP p L && vldP (last p L) M) := by
  induction L with
  | nil => intro p; simp [vldP, last]
  | cons g L ih => intro p; simp only [List.cons_append, vldP, ih, last]; simp only [Bool.and_assoc]
/-- If the first faults are not valid, all are not. -/
theorem vld_take {L : List F} {k : Nat} (h : vld (L.take k) = false) : vld L = false := by
  rw [← List.take_append_drop k L]
  unfold vld at h ⊢
  rw [vldP_append, h]; rfl
/-! ### Texts -/
/-- The decimal digits. -/
def dig (n : Nat) : List Nat := if h : n < 10 then [48 + n] else dig (n / 10) ++ [48 + n % 10]
termination_by n
decreasing_by omega
theorem dig_small {n : Nat} (h : n < 10) : dig n = [48 + n] := by rw [dig, dif_pos h]
theorem dig_big {n : Nat} (h : ¬ n < 10) : dig n = dig (n / 10) ++ [48 + n % 10] := by rw [dig, dif_neg h]
theorem dig_ne (n : Nat) : dig n ≠ [] := by
  by_cases h : n < 10
  · rw [dig_small h]; simp
  · rw [dig_big h]; simp
theorem dig_in (n : Nat) : ∀ x ∈ dig n, 48 ≤ x ∧ x ≤ 57 := by
  induction n using Nat.strongRecOn with
  | _ n ih =>
    intro x hx
    by_cases h : n < 10
    · rw [dig_small h] at hx; simp at hx; omega
    · rw [dig_big h] at hx
      rcases List.mem_append.1 hx with hx | hx
      · exact ih (n / 10) (by omega) x hx
      · simp at hx; omega
theorem dig_len (n : Nat) : ∀ k, n < 10 ^ (k + 1) → (dig n).length ≤ k + 1 := by
  induction n using Nat.strongRecOn with
  | _ n ih =>
    intro k hk
    by_cases h : n < 10
    · rw [dig_small h]; simp
    · rw [dig_big h]
      cases k with
      | zero => simp at hk; omega
      | succ k =>
        have := ih (n / 10) (by omega) k (by rw [Nat.pow_succ] at hk; omega)
        simp; omega
def word (k : Int) : List Nat :=
  if k = 1 then [100, 114, 111, 112] else if k = 2 then [116, 101, 97, 114] else if k = 3 then [115, 116, 114, 97, 121] else if k = 4 then [102, 97, 105, 108]
  else if k = 5 then [111, 116, 104, 101, 114] else if k = 6 then [115, 108, 111, 119] else if k = 7 then [100, 105, 101] else []
def tos : List Nat := [32, 116, 111, 32]
def sep : List Nat := [59, 32]
def aims (k : Int) : Bool := decide (k = 3) || decide (k = 5)
def one (f : F) : List Nat := word f.kind ++ [32] ++ dig f.pos.toNat ++ (if aims f.kind = true then tos ++ dig f.to.toNat else [])
def text : List F → List Nat
  | [] => []
  | [f] => one f
  | f :: g :: L => one f ++ sep ++ text (g :: L)
theorem text_cons (f : F) (L : List F) : text (f :: L) = one f ++ (if L = [] then [] else sep ++ text L) := by
  cases L with
  | nil => simp [text]
  | cons g L => simp [text]
theorem text_snoc (L : List F) (f : F) : text (L ++ [f]) = text L ++ (if L = [] then [] else sep) ++ one f := by
  induction L with
  | nil => simp [text]
  | cons g L ih =>
    rw [List.cons_append, text_cons, ih, text_cons]
    cases L with
    | nil => simp [text]
    | cons h L => simp
/-! ### Reading -/
/-- A number of 64 bits. -/
abbrev w64 (x : Int) : Int := Go.RowKit.wrap64 x
def isDig (c : Nat) : Bool := decide (48 ≤ c) && decide (c ≤ 57)
/-- The digits at the beginning, behind the number n; what follows them. -/
def rdN (n : Int) : List Nat → Int × List Nat
  | [] => (n, [])
  | c :: s => if isDig c = true then rdN (w64 (w64 (n * 10) + ((c : Int) - 48))) s else (n, c :: s)
theorem w64_id {x : Int} (h0 : 0 ≤ x) (h1 : x < 9223372036854775808) : w64 x = x := by unfold w64 Go.RowKit.wrap64; omega
/-- What is no digit at the beginning. -/
def stops (r : List Nat) : Prop := ∀ c s, r = c :: s → isDig c = false
theorem rdN_stop {n : Int} {r : List Nat} (h : stops r) : rdN n r = (n, r) := by
  cases r with
  | nil => rfl
  | cons c s => rw [rdN, h c s rfl]; simp
set_option maxRecDepth 10000 in
theorem rdN_dig (n : Nat) : ∀ r, n < 9223372036854775808 → rdN 0 (dig n ++ r) = rdN n r := by
  induction n using Nat.strongRecOn with
  | _ n ih =>
    intro r hn
    by_cases h : n < 10
    · rw [dig_small h]
      have hd : isDig (48 + n) = true := by unfold isDig; simp; omega
      show rdN 0 ((48 + n) :: r) = _
      rw [rdN, if_pos hd]
      congr 1
      rw [w64_id (x := 0 * 10) (by omega) (by omega), w64_id (by omega) (by omega)]
      omega
    · rw [dig_big h, List.append_assoc, ih (n / 10) (by omega) _ (by omega)]
      have hd : isDig (48 + n % 10) = true := by unfold isDig; simp; omega
      show rdN _ ((48 + n % 10) :: r) = _
      rw [rdN, if_pos hd]
      have e : w64 (w64 (((n / 10 : Nat) : Int) * 10) + (((48 + n % 10 : Nat) : Int) - 48)) = (n : Int) := by
        rw [w64_id (x := ((n / 10 : Nat) : Int) * 10) (by omega) (by omega), w64_id (by omega) (by omega)]
        omega
      rw [e]
/-- What stands behind w. -/
def after (w s : List Nat) : Option (List Nat) := if w.isPrefixOf s = true then some (s.drop w.length) else none
theorem after_append (w r : List Nat) : after w (w ++ r) = some r := by
  unfold after
  rw [if_pos (by rw [List.isPrefixOf_iff_prefix]; exact List.prefix_append w r)]
  simp
/-- A fault of the kind k behind its word. -/
def rdT (p k : Int) (s : List Nat) : F × List Nat := match after tos s with
  | some s' => (⟨p, k, (rdN 0 s').1⟩, (rdN 0 s').2)
  | none => (⟨p, k, 0⟩, s)
theorem rdT_some {p k : Int} {s s' : List Nat} (h : after tos s = some s') : rdT p k s = (⟨p, k, (rdN 0 s').1⟩, (rdN 0 s').2) := by unfold rdT; rw [h]
theorem rdT_none {p k : Int} {s : List Nat} (h : after tos s = none) : rdT p k s = (⟨p, k, 0⟩, s) := by unfold rdT; rw [h]
def rdK (k : Int) (s : List Nat) : F × List Nat := rdT (rdN 0 s).1 k (rdN 0 s).2
/-- A fault at the beginning: the kinds from k on, n of them. -/
def rdF (s : List Nat) : Nat → Int → Option (F × List Nat)
  | 0, _ => none
  | n + 1, k => match after (word k ++ [32]) s with
    | some r => some (rdK k r)
    | none => rdF s n (k + 1)
def rd1 (s : List Nat) : Option (F × List Nat) := rdF s 7 1
theorem stops_tail {r : List Nat} (h : r = [] ∨ ∃ t, r = sep ++ t) : stops r := by
  rintro c s rfl
  rcases h with h | ⟨t, h⟩
  · cases h
  · injection h with h _; subst h; rfl
theorem after_tail {r : List Nat} (h : r = [] ∨ ∃ t, r = sep ++ t) : after tos r = none := by
  rcases h with rfl | ⟨t, rfl⟩ <;> rfl
theorem rdK_one {f : F} (h : okF f = true) {r : List Nat} (hr : r = [] ∨ ∃ t, r = sep ++ t) (hp : f.pos < 9223372036854775808) (ht : f.to < 9223372036854775808) :
    rdK f.kind (dig f.pos.toNat ++ (if aims f.kind = true then tos ++ dig f.to.toNat else []) ++ r) = (f, r) := by
  unfold okF at h
  simp only [Bool.and_eq_true, Bool.or_eq_true, decide_eq_true_eq] at h
  obtain ⟨⟨⟨⟨h0, h1⟩, h2⟩, h3⟩, h4⟩ := h
  unfold rdK
  by_cases ha : aims f.kind = true
  · rw [if_pos ha]
    have e1 : rdN 0 (dig f.pos.toNat ++ (tos ++ dig f.to.toNat) ++ r) = (f.pos, tos ++ (dig f.to.toNat ++ r)) := by
      rw [List.append_assoc, rdN_dig _ _ (by omega), List.append_assoc, rdN_stop (by rintro c s e; injection e with e _; subst e; rfl)]
      rw [Int.toNat_of_nonneg h0]
    rw [e1, rdT_some (after_append _ _)]
    have e2 : rdN 0 (dig f.to.toNat ++ r) = (f.to, r) := by
      rw [rdN_dig _ _ (by omega), rdN_stop (stops_tail hr), Int.toNat_of_nonneg h3]
    rw [e2]
  · rw [if_neg ha, List.append_nil]
    have e1 : rdN 0 (dig f.pos.toNat ++ r) = (f.pos, r) := by
      rw [rdN_dig _ _ (by omega), rdN_stop (stops_tail hr), Int.toNat_of_nonneg h0]
    rw [e1, rdT_none (after_tail hr)]
    have : f.to = 0 := by
      unfold aims at ha
      simp only [Bool.or_eq_true, decide_eq_true_eq] at ha
      omega
    show ((⟨f.pos, f.kind, 0⟩ : F), r) = _
    rw [← this]
/-- The words end in a blank, and none begins with another one. -/
theorem after_word {k : Int} (h1 : 1 ≤ k) (h2 : k ≤ 7) (r : List Nat) : ∀ j : Int, 1 ≤ j → j ≤ 7 → j ≠ k → after (word j ++ [32]) (word k ++ [32] ++ r) = none := by
  intro j j1 j2 hj
  have hk : k = 1 ∨ k = 2 ∨ k = 3 ∨ k = 4 ∨ k = 5 ∨ k = 6 ∨ k = 7 := by omega
  have hjj : j = 1 ∨ j = 2 ∨ j = 3 ∨ j = 4 ∨ j = 5 ∨ j = 6 ∨ j = 7 := by omega
  rcases hk with rfl | rfl | rfl | rfl | rfl | rfl | rfl <;> rcases hjj with rfl | rfl | rfl | rfl | rfl | rfl | rfl <;> first | exact absurd rfl hj | rfl
theorem rdF_one {k : Int} (h1 : 1 ≤ k) (h2 : k ≤ 7) (r : List Nat) : ∀ (n : Nat) (j : Int), 1 ≤ j → j ≤ k → k < j + n → j + n ≤ 8 → rdF (word k ++ [32] ++ r) n j = some (rdK k r) := by
  intro n
  induction n with
  | zero => intro j _ h3 h4; omega
  | succ n ih =>
    intro j hj1 hj2 h3 h4
    rw [rdF]
    by_cases e : j = k
    · subst e; rw [after_append]
    · rw [after_word h1 h2 r j hj1 (by omega) e]
      exact ih (j + 1) (by omega) (by omega) (by omega) (by omega)
theorem rd1_one {f : F} (h : okF f = true) {r : List Nat} (hr : r = [] ∨ ∃ t, r = sep ++ t) (hp : f.pos < 9223372036854775808) (ht : f.to < 9223372036854775808) : rd1 (one f ++ r) = some (f, r) := by
  have h' := h
  unfold okF at h'
  simp only [Bool.and_eq_true, Bool.or_eq_true, decide_eq_true_eq] at h'
  unfold rd1 one
  rw [List.append_assoc (word f.kind ++ [32]), List.append_assoc (word f.kind ++ [32]), rdF_one h'.1.1.1.2 h'.1.1.2 _ 7 1 (by omega) (by omega) (by omega) (by omega), rdK_one h hr hp ht]
theorem rdN_len (s : List Nat) : ∀ n, (rdN n s).2.length ≤ s.length := by
  induction s with
  | nil => intro n; exact Nat.le_refl _
  | cons c s ih =>
    intro n
    rw [rdN]
    split
    · have := ih (w64 (w64 (n * 10) + ((c : Int) - 48))); simp; omega
    · exact Nat.le_refl _
theorem after_len {w s r : List Nat} (h : after w s = some r) : r.length + w.length = s.length := by
  unfold after at h
  split at h
  · rename_i h1
    injection h with h
    subst h
    rw [List.isPrefixOf_iff_prefix] at h1
    have := h1.length_le
    simp; omega
  · cases h
theorem rdK_len (k : Int) (s : List Nat) : (rdK k s).2.length ≤ s.length := by
  unfold rdK
  have h := rdN_len s 0
  cases h1 : after tos (rdN 0 s).2 with
  | none => rw [rdT_none h1]; exact h
  | some s' =>
    rw [rdT_some h1]
    have h2 := after_len h1
    have h3 := rdN_len s' 0
    show (rdN 0 s').2.length ≤ _
    omega
theorem rdF_len (s : List Nat) : ∀ n k p, rdF s n k = some p → p.2.length < s.length := by
  intro n
  induction n with
  | zero => intro k p h; cases h
  | succ n ih =>
    intro k p h
    rw [rdF] at h
    cases h1 : after (word k ++ [32]) s with
    | none => rw [h1] at h; exact ih _ _ h
    | some r =>
      rw [h1] at h
      injection h with h
      subst h
      have h2 := after_len h1
      have h3 := rdK_len k r
      simp at h2
      omega
theorem rd1_len {s : List Nat} {p : F × List Nat} (h : rd1 s = some p) : p.2.length < s.length := rdF_len s 7 1 p h
/-- The faults of a text, read loosely; fuel: at least the length. -/
def rdL : Nat → List Nat → Option (List F)
  | 0, [] => some []
  | 0, _ :: _ => none
  | n + 1, s => if s = [] then some [] else match rd1 s with
    | none => none
    | some p => match after sep p.2 with
      | some r' => (rdL n r').map (p.1 :: ·)
      | none => if p.2 = [] then some [p.1] else none
theorem rdL_text : ∀ (L : List F) (n : Nat), (∀ f ∈ L, okF f = true ∧ f.pos < 9223372036854775808 ∧ f.to < 9223372036854775808) → L.length ≤ n → rdL n (text L) = some L := by
  intro L
  induction L with
  | nil => intro n _ _; cases n <;> rfl
  | cons f L ih =>
    intro n h hn
    obtain ⟨m, rfl⟩ : ∃ m, n = m + 1 := ⟨n - 1, by simp at hn; omega⟩
    obtain ⟨h1, h2, h3⟩ := h f List.mem_cons_self
    have ne : text (f :: L) ≠ [] := by
      rw [text_cons]
      unfold one
      simp
    rw [rdL, if_neg ne, text_cons]
    by_cases hL : L = []
    · subst hL
      rw [if_pos rfl, rd1_one h1 (Or.inl rfl) h2 h3]
      rfl
    · rw [if_neg hL, rd1_one h1 (Or.inr ⟨_, rfl⟩) h2 h3]
      simp only [after_append]
      rw [ih m (fun g hg => h g (List.mem_cons_of_mem _ hg)) (by simp at hn; omega)]
      rfl
theorem vldP_mem : ∀ (L : List F) (p : Int), vldP p L = true → ∀ f ∈ L, okF f = true := by
  intro L
  induction L with
  | nil => intro p _ f hf; cases hf
  | cons g L ih =>
    intro p h f hf
    rw [vldP] at h
    simp only [Bool.and_eq_true] at h
    rcases List.mem_cons.1 hf with rfl | hf
    · exact h.1.2
    · exact ih _ h.2 f hf
/-- The numbers fit into 64 bits. -/
def fits (L : List F) : Prop := ∀ f ∈ L, (-9223372036854775808 ≤ f.pos ∧ f.pos < 9223372036854775808) ∧ (-9223372036854775808 ≤ f.kind ∧ f.kind < 9223372036854775808) ∧ (-9223372036854775808 ≤ f.to ∧ f.to < 9223372036854775808)
theorem text_ne_len : ∀ L : List F, L.length ≤ (text L).length := by
  intro L
  induction L with
  | nil => exact Nat.le_refl _
  | cons f L ih =>
    rw [text_cons]
    have h1 : 1 ≤ (one f).length := by unfold one; simp; omega
    by_cases hL : L = []
    · subst hL; simpa using h1
    · rw [if_neg hL]; simp; omega
/-- The valid list with the text s. -/
def parse (s : List Nat) : Option (List F) := match rdL s.length s with
  | some L => if vld L = true ∧ text L = s then some L else none
  | none => none
theorem parse_text {L : List F} (hf : fits L) (h : vld L = true) : parse (text L) = some L := by
  unfold parse
  rw [rdL_text L _ (fun f hm => ⟨vldP_mem L (-1) h f hm, (hf f hm).1.2, (hf f hm).2.2.2⟩) (text_ne_len L)]
  show (if vld L = true ∧ text L = text L then some L else none) = _
  rw [if_pos ⟨h, rfl⟩]
theorem parse_some {s : List Nat} {L : List F} (h : parse s = some L) : vld L = true ∧ text L = s := by
  unfold parse at h
  split at h
  · split at h
    · rename_i h1; injection h with h; subst h; exact h1
    · cases h
  · cases h
/-- Different valid lists have different texts. -/
theorem text_inj {L M : List F} (hl : fits L) (hm : fits M) (h1 : vld L = true) (h2 : vld M = true) (h : text L = text M) : L = M := by
  have a := parse_text hl h1
  rw [h, parse_text hm h2] at a
  injection a with a
  exact a.symm
end Flt
end Go.Proofs.Ytdjjihppaobbcaa
