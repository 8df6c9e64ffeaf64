/- Layer 13: the program's way of writing and reading texts, in bytes. -/
import Derived.Test.YtffdmpicjhaniaaDoorFk
import Derived.Test.YtffdmpicjhaniaaDoorFi
import Derived.Lib.AtoiAllCases
import Derived.Lib.IndexMore
import Derived.Lib.ItoaNum
import Derived.Lib.SlicesS
namespace Go.Proofs.YtffdmpicjhaniaaDoor
open Go Go.RowKit Flt
set_option linter.unusedVariables false
set_option linter.unusedSimpArgs false
namespace Flt
/-- The bytes. -/
def ub (l : List Nat) : List UInt8 := l.map UInt8.ofNat
theorem ub_app (a b : List Nat) : ub (a ++ b) = ub a ++ ub b := List.map_append
theorem ub_len (a : List Nat) : (ub a).length = a.length := List.length_map ..
theorem ub_str (l : List Nat) : (strOf l).data.toList = ub l := strOf_dat l
theorem str_ub (l : List Nat) : (⟨(ub l).toArray⟩ : ByteArray) = strOf l := str_eq (by rw [ub_str])
theorem dig_dec (n : Nat) : Lib.decDigits n = ub (dig n) := by
  induction n using Nat.strongRecOn with
  | _ n ih =>
    by_cases h : n < 10
    · rw [Lib.decDigits, dif_pos h, dig_small h]; rfl
    · rw [Lib.decDigits, dif_neg h, dig_big h, ub_app, ih (n / 10) (by omega)]; rfl
theorem itoa_dig (n : Nat) : Lib.itoa (n : Int) = ub (dig n) := by
  unfold Lib.itoa; rw [if_neg (by omega), Int.toNat_natCast, dig_dec]
/-! ### Where a separator stands -/
theorem index_skip {c : UInt8} (t r : List UInt8) : ∀ a : List UInt8, c ∉ a → Lib.index (a ++ ((c :: t) ++ r)) (c :: t) = (a.length : Int)
  | [], _ => by
    show Lib.index (c :: (t ++ r)) (c :: t) = 0
    unfold Lib.index
    rw [if_pos (by rw [List.isPrefixOf_iff_prefix]; exact List.prefix_append (c :: t) r)]
  | b :: a, h => by
    have hb : (c == b) = false := by
      rw [beq_eq_false_iff_ne]; intro e; exact h (by rw [e]; exact List.mem_cons_self)
    have ih := index_skip t r a fun hm => h (List.mem_cons_of_mem _ hm)
    rw [List.cons_append]
    unfold Lib.index
    rw [if_neg (by simp [List.isPrefixOf, hb]), ih, if_neg (by rw [beq_iff_eq]; omega)]
    simp
theorem index_miss {c : UInt8} (t : List UInt8) : ∀ a : List UInt8, c ∉ a → Lib.index a (c :: t) = -1
  | [], _ => rfl
  | b :: a, h => by
    have hb : (c == b) = false := by
      rw [beq_eq_false_iff_ne]; intro e; exact h (by rw [e]; exact List.mem_cons_self)
    have ih := index_miss t a fun hm => h (List.mem_cons_of_mem _ hm)
    unfold Lib.index
    rw [if_neg (by simp [List.isPrefixOf, hb]), ih, if_pos (by decide)]
theorem cut_skip {c : UInt8} {t r a : List UInt8} (h : c ∉ a) : Lib.cut (a ++ ((c :: t) ++ r)) (c :: t) = (a, r, true) := by
  unfold Lib.cut
  rw [index_skip t r a h, if_pos (by omega), Int.toNat_natCast, List.take_left' rfl]
  rw [← List.append_assoc, List.drop_left' (by simp)]
theorem cut_miss {c : UInt8} {t a : List UInt8} (h : c ∉ a) : Lib.cut a (c :: t) = (a, [], false) := by
  unfold Lib.cut
  rw [index_miss t a h, if_neg (by decide)]
theorem cut_short {s sep : List UInt8} (h : s ≠ []) (hs : sep ≠ []) : (Lib.cut s sep).2.1.length < s.length := by
  have h1 := List.length_pos_iff.2 h
  have h2 := List.length_pos_iff.2 hs
  unfold Lib.cut
  split
  · simp; omega
  · simpa using h1
theorem cut_left (s sep : List UInt8) : (Lib.cut s sep).1.length ≤ s.length := by
  unfold Lib.cut
  split
  · simp; omega
  · exact Nat.le_refl _
theorem cut_right (s sep : List UInt8) : (Lib.cut s sep).2.1.length ≤ s.length := by
  unfold Lib.cut
  split
  · simp
  · simp
/-! ### Numbers -/
/-- The number with a decimal text, or some number. -/
def num (l : List UInt8) : Int := match Lib.atoiAll l with
  | .ok v => v
  | .range => Lib.atoiSat l
  | _ => 0
theorem num_in (l : List UInt8) : -9223372036854775808 ≤ num l ∧ num l < 9223372036854775808 := by
  unfold num
  split
  · rename_i v h; have := Lib.atoiAll_bounds h; omega
  · unfold Lib.atoiSat; split <;> omega
  · omega
theorem num_nil : num [] = 0 := rfl
theorem dig_byte {n : Nat} (h : n < 10) : (UInt8.ofNat (48 + n)).toNat = 48 + n := by
  rw [UInt8.toNat_ofNat']; omega
theorem parse_dig (n : Nat) : ∀ r, n < 9223372036854775808 → Lib.parseUint10 0 (ub (dig n) ++ r) = Lib.parseUint10 n r := by
  induction n using Nat.strongRecOn with
  | _ n ih =>
    intro r hn
    by_cases h : n < 10
    · rw [dig_small h]
      show Lib.parseUint10 0 (UInt8.ofNat (48 + n) :: r) = _
      rw [Lib.parseUint10, dig_byte h, if_pos (by omega), if_neg (by omega), if_neg (by omega)]
      congr 1; omega
    · rw [dig_big h, ub_app, List.append_assoc, ih (n / 10) (by omega) _ (by omega)]
      show Lib.parseUint10 (n / 10) (UInt8.ofNat (48 + n % 10) :: r) = _
      rw [Lib.parseUint10, dig_byte (by omega : n % 10 < 10), if_pos (by omega), if_neg (by omega), if_neg (by omega)]
      congr 1; omega
theorem num_dig {n : Nat} (h : n < 9223372036854775808) : num (ub (dig n)) = n := by
  have hp := parse_dig n [] h
  rw [List.append_nil] at hp
  obtain ⟨c, r, e⟩ : ∃ c r, dig n = c :: r := by
    cases hd : dig n with
    | nil => exact absurd hd (dig_ne n)
    | cons c r => exact ⟨c, r, rfl⟩
  have hc := dig_in n c (by rw [e]; exact List.mem_cons_self)
  have hb : (UInt8.ofNat c).toNat = c := by rw [UInt8.toNat_ofNat']; omega
  have e2 : ub (dig n) = UInt8.ofNat c :: ub r := by rw [e]; rfl
  have ha : Lib.atoiAll (ub (dig n)) = .ok (n : Int) := by
    rw [e2, Lib.atoiAll_plain _ _ (by omega) (by omega), ← e2]
    unfold Lib.parseMag
    rw [if_neg (by rw [e2]; exact List.cons_ne_nil _ _), hp, Lib.parseUint10]
    show (if 9223372036854775808 ≤ n then _ else _) = _
    rw [if_neg (by omega)]
  unfold num
  rw [ha]
/-! ### Words -/
def wds : List ByteArray := [strOf [], strOf (word 1), strOf (word 2), strOf (word 3), strOf (word 4), strOf (word 5), strOf (word 6), strOf (word 7)]
theorem idx_in (x : ByteArray) : ∀ (zs : List ByteArray) (i : Nat), -1 ≤ Lib.idxFromS zs x i ∧ Lib.idxFromS zs x i < ((i + zs.length + 1 : Nat) : Int)
  | [], i => by show -1 ≤ (-1 : Int) ∧ (-1 : Int) < _; omega
  | z :: zs, i => by
    have := idx_in x zs (i + 1)
    unfold Lib.idxFromS
    split
    · simp; omega
    · simp only [List.length_cons]; omega
theorem wds_ne {j k : Nat} (hj : j < k) (hk : k < 8) : wds.getD j ByteArray.empty ≠ strOf (word k) := by
  intro e
  have e2 : j = 0 ∧ strOf [] = strOf (word k) ∨ strOf (word j) = strOf (word k) := by
    rcases (by omega : j = 0 ∨ j = 1 ∨ j = 2 ∨ j = 3 ∨ j = 4 ∨ j = 5 ∨ j = 6) with rfl | rfl | rfl | rfl | rfl | rfl | rfl
    · exact Or.inl ⟨rfl, e⟩
    all_goals exact Or.inr e
  rcases e2 with ⟨rfl, e2⟩ | e2
  · have e3 := strOf_one (by decide) (word_by _) e2
    rcases (by omega : k = 1 ∨ k = 2 ∨ k = 3 ∨ k = 4 ∨ k = 5 ∨ k = 6 ∨ k = 7) with rfl | rfl | rfl | rfl | rfl | rfl | rfl <;> exact absurd e3 (by decide)
  · have e3 := strOf_one (word_by _) (word_by _) e2
    rcases (by omega : k = 1 ∨ k = 2 ∨ k = 3 ∨ k = 4 ∨ k = 5 ∨ k = 6 ∨ k = 7) with rfl | rfl | rfl | rfl | rfl | rfl | rfl <;>
      rcases (by omega : j = 0 ∨ j = 1 ∨ j = 2 ∨ j = 3 ∨ j = 4 ∨ j = 5 ∨ j = 6) with rfl | rfl | rfl | rfl | rfl | rfl | rfl <;> first | omega | exact absurd e3 (by decide)
theorem idx_word {k : Nat} (h1 : 1 ≤ k) (h2 : k ≤ 7) : Lib.idxOfS wds (strOf (word k)) = (k : Int) := by
  unfold Lib.idxOfS
  rw [Lib.idxFromS_hit _ wds k 0 (by show k < 8; omega) ?_ (fun j hj => wds_ne hj (by omega)), Nat.zero_add]
  rcases (by omega : k = 1 ∨ k = 2 ∨ k = 3 ∨ k = 4 ∨ k = 5 ∨ k = 6 ∨ k = 7) with rfl | rfl | rfl | rfl | rfl | rfl | rfl <;> rfl
/-! ### Faults -/
def uSp : List UInt8 := [32]
def uTo : List UInt8 := [32, 116, 111, 32]
def uSep : List UInt8 := [59, 32]
/-- The fault with a text, or some fault. -/
def rdf (l : List UInt8) : F := ⟨num (Lib.cut (Lib.cut l uSp).2.1 uTo).1, Lib.idxOfS wds ⟨(Lib.cut l uSp).1.toArray⟩, num (Lib.cut (Lib.cut l uSp).2.1 uTo).2.1⟩
theorem rdf_fit (l : List UInt8) : fits [rdf l] := by
  intro f hf
  obtain rfl : f = rdf l := List.mem_singleton.1 hf
  refine ⟨num_in _, ?_, num_in _⟩
  have := idx_in ⟨(Lib.cut l uSp).1.toArray⟩ wds 0
  unfold rdf Lib.idxOfS
  have h8 : wds.length = 8 := rfl
  rw [h8] at this
  show -9223372036854775808 ≤ Lib.idxFromS _ _ 0 ∧ Lib.idxFromS _ _ 0 < _
  omega
theorem ub_no {c : Nat} {l : List Nat} (hl : By l) (hc : c < 256) (h : c ∉ l) : UInt8.ofNat c ∉ ub l := by
  intro hm
  obtain ⟨x, hx, e⟩ := List.mem_map.1 hm
  have := congrArg UInt8.toNat e
  rw [UInt8.toNat_ofNat', UInt8.toNat_ofNat'] at this
  have := hl x hx
  exact h (by rw [show c = x by omega]; exact hx)
theorem word_no (k : Int) {c : Nat} (h : c < 97) : c ∉ word k := by
  intro hm
  have : ∀ x ∈ word k, 97 ≤ x := by
    unfold word
    repeat' split
    all_goals decide
  have := this c hm
  omega
theorem dig_no (n : Nat) {c : Nat} (h : c < 48 ∨ 57 < c) : c ∉ dig n := by
  intro hm
  have := dig_in n c hm
  omega
theorem one_no (f : F) : 59 ∉ one f := by
  unfold one
  simp only [List.mem_append, not_or]
  refine ⟨⟨⟨word_no _ (by decide), by decide⟩, dig_no _ (Or.inr (by decide))⟩, ?_⟩
  split
  · simp only [List.mem_append, not_or]
    exact ⟨by decide, dig_no _ (Or.inr (by decide))⟩
  · exact List.not_mem_nil
theorem rdf_one {f : F} (h : okF f = true) (hp : f.pos < 9223372036854775808) (ht : f.to < 9223372036854775808) : rdf (ub (one f)) = f := by
  unfold okF at h
  simp only [Bool.and_eq_true, Bool.or_eq_true, decide_eq_true_eq] at h
  obtain ⟨⟨⟨⟨h0, h1⟩, h2⟩, h3⟩, h4⟩ := h
  obtain ⟨x, y, z⟩ := f
  simp only at h0 h1 h2 h3 h4 hp ht
  obtain ⟨k, rfl⟩ : ∃ k : Nat, y = k := ⟨y.toNat, by omega⟩
  obtain ⟨a, rfl⟩ : ∃ k : Nat, x = k := ⟨x.toNat, by omega⟩
  obtain ⟨b, rfl⟩ : ∃ k : Nat, z = k := ⟨z.toNat, by omega⟩
  have e1 : Lib.cut (ub (one ⟨a, k, b⟩)) uSp = (ub (word k), ub (dig a ++ (if aims k = true then tos ++ dig b else [])), true) := by
    unfold one
    rw [List.append_assoc, List.append_assoc, ub_app, ub_app]
    exact cut_skip (ub_no (word_by _) (by decide) (word_no _ (by decide)))
  have e2 : Lib.cut (ub (dig a ++ (if aims k = true then tos ++ dig b else []))) uTo = (ub (dig a), ub (if aims k = true then dig b else []), aims k) := by
    by_cases ha : aims k = true
    · rw [if_pos ha, if_pos ha, ub_app, ub_app, ha]
      exact cut_skip (ub_no (dig_by _) (by decide) (dig_no _ (Or.inl (by decide))))
    · rw [if_neg ha, if_neg ha, List.append_nil, (Bool.not_eq_true _).mp ha]
      exact cut_miss (ub_no (dig_by _) (by decide) (dig_no _ (Or.inl (by decide))))
  have e3 : num (ub (if aims k = true then dig b else [])) = b := by
    by_cases ha : aims k = true
    · rw [if_pos ha]; exact num_dig (by omega)
    · rw [if_neg ha]
      unfold aims at ha
      simp only [Bool.or_eq_true, decide_eq_true_eq] at ha
      show (0 : Int) = b
      omega
  unfold rdf
  rw [e1]
  show (⟨num (Lib.cut (ub (dig a ++ (if aims k = true then tos ++ dig b else []))) uTo).1, Lib.idxOfS wds ⟨(ub (word k)).toArray⟩, num (Lib.cut (ub (dig a ++ (if aims k = true then tos ++ dig b else []))) uTo).2.1⟩ : F) = _
  rw [e2, str_ub]
  show (⟨num (ub (dig a)), _, num (ub (if aims k = true then dig b else []))⟩ : F) = _
  rw [e3, num_dig (by omega), idx_word (by omega) (by omega)]
/-! ### Lists -/
/-- The faults that are read; fuel: at least the length. -/
def rdl : Nat → List UInt8 → List F
  | 0, _ => []
  | n + 1, s => if s = [] then [] else rdf (Lib.cut s uSep).1 :: rdl n (Lib.cut s uSep).2.1
theorem rdl_fuel : ∀ (n m : Nat) (s : List UInt8), s.length ≤ n → s.length ≤ m → rdl n s = rdl m s
  | 0, 0, _, _, _ => rfl
  | 0, m + 1, s, h, _ => by
    obtain rfl : s = [] := List.length_eq_zero_iff.1 (by omega)
    simp [rdl]
  | n + 1, 0, s, _, h => by
    obtain rfl : s = [] := List.length_eq_zero_iff.1 (by omega)
    simp [rdl]
  | n + 1, m + 1, s, h1, h2 => by
    rw [rdl, rdl]
    by_cases h : s = []
    · rw [if_pos h, if_pos h]
    · rw [if_neg h, if_neg h]
      have := cut_short h (sep := uSep) (by decide)
      rw [rdl_fuel n m _ (by omega) (by omega)]
/-- All faults that are read. -/
def rds (s : List UInt8) : List F := rdl s.length s
theorem rds_nil : rds [] = [] := rfl
theorem rds_cons {s : List UInt8} (h : s ≠ []) : rds s = rdf (Lib.cut s uSep).1 :: rds (Lib.cut s uSep).2.1 := by
  have l := cut_short h (sep := uSep) (by decide)
  unfold rds
  cases s with
  | nil => exact absurd rfl h
  | cons c s =>
    rw [List.length_cons, rdl, if_neg h]
    rw [rdl_fuel s.length _ _ (by rw [List.length_cons] at l; omega) (Nat.le_refl _)]
theorem rdl_fit : ∀ (n : Nat) (s : List UInt8), fits (rdl n s)
  | 0, _ => fun f hf => by cases hf
  | n + 1, s => by
    intro f hf
    rw [rdl] at hf
    split at hf
    · cases hf
    · rcases List.mem_cons.1 hf with rfl | hf
      · exact rdf_fit _ _ List.mem_cons_self
      · exact rdl_fit n _ f hf
theorem rdl_len : ∀ (n : Nat) (s : List UInt8), (rdl n s).length ≤ n
  | 0, _ => Nat.le_refl _
  | n + 1, s => by
    rw [rdl]
    split
    · exact Nat.zero_le _
    · have := rdl_len n (Lib.cut s uSep).2.1; simp; omega
theorem rds_text : ∀ L : List F, (∀ f ∈ L, okF f = true ∧ f.pos < 9223372036854775808 ∧ f.to < 9223372036854775808) → rds (ub (text L)) = L
  | [], _ => rfl
  | f :: L, h => by
    obtain ⟨h1, h2, h3⟩ := h f List.mem_cons_self
    have ih := rds_text L fun g hg => h g (List.mem_cons_of_mem _ hg)
    have ne : ub (text (f :: L)) ≠ [] := by
      intro e
      have := congrArg List.length e
      rw [ub_len, text_cons] at this
      unfold one at this
      simp at this
    have e : Lib.cut (ub (text (f :: L))) uSep = (ub (one f), ub (text L), decide (L ≠ [])) := by
      rw [text_cons]
      by_cases hL : L = []
      · subst hL
        rw [if_pos rfl, List.append_nil]
        exact cut_miss (ub_no (one_by f) (by decide) (one_no f))
      · rw [if_neg hL, ub_app, ub_app, decide_eq_true hL]
        exact cut_skip (ub_no (one_by f) (by decide) (one_no f))
    rw [rds_cons ne, e]
    show rdf (ub (one f)) :: rds (ub (text L)) = _
    rw [ih, rdf_one h1 h2 h3]
theorem rdL_fit : ∀ (n : Nat) (s : List Nat) (L : List F), rdL n s = some L → fits L
  | 0, [], L, h => by
    injection h with h; subst h; intro f hf; cases hf
  | 0, c :: s, L, h => by cases h
  | n + 1, s, L, h => by
    rw [rdL] at h
    split at h
    · injection h with h; subst h; intro f hf; cases hf
    · split at h
      · cases h
      · rename_i p h1
        have f1 := rd1_fit h1
        split at h
        · rename_i r' h2
          cases h3 : rdL n r' with
          | none => rw [h3] at h; cases h
          | some M =>
            rw [h3] at h; injection h with h; subst h
            intro f hf
            rcases List.mem_cons.1 hf with rfl | hf
            · exact f1 _ List.mem_cons_self
            · exact rdL_fit n r' M h3 f hf
        · split at h
          · injection h with h; subst h; exact f1
          · cases h
theorem parse_fit {s : List Nat} {L : List F} (h : parse s = some L) : fits L := by
  unfold parse at h
  split at h
  · rename_i M hM
    split at h
    · injection h with h; subst h; exact rdL_fit _ _ _ hM
    · cases h
  · cases h
/-- What is read is the list with this text, or there is none. -/
theorem parse_yes {l : List Nat} (h : txt (rds (ub l)) = l) : parse l = some (rds (ub l)) := by
  have hf : fits (rds (ub l)) := rdl_fit _ _
  by_cases hv : vld (rds (ub l)) = true
  · have e : text (rds (ub l)) = l := by rw [← h]; conv => lhs; rw [h]
                                         exact (if_pos hv).symm
    have := parse_text hf hv
    rw [e] at this
    exact this
  · have e : l = [] := by rw [← h]; exact if_neg hv
    subst e
    exact absurd rfl hv
theorem parse_no {l : List Nat} (h : txt (rds (ub l)) ≠ l) : parse l = none := by
  cases hp : parse l with
  | none => rfl
  | some M =>
    obtain ⟨hv, ht⟩ := parse_some hp
    have hf := parse_fit hp
    have e : rds (ub l) = M := by rw [← ht]; exact rds_text M fun f hm => ⟨vldP_mem M (-1) hv f hm, (hf f hm).1.2, (hf f hm).2.2.2⟩
    exact absurd (by rw [e]; exact (if_pos hv).trans ht) h
end Flt
end Go.Proofs.YtffdmpicjhaniaaDoor
