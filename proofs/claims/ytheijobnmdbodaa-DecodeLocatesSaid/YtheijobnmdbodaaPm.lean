/- The parity's definition, Horner's rule, linearity, and that three columns of the matrix are independent. -/
import Derived.Test.YtheijobnmdbodaaPc
import Derived.Test.YtheijobnmdbodaaGD
namespace Go.Proofs.Ytheijobnmdbodaa
open Go Go.RowKit Lin
set_option linter.unusedVariables false

theorem xs_head (n : Nat) (f : Nat → Nat) : xs (n + 1) f = f 0 ^^^ xs n (fun i => f (i + 1)) := by
  induction n with
  | zero => show 0 ^^^ f 0 = f 0 ^^^ 0; rw [Nat.zero_xor, Nat.xor_zero]
  | succ n ih => rw [xs_succ (n + 1), ih, xs_succ n, Nat.xor_assoc]
/-- Byte k of parity block j. -/
def par (D : List (List Nat)) (j k : Nat) : Nat := xs D.length (fun i => Gf.mul (Gf.gpow 2 (j * i)) (el D i k))
/-- The first n terms of it. -/
def parU (D : List (List Nat)) (n j k : Nat) : Nat := xs n (fun i => Gf.mul (Gf.gpow 2 (j * i)) (el D i k))
def parB (D : List (List Nat)) (j : Nat) : List Nat := blk (par D j)
def parL (D : List (List Nat)) : List (List Nat) := [parB D 0, parB D 1, parB D 2]
theorem gp_lt (n : Nat) : Gf.gpow 2 n < 256 := Gf.gpow_lt _ _ (by decide)
theorem par_lt (D : List (List Nat)) (j k : Nat) : par D j k < 256 := xs_lt _ _ fun i _ => Gf.mul_lt _ _ (gp_lt _)
theorem parB_ok (D : List (List Nat)) (j : Nat) : B8 (parB D j) := blk_ok fun k _ => par_lt D j k
theorem parL_ok (D : List (List Nat)) : ∀ d ∈ parL D, B8 d := by
  intro d hd
  simp only [parL, List.mem_cons, List.not_mem_nil, or_false] at hd
  rcases hd with rfl | rfl | rfl <;> exact parB_ok _ _
theorem parL_at (D : List (List Nat)) {j : Nat} (hj : j < 3) : (parL D).getD j [] = parB D j := by
  match j, hj with
  | 0, _ => rfl
  | 1, _ => rfl
  | 2, _ => rfl
theorem el_lt {D : List (List Nat)} (hD : ∀ d ∈ D, B8 d) (i k : Nat) : el D i k < 256 := by
  unfold el
  rcases Nat.lt_or_ge i D.length with h | h
  · rw [getD_in h]; exact (hD _ (List.getElem_mem h)).lt k
  · rw [getD_out h]; exact Nat.succ_pos 255
theorem par_ext {D E : List (List Nat)} (hl : D.length = E.length) (h : ∀ i, i < D.length → ∀ k, k < 8 → el D i k = el E i k) {j k : Nat} (hk : k < 8) : par D j k = par E j k := by
  unfold par; rw [← hl]; exact xs_congr _ _ _ fun i hi => by rw [h i hi k hk]
theorem hor_eq {base : Nat} (hb : base < 256) : ∀ {D : List (List Nat)}, (∀ d ∈ D, B8 d) → ∀ {k : Nat}, k < 8 → (hor base D).getD k 0 = xs D.length (fun i => Gf.mul (Gf.gpow base i) (el D i k))
  | [], _, k, hk => by
    show (zeroB.1).getD k 0 = 0
    exact blk_at (fun _ => 0) hk
  | d :: r, h, k, hk => by
    have ih := hor_eq hb (fun x hx => h x (List.mem_cons_of_mem _ hx)) hk
    have hd := (h d List.mem_cons_self).lt k
    have hr : ∀ i, el r i k < 256 := fun i => el_lt (fun x hx => h x (List.mem_cons_of_mem _ hx)) i k
    show (pmB d (hor base r) base).getD k 0 = _
    rw [pmB, blk_at _ hk, ih, List.length_cons, xs_head, xs_mul _ _ _ fun i _ => Gf.mul_lt _ _ (Gf.gpow_lt _ _ hb)]
    have e1 : Gf.mul (Gf.gpow base 0) (el (d :: r) 0 k) = d.getD k 0 := Gf.one_mul _ hd
    rw [e1]
    congr 1
    refine xs_congr _ _ _ fun i _ => ?_
    have hg := Gf.gpow_lt base i hb
    show Gf.mul (Gf.mul (Gf.gpow base i) (el r i k)) base = Gf.mul (Gf.mul (Gf.gpow base i) base) (el r i k)
    rw [Gf.mul_assoc _ _ _ hg (hr i) hb, Gf.mul_comm (el r i k) base (hr i) hb, ← Gf.mul_assoc _ _ _ hg hb (hr i)]
theorem red_small (j : Nat) (h : j < 255) : red (j : Int) = j := by unfold red; omega
theorem parS_eq {D : List (List Nat)} (hD : ∀ d ∈ D, B8 d) {j : Nat} (hj : j < 255) : (parS D hD j).1 = parB D j := by
  refine B8.ext (parS D hD j).2 (parB_ok D j) fun k hk => ?_
  show (hor _ D).getD k 0 = _
  rw [hor_eq (gp_lt _) hD hk, red_small j hj, parB, blk_at _ hk]
  exact xs_congr _ _ _ fun i _ => by rw [← Gf.gpow_mul _ _ _ (by decide)]
theorem cat3_par {D : List (List Nat)} (hD : ∀ d ∈ D, B8 d) : cat3 (parS D hD) = (parL D).flatten := by
  rw [cat3_flat, parS_eq hD (by decide), parS_eq hD (by decide), parS_eq hD (by decide)]; rfl

/-- Lists of blocks, element by element. -/
theorem bl_ext {D E : List (List Nat)} (hD : ∀ d ∈ D, B8 d) (hE : ∀ d ∈ E, B8 d) (hl : D.length = E.length) (h : ∀ i, i < D.length → ∀ k, k < 8 → el D i k = el E i k) : D = E := by
  refine List.ext_getElem hl fun i h1 h2 => B8.ext (hD _ (List.getElem_mem h1)) (hE _ (List.getElem_mem h2)) fun k hk => ?_
  have := h i h1 k hk
  unfold el at this
  rwa [getD_in h1, getD_in h2] at this
theorem el_parL (D : List (List Nat)) {j k : Nat} (hj : j < 3) (hk : k < 8) : el (parL D) j k = par D j k := by
  unfold el; rw [parL_at D hj, parB, blk_at _ hk]
theorem el_app_l {D E : List (List Nat)} {i : Nat} (k : Nat) (h : i < D.length) : el (D ++ E) i k = el D i k := by
  unfold el; simp only [List.getD, List.getElem?_append_left h]
theorem el_app_r {D E : List (List Nat)} {i : Nat} (k : Nat) (h : D.length ≤ i) : el (D ++ E) i k = el E (i - D.length) k := by
  unfold el; simp only [List.getD, List.getElem?_append_right h]
/-- Change of one block. -/
theorem el_set {D : List (List Nat)} {i : Nat} (b : List Nat) (h : i < D.length) (m k : Nat) : el (D.set i b) m k = if m = i then b.getD k 0 else el D m k := by
  unfold el
  by_cases e : m = i
  · subst e; rw [if_pos rfl]; simp [List.getD, h]
  · rw [if_neg e]; simp [List.getD, List.getElem?_set_ne (fun x => e x.symm)]
theorem xs_split (n i : Nat) (hi : i < n) (f g : Nat → Nat) (h : ∀ m, m < n → m ≠ i → f m = g m) : xs n f = xs n g ^^^ (f i ^^^ g i) := by
  have h1 : xs n (fun m => f m ^^^ g m) = f i ^^^ g i := xs_single n i _ hi fun m hm hne => by show f m ^^^ g m = 0; rw [h m hm hne, Nat.xor_self]
  rw [xs_xor] at h1
  rw [← h1, Nat.xor_comm (xs n f) (xs n g), ← Nat.xor_assoc, Nat.xor_self, Nat.zero_xor]
theorem par_set {D : List (List Nat)} (hD : ∀ d ∈ D, B8 d) {i : Nat} (hi : i < D.length) {b : List Nat} (hb : B8 b) {j k : Nat} : par (D.set i b) j k = par D j k ^^^ Gf.mul (el D i k ^^^ b.getD k 0) (Gf.gpow 2 (j * i)) := by
  unfold par
  rw [List.length_set, xs_split _ i hi _ (fun i => Gf.mul (Gf.gpow 2 (j * i)) (el D i k)) fun m _ hne => by rw [el_set b hi, if_neg hne]]
  congr 1
  show Gf.mul _ (el (D.set i b) i k) ^^^ Gf.mul _ (el D i k) = _
  rw [el_set b hi, if_pos rfl, ← Gf.mul_xor_right, Nat.xor_comm (b.getD k 0), Gf.mul_comm _ _ (gp_lt _) (Gf.xor_lt _ _ (el_lt hD i k) (hb.lt k))]

/-! Three columns -/
def ucol (t j : Nat) : Nat := if t < 13 then Gf.gpow 2 (j * t) else if t = 13 + j then 1 else 0
def tabU : List (List Nat) := (List.range 16).map fun t => (List.range 3).map (ucol t)
def cross (p q : List Nat) : List Nat := match p, q with
  | [a, b, c], [d, e, f] => [Gf.mul b f ^^^ Gf.mul c e, Gf.mul c d ^^^ Gf.mul a f, Gf.mul a e ^^^ Gf.mul b d]
  | _, _ => []
def dot3 (p q : List Nat) : Nat := match p, q with
  | [a, b, c], [d, e, f] => Gf.mul a d ^^^ (Gf.mul b e ^^^ Gf.mul c f)
  | _, _ => 0
def goodP (T : List (List Nat)) : Bool := (List.range 16).all fun q => (List.range 16).all fun r => q == r || (match cross (T.getD q []) (T.getD r []) with
  | [x, y, z] => decide (x < 256) && decide (y < 256) && decide (z < 256) && dot3 [x, y, z] (T.getD q []) == 0 && dot3 [x, y, z] (T.getD r []) == 0 && ((List.range 16).all fun p => p == q || p == r || dot3 [x, y, z] (T.getD p []) != 0)
  | _ => false)
def tabL : List (List Nat) := [[1,1,1],[1,2,4],[1,4,16],[1,8,64],[1,16,29],[1,32,116],[1,64,205],[1,128,19],[1,29,76],[1,58,45],[1,116,180],[1,232,234],[1,205,143],[1,0,0],[0,1,0],[0,0,1]]
theorem tabU_eq : tabU = tabL := by decide +kernel
theorem good_tab : goodP tabL = true := by decide +kernel
theorem tab_at {t : Nat} (ht : t < 16) : tabL.getD t [] = [ucol t 0, ucol t 1, ucol t 2] := by
  rw [← tabU_eq, tabU, getD_in (by simpa using ht), List.getElem_map, List.getElem_range]
  rfl
theorem ucol_lt (t j : Nat) : ucol t j < 256 := by
  unfold ucol; split
  · exact gp_lt _
  · split <;> decide
theorem indep {p q r : Nat} (hp : p < 16) (hq : q < 16) (hr : r < 16) (h1 : p ≠ q) (h2 : p ≠ r) (h3 : q ≠ r) : ∃ u : Nat → Nat, By u ∧ xs 3 (fun j => Gf.mul (u j) (ucol q j)) = 0 ∧ xs 3 (fun j => Gf.mul (u j) (ucol r j)) = 0 ∧ xs 3 (fun j => Gf.mul (u j) (ucol p j)) ≠ 0 := by
  have h := good_tab
  rw [goodP, List.all_eq_true] at h
  have hq' := h q (List.mem_range.2 hq)
  rw [List.all_eq_true] at hq'
  have hr' := hq' r (List.mem_range.2 hr)
  rw [Bool.or_eq_true] at hr'
  rcases hr' with e | hr'
  · exact absurd (by simpa using e) h3
  generalize cross (tabL.getD q []) (tabL.getD r []) = c at hr'
  match c, hr' with
  | [x, y, z], hr' =>
    simp only [Bool.and_eq_true, decide_eq_true_eq, beq_iff_eq, List.all_eq_true, List.mem_range, Bool.or_eq_true, bne_iff_ne] at hr'
    obtain ⟨⟨⟨⟨⟨hx, hy⟩, hz⟩, e1⟩, e2⟩, e3⟩ := hr'
    have e3 := e3 p hp
    rw [tab_at hq] at e1
    rw [tab_at hr] at e2
    rw [tab_at hp] at e3
    have key : ∀ t, xs 3 (fun j => Gf.mul ((fun j => if j = 0 then x else if j = 1 then y else z) j) (ucol t j)) = dot3 [x, y, z] [ucol t 0, ucol t 1, ucol t 2] := fun t => by
      show ((0 ^^^ Gf.mul x (ucol t 0)) ^^^ Gf.mul y (ucol t 1)) ^^^ Gf.mul z (ucol t 2) = Gf.mul x (ucol t 0) ^^^ (Gf.mul y (ucol t 1) ^^^ Gf.mul z (ucol t 2))
      rw [Nat.zero_xor, Nat.xor_assoc]
    refine ⟨fun j => if j = 0 then x else if j = 1 then y else z, fun j => by dsimp only; split; exact hx; split; exact hy; exact hz, (key q).trans e1, (key r).trans e2, fun e => ?_⟩
    rcases e3 with (e3 | e3) | e3
    · exact h1 e3
    · exact h2 e3
    · exact e3 ((key p).symm.trans e)
/-- The column of piece i of a group with n data pieces. -/
def colI (n i : Nat) : Nat := if i < n then i else 13 + (i - n)
/-- Where s is consistent and lives on three places only, it is 0. -/
theorem three_zero {n : Nat} (hn : n ≤ 13) {d : Nat → Nat} (hd : By d) (hs : ∀ j, j < 3 → xs (n + 3) (fun i => Gf.mul (ucol (colI n i) j) (d i)) = 0) {p q r : Nat} (hp : p < n + 3) (hq : q < n + 3) (hr : r < n + 3) (h1 : p ≠ q) (h2 : p ≠ r) (h3 : q ≠ r)
    (h0 : ∀ i, i < n + 3 → i ≠ p → i ≠ q → i ≠ r → d i = 0) : d p = 0 := by
  have hc : ∀ i, i < n + 3 → colI n i < 16 := fun i hi => by unfold colI; split <;> omega
  have hne : ∀ i k, i < n + 3 → k < n + 3 → i ≠ k → colI n i ≠ colI n k := fun i k hi hk h => by unfold colI; split <;> split <;> omega
  obtain ⟨u, hu, u1, u2, u3⟩ := indep (hc p hp) (hc q hq) (hc r hr) (hne p q hp hq h1) (hne p r hp hr h2) (hne q r hq hr h3)
  have e : xs 3 (fun j => Gf.mul (u j) (xs (n + 3) (fun i => Gf.mul (ucol (colI n i) j) (d i)))) = 0 := xs_zero _ _ fun j hj => by rw [hs j hj, Gf.mul_zero]
  have e2 : xs 3 (fun j => Gf.mul (u j) (xs (n + 3) (fun i => Gf.mul (ucol (colI n i) j) (d i)))) = xs (n + 3) (fun i => Gf.mul (xs 3 (fun j => Gf.mul (u j) (ucol (colI n i) j))) (d i)) := by
    rw [xs_congr 3 _ (fun j => xs (n + 3) (fun i => Gf.mul (Gf.mul (u j) (ucol (colI n i) j)) (d i))) fun j _ => by
      rw [mul_xs]; exact xs_congr _ _ _ fun i _ => (Gf.mul_assoc _ _ _ (hu j) (ucol_lt _ _) (hd i)).symm, xs_comm]
    exact xs_congr _ _ _ fun i _ => (xs_mul _ _ _ fun j _ => Gf.mul_lt _ _ (hu j)).symm
  rw [e2] at e
  rw [xs_single (n + 3) p _ hp fun i hi hip => by
    by_cases e1 : i = q
    · rw [e1, u1, Gf.zero_mul]
    · by_cases e3 : i = r
      · rw [e3, u2, Gf.zero_mul]
      · rw [h0 i hi hip e1 e3, Gf.mul_zero]] at e
  exact Gf.mul_eq_zero _ _ (xs_lt _ _ fun j _ => Gf.mul_lt _ _ (hu j)) (hd p) u3 e
/-- Three places that hold three given ones. -/
theorem places (N a b c : Nat) (hN : 3 ≤ N) (ha : a < N) (hb : b < N) (hc : c < N) : ∃ p q r, p < N ∧ q < N ∧ r < N ∧ p ≠ q ∧ p ≠ r ∧ q ≠ r ∧ ∀ i, i ≠ p → i ≠ q → i ≠ r → i ≠ a ∧ i ≠ b ∧ i ≠ c := by
  have fresh : ∀ x y, ∃ z, z < 3 ∧ z ≠ x ∧ z ≠ y := fun x y => by
    by_cases h0 : 0 ≠ x ∧ 0 ≠ y
    · exact ⟨0, by omega, h0.1, h0.2⟩
    · by_cases h1 : 1 ≠ x ∧ 1 ≠ y
      · exact ⟨1, by omega, h1.1, h1.2⟩
      · exact ⟨2, by omega, by omega, by omega⟩
  by_cases e1 : a = b
  · by_cases e2 : a = c
    · obtain ⟨z, hz, z1, -⟩ := fresh a a
      obtain ⟨y, hy, y1, y2⟩ := fresh a z
      exact ⟨a, z, y, by omega, by omega, by omega, by omega, by omega, by omega, fun i h1 h2 h3 => by omega⟩
    · obtain ⟨z, hz, z1, z2⟩ := fresh a c
      exact ⟨a, c, z, by omega, by omega, by omega, by omega, by omega, by omega, fun i h1 h2 h3 => by omega⟩
  · by_cases e2 : a = c
    · obtain ⟨z, hz, z1, z2⟩ := fresh a b
      exact ⟨a, b, z, by omega, by omega, by omega, by omega, by omega, by omega, fun i h1 h2 h3 => by omega⟩
    · by_cases e3 : b = c
      · obtain ⟨z, hz, z1, z2⟩ := fresh a b
        exact ⟨a, b, z, by omega, by omega, by omega, by omega, by omega, by omega, fun i h1 h2 h3 => by omega⟩
      · exact ⟨a, b, c, ha, hb, hc, e1, e2, e3, fun i h1 h2 h3 => ⟨h1, h2, h3⟩⟩
/-- The sums of a group. -/
def syn (n : Nat) (e : Nat → Nat) (j : Nat) : Nat := xs (n + 3) (fun i => Gf.mul (ucol (colI n i) j) (e i))
theorem syn_split (n : Nat) (hn : n ≤ 13) (e : Nat → Nat) (he : By e) {j : Nat} (hj : j < 3) : syn n e j = xs n (fun i => Gf.mul (Gf.gpow 2 (j * i)) (e i)) ^^^ e (n + j) := by
  have h1 : xs n (fun i => Gf.mul (ucol (colI n i) j) (e i)) = xs n (fun i => Gf.mul (Gf.gpow 2 (j * i)) (e i)) := xs_congr _ _ _ fun i hi => by
    rw [colI, if_pos hi, ucol, if_pos (by omega)]
  have h2 : ∀ m, m < 3 → Gf.mul (ucol (colI n (n + m)) j) (e (n + m)) = if m = j then e (n + m) else 0 := fun m hm => by
    rw [colI, if_neg (by omega), ucol, if_neg (by omega)]
    by_cases q : m = j
    · rw [if_pos (by omega), if_pos q, Gf.one_mul _ (he _)]
    · rw [if_neg (by omega), if_neg q, Gf.zero_mul]
  show ((xs n _ ^^^ _) ^^^ _) ^^^ _ = _
  rw [h1]
  have a0 := h2 0 (by omega)
  have a1 := h2 1 (by omega)
  have a2 := h2 2 (by omega)
  rw [Nat.add_zero] at a0
  show ((xs n _ ^^^ Gf.mul (ucol (colI n n) j) (e n)) ^^^ Gf.mul (ucol (colI n (n + 1)) j) (e (n + 1))) ^^^ Gf.mul (ucol (colI n (n + 2)) j) (e (n + 2)) = _
  rw [a0, a1, a2]
  match j, hj with
  | 0, _ => rw [if_pos rfl, if_neg (by decide), if_neg (by decide), Nat.xor_zero, Nat.xor_zero]; rfl
  | 1, _ => rw [if_neg (by decide), if_pos rfl, if_neg (by decide), Nat.xor_zero, Nat.xor_zero]
  | 2, _ => rw [if_neg (by decide), if_neg (by decide), if_pos rfl, Nat.xor_zero, Nat.xor_zero]
theorem syn_xor (n : Nat) (e f : Nat → Nat) (j : Nat) : syn n (fun i => e i ^^^ f i) j = syn n e j ^^^ syn n f j := by
  unfold syn; rw [← xs_xor]; exact xs_congr _ _ _ fun i _ => Gf.mul_xor_right _ _ _
theorem syn_group {D : List (List Nat)} (hD : ∀ d ∈ D, B8 d) (hn : D.length ≤ 13) {j k : Nat} (hj : j < 3) (hk : k < 8) : syn D.length (fun i => el (D ++ parL D) i k) j = 0 := by
  have hG : ∀ d ∈ D ++ parL D, B8 d := fun d hd => (List.mem_append.1 hd).elim (hD d) (parL_ok D d)
  rw [syn_split _ hn _ (fun i => el_lt hG i k) hj, el_app_r _ (Nat.le_add_right _ _), Nat.add_sub_cancel_left, el_parL D hj hk]
  rw [xs_congr _ _ (fun i => Gf.mul (Gf.gpow 2 (j * i)) (el D i k)) fun i hi => by rw [el_app_l k hi]]
  exact Nat.xor_self _
/-- A consistent group. -/
def chk (G : List (List Nat)) : Bool := decide (4 ≤ G.length ∧ G.length ≤ 16 ∧ G = G.take (G.length - 3) ++ parL (G.take (G.length - 3)))
theorem chk_group {D : List (List Nat)} (h1 : 1 ≤ D.length) (h2 : D.length ≤ 13) : chk (D ++ parL D) = true := by
  have hl : (D ++ parL D).length = D.length + 3 := by simp [parL]
  rw [chk, decide_eq_true_eq, hl, Nat.add_sub_cancel, List.take_left]
  exact ⟨by omega, by omega, rfl⟩
theorem chk_three {G E : List (List Nat)} (hG : ∀ d ∈ G, B8 d) (hE : ∀ d ∈ E, B8 d) (hl : E.length = G.length) (cG : chk G = true) (cE : chk E = true) {a b c : Nat} (ha : a < G.length) (hb : b < G.length) (hc : c < G.length)
    (h : ∀ i, i < G.length → i ≠ a → i ≠ b → i ≠ c → ∀ k, k < 8 → el E i k = el G i k) : E = G := by
  rw [chk, decide_eq_true_eq] at cG cE
  obtain ⟨g1, g2, g3⟩ := cG
  obtain ⟨-, -, e3⟩ := cE
  have lG : (G.take (G.length - 3)).length = G.length - 3 := by rw [List.length_take]; omega
  have lE : (E.take (E.length - 3)).length = G.length - 3 := by rw [List.length_take]; omega
  have tG : ∀ d ∈ G.take (G.length - 3), B8 d := fun d hd => hG d (List.mem_of_mem_take hd)
  have tE : ∀ d ∈ E.take (E.length - 3), B8 d := fun d hd => hE d (List.mem_of_mem_take hd)
  have N : G.length - 3 + 3 = G.length := by omega
  refine bl_ext hE hG hl fun i hi k hk => ?_
  rw [hl] at hi
  have hz : By (fun i => el E i k ^^^ el G i k) := fun i => Gf.xor_lt _ _ (el_lt hE i k) (el_lt hG i k)
  have hs : ∀ j, j < 3 → syn (G.length - 3) (fun i => el E i k ^^^ el G i k) j = 0 := fun j hj => by
    rw [syn_xor]
    have s1 := syn_group tG (by omega) hj hk
    have s2 := syn_group tE (by omega) hj hk
    rw [← g3, lG] at s1
    rw [← e3, lE] at s2
    rw [s1, s2]; rfl
  obtain ⟨p, q, r, hp, hq, hr, n1, n2, n3, hf⟩ := places G.length a b c (by omega) ha hb hc
  have off : ∀ i, i < G.length - 3 + 3 → i ≠ p → i ≠ q → i ≠ r → el E i k ^^^ el G i k = 0 := fun i hi hp hq hr => by
    obtain ⟨x, y, z⟩ := hf i hp hq hr
    rw [h i (by omega) x y z k hk, Nat.xor_self]
  have dp : el E p k ^^^ el G p k = 0 := three_zero (by omega) hz hs (by omega) (by omega) (by omega) n1 n2 n3 off
  have dq : el E q k ^^^ el G q k = 0 := three_zero (by omega) hz hs (by omega) (by omega) (by omega) (fun e => n1 e.symm) n3 n2 fun i hi x y z => off i hi y x z
  have dr : el E r k ^^^ el G r k = 0 := three_zero (by omega) hz hs (by omega) (by omega) (by omega) (fun e => n2 e.symm) (fun e => n3 e.symm) n1 fun i hi x y z => off i hi y z x
  have eqz : ∀ x y : Nat, x ^^^ y = 0 → x = y := fun x y e => by
    have := congrArg (· ^^^ y) e
    simpa [Nat.xor_assoc] using this
  by_cases e1 : i = p
  · rw [e1]; exact eqz _ _ dp
  by_cases e2 : i = q
  · rw [e2]; exact eqz _ _ dq
  by_cases e3 : i = r
  · rw [e3]; exact eqz _ _ dr
  exact eqz _ _ (off i (by omega) e1 e2 e3)
end Go.Proofs.Ytheijobnmdbodaa
