/- Joined: Lin El Em. -/
import Derived.Test.YtheijobnmdbodaaGf
import Derived.Test.YtheijobnmdbodaaGB
namespace Go.Proofs.Ytheijobnmdbodaa.Lin
open Go.Proofs.Ytheijobnmdbodaa.Gf

/-- The sum of f i for i < n. -/
def xs : Nat → (Nat → Nat) → Nat
  | 0, _ => 0
  | n + 1, f => xs n f ^^^ f n
theorem xs_lt (n : Nat) (f : Nat → Nat) (h : ∀ i, i < n → f i < 256) : xs n f < 256 := by
  induction n with
  | zero => exact Nat.succ_pos 255
  | succ n ih => exact xor_lt _ _ (ih fun i hi => h i (by omega)) (h n (by omega))
theorem xs_congr (n : Nat) (f g : Nat → Nat) (h : ∀ i, i < n → f i = g i) : xs n f = xs n g := by
  induction n with
  | zero => rfl
  | succ n ih => show xs n f ^^^ f n = xs n g ^^^ g n; rw [ih fun i hi => h i (by omega), h n (by omega)]
theorem xs_zero (n : Nat) (f : Nat → Nat) (h : ∀ i, i < n → f i = 0) : xs n f = 0 := by
  induction n with
  | zero => rfl
  | succ n ih => show xs n f ^^^ f n = 0; rw [ih fun i hi => h i (by omega), h n (by omega)]; rfl
theorem xs_xor (n : Nat) (f g : Nat → Nat) : xs n (fun i => f i ^^^ g i) = xs n f ^^^ xs n g := by
  induction n with
  | zero => exact (Nat.xor_self 0).symm
  | succ n ih => show xs n _ ^^^ (f n ^^^ g n) = (xs n f ^^^ f n) ^^^ (xs n g ^^^ g n); rw [ih, xor4]
theorem mul_xs (c n : Nat) (f : Nat → Nat) : mul c (xs n f) = xs n (fun i => mul c (f i)) := by
  induction n with
  | zero => exact mul_zero c
  | succ n ih => show mul c (xs n f ^^^ f n) = _; rw [mul_xor_right, ih]; rfl
theorem xs_mul (c n : Nat) (f : Nat → Nat) (h : ∀ i, i < n → f i < 256) : mul (xs n f) c = xs n (fun i => mul (f i) c) := by
  induction n with
  | zero => exact zero_mul c
  | succ n ih => show mul (xs n f ^^^ f n) c = _; rw [mul_xor_left _ _ _ (xs_lt n f fun i hi => h i (by omega)) (h n (by omega)), ih fun i hi => h i (by omega)]; rfl
theorem xs_comm (n m : Nat) (f : Nat → Nat → Nat) : xs n (fun i => xs m (fun j => f i j)) = xs m (fun j => xs n (fun i => f i j)) := by
  induction n with
  | zero => exact (xs_zero m _ fun _ _ => rfl).symm
  | succ n ih => show xs n _ ^^^ xs m _ = xs m (fun j => xs n _ ^^^ f n j); rw [ih, xs_xor]
theorem xs_single (n k : Nat) (f : Nat → Nat) (hk : k < n) (h : ∀ i, i < n → i ≠ k → f i = 0) : xs n f = f k := by
  induction n with
  | zero => omega
  | succ n ih =>
    show xs n f ^^^ f n = f k
    by_cases e : k = n
    · subst e; rw [xs_zero k f fun i hi => h i (by omega) (by omega), Nat.zero_xor]
    · rw [ih (by omega) fun i hi => h i (by omega), h n (by omega) (fun e' => e e'.symm), Nat.xor_zero]
theorem xs_ne (n : Nat) (f : Nat → Nat) (h : xs n f ≠ 0) : ∃ i, i < n ∧ f i ≠ 0 := by
  apply Classical.byContradiction
  intro hn
  exact h (xs_zero n f fun i hi => Classical.byContradiction fun hf => hn ⟨i, hi, hf⟩)
theorem xs_succ (n : Nat) (f : Nat → Nat) : xs (n + 1) f = xs n f ^^^ f n := rfl
theorem xs_ext (n m : Nat) (f : Nat → Nat) (hnm : n ≤ m) (h : ∀ i, n ≤ i → i < m → f i = 0) : xs m f = xs n f := by
  induction m with
  | zero => obtain rfl : n = 0 := by omega
            rfl
  | succ m ih =>
    by_cases e : n = m + 1
    · rw [e]
    · rw [xs_succ, h m (by omega) (by omega), Nat.xor_zero, ih (by omega) fun i h1 h2 => h i h1 (by omega)]

/-- Bytes. -/
def By (v : Nat → Nat) : Prop := ∀ i, v i < 256
def ByM (m : Nat → Nat → Nat) : Prop := ∀ i j, m i j < 256

/-- v is a linear combination of the first k rows of m, as far as the first n columns go. -/
def Span (n k : Nat) (m : Nat → Nat → Nat) (v : Nat → Nat) : Prop := ∃ c, By c ∧ ∀ j, j < n → v j = xs k (fun i => mul (c i) (m i j))
section
variable {n k : Nat} {m : Nat → Nat → Nat} {v u : Nat → Nat}
theorem Span.congr (h : Span n k m v) (e : ∀ j, j < n → u j = v j) : Span n k m u := by
  obtain ⟨c, hc, h⟩ := h
  exact ⟨c, hc, fun j hj => (e j hj).trans (h j hj)⟩
theorem Span.row (hm : ByM m) {i : Nat} (hi : i < k) : Span n k m (m i) := by
  refine ⟨fun l => if l = i then 1 else 0, fun l => by show (if l = i then 1 else 0) < 256; split <;> decide, fun j _ => ?_⟩
  rw [xs_single k i _ hi fun l _ hl => by show mul (if l = i then 1 else 0) _ = 0; rw [if_neg hl, zero_mul]]
  show m i j = mul (if i = i then 1 else 0) (m i j)
  rw [if_pos rfl, one_mul _ (hm i j)]
theorem Span.comb (hm : ByM m) (h : Span n k m v) (h' : Span n k m u) (a : Nat) (ha : a < 256) : Span n k m (fun j => v j ^^^ mul a (u j)) := by
  obtain ⟨c, hc, h⟩ := h
  obtain ⟨d, hd, h'⟩ := h'
  refine ⟨fun i => c i ^^^ mul a (d i), fun i => xor_lt _ _ (hc i) (mul_lt _ _ ha), fun j hj => ?_⟩
  show v j ^^^ mul a (u j) = _
  rw [h j hj, h' j hj, mul_xs, ← xs_xor]
  exact xs_congr _ _ _ fun i _ => by rw [mul_xor_left _ _ _ (hc i) (mul_lt _ _ ha), mul_assoc _ _ _ ha (hd i) (hm i j)]
theorem Span.zero (h : ∀ j, j < n → v j = 0) : Span n k m v := ⟨fun _ => 0, fun _ => Nat.succ_pos 255, fun j hj => by rw [h j hj, xs_zero _ _ fun i _ => zero_mul _]⟩
theorem Span.scale (hm : ByM m) (h : Span n k m v) (a : Nat) (ha : a < 256) : Span n k m (fun j => mul a (v j)) :=
  ((Span.zero (v := fun _ => 0) fun _ _ => rfl).comb hm h a ha).congr fun _ _ => (Nat.zero_xor _).symm
theorem Span.trans {k' : Nat} {m' : Nat → Nat → Nat} (hm' : ByM m') (h : Span n k m v) (hs : ∀ i, i < k → Span n k' m' (m i)) : Span n k' m' v := by
  obtain ⟨c, hc, h⟩ := h
  refine Span.congr (v := fun j => xs k (fun i => mul (c i) (m i j))) ?_ h
  clear h
  induction k with
  | zero => exact Span.zero fun _ _ => rfl
  | succ k ih => exact (ih fun i hi => hs i (by omega)).comb hm' (hs k (by omega)) (c k) (hc k)
theorem Span.fewer {n' : Nat} (h : Span n k m v) (hn : n' ≤ n) : Span n' k m v := by
  obtain ⟨c, hc, h⟩ := h
  exact ⟨c, hc, fun j hj => h j (by omega)⟩
theorem Span.more {k' : Nat} (hm : ByM m) (h : Span n k m v) (hk : k ≤ k') : Span n k' m v := h.trans hm fun _ hi => Span.row hm (by omega)
theorem Span.rows {m' : Nat → Nat → Nat} (h : Span n k m v) (e : ∀ i, i < k → ∀ j, j < n → m i j = m' i j) : Span n k m' v := by
  obtain ⟨c, hc, h⟩ := h
  exact ⟨c, hc, fun j hj => by rw [h j hj]; exact xs_congr _ _ _ fun i hi => by rw [e i hi j hj]⟩
end

/-- The first element other than 0 is at p. -/
def Lead (n : Nat) (v : Nat → Nat) (p : Nat) : Prop := p < n ∧ v p ≠ 0 ∧ ∀ j, j < p → v j = 0
/-- p is the lead of a linear combination. -/
def LS (n k : Nat) (m : Nat → Nat → Nat) (p : Nat) : Prop := ∃ v, Span n k m v ∧ Lead n v p
theorem LS.sub {n k k' : Nat} {m m' : Nat → Nat → Nat} {p : Nat} (hm' : ByM m') (h : LS n k m p) (hs : ∀ i, i < k → Span n k' m' (m i)) : LS n k' m' p := by
  obtain ⟨v, hv, hl⟩ := h
  exact ⟨v, hv.trans hm' hs, hl⟩
/-- Rows with leads 1 at l, each lead column 0 in the other rows. -/
def Ech (n k : Nat) (m : Nat → Nat → Nat) (l : Nat → Nat) : Prop :=
  ∀ i, i < k → l i < n ∧ m i (l i) = 1 ∧ (∀ j, j < l i → m i j = 0) ∧ ∀ i', i' < k → i' ≠ i → m i' (l i) = 0
section
variable {n k : Nat} {m : Nat → Nat → Nat} {l : Nat → Nat}
theorem Ech.coeff (h : Ech n k m l) {v c : Nat → Nat} (hc : By c) (hv : ∀ j, j < n → v j = xs k (fun i => mul (c i) (m i j))) {i : Nat} (hi : i < k) : v (l i) = c i := by
  obtain ⟨h1, h2, _, h4⟩ := h i hi
  rw [hv _ h1, xs_single k i _ hi fun i' hi' hne => by rw [h4 i' hi' hne, mul_zero], h2, mul_one _ (hc i)]
theorem Ech.ls (h : Ech n k m l) (hm : ByM m) (p : Nat) : LS n k m p ↔ ∃ i, i < k ∧ l i = p := by
  constructor
  · rintro ⟨v, ⟨c, hc, hv⟩, hp, hp0, hpj⟩
    have h0 := hp0
    rw [hv p hp] at h0
    obtain ⟨i, hi, hne⟩ := xs_ne _ _ h0
    have hci : c i ≠ 0 := fun e => hne (by rw [e, zero_mul])
    have hmi : m i p ≠ 0 := fun e => hne (by rw [e, mul_zero])
    have hle : l i ≤ p := Nat.le_of_not_lt fun hlt => hmi ((h i hi).2.2.1 p hlt)
    have hge : p ≤ l i := Nat.le_of_not_lt fun hlt => hci (by rw [← h.coeff hc hv hi]; exact hpj _ hlt)
    exact ⟨i, hi, by omega⟩
  · rintro ⟨i, hi, rfl⟩
    obtain ⟨h1, h2, h3, _⟩ := h i hi
    exact ⟨m i, Span.row hm hi, h1, by rw [h2]; decide, h3⟩
theorem Ech.inj (h : Ech n k m l) {i j : Nat} (hi : i < k) (hj : j < k) (e : l i = l j) : i = j := by
  apply Classical.byContradiction
  intro hne
  have h1 := (h j hj).2.2.2 i hi hne
  rw [← e, (h i hi).2.1] at h1
  exact absurd h1 (by decide)
/-- What is left of a row when the multiples of the rows are subtracted. -/
def resid (k : Nat) (m : Nat → Nat → Nat) (l : Nat → Nat) (v : Nat → Nat) : Nat → Nat := fun j => v j ^^^ xs k (fun i => mul (v (l i)) (m i j))
theorem Ech.resid_lead (h : Ech n k m l) {v : Nat → Nat} (hv : By v) {i : Nat} (hi : i < k) : resid k m l v (l i) = 0 := by
  have := h.coeff (v := fun j => xs k (fun i => mul (v (l i)) (m i j))) (c := fun i => v (l i)) (fun i => hv (l i)) (fun _ _ => rfl) hi
  show v (l i) ^^^ _ = 0
  rw [show xs k (fun i' => mul (v (l i')) (m i' (l i))) = v (l i) from this, Nat.xor_self]
theorem Ech.span_iff (h : Ech n k m l) {v : Nat → Nat} (hv : By v) : Span n k m v ↔ ∀ j, j < n → resid k m l v j = 0 := by
  constructor
  · rintro ⟨c, hc, hs⟩ j hj
    show v j ^^^ _ = 0
    rw [hs j hj, xs_congr k (fun i => mul (v (l i)) (m i j)) (fun i => mul (c i) (m i j)) fun i hi => by rw [h.coeff hc hs hi], Nat.xor_self]
  · intro h0
    refine ⟨fun i => v (l i), fun i => hv _, fun j hj => ?_⟩
    have := h0 j hj
    unfold resid at this
    have e := congrArg (· ^^^ xs k (fun i => mul (v (l i)) (m i j))) this
    simpa [Nat.xor_assoc] using e
end

/-- The sum of products. -/
def dot (n : Nat) (u v : Nat → Nat) : Nat := xs n (fun j => mul (u j) (v j))
theorem dot_span {n k : Nat} {m : Nat → Nat → Nat} {v y : Nat → Nat} (hm : ByM m) (hy : By y) (h : Span n k m v) (h0 : ∀ i, i < k → dot n (m i) y = 0) : dot n v y = 0 := by
  obtain ⟨c, hc, h⟩ := h
  unfold dot
  rw [xs_congr n _ (fun j => xs k (fun i => mul (c i) (mul (m i j) (y j)))) fun j hj => by
    rw [h j hj, xs_mul _ _ _ fun i _ => mul_lt _ _ (hc i)]
    exact xs_congr _ _ _ fun i _ => mul_assoc _ _ _ (hc i) (hm i j) (hy j), xs_comm]
  refine xs_zero _ _ fun i hi => ?_
  rw [← mul_xs]
  have := h0 i hi
  unfold dot at this
  rw [this, mul_zero]

/-- Over the transposed rows, the leads are the numbers of the rows that are independent of those before. -/
theorem dual (R C p k : Nat) (m b : Nat → Nat → Nat) (l : Nat → Nat) (hm : ByM m) (hb : ByM b) (hp : p < R) (hE : Ech C k b l) (h1 : ∀ i, i < p → Span C k b (m i)) (h2 : ∀ i, i < k → Span C p m (b i)) :
    LS R C (fun i j => m j i) p ↔ ¬ Span C p m (m p) := by
  constructor
  · rintro ⟨v, ⟨y, hy, hv⟩, _, hp0, hpj⟩ hs
    have e : ∀ j, j < R → v j = dot C (m j) y := fun j hj => by
      rw [hv j hj]; exact xs_congr _ _ _ fun i _ => mul_comm _ _ (hy i) (hm j i)
    apply hp0
    rw [e p hp]
    exact dot_span hm hy hs fun i hi => by rw [← e i (by omega)]; exact hpj i hi
  · intro hns
    have hns' : ¬ Span C k b (m p) := fun h => hns (h.trans hm h2)
    have hex : ∃ q, q < C ∧ resid k b l (m p) q ≠ 0 := by
      apply Classical.byContradiction
      intro hn
      exact hns' ((hE.span_iff (hm p)).2 fun j hj => Classical.byContradiction fun hr => hn ⟨j, hj, hr⟩)
    obtain ⟨q, hq, hr⟩ := hex
    have hql : ∀ i, i < k → q ≠ l i := fun i hi e => hr (by rw [e]; exact hE.resid_lead (hm p) hi)
    let y : Nat → Nat := fun j => (if j = q then 1 else 0) ^^^ xs k (fun i => if l i = j then b i q else 0)
    have hy : By y := fun j => xor_lt _ _ (by split <;> decide) (xs_lt _ _ fun i _ => by split; exact hb i q; decide)
    have hdot : ∀ u, By u → dot C u y = u q ^^^ xs k (fun i => mul (u (l i)) (b i q)) := by
      intro u hu
      unfold dot
      rw [xs_congr C _ (fun j => mul (u j) (if j = q then 1 else 0) ^^^ xs k (fun i => mul (u j) (if l i = j then b i q else 0))) fun j _ => by
        show mul (u j) (_ ^^^ _) = _
        rw [mul_xor_right, mul_xs], xs_xor, xs_comm]
      rw [xs_single C q _ hq fun j _ hne => by rw [if_neg hne, mul_zero], if_pos rfl, mul_one _ (hu q)]
      congr 1
      refine xs_congr _ _ _ fun i hi => ?_
      rw [xs_single C (l i) _ (hE i hi).1 fun j _ hne => by rw [if_neg (fun e => hne e.symm), mul_zero], if_pos rfl]
    have hb0 : ∀ i, i < k → dot C (b i) y = 0 := by
      intro i hi
      rw [hdot _ (hb i), xs_single k i _ hi fun i' hi' hne => by rw [(hE i' hi').2.2.2 i hi (fun e => hne e.symm), zero_mul], (hE i hi).2.1, one_mul _ (hb i q), Nat.xor_self]
    refine ⟨fun j => dot C (m j) y, ⟨y, hy, fun j _ => xs_congr _ _ _ fun i _ => mul_comm _ _ (hm j i) (hy i)⟩, hp, ?_, fun j hj => dot_span hb hy (h1 j hj) hb0⟩
    show dot C (m p) y ≠ 0
    rw [hdot _ (hm p)]
    exact hr

/-- Increasing lists of numbers are told by their elements. -/
theorem sorted_ext (a b : List Nat) (ha : a.Pairwise (· < ·)) (hb : b.Pairwise (· < ·)) (h : ∀ x, x ∈ a ↔ x ∈ b) : a = b := by
  have hp : a.Perm b := (List.perm_ext_iff_of_nodup (ha.imp Nat.ne_of_lt) (hb.imp Nat.ne_of_lt)).2 h
  exact hp.eq_of_pairwise (fun x y _ _ h1 h2 => absurd h1 (Nat.lt_asymm h2)) ha hb
theorem nodup_len (a b : List Nat) (ha : a.Nodup) (hb : b.Nodup) (h : ∀ x, x ∈ a ↔ x ∈ b) : a.length = b.length := ((List.perm_ext_iff_of_nodup ha hb).2 h).length_eq
end Go.Proofs.Ytheijobnmdbodaa.Lin
namespace Go.Proofs.Ytheijobnmdbodaa
open Gf Lin

/-- The element i, j of a matrix. -/
def el (m : List (List Nat)) (i j : Nat) : Nat := (m.getD i []).getD j 0
structure Rect (R W : Nat) (m : List (List Nat)) : Prop where
  len : m.length = R
  row : ∀ i, i < R → (m.getD i []).length = W ∧ ∀ x ∈ m.getD i [], x < 256
theorem getD_bytes {l : List Nat} (h : ∀ x ∈ l, x < 256) (k : Nat) : l.getD k 0 < 256 := by
  rcases Nat.lt_or_ge k l.length with hk | hk
  · rw [getD_in hk]; exact h _ (List.getElem_mem hk)
  · rw [getD_out hk]; exact Nat.succ_pos 255
theorem Rect.by {R W : Nat} {m : List (List Nat)} (h : Rect R W m) : ByM (el m) := by
  intro i j
  rcases Nat.lt_or_ge i R with hi | hi
  · exact getD_bytes (h.row i hi).2 j
  · unfold el; rw [getD_out (l := m) (by rw [h.len]; exact hi), getD_out (l := ([] : List Nat)) (Nat.zero_le _)]; exact Nat.succ_pos 255
theorem Rect.out_row {R W : Nat} {m : List (List Nat)} (h : Rect R W m) {i : Nat} (hi : R ≤ i) (j : Nat) : el m i j = 0 := by
  unfold el; rw [getD_out (l := m) (by rw [h.len]; exact hi), getD_out (l := ([] : List Nat)) (Nat.zero_le _)]
theorem Rect.out_col {R W : Nat} {m : List (List Nat)} (h : Rect R W m) (i : Nat) {j : Nat} (hj : W ≤ j) : el m i j = 0 := by
  rcases Nat.lt_or_ge i R with hi | hi
  · unfold el; rw [getD_out (by rw [(h.row i hi).1]; exact hj)]
  · exact h.out_row hi j
theorem getD_set {α : Type} (m : List α) (i j : Nat) (x d : α) : (m.set i x).getD j d = if i = j ∧ i < m.length then x else m.getD j d := by
  rw [List.getD_eq_getElem?_getD, List.getD_eq_getElem?_getD, List.getElem?_set]
  by_cases e : i = j
  · subst e
    by_cases hl : i < m.length
    · simp [hl]
    · simp [hl]
  · simp [e]
theorem Rect.set {R W : Nat} {m : List (List Nat)} (h : Rect R W m) (i : Nat) {row : List Nat} (hl : row.length = W) (hb : ∀ x ∈ row, x < 256) : Rect R W (m.set i row) := by
  refine ⟨by simp [h.len], fun j hj => ?_⟩
  rw [getD_set]
  split
  · exact ⟨hl, hb⟩
  · exact h.row j hj
theorem range_getD {α : Type} (n k : Nat) (f : Nat → α) (d : α) (hk : k < n) : ((List.range n).map f).getD k d = f k := by
  rw [getD_in (by simpa using hk)]; simp
theorem fused_getD (d s : List Nat) (c j : Nat) (hl : d.length = s.length) : (fused d s c).getD j 0 = d.getD j 0 ^^^ mul c (s.getD j 0) := by
  rcases Nat.lt_or_ge j d.length with h | h
  · exact fused_at d s c j h
  · rw [getD_out (by rw [fused_len]; exact h), getD_out h, getD_out (by omega), mul_zero]; rfl

/-- The first row from `i` on (at most f of them) that has an element other than 0 in the column. -/
def findP (m : List (List Nat)) (col : Nat) : Nat → Nat → Option Nat
  | 0, _ => none
  | f + 1, i => if el m i col = 0 then findP m col f (i + 1) else some i
theorem findP_none (m : List (List Nat)) (col f : Nat) : ∀ i, findP m col f i = none → ∀ j, i ≤ j → j < i + f → el m j col = 0 := by
  induction f with
  | zero => intro i _ j h1 h2; omega
  | succ f ih =>
    intro i h j h1 h2
    unfold findP at h
    by_cases e : el m i col = 0
    · rw [if_pos e] at h
      by_cases e' : i = j
      · rw [← e']; exact e
      · exact ih _ h j (by omega) (by omega)
    · rw [if_neg e] at h; cases h
theorem findP_some (m : List (List Nat)) (col f : Nat) : ∀ i a, findP m col f i = some a → i ≤ a ∧ a < i + f ∧ el m a col ≠ 0 := by
  induction f with
  | zero => intro i a h; cases h
  | succ f ih =>
    intro i a h
    unfold findP at h
    by_cases e : el m i col = 0
    · rw [if_pos e] at h
      obtain ⟨h1, h2, h3⟩ := ih _ _ h
      exact ⟨by omega, by omega, h3⟩
    · rw [if_neg e] at h; cases h; exact ⟨Nat.le_refl _, by omega, e⟩

def swapF (m : List (List Nat)) (a b : Nat) : List (List Nat) := (m.set a (m.getD b [])).set b (m.getD a [])
def normF (row : List Nat) (col : Nat) : List Nat := fused (List.replicate row.length 0) row (inv (row.getD col 0))
def elimRow (m : List (List Nat)) (top col i : Nat) : List Nat := if i = top then m.getD i [] else fused (m.getD i []) (m.getD top []) (el m i col)
def elimF (m : List (List Nat)) (top col : Nat) : List (List Nat) := (List.range m.length).map (elimRow m top col)
def pivotF (m : List (List Nat)) (top col i : Nat) : List (List Nat) :=
  elimF ((swapF m top i).set top (normF ((swapF m top i).getD top []) col)) top col
def stepF (s : List (List Nat) × List Nat) (col : Nat) : List (List Nat) × List Nat :=
  match findP s.1 col (s.1.length - s.2.length) s.2.length with
  | none => s
  | some i => (pivotF s.1 s.2.length col i, s.2 ++ [col])
/-- The steps for the first k columns. -/
def reduceF (m : List (List Nat)) (k : Nat) : List (List Nat) × List Nat := (List.range k).foldl stepF (m, [])
theorem reduceF_succ (m : List (List Nat)) (k : Nat) : reduceF m (k + 1) = stepF (reduceF m k) k := by
  unfold reduceF; rw [List.range_succ, List.foldl_append]; rfl

/-- What the elimination keeps, on plain functions. -/
structure Inv (R W k : Nat) (m0 m : Nat → Nat → Nat) (r : Nat) (l : Nat → Nat) : Prop where
  by0 : ByM m0
  bym : ByM m
  fw : ∀ i, i < R → Span W R m0 (m i)
  bw : ∀ i, i < R → Span W R m (m0 i)
  le : r ≤ R
  piv : ∀ i, i < r → l i < k ∧ m i (l i) = 1 ∧ (∀ j, j < l i → m i j = 0) ∧ ∀ i', i' < R → i' ≠ i → m i' (l i) = 0
  inc : ∀ i j, i < j → j < r → l i < l j
  low : ∀ i, r ≤ i → i < R → ∀ j, j < k → m i j = 0
section
variable {R W k r : Nat} {m0 m : Nat → Nat → Nat} {l : Nat → Nat}
theorem Inv.skip (h : Inv R W k m0 m r l) (h0 : ∀ i, r ≤ i → i < R → m i k = 0) : Inv R W (k + 1) m0 m r l where
  by0 := h.by0
  bym := h.bym
  fw := h.fw
  bw := h.bw
  le := h.le
  piv := fun i hi => by obtain ⟨h1, h2⟩ := h.piv i hi; exact ⟨by omega, h2⟩
  inc := h.inc
  low := fun i h1 h2 j hj => by
    by_cases e : j = k
    · rw [e]; exact h0 i h1 h2
    · exact h.low i h1 h2 j (by omega)
theorem Inv.swap (h : Inv R W k m0 m r l) {i0 : Nat} (h1 : r ≤ i0) (h2 : i0 < R) : Inv R W k m0 (fun i => if i = i0 then m r else if i = r then m i0 else m i) r l := by
  have hb : ByM (fun i => if i = i0 then m r else if i = r then m i0 else m i) := by
    intro i j
    show (if i = i0 then m r else if i = r then m i0 else m i) j < 256
    split
    · exact h.bym _ _
    · split <;> exact h.bym _ _
  refine ⟨h.by0, hb, fun i hi => ?_, fun i hi => ?_, h.le, fun i hi => ?_, h.inc, fun i hr hi j hj => ?_⟩
  · show Span W R m0 (if i = i0 then m r else if i = r then m i0 else m i)
    split
    · exact h.fw _ (by omega)
    · split
      · exact h.fw _ h2
      · exact h.fw _ hi
  · refine (h.bw i hi).trans hb fun i' hi' => ?_
    by_cases e : i' = i0
    · have := Span.row (n := W) (k := R) hb (i := r) (by omega)
      refine this.congr fun j _ => ?_
      show m i' j = (if r = i0 then m r else if r = r then m i0 else m r) j
      by_cases e2 : r = i0
      · rw [if_pos e2, e, e2]
      · rw [if_neg e2, if_pos rfl, e]
    · by_cases e2 : i' = r
      · have := Span.row (n := W) (k := R) hb (i := i0) h2
        refine this.congr fun j _ => ?_
        show m i' j = (if i0 = i0 then m r else _) j
        rw [if_pos rfl, e2]
      · have := Span.row (n := W) (k := R) hb (i := i') hi'
        refine this.congr fun j _ => ?_
        show m i' j = (if i' = i0 then m r else if i' = r then m i0 else m i') j
        rw [if_neg e, if_neg e2]
  · obtain ⟨p1, p2, p3, p4⟩ := h.piv i hi
    have e1 : (if i = i0 then m r else if i = r then m i0 else m i) = m i := by rw [if_neg (by omega), if_neg (by omega)]
    refine ⟨p1, ?_, ?_, fun i' hi' hne => ?_⟩
    · show (if i = i0 then m r else if i = r then m i0 else m i) (l i) = 1
      rw [e1]; exact p2
    · intro j hj
      show (if i = i0 then m r else if i = r then m i0 else m i) j = 0
      rw [e1]; exact p3 j hj
    · show (if i' = i0 then m r else if i' = r then m i0 else m i') (l i) = 0
      split
      · exact p4 r (by omega) (by omega)
      · split
        · exact p4 i0 h2 (by omega)
        · exact p4 i' hi' hne
  · show (if i = i0 then m r else if i = r then m i0 else m i) j = 0
    split
    · exact h.low r (Nat.le_refl _) (by omega) j hj
    · split
      · exact h.low i0 h1 h2 j hj
      · exact h.low i hr hi j hj
/-- The rows behind the pivot's step. -/
def pivoted (m : Nat → Nat → Nat) (r k : Nat) : Nat → Nat → Nat := fun i j => if i = r then mul (inv (m r k)) (m r j) else m i j ^^^ mul (m i k) (mul (inv (m r k)) (m r j))
theorem inv_lt (a : Nat) (ha : a < 256) : inv a < 256 := gpow_lt a 254 ha
theorem Inv.pivot (h : Inv R W k m0 m r l) (hr : r < R) (hk : m r k ≠ 0) : Inv R W (k + 1) m0 (pivoted m r k) (r + 1) (fun i => if i = r then k else l i) := by
  have hi := inv_lt (m r k) (h.bym r k)
  have hb : ByM (pivoted m r k) := by
    intro i j
    unfold pivoted
    split
    · exact mul_lt _ _ hi
    · exact xor_lt _ _ (h.bym i j) (mul_lt _ _ (h.bym i k))
  have hone : mul (inv (m r k)) (m r k) = 1 := by rw [mul_comm _ _ hi (h.bym r k)]; exact mul_inv _ (h.bym r k) hk
  have rowr : ∀ j, pivoted m r k r j = mul (inv (m r k)) (m r j) := fun j => by unfold pivoted; rw [if_pos rfl]
  have rowi : ∀ i j, i ≠ r → pivoted m r k i j = m i j ^^^ mul (m i k) (mul (inv (m r k)) (m r j)) := fun i j e => by unfold pivoted; rw [if_neg e]
  have z : ∀ j, m r j = 0 → ∀ i, i ≠ r → pivoted m r k i j = m i j := fun j e i hne => by rw [rowi i j hne, e, mul_zero, mul_zero, Nat.xor_zero]
  have hm0 : ∀ i, i < R → Span W R m (pivoted m r k i) := by
    intro i hi'
    have sr := (Span.row (n := W) (k := R) h.bym hr).scale h.bym (inv (m r k)) hi
    by_cases e : i = r
    · exact sr.congr fun j _ => by rw [e, rowr j]
    · exact ((Span.row (n := W) (k := R) h.bym hi').comb h.bym sr (m i k) (h.bym i k)).congr fun j _ => rowi i j e
  have hr0 : Span W R (pivoted m r k) (m r) := by
    refine ((Span.row (n := W) (k := R) hb hr).scale hb (m r k) (h.bym r k)).congr fun j _ => ?_
    rw [rowr j, ← mul_assoc _ _ _ (h.bym r k) hi (h.bym r j), mul_inv _ (h.bym r k) hk, one_mul _ (h.bym r j)]
  refine ⟨h.by0, hb, fun i hi' => ?_, fun i hi' => ?_, hr, fun i hi' => ?_, fun i j hij hj => ?_, fun i h1 h2 j hj => ?_⟩
  · exact (hm0 i hi').trans h.by0 h.fw
  · refine (h.bw i hi').trans hb fun i' hi'' => ?_
    by_cases e : i' = r
    · rw [e]; exact hr0
    · refine ((Span.row (n := W) (k := R) hb hi'').comb hb (Span.row (n := W) (k := R) hb hr) (m i' k) (h.bym i' k)).congr fun j _ => ?_
      rw [rowi i' j e, rowr j, Nat.xor_assoc, Nat.xor_self, Nat.xor_zero]
  · by_cases e : i = r
    · subst e
      simp only [if_true]
      refine ⟨by omega, by rw [rowr, hone], fun j hj => by rw [rowr, h.low i (Nat.le_refl _) hr j hj, mul_zero], fun i' hi'' hne => ?_⟩
      rw [rowi i' k hne, hone, mul_one _ (h.bym i' k), Nat.xor_self]
    · obtain ⟨p1, p2, p3, p4⟩ := h.piv i (by omega)
      have hz : m r (l i) = 0 := p4 r hr (fun e' => e e'.symm)
      simp only [if_neg e]
      refine ⟨by omega, by rw [z _ hz i e, p2], fun j hj => ?_, fun i' hi'' hne => ?_⟩
      · rw [z _ (h.low r (Nat.le_refl _) hr j (by omega)) i e, p3 j hj]
      · by_cases e2 : i' = r
        · rw [e2, rowr, hz, mul_zero]
        · rw [z _ hz i' e2, p4 i' hi'' hne]
  · show (if i = r then k else l i) < (if j = r then k else l j)
    rw [if_neg (by omega)]
    split
    · exact (h.piv i (by omega)).1
    · exact h.inc i j hij (by omega)
  · have hne : i ≠ r := by omega
    by_cases e : j = k
    · rw [e, rowi i k hne, hone, mul_one _ (h.bym i k), Nat.xor_self]
    · rw [z _ (h.low r (Nat.le_refl _) hr j (by omega)) i hne, h.low i (by omega) h2 j (by omega)]
end
end Go.Proofs.Ytheijobnmdbodaa
namespace Go.Proofs.Ytheijobnmdbodaa
open Gf Lin

theorem list_ext {α : Type} (d : α) {a b : List α} (hl : a.length = b.length) (h : ∀ i, i < a.length → a.getD i d = b.getD i d) : a = b := by
  refine List.ext_getElem hl fun i h1 h2 => ?_
  have := h i h1
  rwa [getD_in h1, getD_in h2] at this
section
variable {R W : Nat} {m : List (List Nat)}
theorem Rect.ext {m' : List (List Nat)} (h : Rect R W m) (h' : Rect R W m') (he : ∀ i, i < R → ∀ j, j < W → el m i j = el m' i j) : m = m' := by
  refine list_ext [] (by rw [h.len, h'.len]) fun i hi => ?_
  have hi' : i < R := by rw [← h.len]; exact hi
  exact list_ext 0 (by rw [(h.row i hi').1, (h'.row i hi').1]) fun j hj => he i hi' j (by rw [← (h.row i hi').1]; exact hj)
theorem replicate_bytes (n : Nat) : ∀ x ∈ List.replicate n 0, x < 256 := by
  intro x hx; rw [List.eq_of_mem_replicate hx]; decide
theorem replicate_getD (n j : Nat) : (List.replicate n 0).getD j 0 = 0 := by
  rcases Nat.lt_or_ge j n with h | h
  · rw [getD_in (by simpa using h)]; simp
  · rw [getD_out (by simpa using h)]
theorem normF_len (row : List Nat) (col : Nat) : (normF row col).length = row.length := by unfold normF; rw [fused_len]; simp
theorem normF_bytes (row : List Nat) (col : Nat) (h : ∀ x ∈ row, x < 256) : ∀ x ∈ normF row col, x < 256 := fused_bytes _ _ _ (replicate_bytes _) (inv_lt _ (getD_bytes h col))
theorem normF_at (row : List Nat) (col j : Nat) : (normF row col).getD j 0 = mul (inv (row.getD col 0)) (row.getD j 0) := by
  unfold normF; rw [fused_getD _ _ _ _ (by simp), replicate_getD, Nat.zero_xor]
theorem Rect.swap (h : Rect R W m) {a b : Nat} (ha : a < R) (hb : b < R) : Rect R W (swapF m a b) :=
  (h.set a (h.row b hb).1 (h.row b hb).2).set b (h.row a ha).1 (h.row a ha).2
theorem Rect.swap_el (h : Rect R W m) {a b : Nat} (ha : a < R) (hb : b < R) (i : Nat) : el (swapF m a b) i = if i = b then el m a else if i = a then el m b else el m i := by
  funext j
  have : (swapF m a b).getD i [] = if i = b then m.getD a [] else if i = a then m.getD b [] else m.getD i [] := by
    unfold swapF
    rw [getD_set, getD_set]
    have hl := h.len
    by_cases e : i = b
    · rw [if_pos ⟨e.symm, by simp; omega⟩, if_pos e]
    · rw [if_neg (fun hh => e hh.1.symm), if_neg e]
      by_cases e' : i = a
      · rw [if_pos ⟨e'.symm, by omega⟩, if_pos e']
      · rw [if_neg (fun hh => e' hh.1.symm), if_neg e']
  unfold el
  rw [this]
  by_cases e : i = b
  · rw [if_pos e, if_pos e]
  · rw [if_neg e, if_neg e]
    by_cases e' : i = a
    · rw [if_pos e', if_pos e']
    · rw [if_neg e', if_neg e']
theorem Rect.elim (h : Rect R W m) {top : Nat} (_ht : top < R) (col : Nat) : Rect R W (elimF m top col) := by
  refine ⟨by simp [elimF, h.len], fun i hi => ?_⟩
  unfold elimF
  rw [range_getD _ _ _ _ (by rw [h.len]; exact hi)]
  unfold elimRow
  split
  · exact h.row i hi
  · exact ⟨by rw [fused_len]; exact (h.row i hi).1, fused_bytes _ _ _ (h.row i hi).2 (h.by i col)⟩
theorem Rect.elim_el (h : Rect R W m) {top : Nat} (ht : top < R) (col i j : Nat) : el (elimF m top col) i j = if i = top then el m i j else el m i j ^^^ mul (el m i col) (el m top j) := by
  rcases Nat.lt_or_ge i R with hi | hi
  · unfold elimF el
    rw [range_getD _ _ _ _ (by rw [h.len]; exact hi)]
    unfold elimRow
    split
    · rfl
    · rw [fused_getD _ _ _ _ (by rw [(h.row i hi).1, (h.row top ht).1])]; rfl
  · rw [(h.elim ht col).out_row hi, h.out_row hi, h.out_row hi, zero_mul]
    split <;> rfl
theorem Rect.pivot (h : Rect R W m) {top i : Nat} (ht : top < R) (hi : i < R) (col : Nat) : Rect R W (pivotF m top col i) := by
  have hs := h.swap ht hi
  exact (hs.set top (row := normF ((swapF m top i).getD top []) col) (by rw [normF_len]; exact (hs.row top ht).1) (normF_bytes _ _ (hs.row top ht).2)).elim ht col
theorem Rect.pivot_el (h : Rect R W m) {top i : Nat} (ht : top < R) (hi : i < R) (col : Nat) : el (pivotF m top col i) = pivoted (el (swapF m top i)) top col := by
  have hs := h.swap ht hi
  have hset := hs.set top (row := normF ((swapF m top i).getD top []) col) (by rw [normF_len]; exact (hs.row top ht).1) (normF_bytes _ _ (hs.row top ht).2)
  funext a j
  unfold pivotF
  rw [hset.elim_el ht]
  have e1 : ∀ j, el ((swapF m top i).set top (normF ((swapF m top i).getD top []) col)) top j = mul (inv (el (swapF m top i) top col)) (el (swapF m top i) top j) := by
    intro j
    unfold el
    rw [getD_set, if_pos ⟨rfl, by rw [hs.len]; exact ht⟩, normF_at]
  have e2 : ∀ a j, a ≠ top → el ((swapF m top i).set top (normF ((swapF m top i).getD top []) col)) a j = el (swapF m top i) a j := by
    intro a j hne
    unfold el
    rw [getD_set, if_neg (fun hh => hne hh.1.symm)]
  unfold pivoted
  by_cases e : a = top
  · rw [if_pos e, if_pos e, e, e1]
  · rw [if_neg e, if_neg e, e2 _ _ e, e2 _ _ e, e1]

theorem reduce_len (m : List (List Nat)) (k : Nat) : (reduceF m k).1.length = m.length := by
  induction k with
  | zero => rfl
  | succ k ih =>
    rw [reduceF_succ]
    unfold stepF
    split
    · exact ih
    · rw [← ih]; simp [pivotF, elimF, swapF]

/-- What the elimination keeps, on lists. -/
theorem reduce_inv (h : Rect R W m) (k : Nat) : Rect R W (reduceF m k).1 ∧ Inv R W k (el m) (el (reduceF m k).1) (reduceF m k).2.length (fun i => (reduceF m k).2.getD i 0) := by
  induction k with
  | zero =>
    refine ⟨h, ⟨h.by, h.by, fun i hi => Span.row h.by hi, fun i hi => Span.row h.by hi, Nat.zero_le _, fun i hi => absurd hi (Nat.not_lt_zero i), fun i j _ hj => absurd hj (Nat.not_lt_zero j), fun i _ _ j hj => absurd hj (Nat.not_lt_zero j)⟩⟩
  | succ k ih =>
    obtain ⟨hR, hI⟩ := ih
    rw [reduceF_succ]
    unfold stepF
    have hlen := hR.len
    cases hf : findP (reduceF m k).1 k ((reduceF m k).1.length - (reduceF m k).2.length) (reduceF m k).2.length with
    | none => exact ⟨hR, hI.skip fun i h1 h2 => findP_none _ _ _ _ hf i h1 (by omega)⟩
    | some i0 =>
      obtain ⟨h1, h2, h3⟩ := findP_some _ _ _ _ _ hf
      have hle := hI.le
      have ht : (reduceF m k).2.length < R := by omega
      have h2' : i0 < R := by omega
      refine ⟨hR.pivot ht h2' k, ?_⟩
      have hs := hI.swap h1 h2'
      have he : (fun i => if i = i0 then el (reduceF m k).1 (reduceF m k).2.length else if i = (reduceF m k).2.length then el (reduceF m k).1 i0 else el (reduceF m k).1 i) = el (swapF (reduceF m k).1 (reduceF m k).2.length i0) := by
        funext i
        exact (hR.swap_el ht h2' i).symm
      rw [he] at hs
      have hp := hs.pivot ht (by
        rw [hR.swap_el ht h2']
        by_cases e : (reduceF m k).2.length = i0
        · rw [if_pos e]
          intro h0
          rw [e] at h0
          exact h3 h0
        · rw [if_neg e, if_pos rfl]; exact h3)
      simp only
      rw [hR.pivot_el ht h2', List.length_append]
      have hl : (fun i => ((reduceF m k).2 ++ [k]).getD i 0) = fun i => if i = (reduceF m k).2.length then k else (reduceF m k).2.getD i 0 := by
        funext i
        rw [List.getD_eq_getElem?_getD, List.getD_eq_getElem?_getD, List.getElem?_append]
        rcases Nat.lt_trichotomy i (reduceF m k).2.length with hlt | he | hgt
        · rw [if_pos hlt, if_neg (by omega)]
        · rw [if_neg (by omega), if_pos he, he]; simp
        · rw [if_neg (by omega), if_neg (by omega), List.getElem?_eq_none (l := [k]) (by simp; omega), List.getElem?_eq_none (l := (reduceF m k).2) (by omega)]
      rw [hl]
      exact hp
theorem reduce_sorted (h : Rect R W m) (k : Nat) : (reduceF m k).2.Pairwise (· < ·) := by
  have hI := (reduce_inv h k).2
  rw [List.pairwise_iff_getElem]
  intro i j hi hj hij
  have := hI.inc i j hij hj
  rwa [getD_in hi, getD_in hj] at this
/-- The pivots are the leads of the linear combinations of the rows. -/
theorem reduce_mem (h : Rect R W m) {k : Nat} (hk : k ≤ W) (p : Nat) : p ∈ (reduceF m k).2 ↔ LS k R (el m) p := by
  obtain ⟨hR, hI⟩ := reduce_inv h k
  have hE : Ech k (reduceF m k).2.length (el (reduceF m k).1) (fun i => (reduceF m k).2.getD i 0) := fun i hi => by
    obtain ⟨h1, h2, h3, h4⟩ := hI.piv i hi
    exact ⟨h1, h2, h3, fun i' hi' hne => h4 i' (Nat.lt_of_lt_of_le hi' hI.le) hne⟩
  have e1 : LS k R (el m) p ↔ LS k (reduceF m k).2.length (el (reduceF m k).1) p := by
    constructor
    · intro hl
      have := hl.sub hI.bym fun i hi => (hI.bw i hi).fewer hk
      refine this.sub hI.bym fun i hi => ?_
      rcases Nat.lt_or_ge i (reduceF m k).2.length with hlt | hge
      · exact Span.row hI.bym hlt
      · exact Span.zero fun j hj => hI.low i hge hi j hj
    · intro hl
      exact hl.sub h.by fun i hi => (hI.fw i (Nat.lt_of_lt_of_le hi hI.le)).fewer hk
  rw [e1, hE.ls hI.bym]
  rw [List.mem_iff_getElem]
  constructor
  · rintro ⟨i, hi, rfl⟩
    exact ⟨i, hi, getD_in hi⟩
  · rintro ⟨i, hi, rfl⟩
    exact ⟨i, hi, (getD_in hi).symm⟩
end

/-- The basis that the reference builds, behind p rows. -/
structure BI (C p : Nat) (m b : Nat → Nat → Nat) (k : Nat) (l : Nat → Nat) : Prop where
  by0 : ByM m
  byb : ByM b
  ech : Ech C k b l
  fw : ∀ i, i < p → Span C k b (m i)
  bw : ∀ i, i < k → Span C p m (b i)
section
variable {C p k : Nat} {m b : Nat → Nat → Nat} {l : Nat → Nat}
theorem BI.nil_ (hm : ByM m) (hb : ByM b) : BI C 0 m b 0 l := ⟨hm, hb, fun i hi => absurd hi (Nat.not_lt_zero i), fun i hi => absurd hi (Nat.not_lt_zero i), fun i hi => absurd hi (Nat.not_lt_zero i)⟩
theorem BI.span (h : BI C p m b k l) {v : Nat → Nat} : Span C p m v ↔ Span C k b v := ⟨fun hs => hs.trans h.byb h.fw, fun hs => hs.trans h.by0 h.bw⟩
theorem BI.skip (h : BI C p m b k l) (h0 : ∀ j, j < C → resid k b l (m p) j = 0) : BI C (p + 1) m b k l ∧ Span C p m (m p) := by
  have hs := (h.ech.span_iff (h.by0 p)).2 h0
  refine ⟨⟨h.by0, h.byb, h.ech, fun i hi => ?_, fun i hi => (h.bw i hi).more h.by0 (by omega)⟩, h.span.2 hs⟩
  by_cases e : i = p
  · rw [e]; exact hs
  · exact h.fw i (by omega)
/-- The basis with a new row r, whose lead is at q. -/
def pushed (b : Nat → Nat → Nat) (k q : Nat) (r : Nat → Nat) : Nat → Nat → Nat := fun i j => if i = k then mul (inv (r q)) (r j) else b i j ^^^ mul (b i q) (mul (inv (r q)) (r j))
theorem resid_by (hm : ByM m) : By (resid k b l (m p)) := fun j => xor_lt _ _ (hm p j) (xs_lt _ _ fun i _ => mul_lt _ _ (hm p (l i)))
theorem BI.push (h : BI C p m b k l) {q : Nat} (hq : Lead C (resid k b l (m p)) q) :
    BI C (p + 1) m (pushed b k q (resid k b l (m p))) (k + 1) (fun i => if i = k then q else l i) ∧ ¬ Span C p m (m p) := by
  obtain ⟨q1, q2, q3⟩ := hq
  have hns : ¬ Span C p m (m p) := fun hs => q2 ((h.ech.span_iff (h.by0 p)).1 (h.span.1 hs) q q1)
  have hrb := resid_by (b := b) (k := k) (l := l) (p := p) h.by0
  have hrl : ∀ i, i < k → resid k b l (m p) (l i) = 0 := fun i hi => h.ech.resid_lead (h.by0 p) hi
  have hrs : Span C (p + 1) m (resid k b l (m p)) := by
    have h1 : Span C (p + 1) m (fun j => xs k (fun i => mul (m p (l i)) (b i j))) :=
      Span.trans (k := k) (m := b) h.by0 ⟨fun i => m p (l i), fun i => h.by0 p (l i), fun _ _ => rfl⟩ fun i hi => (h.bw i hi).more h.by0 (by omega)
    refine ((Span.row (n := C) (k := p + 1) h.by0 (i := p) (by omega)).comb h.by0 h1 1 (by decide)).congr fun j _ => ?_
    show m p j ^^^ _ = m p j ^^^ mul 1 _
    rw [one_mul _ (xs_lt _ _ fun i _ => mul_lt _ _ (h.by0 p (l i)))]
  have hmp : ∀ j, m p j = resid k b l (m p) j ^^^ xs k (fun i => mul (m p (l i)) (b i j)) := fun j => by
    unfold resid; rw [Nat.xor_assoc, Nat.xor_self, Nat.xor_zero]
  generalize resid k b l (m p) = r at *
  have hi := inv_lt (r q) (hrb q)
  have hone : mul (inv (r q)) (r q) = 1 := by rw [mul_comm _ _ hi (hrb q)]; exact mul_inv _ (hrb q) q2
  have hb : ByM (pushed b k q r) := by
    intro i j
    unfold pushed
    split
    · exact mul_lt _ _ hi
    · exact xor_lt _ _ (h.byb i j) (mul_lt _ _ (h.byb i q))
  have rowk : ∀ j, pushed b k q r k j = mul (inv (r q)) (r j) := fun j => by unfold pushed; rw [if_pos rfl]
  have rowi : ∀ i j, i ≠ k → pushed b k q r i j = b i j ^^^ mul (b i q) (mul (inv (r q)) (r j)) := fun i j e => by unfold pushed; rw [if_neg e]
  have hrow : ∀ i, i < k → Span C (k + 1) (pushed b k q r) (b i) := fun i hi' => by
    refine ((Span.row (n := C) (k := k + 1) hb (i := i) (by omega)).comb hb (Span.row (n := C) (k := k + 1) hb (i := k) (by omega)) (b i q) (h.byb i q)).congr fun j _ => ?_
    rw [rowi i j (by omega), rowk j, Nat.xor_assoc, Nat.xor_self, Nat.xor_zero]
  have hr' : Span C (k + 1) (pushed b k q r) r := by
    refine ((Span.row (n := C) (k := k + 1) hb (i := k) (by omega)).scale hb (r q) (hrb q)).congr fun j _ => ?_
    rw [rowk j, ← mul_assoc _ _ _ (hrb q) hi (hrb j), mul_inv _ (hrb q) q2, one_mul _ (hrb j)]
  refine ⟨⟨h.by0, hb, fun i hi' => ?_, fun i hi' => ?_, fun i hi' => ?_⟩, hns⟩
  · by_cases e : i = k
    · subst e
      simp only [if_true]
      refine ⟨q1, by rw [rowk, hone], fun j hj => by rw [rowk, q3 j hj, mul_zero], fun i' hi'' hne => ?_⟩
      rw [rowi i' q hne, hone, mul_one _ (h.byb i' q), Nat.xor_self]
    · obtain ⟨p1, p2, p3, p4⟩ := h.ech i (by omega)
      have hz := hrl i (by omega)
      simp only [if_neg e]
      refine ⟨p1, by rw [rowi i _ e, hz, mul_zero, mul_zero, Nat.xor_zero, p2], fun j hj => ?_, fun i' hi'' hne => ?_⟩
      · rw [rowi i j e, p3 j hj, Nat.zero_xor]
        by_cases hbq : b i q = 0
        · rw [hbq, zero_mul]
        · have h1 : l i ≤ q := Nat.le_of_not_lt fun hlt => hbq (p3 q hlt)
          have h2 : l i ≠ q := fun e' => q2 (by rw [← e']; exact hz)
          rw [q3 j (by omega), mul_zero, mul_zero]
      · by_cases e2 : i' = k
        · rw [e2, rowk, hz, mul_zero]
        · rw [rowi i' _ e2, hz, mul_zero, mul_zero, Nat.xor_zero]; exact p4 i' (by omega) hne
  · by_cases e : i = p
    · rw [e]
      have h1 : Span C (k + 1) (pushed b k q r) (fun j => xs k (fun i => mul (m p (l i)) (b i j))) :=
        Span.trans (k := k) (m := b) hb ⟨fun i => m p (l i), fun i => h.by0 p (l i), fun _ _ => rfl⟩ hrow
      refine (hr'.comb hb h1 1 (by decide)).congr fun j _ => ?_
      rw [hmp j, one_mul _ (xs_lt _ _ fun i _ => mul_lt _ _ (h.by0 p (l i)))]
    · exact (h.fw i (by omega)).trans hb hrow
  · have hsr : Span C (p + 1) m (fun j => mul (inv (r q)) (r j)) := hrs.scale h.by0 _ hi
    by_cases e : i = k
    · rw [e]; exact hsr.congr fun j _ => rowk j
    · exact (((h.bw i (by omega)).more h.by0 (Nat.le_succ p)).comb h.by0 hsr (b i q) (h.byb i q)).congr fun j _ => rowi i j e
end
/-- Some basis there is. -/
theorem BI.exists_ (C : Nat) {m : Nat → Nat → Nat} (hm : ByM m) : ∀ p, ∃ b k l, BI C p m b k l
  | 0 => ⟨fun _ _ => 0, 0, fun _ => 0, BI.nil_ hm fun _ _ => Nat.succ_pos 255⟩
  | p + 1 => by
    obtain ⟨b, k, l, h⟩ := BI.exists_ C hm p
    by_cases h0 : ∀ j, j < C → resid k b l (m p) j = 0
    · exact ⟨b, k, l, (h.skip h0).1⟩
    · have : ∃ q, Lead C (resid k b l (m p)) q := by
        apply Classical.byContradiction
        intro hn
        apply h0
        intro j
        induction j using Nat.strongRecOn with
        | ind j ih =>
          intro hj
          apply Classical.byContradiction
          intro hne
          exact hn ⟨j, hj, hne, fun i hi => ih i hi (by omega)⟩
      obtain ⟨q, hq⟩ := this
      exact ⟨_, _, _, (h.push hq).1⟩

/-- Row x is independent of those before. -/
noncomputable def isInd (C : Nat) (m : Nat → Nat → Nat) (x : Nat) : Bool := @decide (¬ Span C x m (m x)) (Classical.propDecidable _)
theorem isInd_iff (C : Nat) (m : Nat → Nat → Nat) (x : Nat) : isInd C m x = true ↔ ¬ Span C x m (m x) := @decide_eq_true_iff _ (Classical.propDecidable _)
/-- The numbers of the first independent rows among the first p. -/
noncomputable def indF (C : Nat) (m : Nat → Nat → Nat) (p : Nat) : List Nat := (List.range p).filter (isInd C m)
theorem indF_mem (C : Nat) (m : Nat → Nat → Nat) (p x : Nat) : x ∈ indF C m p ↔ x < p ∧ ¬ Span C x m (m x) := by
  unfold indF; rw [List.mem_filter, List.mem_range, isInd_iff]
theorem indF_sorted (C : Nat) (m : Nat → Nat → Nat) (p : Nat) : (indF C m p).Pairwise (· < ·) := List.pairwise_lt_range.filter _
theorem indF_in (C : Nat) (m : Nat → Nat → Nat) (p : Nat) (h : ¬ Span C p m (m p)) : indF C m (p + 1) = indF C m p ++ [p] := by
  unfold indF; rw [List.range_succ, List.filter_append]; simp [(isInd_iff C m p).2 h]
theorem indF_out (C : Nat) (m : Nat → Nat → Nat) (p : Nat) (h : Span C p m (m p)) : indF C m (p + 1) = indF C m p := by
  have e : isInd C m p = false := Bool.eq_false_iff.2 fun e => (isInd_iff C m p).1 e h
  unfold indF; rw [List.range_succ, List.filter_append]; simp [e]
/-- There are as many as the basis has rows. -/
theorem BI.exists_len (C : Nat) {m : Nat → Nat → Nat} (hm : ByM m) : ∀ p, ∃ b l, BI C p m b (indF C m p).length l
  | 0 => ⟨fun _ _ => 0, fun _ => 0, BI.nil_ hm fun _ _ => Nat.succ_pos 255⟩
  | p + 1 => by
    obtain ⟨b, l, h⟩ := BI.exists_len C hm p
    by_cases h0 : ∀ j, j < C → resid (indF C m p).length b l (m p) j = 0
    · have hs := h.skip h0
      rw [indF_out C m p hs.2]
      exact ⟨b, l, hs.1⟩
    · have : ∃ q, Lead C (resid (indF C m p).length b l (m p)) q := by
        apply Classical.byContradiction
        intro hn
        apply h0
        intro j
        induction j using Nat.strongRecOn with
        | ind j ih =>
          intro hj
          apply Classical.byContradiction
          intro hne
          exact hn ⟨j, hj, hne, fun i hi => ih i hi (by omega)⟩
      obtain ⟨q, hq⟩ := this
      have hs := h.push hq
      rw [indF_in C m p hs.2, List.length_append]
      exact ⟨_, _, hs.1⟩

section
variable {R W : Nat} {m : List (List Nat)}
/-- The rank, two ways. -/
theorem rank_eq (h : Rect R W m) {C : Nat} (hC : C ≤ W) (m' : Nat → Nat → Nat) (hm' : ByM m') (he : ∀ i, i < R → ∀ j, j < C → el m i j = m' i j) : (reduceF m C).2.length = (indF C m' R).length := by
  obtain ⟨b, l, hB⟩ := BI.exists_len C hm' R
  have hn : ((List.range (indF C m' R).length).map l).Nodup := by
    rw [List.Nodup, List.pairwise_map]
    refine List.Pairwise.imp_of_mem ?_ List.nodup_range
    intro a b ha hb hne e
    exact hne (hB.ech.inj (List.mem_range.1 ha) (List.mem_range.1 hb) e)
  have := nodup_len _ _ ((reduce_sorted h C).imp Nat.ne_of_lt) hn fun p => by
    rw [reduce_mem h hC, List.mem_map]
    have e1 : LS C R (el m) p ↔ LS C R m' p := ⟨fun ⟨v, hv, hl⟩ => ⟨v, hv.rows he, hl⟩, fun ⟨v, hv, hl⟩ => ⟨v, hv.rows fun i hi j hj => (he i hi j hj).symm, hl⟩⟩
    have e2 : LS C R m' p ↔ LS C (indF C m' R).length b p := ⟨fun hl => hl.sub hB.byb hB.fw, fun hl => hl.sub hm' hB.bw⟩
    rw [e1, e2, hB.ech.ls hB.byb]
    constructor
    · rintro ⟨i, hi, rfl⟩; exact ⟨i, List.mem_range.2 hi, rfl⟩
    · rintro ⟨i, hi, rfl⟩; exact ⟨i, List.mem_range.1 hi, rfl⟩
  rw [this]; simp

/-- The transposed matrix. -/
def transF (R C : Nat) (m : List (List Nat)) : List (List Nat) := (List.range C).map fun j => (List.range R).map fun i => el m i j
theorem trans_rect (R C : Nat) (h : ∀ i j, el m i j < 256) : Rect C R (transF R C m) := by
  refine ⟨by simp [transF], fun j hj => ?_⟩
  unfold transF
  rw [range_getD _ _ _ _ hj]
  refine ⟨by simp, fun x hx => ?_⟩
  obtain ⟨i, _, rfl⟩ := List.mem_map.1 hx
  exact h i j
theorem trans_el (R C : Nat) {i j : Nat} (hi : i < R) (hj : j < C) : el (transF R C m) j i = el m i j := by
  unfold el transF
  rw [range_getD _ _ _ _ hj, range_getD _ _ _ _ hi]; rfl
/-- The pivots of the transposed matrix are the first independent rows. -/
theorem reduce_trans (h : Rect R W m) : (reduceF (transF R W m) R).2 = indF W (el m) R := by
  have ht := trans_rect (m := m) R W h.by
  refine sorted_ext _ _ (reduce_sorted ht R) (indF_sorted _ _ _) fun x => ?_
  rw [reduce_mem ht (Nat.le_refl _), indF_mem]
  have e1 : LS R W (el (transF R W m)) x ↔ LS R W (fun i j => el m j i) x :=
    ⟨fun ⟨v, hv, hl⟩ => ⟨v, hv.rows fun i hi j hj => trans_el R W hj hi, hl⟩, fun ⟨v, hv, hl⟩ => ⟨v, hv.rows fun i hi j hj => (trans_el R W hj hi).symm, hl⟩⟩
  rw [e1]
  constructor
  · intro hl
    have hx : x < R := hl.choose_spec.2.1
    obtain ⟨b, k, l, hB⟩ := BI.exists_ W h.by x
    exact ⟨hx, (dual R W x k (el m) b l h.by hB.byb hx hB.ech hB.fw hB.bw).1 hl⟩
  · rintro ⟨hx, hn⟩
    obtain ⟨b, k, l, hB⟩ := BI.exists_ W h.by x
    exact (dual R W x k (el m) b l h.by hB.byb hx hB.ech hB.fw hB.bw).2 hn
theorem indF_le (h : Rect R W m) : (indF W (el m) R).length ≤ W := by
  rw [← reduce_trans h]
  exact (reduce_inv (trans_rect (m := m) R W h.by) R).2.le
end

/-- A matrix beside the identity. -/
def augF (n : Nat) (m : List (List Nat)) : List (List Nat) := (List.range n).map fun i => m.getD i [] ++ (List.range n).map fun j => if j = i then 1 else 0
section
variable {n : Nat} {m : List (List Nat)}
theorem aug_rect (h : Rect n n m) : Rect n (2 * n) (augF n m) := by
  refine ⟨by simp [augF], fun i hi => ?_⟩
  unfold augF
  rw [range_getD _ _ _ _ hi]
  refine ⟨by rw [List.length_append, (h.row i hi).1]; simp; omega, fun x hx => ?_⟩
  rcases List.mem_append.1 hx with hx | hx
  · exact (h.row i hi).2 x hx
  · obtain ⟨j, _, rfl⟩ := List.mem_map.1 hx
    split <;> decide
theorem aug_left (h : Rect n n m) {i j : Nat} (hi : i < n) (hj : j < n) : el (augF n m) i j = el m i j := by
  unfold el augF
  rw [range_getD _ _ _ _ hi, List.getD_eq_getElem?_getD, List.getElem?_append_left (by rw [(h.row i hi).1]; exact hj), ← List.getD_eq_getElem?_getD]
theorem aug_right (h : Rect n n m) {i j : Nat} (hi : i < n) (hj : j < n) : el (augF n m) i (n + j) = if j = i then 1 else 0 := by
  unfold el augF
  rw [range_getD _ _ _ _ hi, List.getD_eq_getElem?_getD, List.getElem?_append_right (by rw [(h.row i hi).1]; omega), (h.row i hi).1, Nat.add_sub_cancel_left]
  simp [hj]
theorem aug_rank (h : Rect n n m) : (reduceF (augF n m) n).2.length = (indF n (el m) n).length :=
  rank_eq (aug_rect h) (by omega) (el m) h.by fun _ hi _ hj => aug_left h hi hj
/-- The right half of the reduced rows. -/
def invF (n : Nat) (m : List (List Nat)) : List (List Nat) := (reduceF (augF n m) n).1.map fun row => row.drop n
theorem inv_rect (h : Rect n n m) : Rect n n (invF n m) := by
  obtain ⟨hR, _⟩ := reduce_inv (aug_rect h) n
  refine ⟨by simp [invF, hR.len], fun i hi => ?_⟩
  have e : (invF n m).getD i [] = ((reduceF (augF n m) n).1.getD i []).drop n := by
    unfold invF
    rw [getD_in (by rw [List.length_map, hR.len]; exact hi), getD_in (by rw [hR.len]; exact hi)]; simp
  rw [e]
  exact ⟨by rw [List.length_drop, (hR.row i hi).1]; omega, fun x hx => (hR.row i hi).2 x (List.mem_of_mem_drop hx)⟩
theorem inv_el (h : Rect n n m) {i : Nat} (hi : i < n) (j : Nat) : el (invF n m) i j = el (reduceF (augF n m) n).1 i (n + j) := by
  obtain ⟨hR, _⟩ := reduce_inv (aug_rect h) n
  unfold el invF
  rw [getD_in (l := List.map _ _) (by rw [List.length_map, hR.len]; exact hi), getD_in (l := (reduceF (augF n m) n).1) (by rw [hR.len]; exact hi)]
  simp [List.getD_eq_getElem?_getD]
theorem inc_id {n : Nat} (l : Nat → Nat) (h1 : ∀ i, i < n → l i < n) (h2 : ∀ i j, i < j → j < n → l i < l j) : ∀ i, i < n → l i = i := by
  have ge : ∀ i, i < n → i ≤ l i := by
    intro i
    induction i with
    | zero => intro _; exact Nat.zero_le _
    | succ i ih => intro hi; have := ih (by omega); have := h2 i (i + 1) (by omega) hi; omega
  have le : ∀ d i, i + d + 1 = n → l i + d + 1 ≤ n := by
    intro d
    induction d with
    | zero => intro i hi; have := h1 i (by omega); omega
    | succ d ih => intro i hi; have := ih (i + 1) (by omega); have := h2 i (i + 1) (by omega) (by omega); omega
  intro i hi
  have := ge i hi
  have := le (n - 1 - i) i (by omega)
  omega
theorem inv_ok (h : Rect n n m) (hr : (reduceF (augF n m) n).2.length = n) {i : Nat} (hi : i < n) {j : Nat} (hj : j < n) :
    xs n (fun k => mul (el (invF n m) i k) (el m k j)) = (if i = j then 1 else 0) ∧ xs n (fun k => mul (el m i k) (el (invF n m) k j)) = (if i = j then 1 else 0) := by
  obtain ⟨hR, hI⟩ := reduce_inv (aug_rect h) n
  have hV := inv_rect h
  have hid : ∀ i, i < n → (reduceF (augF n m) n).2.getD i 0 = i := inc_id (fun i => (reduceF (augF n m) n).2.getD i 0) (fun i hi => (hI.piv i (by omega)).1) fun i j hij hj => hI.inc i j hij (by omega)
  have hleft : ∀ i, i < n → ∀ j, j < n → el (reduceF (augF n m) n).1 i j = if i = j then 1 else 0 := by
    intro i hi j hj
    obtain ⟨_, p2, _, p4⟩ := hI.piv j (by omega)
    rw [hid j hj] at p2 p4
    by_cases e : i = j
    · rw [if_pos e, e]; exact p2
    · rw [if_neg e]; exact p4 i hi e
  have pick : ∀ (c : Nat → Nat), By c → ∀ j, j < n → xs n (fun k => mul (c k) (if k = j then 1 else 0)) = c j := fun c hc j hj => by
    rw [xs_single n j _ hj fun k _ hne => by rw [if_neg hne, mul_zero], if_pos rfl, mul_one _ (hc j)]
  constructor
  · obtain ⟨c, hc, hs⟩ := hI.fw i hi
    have hcv : ∀ k, k < n → el (invF n m) i k = c k := by
      intro k hk
      rw [inv_el h hi, hs (n + k) (by omega), xs_congr n _ (fun q => mul (c q) (if q = k then 1 else 0)) fun q hq => by
        rw [aug_right h hq hk]
        by_cases e : q = k
        · rw [if_pos e, if_pos e.symm]
        · rw [if_neg e, if_neg fun e' => e e'.symm], pick c hc k hk]
    rw [xs_congr n _ (fun q => mul (c q) (el (augF n m) q j)) fun q hq => by rw [hcv q hq, aug_left h hq hj], ← hs j (by omega), hleft i hi j hj]
  · obtain ⟨c, hc, hs⟩ := hI.bw i hi
    have hcv : ∀ k, k < n → el m i k = c k := by
      intro k hk
      rw [← aug_left h hi hk, hs k (by omega), xs_congr n _ (fun q => mul (c q) (if q = k then 1 else 0)) fun q hq => by rw [hleft q hq k hk], pick c hc k hk]
    rw [xs_congr n _ (fun q => mul (c q) (el (reduceF (augF n m) n).1 q (n + j))) fun q hq => by rw [hcv q hq, inv_el h hq], ← hs (n + j) (by omega), aug_right h hi hj]
    by_cases e : i = j
    · rw [if_pos e, if_pos e.symm]
    · rw [if_neg e, if_neg fun e' => e e'.symm]
end
end Go.Proofs.Ytheijobnmdbodaa
