/- Linear algebra over the field of 256 elements, on natural numbers: sums, spans, leads, echelon systems: plain mathematics. -/
import Derived.Test.YtfhgalfdlkdliaaGf
namespace Go.Proofs.Ytfhgalfdlkdliaa.Lin
open Go.Proofs.Ytfhgalfdlkdliaa.Gf

/-- The sum of f i for i < n. -/
def xs : Nat → (Nat → Nat) → Nat
  | 0, _ => 0
  | n + 1, f => xs n f ^^^ f n
theorem xs_lt (n : Nat) (f : Nat → Nat) (h : ∀ i, i < n → f i < 256) : xs n f < 256 := by
  induction n with
  | zero => exact Nat.succ_pos 255
  | succ n ih => exact xor_lt _ _ (ih fun i hi => h i (by omega)) (h n (by omega))
theorem xs_congr (n : Nat) (f g : Nat → Nat) (h : ∀ i, i < n → f i = g i) : xs n f = xs n g := by
  induction n with
  | zero => rfl
  | succ n ih => show xs n f ^^^ f n = xs n g ^^^ g n; rw [ih fun i hi => h i (by omega), h n (by omega)]
theorem xs_zero (n : Nat) (f : Nat → Nat) (h : ∀ i, i < n → f i = 0) : xs n f = 0 := by
  induction n with
  | zero => rfl
  | succ n ih => show xs n f ^^^ f n = 0; rw [ih fun i hi => h i (by omega), h n (by omega)]; rfl
theorem xs_xor (n : Nat) (f g : Nat → Nat) : xs n (fun i => f i ^^^ g i) = xs n f ^^^ xs n g := by
  induction n with
  | zero => exact (Nat.xor_self 0).symm
  | succ n ih => show xs n _ ^^^ (f n ^^^ g n) = (xs n f ^^^ f n) ^^^ (xs n g ^^^ g n); rw [ih, xor4]
theorem mul_xs (c n : Nat) (f : Nat → Nat) : mul c (xs n f) = xs n (fun i => mul c (f i)) := by
  induction n with
  | zero => exact mul_zero c
  | succ n ih => show mul c (xs n f ^^^ f n) = _; rw [mul_xor_right, ih]; rfl
theorem xs_mul (c n : Nat) (f : Nat → Nat) (h : ∀ i, i < n → f i < 256) : mul (xs n f) c = xs n (fun i => mul (f i) c) := by
  induction n with
  | zero => exact zero_mul c
  | succ n ih => show mul (xs n f ^^^ f n) c = _; rw [mul_xor_left _ _ _ (xs_lt n f fun i hi => h i (by omega)) (h n (by omega)), ih fun i hi => h i (by omega)]; rfl
theorem xs_comm (n m : Nat) (f : Nat → Nat → Nat) : xs n (fun i => xs m (fun j => f i j)) = xs m (fun j => xs n (fun i => f i j)) := by
  induction n with
  | zero => exact (xs_zero m _ fun _ _ => rfl).symm
  | succ n ih => show xs n _ ^^^ xs m _ = xs m (fun j => xs n _ ^^^ f n j); rw [ih, xs_xor]
theorem xs_single (n k : Nat) (f : Nat → Nat) (hk : k < n) (h : ∀ i, i < n → i ≠ k → f i = 0) : xs n f = f k := by
  induction n with
  | zero => omega
  | succ n ih =>
    show xs n f ^^^ f n = f k
    by_cases e : k = n
    · subst e; rw [xs_zero k f fun i hi => h i (by omega) (by omega), Nat.zero_xor]
    · rw [ih (by omega) fun i hi => h i (by omega), h n (by omega) (fun e' => e e'.symm), Nat.xor_zero]
theorem xs_ne (n : Nat) (f : Nat → Nat) (h : xs n f ≠ 0) : ∃ i, i < n ∧ f i ≠ 0 := by
  apply Classical.byContradiction
  intro hn
  exact h (xs_zero n f fun i hi => Classical.byContradiction fun hf => hn ⟨i, hi, hf⟩)
theorem xs_succ (n : Nat) (f : Nat → Nat) : xs (n + 1) f = xs n f ^^^ f n := rfl
theorem xs_ext (n m : Nat) (f : Nat → Nat) (hnm : n ≤ m) (h : ∀ i, n ≤ i → i < m → f i = 0) : xs m f = xs n f := by
  induction m with
  | zero => obtain rfl : n = 0 := by omega
            rfl
  | succ m ih =>
    by_cases e : n = m + 1
    · rw [e]
    · rw [xs_succ, h m (by omega) (by omega), Nat.xor_zero, ih (by omega) fun i h1 h2 => h i h1 (by omega)]

/-- Bytes. -/
def By (v : Nat → Nat) : Prop := ∀ i, v i < 256
def ByM (m : Nat → Nat → Nat) : Prop := ∀ i j, m i j < 256

/-- v is a linear combination of the first k rows of m, as far as the first n columns go. -/
def Span (n k : Nat) (m : Nat → Nat → Nat) (v : Nat → Nat) : Prop := ∃ c, By c ∧ ∀ j, j < n → v j = xs k (fun i => mul (c i) (m i j))
section
variable {n k : Nat} {m : Nat → Nat → Nat} {v u : Nat → Nat}
theorem Span.congr (h : Span n k m v) (e : ∀ j, j < n → u j = v j) : Span n k m u := by
  obtain ⟨c, hc, h⟩ := h
  exact ⟨c, hc, fun j hj => (e j hj).trans (h j hj)⟩
theorem Span.row (hm : ByM m) {i : Nat} (hi : i < k) : Span n k m (m i) := by
  refine ⟨fun l => if l = i then 1 else 0, fun l => by show (if l = i then 1 else 0) < 256; split <;> decide, fun j _ => ?_⟩
  rw [xs_single k i _ hi fun l _ hl => by show mul (if l = i then 1 else 0) _ = 0; rw [if_neg hl, zero_mul]]
  show m i j = mul (if i = i then 1 else 0) (m i j)
  rw [if_pos rfl, one_mul _ (hm i j)]
theorem Span.comb (hm : ByM m) (h : Span n k m v) (h' : Span n k m u) (a : Nat) (ha : a < 256) : Span n k m (fun j => v j ^^^ mul a (u j)) := by
  obtain ⟨c, hc, h⟩ := h
  obtain ⟨d, hd, h'⟩ := h'
  refine ⟨fun i => c i ^^^ mul a (d i), fun i => xor_lt _ _ (hc i) (mul_lt _ _ ha), fun j hj => ?_⟩
  show v j ^^^ mul a (u j) = _
  rw [h j hj, h' j hj, mul_xs, ← xs_xor]
  exact xs_congr _ _ _ fun i _ => by rw [mul_xor_left _ _ _ (hc i) (mul_lt _ _ ha), mul_assoc _ _ _ ha (hd i) (hm i j)]
theorem Span.zero (h : ∀ j, j < n → v j = 0) : Span n k m v := ⟨fun _ => 0, fun _ => Nat.succ_pos 255, fun j hj => by rw [h j hj, xs_zero _ _ fun i _ => zero_mul _]⟩
theorem Span.scale (hm : ByM m) (h : Span n k m v) (a : Nat) (ha : a < 256) : Span n k m (fun j => mul a (v j)) :=
  ((Span.zero (v := fun _ => 0) fun _ _ => rfl).comb hm h a ha).congr fun _ _ => (Nat.zero_xor _).symm
theorem Span.trans {k' : Nat} {m' : Nat → Nat → Nat} (hm' : ByM m') (h : Span n k m v) (hs : ∀ i, i < k → Span n k' m' (m i)) : Span n k' m' v := by
  obtain ⟨c, hc, h⟩ := h
  refine Span.congr (v := fun j => xs k (fun i => mul (c i) (m i j))) ?_ h
  clear h
  induction k with
  | zero => exact Span.zero fun _ _ => rfl
  | succ k ih => exact (ih fun i hi => hs i (by omega)).comb hm' (hs k (by omega)) (c k) (hc k)
theorem Span.fewer {n' : Nat} (h : Span n k m v) (hn : n' ≤ n) : Span n' k m v := by
  obtain ⟨c, hc, h⟩ := h
  exact ⟨c, hc, fun j hj => h j (by omega)⟩
theorem Span.more {k' : Nat} (hm : ByM m) (h : Span n k m v) (hk : k ≤ k') : Span n k' m v := h.trans hm fun _ hi => Span.row hm (by omega)
theorem Span.rows {m' : Nat → Nat → Nat} (h : Span n k m v) (e : ∀ i, i < k → ∀ j, j < n → m i j = m' i j) : Span n k m' v := by
  obtain ⟨c, hc, h⟩ := h
  exact ⟨c, hc, fun j hj => by rw [h j hj]; exact xs_congr _ _ _ fun i hi => by rw [e i hi j hj]⟩
end

/-- The first element other than 0 is at p. -/
def Lead (n : Nat) (v : Nat → Nat) (p : Nat) : Prop := p < n ∧ v p ≠ 0 ∧ ∀ j, j < p → v j = 0
/-- p is the lead of a linear combination. -/
def LS (n k : Nat) (m : Nat → Nat → Nat) (p : Nat) : Prop := ∃ v, Span n k m v ∧ Lead n v p
theorem LS.sub {n k k' : Nat} {m m' : Nat → Nat → Nat} {p : Nat} (hm' : ByM m') (h : LS n k m p) (hs : ∀ i, i < k → Span n k' m' (m i)) : LS n k' m' p := by
  obtain ⟨v, hv, hl⟩ := h
  exact ⟨v, hv.trans hm' hs, hl⟩
/-- Rows with leads 1 at l, each lead column 0 in the other rows. -/
def Ech (n k : Nat) (m : Nat → Nat → Nat) (l : Nat → Nat) : Prop :=
  ∀ i, i < k → l i < n ∧ m i (l i) = 1 ∧ (∀ j, j < l i → m i j = 0) ∧ ∀ i', i' < k → i' ≠ i → m i' (l i) = 0
section
variable {n k : Nat} {m : Nat → Nat → Nat} {l : Nat → Nat}
theorem Ech.coeff (h : Ech n k m l) {v c : Nat → Nat} (hc : By c) (hv : ∀ j, j < n → v j = xs k (fun i => mul (c i) (m i j))) {i : Nat} (hi : i < k) : v (l i) = c i := by
  obtain ⟨h1, h2, _, h4⟩ := h i hi
  rw [hv _ h1, xs_single k i _ hi fun i' hi' hne => by rw [h4 i' hi' hne, mul_zero], h2, mul_one _ (hc i)]
theorem Ech.ls (h : Ech n k m l) (hm : ByM m) (p : Nat) : LS n k m p ↔ ∃ i, i < k ∧ l i = p := by
  constructor
  · rintro ⟨v, ⟨c, hc, hv⟩, hp, hp0, hpj⟩
    have h0 := hp0
    rw [hv p hp] at h0
    obtain ⟨i, hi, hne⟩ := xs_ne _ _ h0
    have hci : c i ≠ 0 := fun e => hne (by rw [e, zero_mul])
    have hmi : m i p ≠ 0 := fun e => hne (by rw [e, mul_zero])
    have hle : l i ≤ p := Nat.le_of_not_lt fun hlt => hmi ((h i hi).2.2.1 p hlt)
    have hge : p ≤ l i := Nat.le_of_not_lt fun hlt => hci (by rw [← h.coeff hc hv hi]; exact hpj _ hlt)
    exact ⟨i, hi, by omega⟩
  · rintro ⟨i, hi, rfl⟩
    obtain ⟨h1, h2, h3, _⟩ := h i hi
    exact ⟨m i, Span.row hm hi, h1, by rw [h2]; decide, h3⟩
theorem Ech.inj (h : Ech n k m l) {i j : Nat} (hi : i < k) (hj : j < k) (e : l i = l j) : i = j := by
  apply Classical.byContradiction
  intro hne
  have h1 := (h j hj).2.2.2 i hi hne
  rw [← e, (h i hi).2.1] at h1
  exact absurd h1 (by decide)
/-- What is left of a row when the multiples of the rows are subtracted. -/
def resid (k : Nat) (m : Nat → Nat → Nat) (l : Nat → Nat) (v : Nat → Nat) : Nat → Nat := fun j => v j ^^^ xs k (fun i => mul (v (l i)) (m i j))
theorem Ech.resid_lead (h : Ech n k m l) {v : Nat → Nat} (hv : By v) {i : Nat} (hi : i < k) : resid k m l v (l i) = 0 := by
  have := h.coeff (v := fun j => xs k (fun i => mul (v (l i)) (m i j))) (c := fun i => v (l i)) (fun i => hv (l i)) (fun _ _ => rfl) hi
  show v (l i) ^^^ _ = 0
  rw [show xs k (fun i' => mul (v (l i')) (m i' (l i))) = v (l i) from this, Nat.xor_self]
theorem Ech.span_iff (h : Ech n k m l) {v : Nat → Nat} (hv : By v) : Span n k m v ↔ ∀ j, j < n → resid k m l v j = 0 := by
  constructor
  · rintro ⟨c, hc, hs⟩ j hj
    show v j ^^^ _ = 0
    rw [hs j hj, xs_congr k (fun i => mul (v (l i)) (m i j)) (fun i => mul (c i) (m i j)) fun i hi => by rw [h.coeff hc hs hi], Nat.xor_self]
  · intro h0
    refine ⟨fun i => v (l i), fun i => hv _, fun j hj => ?_⟩
    have := h0 j hj
    unfold resid at this
    have e := congrArg (· ^^^ xs k (fun i => mul (v (l i)) (m i j))) this
    simpa [Nat.xor_assoc] using e
end

/-- The sum of products. -/
def dot (n : Nat) (u v : Nat → Nat) : Nat := xs n (fun j => mul (u j) (v j))
theorem dot_span {n k : Nat} {m : Nat → Nat → Nat} {v y : Nat → Nat} (hm : ByM m) (hy : By y) (h : Span n k m v) (h0 : ∀ i, i < k → dot n (m i) y = 0) : dot n v y = 0 := by
  obtain ⟨c, hc, h⟩ := h
  unfold dot
  rw [xs_congr n _ (fun j => xs k (fun i => mul (c i) (mul (m i j) (y j)))) fun j hj => by
    rw [h j hj, xs_mul _ _ _ fun i _ => mul_lt _ _ (hc i)]
    exact xs_congr _ _ _ fun i _ => mul_assoc _ _ _ (hc i) (hm i j) (hy j), xs_comm]
  refine xs_zero _ _ fun i hi => ?_
  rw [← mul_xs]
  have := h0 i hi
  unfold dot at this
  rw [this, mul_zero]

/-- Over the transposed rows, the leads are the numbers of the rows that are independent of those before. -/
theorem dual (R C p k : Nat) (m b : Nat → Nat → Nat) (l : Nat → Nat) (hm : ByM m) (hb : ByM b) (hp : p < R) (hE : Ech C k b l) (h1 : ∀ i, i < p → Span C k b (m i)) (h2 : ∀ i, i < k → Span C p m (b i)) :
    LS R C (fun i j => m j i) p ↔ ¬ Span C p m (m p) := by
  constructor
  · rintro ⟨v, ⟨y, hy, hv⟩, _, hp0, hpj⟩ hs
    have e : ∀ j, j < R → v j = dot C (m j) y := fun j hj => by
      rw [hv j hj]; exact xs_congr _ _ _ fun i _ => mul_comm _ _ (hy i) (hm j i)
    apply hp0
    rw [e p hp]
    exact dot_span hm hy hs fun i hi => by rw [← e i (by omega)]; exact hpj i hi
  · intro hns
    have hns' : ¬ Span C k b (m p) := fun h => hns (h.trans hm h2)
    have hex : ∃ q, q < C ∧ resid k b l (m p) q ≠ 0 := by
      apply Classical.byContradiction
      intro hn
      exact hns' ((hE.span_iff (hm p)).2 fun j hj => Classical.byContradiction fun hr => hn ⟨j, hj, hr⟩)
    obtain ⟨q, hq, hr⟩ := hex
    have hql : ∀ i, i < k → q ≠ l i := fun i hi e => hr (by rw [e]; exact hE.resid_lead (hm p) hi)
    let y : Nat → Nat := fun j => (if j = q then 1 else 0) ^^^ xs k (fun i => if l i = j then b i q else 0)
    have hy : By y := fun j => xor_lt _ _ (by split <;> decide) (xs_lt _ _ fun i _ => by split; exact hb i q; decide)
    have hdot : ∀ u, By u → dot C u y = u q ^^^ xs k (fun i => mul (u (l i)) (b i q)) := by
      intro u hu
      unfold dot
      rw [xs_congr C _ (fun j => mul (u j) (if j = q then 1 else 0) ^^^ xs k (fun i => mul (u j) (if l i = j then b i q else 0))) fun j _ => by
        show mul (u j) (_ ^^^ _) = _
        rw [mul_xor_right, mul_xs], xs_xor, xs_comm]
      rw [xs_single C q _ hq fun j _ hne => by rw [if_neg hne, mul_zero], if_pos rfl, mul_one _ (hu q)]
      congr 1
      refine xs_congr _ _ _ fun i hi => ?_
      rw [xs_single C (l i) _ (hE i hi).1 fun j _ hne => by rw [if_neg (fun e => hne e.symm), mul_zero], if_pos rfl]
    have hb0 : ∀ i, i < k → dot C (b i) y = 0 := by
      intro i hi
      rw [hdot _ (hb i), xs_single k i _ hi fun i' hi' hne => by rw [(hE i' hi').2.2.2 i hi (fun e => hne e.symm), zero_mul], (hE i hi).2.1, one_mul _ (hb i q), Nat.xor_self]
    refine ⟨fun j => dot C (m j) y, ⟨y, hy, fun j _ => xs_congr _ _ _ fun i _ => mul_comm _ _ (hm j i) (hy i)⟩, hp, ?_, fun j hj => dot_span hb hy (h1 j hj) hb0⟩
    show dot C (m p) y ≠ 0
    rw [hdot _ (hm p)]
    exact hr

/-- Increasing lists of numbers are told by their elements. -/
theorem sorted_ext (a b : List Nat) (ha : a.Pairwise (· < ·)) (hb : b.Pairwise (· < ·)) (h : ∀ x, x ∈ a ↔ x ∈ b) : a = b := by
  have hp : a.Perm b := (List.perm_ext_iff_of_nodup (ha.imp Nat.ne_of_lt) (hb.imp Nat.ne_of_lt)).2 h
  exact hp.eq_of_pairwise (fun x y _ _ h1 h2 => absurd h1 (Nat.lt_asymm h2)) ha hb
theorem nodup_len (a b : List Nat) (ha : a.Nodup) (hb : b.Nodup) (h : ∀ x, x ∈ a ↔ x ∈ b) : a.length = b.length := ((List.perm_ext_iff_of_nodup ha hb).2 h).length_eq
end Go.Proofs.Ytfhgalfdlkdliaa.Lin
