/- Elimination on lists of lists: the pivots are the leads; the reference's basis; the inverse: plain mathematics. -/
import Derived.Test.YtfhgalfdlkdliaaEl
namespace Go.Proofs.Ytfhgalfdlkdliaa
open Gf Lin

theorem list_ext {α : Type} (d : α) {a b : List α} (hl : a.length = b.length) (h : ∀ i, i < a.length → a.getD i d = b.getD i d) : a = b := by
  refine List.ext_getElem hl fun i h1 h2 => ?_
  have := h i h1
  rwa [getD_in h1, getD_in h2] at this
section
variable {R W : Nat} {m : List (List Nat)}
theorem Rect.ext {m' : List (List Nat)} (h : Rect R W m) (h' : Rect R W m') (he : ∀ i, i < R → ∀ j, j < W → el m i j = el m' i j) : m = m' := by
  refine list_ext [] (by rw [h.len, h'.len]) fun i hi => ?_
  have hi' : i < R := by rw [← h.len]; exact hi
  exact list_ext 0 (by rw [(h.row i hi').1, (h'.row i hi').1]) fun j hj => he i hi' j (by rw [← (h.row i hi').1]; exact hj)
theorem replicate_bytes (n : Nat) : ∀ x ∈ List.replicate n 0, x < 256 := by
  intro x hx; rw [List.eq_of_mem_replicate hx]; decide
theorem replicate_getD (n j : Nat) : (List.replicate n 0).getD j 0 = 0 := by
  rcases Nat.lt_or_ge j n with h | h
  · rw [getD_in (by simpa using h)]; simp
  · rw [getD_out (by simpa using h)]
theorem normF_len (row : List Nat) (col : Nat) : (normF row col).length = row.length := by unfold normF; rw [fused_len]; simp
theorem normF_bytes (row : List Nat) (col : Nat) (h : ∀ x ∈ row, x < 256) : ∀ x ∈ normF row col, x < 256 := fused_bytes _ _ _ (replicate_bytes _) (inv_lt _ (getD_bytes h col))
theorem normF_at (row : List Nat) (col j : Nat) : (normF row col).getD j 0 = mul (inv (row.getD col 0)) (row.getD j 0) := by
  unfold normF; rw [fused_getD _ _ _ _ (by simp), replicate_getD, Nat.zero_xor]
theorem Rect.swap (h : Rect R W m) {a b : Nat} (ha : a < R) (hb : b < R) : Rect R W (swapF m a b) :=
  (h.set a (h.row b hb).1 (h.row b hb).2).set b (h.row a ha).1 (h.row a ha).2
theorem Rect.swap_el (h : Rect R W m) {a b : Nat} (ha : a < R) (hb : b < R) (i : Nat) : el (swapF m a b) i = if i = b then el m a else if i = a then el m b else el m i := by
  funext j
  have : (swapF m a b).getD i [] = if i = b then m.getD a [] else if i = a then m.getD b [] else m.getD i [] := by
    unfold swapF
    rw [getD_set, getD_set]
    have hl := h.len
    by_cases e : i = b
    · rw [if_pos ⟨e.symm, by simp; omega⟩, if_pos e]
    · rw [if_neg (fun hh => e hh.1.symm), if_neg e]
      by_cases e' : i = a
      · rw [if_pos ⟨e'.symm, by omega⟩, if_pos e']
      · rw [if_neg (fun hh => e' hh.1.symm), if_neg e']
  unfold el
  rw [this]
  by_cases e : i = b
  · rw [if_pos e, if_pos e]
  · rw [if_neg e, if_neg e]
    by_cases e' : i = a
    · rw [if_pos e', if_pos e']
    · rw [if_neg e', if_neg e']
theorem Rect.elim (h : Rect R W m) {top : Nat} (_ht : top < R) (col : Nat) : Rect R W (elimF m top col) := by
  refine ⟨by simp [elimF, h.len], fun i hi => ?_⟩
  unfold elimF
  rw [range_getD _ _ _ _ (by rw [h.len]; exact hi)]
  unfold elimRow
  split
  · exact h.row i hi
  · exact ⟨by rw [fused_len]; exact (h.row i hi).1, fused_bytes _ _ _ (h.row i hi).2 (h.by i col)⟩
theorem Rect.elim_el (h : Rect R W m) {top : Nat} (ht : top < R) (col i j : Nat) : el (elimF m top col) i j = if i = top then el m i j else el m i j ^^^ mul (el m i col) (el m top j) := by
  rcases Nat.lt_or_ge i R with hi | hi
  · unfold elimF el
    rw [range_getD _ _ _ _ (by rw [h.len]; exact hi)]
    unfold elimRow
    split
    · rfl
    · rw [fused_getD _ _ _ _ (by rw [(h.row i hi).1, (h.row top ht).1])]; rfl
  · rw [(h.elim ht col).out_row hi, h.out_row hi, h.out_row hi, zero_mul]
    split <;> rfl
theorem Rect.pivot (h : Rect R W m) {top i : Nat} (ht : top < R) (hi : i < R) (col : Nat) : Rect R W (pivotF m top col i) := by
  have hs := h.swap ht hi
  exact (hs.set top (row := normF ((swapF m top i).getD top []) col) (by rw [normF_len]; exact (hs.row top ht).1) (normF_bytes _ _ (hs.row top ht).2)).elim ht col
theorem Rect.pivot_el (h : Rect R W m) {top i : Nat} (ht : top < R) (hi : i < R) (col : Nat) : el (pivotF m top col i) = pivoted (el (swapF m top i)) top col := by
  have hs := h.swap ht hi
  have hset := hs.set top (row := normF ((swapF m top i).getD top []) col) (by rw [normF_len]; exact (hs.row top ht).1) (normF_bytes _ _ (hs.row top ht).2)
  funext a j
  unfold pivotF
  rw [hset.elim_el ht]
  have e1 : ∀ j, el ((swapF m top i).set top (normF ((swapF m top i).getD top []) col)) top j = mul (inv (el (swapF m top i) top col)) (el (swapF m top i) top j) := by
    intro j
    unfold el
    rw [getD_set, if_pos ⟨rfl, by rw [hs.len]; exact ht⟩, normF_at]
  have e2 : ∀ a j, a ≠ top → el ((swapF m top i).set top (normF ((swapF m top i).getD top []) col)) a j = el (swapF m top i) a j := by
    intro a j hne
    unfold el
    rw [getD_set, if_neg (fun hh => hne hh.1.symm)]
  unfold pivoted
  by_cases e : a = top
  · rw [if_pos e, if_pos e, e, e1]
  · rw [if_neg e, if_neg e, e2 _ _ e, e2 _ _ e, e1]

theorem reduce_len (m : List (List Nat)) (k : Nat) : (reduceF m k).1.length = m.length := by
  induction k with
  | zero => rfl
  | succ k ih =>
    rw [reduceF_succ]
    unfold stepF
    split
    · exact ih
    · rw [← ih]; simp [pivotF, elimF, swapF]

/-- What the elimination keeps, on lists. -/
theorem reduce_inv (h : Rect R W m) (k : Nat) : Rect R W (reduceF m k).1 ∧ Inv R W k (el m) (el (reduceF m k).1) (reduceF m k).2.length (fun i => (reduceF m k).2.getD i 0) := by
  induction k with
  | zero =>
    refine ⟨h, ⟨h.by, h.by, fun i hi => Span.row h.by hi, fun i hi => Span.row h.by hi, Nat.zero_le _, fun i hi => absurd hi (Nat.not_lt_zero i), fun i j _ hj => absurd hj (Nat.not_lt_zero j), fun i _ _ j hj => absurd hj (Nat.not_lt_zero j)⟩⟩
  | succ k ih =>
    obtain ⟨hR, hI⟩ := ih
    rw [reduceF_succ]
    unfold stepF
    have hlen := hR.len
    cases hf : findP (reduceF m k).1 k ((reduceF m k).1.length - (reduceF m k).2.length) (reduceF m k).2.length with
    | none => exact ⟨hR, hI.skip fun i h1 h2 => findP_none _ _ _ _ hf i h1 (by omega)⟩
    | some i0 =>
      obtain ⟨h1, h2, h3⟩ := findP_some _ _ _ _ _ hf
      have hle := hI.le
      have ht : (reduceF m k).2.length < R := by omega
      have h2' : i0 < R := by omega
      refine ⟨hR.pivot ht h2' k, ?_⟩
      have hs := hI.swap h1 h2'
      have he : (fun i => if i = i0 then el (reduceF m k).1 (reduceF m k).2.length else if i = (reduceF m k).2.length then el (reduceF m k).1 i0 else el (reduceF m k).1 i) = el (swapF (reduceF m k).1 (reduceF m k).2.length i0) := by
        funext i
        exact (hR.swap_el ht h2' i).symm
      rw [he] at hs
      have hp := hs.pivot ht (by
        rw [hR.swap_el ht h2']
        by_cases e : (reduceF m k).2.length = i0
        · rw [if_pos e]
          intro h0
          rw [e] at h0
          exact h3 h0
        · rw [if_neg e, if_pos rfl]; exact h3)
      simp only
      rw [hR.pivot_el ht h2', List.length_append]
      have hl : (fun i => ((reduceF m k).2 ++ [k]).getD i 0) = fun i => if i = (reduceF m k).2.length then k else (reduceF m k).2.getD i 0 := by
        funext i
        rw [List.getD_eq_getElem?_getD, List.getD_eq_getElem?_getD, List.getElem?_append]
        rcases Nat.lt_trichotomy i (reduceF m k).2.length with hlt | he | hgt
        · rw [if_pos hlt, if_neg (by omega)]
        · rw [if_neg (by omega), if_pos he, he]; simp
        · rw [if_neg (by omega), if_neg (by omega), List.getElem?_eq_none (l := [k]) (by simp; omega), List.getElem?_eq_none (l := (reduceF m k).2) (by omega)]
      rw [hl]
      exact hp
theorem reduce_sorted (h : Rect R W m) (k : Nat) : (reduceF m k).2.Pairwise (· < ·) := by
  have hI := (reduce_inv h k).2
  rw [List.pairwise_iff_getElem]
  intro i j hi hj hij
  have := hI.inc i j hij hj
  rwa [getD_in hi, getD_in hj] at this
/-- The pivots are the leads of the linear combinations of the rows. -/
theorem reduce_mem (h : Rect R W m) {k : Nat} (hk : k ≤ W) (p : Nat) : p ∈ (reduceF m k).2 ↔ LS k R (el m) p := by
  obtain ⟨hR, hI⟩ := reduce_inv h k
  have hE : Ech k (reduceF m k).2.length (el (reduceF m k).1) (fun i => (reduceF m k).2.getD i 0) := fun i hi => by
    obtain ⟨h1, h2, h3, h4⟩ := hI.piv i hi
    exact ⟨h1, h2, h3, fun i' hi' hne => h4 i' (Nat.lt_of_lt_of_le hi' hI.le) hne⟩
  have e1 : LS k R (el m) p ↔ LS k (reduceF m k).2.length (el (reduceF m k).1) p := by
    constructor
    · intro hl
      have := hl.sub hI.bym fun i hi => (hI.bw i hi).fewer hk
      refine this.sub hI.bym fun i hi => ?_
      rcases Nat.lt_or_ge i (reduceF m k).2.length with hlt | hge
      · exact Span.row hI.bym hlt
      · exact Span.zero fun j hj => hI.low i hge hi j hj
    · intro hl
      exact hl.sub h.by fun i hi => (hI.fw i (Nat.lt_of_lt_of_le hi hI.le)).fewer hk
  rw [e1, hE.ls hI.bym]
  rw [List.mem_iff_getElem]
  constructor
  · rintro ⟨i, hi, rfl⟩
    exact ⟨i, hi, getD_in hi⟩
  · rintro ⟨i, hi, rfl⟩
    exact ⟨i, hi, (getD_in hi).symm⟩
end

/-- The basis that the reference builds, behind p rows. -/
structure BI (C p : Nat) (m b : Nat → Nat → Nat) (k : Nat) (l : Nat → Nat) : Prop where
  by0 : ByM m
  byb : ByM b
  ech : Ech C k b l
  fw : ∀ i, i < p → Span C k b (m i)
  bw : ∀ i, i < k → Span C p m (b i)
section
variable {C p k : Nat} {m b : Nat → Nat → Nat} {l : Nat → Nat}
theorem BI.nil_ (hm : ByM m) (hb : ByM b) : BI C 0 m b 0 l := ⟨hm, hb, fun i hi => absurd hi (Nat.not_lt_zero i), fun i hi => absurd hi (Nat.not_lt_zero i), fun i hi => absurd hi (Nat.not_lt_zero i)⟩
theorem BI.span (h : BI C p m b k l) {v : Nat → Nat} : Span C p m v ↔ Span C k b v := ⟨fun hs => hs.trans h.byb h.fw, fun hs => hs.trans h.by0 h.bw⟩
theorem BI.skip (h : BI C p m b k l) (h0 : ∀ j, j < C → resid k b l (m p) j = 0) : BI C (p + 1) m b k l ∧ Span C p m (m p) := by
  have hs := (h.ech.span_iff (h.by0 p)).2 h0
  refine ⟨⟨h.by0, h.byb, h.ech, fun i hi => ?_, fun i hi => (h.bw i hi).more h.by0 (by omega)⟩, h.span.2 hs⟩
  by_cases e : i = p
  · rw [e]; exact hs
  · exact h.fw i (by omega)
/-- The basis with a new row r, whose lead is at q. -/
def pushed (b : Nat → Nat → Nat) (k q : Nat) (r : Nat → Nat) : Nat → Nat → Nat := fun i j => if i = k then mul (inv (r q)) (r j) else b i j ^^^ mul (b i q) (mul (inv (r q)) (r j))
theorem resid_by (hm : ByM m) : By (resid k b l (m p)) := fun j => xor_lt _ _ (hm p j) (xs_lt _ _ fun i _ => mul_lt _ _ (hm p (l i)))
theorem BI.push (h : BI C p m b k l) {q : Nat} (hq : Lead C (resid k b l (m p)) q) :
    BI C (p + 1) m (pushed b k q (resid k b l (m p))) (k + 1) (fun i => if i = k then q else l i) ∧ ¬ Span C p m (m p) := by
  obtain ⟨q1, q2, q3⟩ := hq
  have hns : ¬ Span C p m (m p) := fun hs => q2 ((h.ech.span_iff (h.by0 p)).1 (h.span.1 hs) q q1)
  have hrb := resid_by (b := b) (k := k) (l := l) (p := p) h.by0
  have hrl : ∀ i, i < k → resid k b l (m p) (l i) = 0 := fun i hi => h.ech.resid_lead (h.by0 p) hi
  have hrs : Span C (p + 1) m (resid k b l (m p)) := by
    have h1 : Span C (p + 1) m (fun j => xs k (fun i => mul (m p (l i)) (b i j))) :=
      Span.trans (k := k) (m := b) h.by0 ⟨fun i => m p (l i), fun i => h.by0 p (l i), fun _ _ => rfl⟩ fun i hi => (h.bw i hi).more h.by0 (by omega)
    refine ((Span.row (n := C) (k := p + 1) h.by0 (i := p) (by omega)).comb h.by0 h1 1 (by decide)).congr fun j _ => ?_
    show m p j ^^^ _ = m p j ^^^ mul 1 _
    rw [one_mul _ (xs_lt _ _ fun i _ => mul_lt _ _ (h.by0 p (l i)))]
  have hmp : ∀ j, m p j = resid k b l (m p) j ^^^ xs k (fun i => mul (m p (l i)) (b i j)) := fun j => by
    unfold resid; rw [Nat.xor_assoc, Nat.xor_self, Nat.xor_zero]
  generalize resid k b l (m p) = r at *
  have hi := inv_lt (r q) (hrb q)
  have hone : mul (inv (r q)) (r q) = 1 := by rw [mul_comm _ _ hi (hrb q)]; exact mul_inv _ (hrb q) q2
  have hb : ByM (pushed b k q r) := by
    intro i j
    unfold pushed
    split
    · exact mul_lt _ _ hi
    · exact xor_lt _ _ (h.byb i j) (mul_lt _ _ (h.byb i q))
  have rowk : ∀ j, pushed b k q r k j = mul (inv (r q)) (r j) := fun j => by unfold pushed; rw [if_pos rfl]
  have rowi : ∀ i j, i ≠ k → pushed b k q r i j = b i j ^^^ mul (b i q) (mul (inv (r q)) (r j)) := fun i j e => by unfold pushed; rw [if_neg e]
  have hrow : ∀ i, i < k → Span C (k + 1) (pushed b k q r) (b i) := fun i hi' => by
    refine ((Span.row (n := C) (k := k + 1) hb (i := i) (by omega)).comb hb (Span.row (n := C) (k := k + 1) hb (i := k) (by omega)) (b i q) (h.byb i q)).congr fun j _ => ?_
    rw [rowi i j (by omega), rowk j, Nat.xor_assoc, Nat.xor_self, Nat.xor_zero]
  have hr' : Span C (k + 1) (pushed b k q r) r := by
    refine ((Span.row (n := C) (k := k + 1) hb (i := k) (by omega)).scale hb (r q) (hrb q)).congr fun j _ => ?_
    rw [rowk j, ← mul_assoc _ _ _ (hrb q) hi (hrb j), mul_inv _ (hrb q) q2, one_mul _ (hrb j)]
  refine ⟨⟨h.by0, hb, fun i hi' => ?_, fun i hi' => ?_, fun i hi' => ?_⟩, hns⟩
  · by_cases e : i = k
    · subst e
      simp only [if_true]
      refine ⟨q1, by rw [rowk, hone], fun j hj => by rw [rowk, q3 j hj, mul_zero], fun i' hi'' hne => ?_⟩
      rw [rowi i' q hne, hone, mul_one _ (h.byb i' q), Nat.xor_self]
    · obtain ⟨p1, p2, p3, p4⟩ := h.ech i (by omega)
      have hz := hrl i (by omega)
      simp only [if_neg e]
      refine ⟨p1, by rw [rowi i _ e, hz, mul_zero, mul_zero, Nat.xor_zero, p2], fun j hj => ?_, fun i' hi'' hne => ?_⟩
      · rw [rowi i j e, p3 j hj, Nat.zero_xor]
        by_cases hbq : b i q = 0
        · rw [hbq, zero_mul]
        · have h1 : l i ≤ q := Nat.le_of_not_lt fun hlt => hbq (p3 q hlt)
          have h2 : l i ≠ q := fun e' => q2 (by rw [← e']; exact hz)
          rw [q3 j (by omega), mul_zero, mul_zero]
      · by_cases e2 : i' = k
        · rw [e2, rowk, hz, mul_zero]
        · rw [rowi i' _ e2, hz, mul_zero, mul_zero, Nat.xor_zero]; exact p4 i' (by omega) hne
  · by_cases e : i = p
    · rw [e]
      have h1 : Span C (k + 1) (pushed b k q r) (fun j => xs k (fun i => mul (m p (l i)) (b i j))) :=
        Span.trans (k := k) (m := b) hb ⟨fun i => m p (l i), fun i => h.by0 p (l i), fun _ _ => rfl⟩ hrow
      refine (hr'.comb hb h1 1 (by decide)).congr fun j _ => ?_
      rw [hmp j, one_mul _ (xs_lt _ _ fun i _ => mul_lt _ _ (h.by0 p (l i)))]
    · exact (h.fw i (by omega)).trans hb hrow
  · have hsr : Span C (p + 1) m (fun j => mul (inv (r q)) (r j)) := hrs.scale h.by0 _ hi
    by_cases e : i = k
    · rw [e]; exact hsr.congr fun j _ => rowk j
    · exact (((h.bw i (by omega)).more h.by0 (Nat.le_succ p)).comb h.by0 hsr (b i q) (h.byb i q)).congr fun j _ => rowi i j e
end
/-- Some basis there is. -/
theorem BI.exists_ (C : Nat) {m : Nat → Nat → Nat} (hm : ByM m) : ∀ p, ∃ b k l, BI C p m b k l
  | 0 => ⟨fun _ _ => 0, 0, fun _ => 0, BI.nil_ hm fun _ _ => Nat.succ_pos 255⟩
  | p + 1 => by
    obtain ⟨b, k, l, h⟩ := BI.exists_ C hm p
    by_cases h0 : ∀ j, j < C → resid k b l (m p) j = 0
    · exact ⟨b, k, l, (h.skip h0).1⟩
    · have : ∃ q, Lead C (resid k b l (m p)) q := by
        apply Classical.byContradiction
        intro hn
        apply h0
        intro j
        induction j using Nat.strongRecOn with
        | ind j ih =>
          intro hj
          apply Classical.byContradiction
          intro hne
          exact hn ⟨j, hj, hne, fun i hi => ih i hi (by omega)⟩
      obtain ⟨q, hq⟩ := this
      exact ⟨_, _, _, (h.push hq).1⟩

/-- Row x is independent of those before. -/
noncomputable def isInd (C : Nat) (m : Nat → Nat → Nat) (x : Nat) : Bool := @decide (¬ Span C x m (m x)) (Classical.propDecidable _)
theorem isInd_iff (C : Nat) (m : Nat → Nat → Nat) (x : Nat) : isInd C m x = true ↔ ¬ Span C x m (m x) := @decide_eq_true_iff _ (Classical.propDecidable _)
/-- The numbers of the first independent rows among the first p. -/
noncomputable def indF (C : Nat) (m : Nat → Nat → Nat) (p : Nat) : List Nat := (List.range p).filter (isInd C m)
theorem indF_mem (C : Nat) (m : Nat → Nat → Nat) (p x : Nat) : x ∈ indF C m p ↔ x < p ∧ ¬ Span C x m (m x) := by
  unfold indF; rw [List.mem_filter, List.mem_range, isInd_iff]
theorem indF_sorted (C : Nat) (m : Nat → Nat → Nat) (p : Nat) : (indF C m p).Pairwise (· < ·) := List.pairwise_lt_range.filter _
theorem indF_in (C : Nat) (m : Nat → Nat → Nat) (p : Nat) (h : ¬ Span C p m (m p)) : indF C m (p + 1) = indF C m p ++ [p] := by
  unfold indF; rw [List.range_succ, List.filter_append]; simp [(isInd_iff C m p).2 h]
theorem indF_out (C : Nat) (m : Nat → Nat → Nat) (p : Nat) (h : Span C p m (m p)) : indF C m (p + 1) = indF C m p := by
  have e : isInd C m p = false := Bool.eq_false_iff.2 fun e => (isInd_iff C m p).1 e h
  unfold indF; rw [List.range_succ, List.filter_append]; simp [e]
/-- There are as many as the basis has rows. -/
theorem BI.exists_len (C : Nat) {m : Nat → Nat → Nat} (hm : ByM m) : ∀ p, ∃ b l, BI C p m b (indF C m p).length l
  | 0 => ⟨fun _ _ => 0, fun _ => 0, BI.nil_ hm fun _ _ => Nat.succ_pos 255⟩
  | p + 1 => by
    obtain ⟨b, l, h⟩ := BI.exists_len C hm p
    by_cases h0 : ∀ j, j < C → resid (indF C m p).length b l (m p) j = 0
    · have hs := h.skip h0
      rw [indF_out C m p hs.2]
      exact ⟨b, l, hs.1⟩
    · have : ∃ q, Lead C (resid (indF C m p).length b l (m p)) q := by
        apply Classical.byContradiction
        intro hn
        apply h0
        intro j
        induction j using Nat.strongRecOn with
        | ind j ih =>
          intro hj
          apply Classical.byContradiction
          intro hne
          exact hn ⟨j, hj, hne, fun i hi => ih i hi (by omega)⟩
      obtain ⟨q, hq⟩ := this
      have hs := h.push hq
      rw [indF_in C m p hs.2, List.length_append]
      exact ⟨_, _, hs.1⟩

section
variable {R W : Nat} {m : List (List Nat)}
/-- The rank, two ways. -/
theorem rank_eq (h : Rect R W m) {C : Nat} (hC : C ≤ W) (m' : Nat → Nat → Nat) (hm' : ByM m') (he : ∀ i, i < R → ∀ j, j < C → el m i j = m' i j) : (reduceF m C).2.length = (indF C m' R).length := by
  obtain ⟨b, l, hB⟩ := BI.exists_len C hm' R
  have hn : ((List.range (indF C m' R).length).map l).Nodup := by
    rw [List.Nodup, List.pairwise_map]
    refine List.Pairwise.imp_of_mem ?_ List.nodup_range
    intro a b ha hb hne e
    exact hne (hB.ech.inj (List.mem_range.1 ha) (List.mem_range.1 hb) e)
  have := nodup_len _ _ ((reduce_sorted h C).imp Nat.ne_of_lt) hn fun p => by
    rw [reduce_mem h hC, List.mem_map]
    have e1 : LS C R (el m) p ↔ LS C R m' p := ⟨fun ⟨v, hv, hl⟩ => ⟨v, hv.rows he, hl⟩, fun ⟨v, hv, hl⟩ => ⟨v, hv.rows fun i hi j hj => (he i hi j hj).symm, hl⟩⟩
    have e2 : LS C R m' p ↔ LS C (indF C m' R).length b p := ⟨fun hl => hl.sub hB.byb hB.fw, fun hl => hl.sub hm' hB.bw⟩
    rw [e1, e2, hB.ech.ls hB.byb]
    constructor
    · rintro ⟨i, hi, rfl⟩; exact ⟨i, List.mem_range.2 hi, rfl⟩
    · rintro ⟨i, hi, rfl⟩; exact ⟨i, List.mem_range.1 hi, rfl⟩
  rw [this]; simp

/-- The transposed matrix. -/
def transF (R C : Nat) (m : List (List Nat)) : List (List Nat) := (List.range C).map fun j => (List.range R).map fun i => el m i j
theorem trans_rect (R C : Nat) (h : ∀ i j, el m i j < 256) : Rect C R (transF R C m) := by
  refine ⟨by simp [transF], fun j hj => ?_⟩
  unfold transF
  rw [range_getD _ _ _ _ hj]
  refine ⟨by simp, fun x hx => ?_⟩
  obtain ⟨i, _, rfl⟩ := List.mem_map.1 hx
  exact h i j
theorem trans_el (R C : Nat) {i j : Nat} (hi : i < R) (hj : j < C) : el (transF R C m) j i = el m i j := by
  unfold el transF
  rw [range_getD _ _ _ _ hj, range_getD _ _ _ _ hi]; rfl
/-- The pivots of the transposed matrix are the first independent rows. -/
theorem reduce_trans (h : Rect R W m) : (reduceF (transF R W m) R).2 = indF W (el m) R := by
  have ht := trans_rect (m := m) R W h.by
  refine sorted_ext _ _ (reduce_sorted ht R) (indF_sorted _ _ _) fun x => ?_
  rw [reduce_mem ht (Nat.le_refl _), indF_mem]
  have e1 : LS R W (el (transF R W m)) x ↔ LS R W (fun i j => el m j i) x :=
    ⟨fun ⟨v, hv, hl⟩ => ⟨v, hv.rows fun i hi j hj => trans_el R W hj hi, hl⟩, fun ⟨v, hv, hl⟩ => ⟨v, hv.rows fun i hi j hj => (trans_el R W hj hi).symm, hl⟩⟩
  rw [e1]
  constructor
  · intro hl
    have hx : x < R := hl.choose_spec.2.1
    obtain ⟨b, k, l, hB⟩ := BI.exists_ W h.by x
    exact ⟨hx, (dual R W x k (el m) b l h.by hB.byb hx hB.ech hB.fw hB.bw).1 hl⟩
  · rintro ⟨hx, hn⟩
    obtain ⟨b, k, l, hB⟩ := BI.exists_ W h.by x
    exact (dual R W x k (el m) b l h.by hB.byb hx hB.ech hB.fw hB.bw).2 hn
theorem indF_le (h : Rect R W m) : (indF W (el m) R).length ≤ W := by
  rw [← reduce_trans h]
  exact (reduce_inv (trans_rect (m := m) R W h.by) R).2.le
end

/-- A matrix beside the identity. -/
def augF (n : Nat) (m : List (List Nat)) : List (List Nat) := (List.range n).map fun i => m.getD i [] ++ (List.range n).map fun j => if j = i then 1 else 0
section
variable {n : Nat} {m : List (List Nat)}
theorem aug_rect (h : Rect n n m) : Rect n (2 * n) (augF n m) := by
  refine ⟨by simp [augF], fun i hi => ?_⟩
  unfold augF
  rw [range_getD _ _ _ _ hi]
  refine ⟨by rw [List.length_append, (h.row i hi).1]; simp; omega, fun x hx => ?_⟩
  rcases List.mem_append.1 hx with hx | hx
  · exact (h.row i hi).2 x hx
  · obtain ⟨j, _, rfl⟩ := List.mem_map.1 hx
    split <;> decide
theorem aug_left (h : Rect n n m) {i j : Nat} (hi : i < n) (hj : j < n) : el (augF n m) i j = el m i j := by
  unfold el augF
  rw [range_getD _ _ _ _ hi, List.getD_eq_getElem?_getD, List.getElem?_append_left (by rw [(h.row i hi).1]; exact hj), ← List.getD_eq_getElem?_getD]
theorem aug_right (h : Rect n n m) {i j : Nat} (hi : i < n) (hj : j < n) : el (augF n m) i (n + j) = if j = i then 1 else 0 := by
  unfold el augF
  rw [range_getD _ _ _ _ hi, List.getD_eq_getElem?_getD, List.getElem?_append_right (by rw [(h.row i hi).1]; omega), (h.row i hi).1, Nat.add_sub_cancel_left]
  simp [hj]
theorem aug_rank (h : Rect n n m) : (reduceF (augF n m) n).2.length = (indF n (el m) n).length :=
  rank_eq (aug_rect h) (by omega) (el m) h.by fun _ hi _ hj => aug_left h hi hj
/-- The right half of the reduced rows. -/
def invF (n : Nat) (m : List (List Nat)) : List (List Nat) := (reduceF (augF n m) n).1.map fun row => row.drop n
theorem inv_rect (h : Rect n n m) : Rect n n (invF n m) := by
  obtain ⟨hR, _⟩ := reduce_inv (aug_rect h) n
  refine ⟨by simp [invF, hR.len], fun i hi => ?_⟩
  have e : (invF n m).getD i [] = ((reduceF (augF n m) n).1.getD i []).drop n := by
    unfold invF
    rw [getD_in (by rw [List.length_map, hR.len]; exact hi), getD_in (by rw [hR.len]; exact hi)]; simp
  rw [e]
  exact ⟨by rw [List.length_drop, (hR.row i hi).1]; omega, fun x hx => (hR.row i hi).2 x (List.mem_of_mem_drop hx)⟩
theorem inv_el (h : Rect n n m) {i : Nat} (hi : i < n) (j : Nat) : el (invF n m) i j = el (reduceF (augF n m) n).1 i (n + j) := by
  obtain ⟨hR, _⟩ := reduce_inv (aug_rect h) n
  unfold el invF
  rw [getD_in (l := List.map _ _) (by rw [List.length_map, hR.len]; exact hi), getD_in (l := (reduceF (augF n m) n).1) (by rw [hR.len]; exact hi)]
  simp [List.getD_eq_getElem?_getD]
theorem inc_id {n : Nat} (l : Nat → Nat) (h1 : ∀ i, i < n → l i < n) (h2 : ∀ i j, i < j → j < n → l i < l j) : ∀ i, i < n → l i = i := by
  have ge : ∀ i, i < n → i ≤ l i := by
    intro i
    induction i with
    | zero => intro _; exact Nat.zero_le _
    | succ i ih => intro hi; have := ih (by omega); have := h2 i (i + 1) (by omega) hi; omega
  have le : ∀ d i, i + d + 1 = n → l i + d + 1 ≤ n := by
    intro d
    induction d with
    | zero => intro i hi; have := h1 i (by omega); omega
    | succ d ih => intro i hi; have := ih (i + 1) (by omega); have := h2 i (i + 1) (by omega) (by omega); omega
  intro i hi
  have := ge i hi
  have := le (n - 1 - i) i (by omega)
  omega
theorem inv_ok (h : Rect n n m) (hr : (reduceF (augF n m) n).2.length = n) {i : Nat} (hi : i < n) {j : Nat} (hj : j < n) :
    xs n (fun k => mul (el (invF n m) i k) (el m k j)) = (if i = j then 1 else 0) ∧ xs n (fun k => mul (el m i k) (el (invF n m) k j)) = (if i = j then 1 else 0) := by
  obtain ⟨hR, hI⟩ := reduce_inv (aug_rect h) n
  have hV := inv_rect h
  have hid : ∀ i, i < n → (reduceF (augF n m) n).2.getD i 0 = i := inc_id (fun i => (reduceF (augF n m) n).2.getD i 0) (fun i hi => (hI.piv i (by omega)).1) fun i j hij hj => hI.inc i j hij (by omega)
  have hleft : ∀ i, i < n → ∀ j, j < n → el (reduceF (augF n m) n).1 i j = if i = j then 1 else 0 := by
    intro i hi j hj
    obtain ⟨_, p2, _, p4⟩ := hI.piv j (by omega)
    rw [hid j hj] at p2 p4
    by_cases e : i = j
    · rw [if_pos e, e]; exact p2
    · rw [if_neg e]; exact p4 i hi e
  have pick : ∀ (c : Nat → Nat), By c → ∀ j, j < n → xs n (fun k => mul (c k) (if k = j then 1 else 0)) = c j := fun c hc j hj => by
    rw [xs_single n j _ hj fun k _ hne => by rw [if_neg hne, mul_zero], if_pos rfl, mul_one _ (hc j)]
  constructor
  · obtain ⟨c, hc, hs⟩ := hI.fw i hi
    have hcv : ∀ k, k < n → el (invF n m) i k = c k := by
      intro k hk
      rw [inv_el h hi, hs (n + k) (by omega), xs_congr n _ (fun q => mul (c q) (if q = k then 1 else 0)) fun q hq => by
        rw [aug_right h hq hk]
        by_cases e : q = k
        · rw [if_pos e, if_pos e.symm]
        · rw [if_neg e, if_neg fun e' => e e'.symm], pick c hc k hk]
    rw [xs_congr n _ (fun q => mul (c q) (el (augF n m) q j)) fun q hq => by rw [hcv q hq, aug_left h hq hj], ← hs j (by omega), hleft i hi j hj]
  · obtain ⟨c, hc, hs⟩ := hI.bw i hi
    have hcv : ∀ k, k < n → el m i k = c k := by
      intro k hk
      rw [← aug_left h hi hk, hs k (by omega), xs_congr n _ (fun q => mul (c q) (if q = k then 1 else 0)) fun q hq => by rw [hleft q hq k hk], pick c hc k hk]
    rw [xs_congr n _ (fun q => mul (c q) (el (reduceF (augF n m) n).1 q (n + j))) fun q hq => by rw [hcv q hq, inv_el h hq], ← hs (n + j) (by omega), aug_right h hi hj]
    by_cases e : i = j
    · rw [if_pos e, if_pos e.symm]
    · rw [if_neg e, if_neg fun e' => e e'.symm]
end
end Go.Proofs.Ytfhgalfdlkdliaa
