/- Elimination on lists of lists of bytes: what the steps keep, and what stands at the end: plain mathematics. -/
import Derived.Test.YtfhgalfdlkdliaaGff
import Derived.Test.YtfhgalfdlkdliaaLin
namespace Go.Proofs.Ytfhgalfdlkdliaa
open Gf Lin

/-- The element i, j of a matrix. -/
def el (m : List (List Nat)) (i j : Nat) : Nat := (m.getD i []).getD j 0
structure Rect (R W : Nat) (m : List (List Nat)) : Prop where
  len : m.length = R
  row : ∀ i, i < R → (m.getD i []).length = W ∧ ∀ x ∈ m.getD i [], x < 256
theorem getD_bytes {l : List Nat} (h : ∀ x ∈ l, x < 256) (k : Nat) : l.getD k 0 < 256 := by
  rcases Nat.lt_or_ge k l.length with hk | hk
  · rw [getD_in hk]; exact h _ (List.getElem_mem hk)
  · rw [getD_out hk]; exact Nat.succ_pos 255
theorem Rect.by {R W : Nat} {m : List (List Nat)} (h : Rect R W m) : ByM (el m) := by
  intro i j
  rcases Nat.lt_or_ge i R with hi | hi
  · exact getD_bytes (h.row i hi).2 j
  · unfold el; rw [getD_out (l := m) (by rw [h.len]; exact hi), getD_out (l := ([] : List Nat)) (Nat.zero_le _)]; exact Nat.succ_pos 255
theorem Rect.out_row {R W : Nat} {m : List (List Nat)} (h : Rect R W m) {i : Nat} (hi : R ≤ i) (j : Nat) : el m i j = 0 := by
  unfold el; rw [getD_out (l := m) (by rw [h.len]; exact hi), getD_out (l := ([] : List Nat)) (Nat.zero_le _)]
theorem Rect.out_col {R W : Nat} {m : List (List Nat)} (h : Rect R W m) (i : Nat) {j : Nat} (hj : W ≤ j) : el m i j = 0 := by
  rcases Nat.lt_or_ge i R with hi | hi
  · unfold el; rw [getD_out (by rw [(h.row i hi).1]; exact hj)]
  · exact h.out_row hi j
theorem getD_set {α : Type} (m : List α) (i j : Nat) (x d : α) : (m.set i x).getD j d = if i = j ∧ i < m.length then x else m.getD j d := by
  rw [List.getD_eq_getElem?_getD, List.getD_eq_getElem?_getD, List.getElem?_set]
  by_cases e : i = j
  · subst e
    by_cases hl : i < m.length
    · simp [hl]
    · simp [hl]
  · simp [e]
theorem Rect.set {R W : Nat} {m : List (List Nat)} (h : Rect R W m) (i : Nat) {row : List Nat} (hl : row.length = W) (hb : ∀ x ∈ row, x < 256) : Rect R W (m.set i row) := by
  refine ⟨by simp [h.len], fun j hj => ?_⟩
  rw [getD_set]
  split
  · exact ⟨hl, hb⟩
  · exact h.row j hj
theorem range_getD {α : Type} (n k : Nat) (f : Nat → α) (d : α) (hk : k < n) : ((List.range n).map f).getD k d = f k := by
  rw [getD_in (by simpa using hk)]; simp
theorem fused_getD (d s : List Nat) (c j : Nat) (hl : d.length = s.length) : (fused d s c).getD j 0 = d.getD j 0 ^^^ mul c (s.getD j 0) := by
  rcases Nat.lt_or_ge j d.length with h | h
  · exact fused_at d s c j h
  · rw [getD_out (by rw [fused_len]; exact h), getD_out h, getD_out (by omega), mul_zero]; rfl

/-- The first row from `i` on (at most f of them) that has an element other than 0 in the column. -/
def findP (m : List (List Nat)) (col : Nat) : Nat → Nat → Option Nat
  | 0, _ => none
  | f + 1, i => if el m i col = 0 then findP m col f (i + 1) else some i
theorem findP_none (m : List (List Nat)) (col f : Nat) : ∀ i, findP m col f i = none → ∀ j, i ≤ j → j < i + f → el m j col = 0 := by
  induction f with
  | zero => intro i _ j h1 h2; omega
  | succ f ih =>
    intro i h j h1 h2
    unfold findP at h
    by_cases e : el m i col = 0
    · rw [if_pos e] at h
      by_cases e' : i = j
      · rw [← e']; exact e
      · exact ih _ h j (by omega) (by omega)
    · rw [if_neg e] at h; cases h
theorem findP_some (m : List (List Nat)) (col f : Nat) : ∀ i a, findP m col f i = some a → i ≤ a ∧ a < i + f ∧ el m a col ≠ 0 := by
  induction f with
  | zero => intro i a h; cases h
  | succ f ih =>
    intro i a h
    unfold findP at h
    by_cases e : el m i col = 0
    · rw [if_pos e] at h
      obtain ⟨h1, h2, h3⟩ := ih _ _ h
      exact ⟨by omega, by omega, h3⟩
    · rw [if_neg e] at h; cases h; exact ⟨Nat.le_refl _, by omega, e⟩

def swapF (m : List (List Nat)) (a b : Nat) : List (List Nat) := (m.set a (m.getD b [])).set b (m.getD a [])
def normF (row : List Nat) (col : Nat) : List Nat := fused (List.replicate row.length 0) row (inv (row.getD col 0))
def elimRow (m : List (List Nat)) (top col i : Nat) : List Nat := if i = top then m.getD i [] else fused (m.getD i []) (m.getD top []) (el m i col)
def elimF (m : List (List Nat)) (top col : Nat) : List (List Nat) := (List.range m.length).map (elimRow m top col)
def pivotF (m : List (List Nat)) (top col i : Nat) : List (List Nat) :=
  elimF ((swapF m top i).set top (normF ((swapF m top i).getD top []) col)) top col
def stepF (s : List (List Nat) × List Nat) (col : Nat) : List (List Nat) × List Nat :=
  match findP s.1 col (s.1.length - s.2.length) s.2.length with
  | none => s
  | some i => (pivotF s.1 s.2.length col i, s.2 ++ [col])
/-- The steps for the first k columns. -/
def reduceF (m : List (List Nat)) (k : Nat) : List (List Nat) × List Nat := (List.range k).foldl stepF (m, [])
theorem reduceF_succ (m : List (List Nat)) (k : Nat) : reduceF m (k + 1) = stepF (reduceF m k) k := by
  unfold reduceF; rw [List.range_succ, List.foldl_append]; rfl

/-- What the elimination keeps, on plain functions. -/
structure Inv (R W k : Nat) (m0 m : Nat → Nat → Nat) (r : Nat) (l : Nat → Nat) : Prop where
  by0 : ByM m0
  bym : ByM m
  fw : ∀ i, i < R → Span W R m0 (m i)
  bw : ∀ i, i < R → Span W R m (m0 i)
  le : r ≤ R
  piv : ∀ i, i < r → l i < k ∧ m i (l i) = 1 ∧ (∀ j, j < l i → m i j = 0) ∧ ∀ i', i' < R → i' ≠ i → m i' (l i) = 0
  inc : ∀ i j, i < j → j < r → l i < l j
  low : ∀ i, r ≤ i → i < R → ∀ j, j < k → m i j = 0
section
variable {R W k r : Nat} {m0 m : Nat → Nat → Nat} {l : Nat → Nat}
theorem Inv.skip (h : Inv R W k m0 m r l) (h0 : ∀ i, r ≤ i → i < R → m i k = 0) : Inv R W (k + 1) m0 m r l where
  by0 := h.by0
  bym := h.bym
  fw := h.fw
  bw := h.bw
  le := h.le
  piv := fun i hi => by obtain ⟨h1, h2⟩ := h.piv i hi; exact ⟨by omega, h2⟩
  inc := h.inc
  low := fun i h1 h2 j hj => by
    by_cases e : j = k
    · rw [e]; exact h0 i h1 h2
    · exact h.low i h1 h2 j (by omega)
theorem Inv.swap (h : Inv R W k m0 m r l) {i0 : Nat} (h1 : r ≤ i0) (h2 : i0 < R) : Inv R W k m0 (fun i => if i = i0 then m r else if i = r then m i0 else m i) r l := by
  have hb : ByM (fun i => if i = i0 then m r else if i = r then m i0 else m i) := by
    intro i j
    show (if i = i0 then m r else if i = r then m i0 else m i) j < 256
    split
    · exact h.bym _ _
    · split <;> exact h.bym _ _
  refine ⟨h.by0, hb, fun i hi => ?_, fun i hi => ?_, h.le, fun i hi => ?_, h.inc, fun i hr hi j hj => ?_⟩
  · show Span W R m0 (if i = i0 then m r else if i = r then m i0 else m i)
    split
    · exact h.fw _ (by omega)
    · split
      · exact h.fw _ h2
      · exact h.fw _ hi
  · refine (h.bw i hi).trans hb fun i' hi' => ?_
    by_cases e : i' = i0
    · have := Span.row (n := W) (k := R) hb (i := r) (by omega)
      refine this.congr fun j _ => ?_
      show m i' j = (if r = i0 then m r else if r = r then m i0 else m r) j
      by_cases e2 : r = i0
      · rw [if_pos e2, e, e2]
      · rw [if_neg e2, if_pos rfl, e]
    · by_cases e2 : i' = r
      · have := Span.row (n := W) (k := R) hb (i := i0) h2
        refine this.congr fun j _ => ?_
        show m i' j = (if i0 = i0 then m r else _) j
        rw [if_pos rfl, e2]
      · have := Span.row (n := W) (k := R) hb (i := i') hi'
        refine this.congr fun j _ => ?_
        show m i' j = (if i' = i0 then m r else if i' = r then m i0 else m i') j
        rw [if_neg e, if_neg e2]
  · obtain ⟨p1, p2, p3, p4⟩ := h.piv i hi
    have e1 : (if i = i0 then m r else if i = r then m i0 else m i) = m i := by rw [if_neg (by omega), if_neg (by omega)]
    refine ⟨p1, ?_, ?_, fun i' hi' hne => ?_⟩
    · show (if i = i0 then m r else if i = r then m i0 else m i) (l i) = 1
      rw [e1]; exact p2
    · intro j hj
      show (if i = i0 then m r else if i = r then m i0 else m i) j = 0
      rw [e1]; exact p3 j hj
    · show (if i' = i0 then m r else if i' = r then m i0 else m i') (l i) = 0
      split
      · exact p4 r (by omega) (by omega)
      · split
        · exact p4 i0 h2 (by omega)
        · exact p4 i' hi' hne
  · show (if i = i0 then m r else if i = r then m i0 else m i) j = 0
    split
    · exact h.low r (Nat.le_refl _) (by omega) j hj
    · split
      · exact h.low i0 h1 h2 j hj
      · exact h.low i hr hi j hj
/-- The rows behind the pivot's step. -/
def pivoted (m : Nat → Nat → Nat) (r k : Nat) : Nat → Nat → Nat := fun i j => if i = r then mul (inv (m r k)) (m r j) else m i j ^^^ mul (m i k) (mul (inv (m r k)) (m r j))
theorem inv_lt (a : Nat) (ha : a < 256) : inv a < 256 := gpow_lt a 254 ha
theorem Inv.pivot (h : Inv R W k m0 m r l) (hr : r < R) (hk : m r k ≠ 0) : Inv R W (k + 1) m0 (pivoted m r k) (r + 1) (fun i => if i = r then k else l i) := by
  have hi := inv_lt (m r k) (h.bym r k)
  have hb : ByM (pivoted m r k) := by
    intro i j
    unfold pivoted
    split
    · exact mul_lt _ _ hi
    · exact xor_lt _ _ (h.bym i j) (mul_lt _ _ (h.bym i k))
  have hone : mul (inv (m r k)) (m r k) = 1 := by rw [mul_comm _ _ hi (h.bym r k)]; exact mul_inv _ (h.bym r k) hk
  have rowr : ∀ j, pivoted m r k r j = mul (inv (m r k)) (m r j) := fun j => by unfold pivoted; rw [if_pos rfl]
  have rowi : ∀ i j, i ≠ r → pivoted m r k i j = m i j ^^^ mul (m i k) (mul (inv (m r k)) (m r j)) := fun i j e => by unfold pivoted; rw [if_neg e]
  have z : ∀ j, m r j = 0 → ∀ i, i ≠ r → pivoted m r k i j = m i j := fun j e i hne => by rw [rowi i j hne, e, mul_zero, mul_zero, Nat.xor_zero]
  have hm0 : ∀ i, i < R → Span W R m (pivoted m r k i) := by
    intro i hi'
    have sr := (Span.row (n := W) (k := R) h.bym hr).scale h.bym (inv (m r k)) hi
    by_cases e : i = r
    · exact sr.congr fun j _ => by rw [e, rowr j]
    · exact ((Span.row (n := W) (k := R) h.bym hi').comb h.bym sr (m i k) (h.bym i k)).congr fun j _ => rowi i j e
  have hr0 : Span W R (pivoted m r k) (m r) := by
    refine ((Span.row (n := W) (k := R) hb hr).scale hb (m r k) (h.bym r k)).congr fun j _ => ?_
    rw [rowr j, ← mul_assoc _ _ _ (h.bym r k) hi (h.bym r j), mul_inv _ (h.bym r k) hk, one_mul _ (h.bym r j)]
  refine ⟨h.by0, hb, fun i hi' => ?_, fun i hi' => ?_, hr, fun i hi' => ?_, fun i j hij hj => ?_, fun i h1 h2 j hj => ?_⟩
  · exact (hm0 i hi').trans h.by0 h.fw
  · refine (h.bw i hi').trans hb fun i' hi'' => ?_
    by_cases e : i' = r
    · rw [e]; exact hr0
    · refine ((Span.row (n := W) (k := R) hb hi'').comb hb (Span.row (n := W) (k := R) hb hr) (m i' k) (h.bym i' k)).congr fun j _ => ?_
      rw [rowi i' j e, rowr j, Nat.xor_assoc, Nat.xor_self, Nat.xor_zero]
  · by_cases e : i = r
    · subst e
      simp only [if_true]
      refine ⟨by omega, by rw [rowr, hone], fun j hj => by rw [rowr, h.low i (Nat.le_refl _) hr j hj, mul_zero], fun i' hi'' hne => ?_⟩
      rw [rowi i' k hne, hone, mul_one _ (h.bym i' k), Nat.xor_self]
    · obtain ⟨p1, p2, p3, p4⟩ := h.piv i (by omega)
      have hz : m r (l i) = 0 := p4 r hr (fun e' => e e'.symm)
      simp only [if_neg e]
      refine ⟨by omega, by rw [z _ hz i e, p2], fun j hj => ?_, fun i' hi'' hne => ?_⟩
      · rw [z _ (h.low r (Nat.le_refl _) hr j (by omega)) i e, p3 j hj]
      · by_cases e2 : i' = r
        · rw [e2, rowr, hz, mul_zero]
        · rw [z _ hz i' e2, p4 i' hi'' hne]
  · show (if i = r then k else l i) < (if j = r then k else l j)
    rw [if_neg (by omega)]
    split
    · exact (h.piv i (by omega)).1
    · exact h.inc i j hij (by omega)
  · have hne : i ≠ r := by omega
    by_cases e : j = k
    · rw [e, rowi i k hne, hone, mul_one _ (h.bym i k), Nat.xor_self]
    · rw [z _ (h.low r (Nat.le_refl _) hr j (by omega)) i hne, h.low i (by omega) h2 j (by omega)]
end
end Go.Proofs.Ytfhgalfdlkdliaa
