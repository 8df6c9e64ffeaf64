/- The table of pairs that the reference's check counts, as functions; what makes a design balanced, over the integers that the program reads. -/
import Derived.Test.YtnnacofjogfkeaaDoorCoi
import Derived.Test.YtnnacofjogfkeaaDoorCoc
import Derived.Test.YtnnacofjogfkeaaDoorGN
namespace Go.Proofs.YtnnacofjogfkeaaDoor
open Go Go.RowKit Pl Co
set_option linter.unusedVariables false
def zc60 : Array Value := Array.replicate 3600 (Value.int .i64 0)
set_option maxRecDepth 100000 in
theorem zv60 (w : World) : (zeroValue 55).run Tryd.prog w = .ok (.agg zc60) w := by kernel_rfl
theorem zc_size : zc60.size = 3600 := by unfold zc60; simp
theorem zc_ne : ¬ zc60 = #[] := fun h => by have := zc_size; rw [h] at this; simp at this
theorem zc_get {i : Nat} (h : i < 3600) : zc60[i]? = some (.int .i64 0) := by unfold zc60; simp [h]

def toN (l : List Int) : List Nat := l.map Int.toNat
theorem toN_len (l : List Int) : (toN l).length = l.length := List.length_map ..
theorem toN_at (l : List Int) (i : Nat) : (toN l).getD i 0 = (l.getD i 0).toNat := by
  unfold toN
  rw [List.getD_eq_getElem?_getD, List.getD_eq_getElem?_getD, List.getElem?_map]
  cases l[i]? <;> rfl
/-- A row that the check lets pass. -/
structure VR (d : Int) (n : Nat) (l : List Int) : Prop where
  len : l.length = n
  pos : ∀ i, i < l.length → 0 ≤ l.getD i 0 ∧ l.getD i 0 < d
  up : ∀ i, i + 1 < l.length → l.getD i 0 < l.getD (i + 1) 0
theorem inc_of : ∀ {l : List Int} {x : Nat}, (∀ i, i < l.length → 0 ≤ l.getD i 0) → (l.length ≠ 0 → (x : Int) ≤ l.getD 0 0) → (∀ i, i + 1 < l.length → l.getD i 0 < l.getD (i + 1) 0) → inc x (toN l)
  | [], _, _, _, _ => trivial
  | a :: t, x, h0, hx, hu => by
    have a0 : 0 ≤ a := h0 0 (by simp)
    have ax : (x : Int) ≤ a := hx (by simp)
    show x ≤ a.toNat ∧ inc (a.toNat + 1) (toN t)
    refine ⟨by omega, inc_of (fun i hi => h0 (i + 1) (by simpa using hi)) (fun hn => ?_) (fun i hi => hu (i + 1) (by simpa using hi))⟩
    match t, hn with
    | b :: t', _ =>
      have : a < b := hu 0 (by simp)
      show ((a.toNat + 1 : Nat) : Int) ≤ b
      omega
theorem of_inc : ∀ {l : List Int} {x : Nat}, inc x (toN l) → (∀ y ∈ l, 0 ≤ y) → ∀ i, i + 1 < l.length → l.getD i 0 < l.getD (i + 1) 0
  | a :: b :: t, x, h, h0, 0, _ => by
    obtain ⟨_, h2, _⟩ := h
    have : 0 ≤ a := h0 a (by simp)
    have : 0 ≤ b := h0 b (by simp)
    show a < b
    omega
  | a :: t, x, h, h0, i + 1, hi => of_inc h.2 (fun y hy => h0 y (List.mem_cons_of_mem _ hy)) i (by simpa using hi)
theorem VR.inc {d : Int} {n : Nat} {l : List Int} (h : VR d n l) : inc 0 (toN l) :=
  inc_of (fun i hi => (h.pos i hi).1) (fun hn => (h.pos 0 (by omega)).1) h.up
theorem VR.lt {d : Int} {n : Nat} {l : List Int} (h : VR d n l) {a : Nat} (ha : a ∈ toN l) : (a : Int) < d := by
  obtain ⟨x, hx, rfl⟩ := List.mem_map.1 ha
  obtain ⟨i, hi, rfl⟩ := List.getElem_of_mem hx
  have := h.pos i hi
  rw [getD_in hi] at this
  omega
/-- A balanced design, over what the program reads. -/
def BalZ (d : Int) (m : List (List Int)) (r k : Nat) : Prop := 0 ≤ d ∧ (∀ l ∈ m, ∀ x ∈ l, 0 ≤ x) ∧ ∃ n, Bal d.toNat (m.map toN) n r k
theorem BalZ.rows {d : Int} {m : List (List Int)} {r k : Nat} (h : BalZ d m r k) : 2 ≤ (m.getD 0 []).length ∧ ∀ g, g < m.length → VR d (m.getD 0 []).length (m.getD g []) := by
  obtain ⟨h0, hp, n, hb⟩ := h
  have key : ∀ g, g < m.length → VR d n (m.getD g []) := fun g hg => by
    rw [getD_in hg]
    have hm := List.getElem_mem hg
    obtain ⟨f1, f2, f3⟩ := hb.form _ (List.mem_map_of_mem hm)
    rw [toN_len] at f1
    refine ⟨f1, fun i hi => ?_, of_inc f2 (hp _ hm)⟩
    have hx := List.getElem_mem hi
    have h1 := hp _ hm _ hx
    have h2 := f3 _ (List.mem_map_of_mem hx)
    rw [getD_in hi]
    omega
  have hg := hb.groups
  rw [List.length_map] at hg
  rw [(key 0 (by omega)).len]
  exact ⟨hb.width, key⟩
theorem BalZ.disks {d : Int} {m : List (List Int)} {r k : Nat} (h : BalZ d m r k) : 2 ≤ d ∧ d ≤ 60 ∧ 1 ≤ m.length ∧ m.length ≤ 4096 := by
  obtain ⟨h0, _, n, hb⟩ := h
  have h1 := hb.disks
  have h2 := hb.groups
  rw [List.length_map] at h2
  omega
theorem BalZ.eqs {d : Int} {m : List (List Int)} {r k : Nat} (h : BalZ d m r k) : (∀ a : Nat, (a : Int) < d → prs (m.map toN) a a = r) ∧ (∀ a b : Nat, (a : Int) < d → (b : Int) < d → a ≠ b → prs (m.map toN) a b = k) ∧ 1 ≤ k := by
  obtain ⟨h0, _, n, hb⟩ := h
  exact ⟨fun a ha => by rw [prs_self]; exact hb.deg a (by omega), fun a b ha hb2 hne => hb.prs a b (by omega) (by omega) hne, hb.pos⟩
theorem BalZ.of {d : Int} {m : List (List Int)} {r k : Nat} (hd : 2 ≤ d ∧ d ≤ 60) (hm : 1 ≤ m.length ∧ m.length ≤ 4096) (h2 : 2 ≤ (m.getD 0 []).length) (hv : ∀ g, g < m.length → VR d (m.getD 0 []).length (m.getD g []))
    (hr : ∀ a : Nat, (a : Int) < d → prs (m.map toN) a a = r) (hk : ∀ a b : Nat, (a : Int) < d → (b : Int) < d → a ≠ b → prs (m.map toN) a b = k) (hp : 1 ≤ k) : BalZ d m r k := by
  refine ⟨by omega, fun l hl x hx => ?_, (m.getD 0 []).length, ⟨by omega, by omega⟩, by rw [List.length_map]; exact hm, h2, fun l hl => ?_, fun a ha => ?_, fun a b ha hb hne => hk a b (by omega) (by omega) hne, hp⟩
  · obtain ⟨g, hg, rfl⟩ := List.getElem_of_mem hl
    obtain ⟨i, hi, rfl⟩ := List.getElem_of_mem hx
    have := hv g hg
    rw [getD_in hg] at this
    have := (this.pos i hi).1
    rwa [getD_in hi] at this
  · obtain ⟨l', hl', rfl⟩ := List.mem_map.1 hl
    obtain ⟨g, hg, rfl⟩ := List.getElem_of_mem hl'
    have v := hv g hg
    rw [getD_in hg] at v
    exact ⟨by rw [toN_len, v.len], v.inc, fun a ha => by have := v.lt ha; omega⟩
  · rw [← prs_self]; exact hr a (by omega)

theorem has_take : ∀ {L : List Nat} {x i : Nat}, inc x L → i < L.length → has (L.take i) (L.getD i 0) = false
  | a :: t, x, 0, _, _ => rfl
  | a :: t, x, i + 1, ⟨_, h⟩, hi => by
    have hi' : i < t.length := by simpa using hi
    show (a == t.getD i 0 || has (t.take i) (t.getD i 0)) = false
    rw [has_take h hi', Bool.or_false, beq_eq_false_iff_ne]
    have := inc_mem h (show t.getD i 0 ∈ t by rw [getD_in hi']; exact List.getElem_mem hi')
    omega
theorem has_take_succ {L : List Nat} {i : Nat} (hi : i < L.length) (a : Nat) : has (L.take (i + 1)) a = (has (L.take i) a || L.getD i 0 == a) := by
  rw [List.take_succ_eq_append_getElem hi, getD_in hi]
  unfold has
  rw [List.any_append]
  simp
def tab (G : List (List Nat)) (j : Nat) : Nat := prs G (j / 60) (j % 60)
def b2 (b : Bool) : Nat := bif b then 1 else 0
def mid (G : List (List Nat)) (L : List Nat) (i k j : Nat) : Nat := tab G j + b2 (has (L.take i) (j / 60) && has L (j % 60)) + b2 ((L.getD i 0 == j / 60) && has (L.take k) (j % 60))
theorem mid_start (G : List (List Nat)) (L : List Nat) (j : Nat) : mid G L 0 0 j = tab G j := by
  unfold mid
  rw [show has (L.take 0) (j / 60) = false from rfl, show has (L.take 0) (j % 60) = false from rfl, Bool.false_and, Bool.and_false]
  rfl
theorem mid_le (G : List (List Nat)) (L : List Nat) (i k j : Nat) : mid G L i k j ≤ G.length + 2 := by
  have h1 : tab G j ≤ G.length := List.length_filter_le _ _
  have h2 : ∀ b, b2 b ≤ 1 := by decide
  have := h2 (has (L.take i) (j / 60) && has L (j % 60))
  have := h2 ((L.getD i 0 == j / 60) && has (L.take k) (j % 60))
  unfold mid
  omega
theorem mid_step {G : List (List Nat)} {L : List Nat} {x i k : Nat} (h : inc x L) (hi : i < L.length) (hk : k < L.length) (h60 : L.getD k 0 < 60) (j : Nat) : up (mid G L i k) (L.getD i 0 * 60 + L.getD k 0) (mid G L i k (L.getD i 0 * 60 + L.getD k 0) + 1) j = mid G L i (k + 1) j := by
  unfold up
  by_cases e : j = L.getD i 0 * 60 + L.getD k 0
  · rw [if_pos e]
    have d1 : j / 60 = L.getD i 0 := by omega
    have d2 : j % 60 = L.getD k 0 := by omega
    rw [← e]
    unfold mid
    rw [d1, d2, has_take h hk, has_take_succ hk, has_take h hk, Bool.and_false, beq_self_eq_true, beq_self_eq_true]
    rfl
  · rw [if_neg e]
    unfold mid
    rw [has_take_succ hk]
    cases e1 : (L.getD i 0 == j / 60)
    · rw [Bool.false_and, Bool.false_and]
    · cases e2 : (L.getD k 0 == j % 60)
      · rw [Bool.or_false]
      · rw [beq_iff_eq] at e1 e2; omega
theorem mid_next {G : List (List Nat)} {L : List Nat} {x i : Nat} (h : inc x L) (hi : i < L.length) (j : Nat) : mid G L i L.length j = mid G L (i + 1) 0 j := by
  unfold mid
  rw [List.take_length, has_take_succ hi, show has (L.take 0) (j % 60) = false from rfl, Bool.and_false]
  cases e1 : (L.getD i 0 == j / 60)
  · rw [Bool.or_false, Bool.false_and]
  · rw [beq_iff_eq] at e1
    rw [← e1, has_take h hi, Bool.false_and, Bool.true_and, Bool.false_or, Bool.true_and]
    show _ + 0 + _ = _ + _ + 0
    omega
theorem mid_end {G : List (List Nat)} {L : List Nat} (j : Nat) : mid G L L.length 0 j = tab (G ++ [L]) j := by
  unfold mid tab
  rw [prs_append, List.take_length, show has (L.take 0) (j % 60) = false from rfl, Bool.and_false]
  show _ + _ + 0 = _
  rw [Nat.add_zero]
  congr 1
  unfold prs
  cases e : (has L (j / 60) && has L (j % 60))
  · rw [List.filter_cons, e]; rfl
  · rw [List.filter_cons, e]; rfl
end Go.Proofs.YtnnacofjogfkeaaDoor
