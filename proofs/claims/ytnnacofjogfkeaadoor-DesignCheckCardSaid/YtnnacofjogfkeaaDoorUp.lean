/- Contracts: awake. WRITTEN BY gen_Up.py. -/
import Derived.Test.YtnnacofjogfkeaaDoorUo
import Derived.Test.YtnnacofjogfkeaaDoorUi
import Derived.Test.YtnnacofjogfkeaaDoorUj
namespace Go.Proofs.YtnnacofjogfkeaaDoor
open Go Go.RowKit Pl
set_option linter.unusedVariables false
set_option linter.unusedSimpArgs false

def aw6Post (w : World) (e : Ending) (w' : World) : Prop := e = .returned (.bool true) ∧ Below w.heap.size w w'
/-- The first rows of a table. -/
theorem Gs.take {w : World} {A : Option Addr} {n c k : Nat} {L : List (List Nat)} (h : Gs w (.slice A n c) L) (hk : k ≤ n) : Gs w (.slice A k c) (L.take k) := by
  obtain ⟨A', c', he, hm, hz, hc⟩ := h
  injection he with h1 h2 h3
  subst h1 h3
  have hl : (L.take k).length = k := by rw [List.length_take]; omega
  refine ⟨A, c, by rw [hl], ⟨by omega, hm.2⟩, hz, fun hn => ?_⟩
  obtain ⟨b, off, hb, hcell⟩ := hc (by omega)
  refine ⟨b, off, hb, fun j hj => ?_⟩
  obtain ⟨u, hu, hr⟩ := hcell j (by omega)
  exact ⟨u, hu, by rw [List.getElem_take]; exact hr⟩
/-- A literal row. -/
theorem ns_lit {w : World} {b n : Nat} {t : TypeId} {cs : Array Value} {l : List Nat} (h : Row w b t cs) (hn : l.length = n) (h1 : n ≤ 1000) (hc : cs = (l.map fun x : Nat => Value.int .i64 (x : Int)).toArray) : Ns w (.slice (some ⟨b, 0, none⟩) n n) l := by
  subst hn hc
  refine ⟨_, _, rfl, ⟨Nat.le_refl _, by unfold maxLen; omega⟩, fun h => (by cases h), fun _ => ⟨b, 0, rfl, fun k hk => ⟨_, by rw [Nat.zero_add, h.cell]; simp [hk], rfl⟩⟩⟩
/-- A literal table, of rows that lie in a row of slices. -/
theorem gs_lit {w : World} {b n : Nat} {t : TypeId} {us : List Value} {L : List (List Nat)} (h : Row w b t us.toArray) (hn : L.length = n) (hu : us.length = n) (h1 : n ≤ 1000) (hc : ∀ k (h : k < us.length) (h' : k < L.length), Ns w us[k] L[k]) : Gs w (.slice (some ⟨b, 0, none⟩) n n) L := by
  subst hn
  exact ⟨_, _, rfl, ⟨Nat.le_refl _, by unfold maxLen; omega⟩, fun h => (by cases h), fun _ => ⟨b, 0, rfl, fun k hk => ⟨us[k], by rw [Nat.zero_add, h.cell]; simp [show k < us.length by omega], hc k (by omega) hk⟩⟩⟩

theorem lit_p3 (x : World) : Gs ((((x.alloc (.cells #[.int .i64 1, .int .i64 3, .int .i64 5] 3)).alloc (.cells #[.int .i64 0, .int .i64 3, .int .i64 4] 3)).alloc (.cells #[.int .i64 2, .int .i64 3, .int .i64 6] 3)).alloc (.cells #[.slice (some ⟨x.heap.size, 0, none⟩) 3 3, .slice (some ⟨x.heap.size + 1, 0, none⟩) 3 3, .slice (some ⟨x.heap.size + 1 + 1, 0, none⟩) 3 3] 40)) (.slice (some ⟨x.heap.size + 1 + 1 + 1, 0, none⟩) 3 3) [[1, 3, 5], [0, 3, 4], [2, 3, 6]] ∧ Below x.heap.size x ((((x.alloc (.cells #[.int .i64 1, .int .i64 3, .int .i64 5] 3)).alloc (.cells #[.int .i64 0, .int .i64 3, .int .i64 4] 3)).alloc (.cells #[.int .i64 2, .int .i64 3, .int .i64 6] 3)).alloc (.cells #[.slice (some ⟨x.heap.size, 0, none⟩) 3 3, .slice (some ⟨x.heap.size + 1, 0, none⟩) 3 3, .slice (some ⟨x.heap.size + 1 + 1, 0, none⟩) 3 3] 40)) := by
  have b0 : Below x.heap.size x (x.alloc (.cells #[.int .i64 1, .int .i64 3, .int .i64 5] 3)) := (Below.refl _ _).alloc (Nat.le_refl _) _
  have b1 : Below (x.alloc (.cells #[.int .i64 1, .int .i64 3, .int .i64 5] 3)).heap.size (x.alloc (.cells #[.int .i64 1, .int .i64 3, .int .i64 5] 3)) ((x.alloc (.cells #[.int .i64 1, .int .i64 3, .int .i64 5] 3)).alloc (.cells #[.int .i64 0, .int .i64 3, .int .i64 4] 3)) := (Below.refl _ _).alloc (Nat.le_refl _) _
  have b2 : Below ((x.alloc (.cells #[.int .i64 1, .int .i64 3, .int .i64 5] 3)).alloc (.cells #[.int .i64 0, .int .i64 3, .int .i64 4] 3)).heap.size ((x.alloc (.cells #[.int .i64 1, .int .i64 3, .int .i64 5] 3)).alloc (.cells #[.int .i64 0, .int .i64 3, .int .i64 4] 3)) (((x.alloc (.cells #[.int .i64 1, .int .i64 3, .int .i64 5] 3)).alloc (.cells #[.int .i64 0, .int .i64 3, .int .i64 4] 3)).alloc (.cells #[.int .i64 2, .int .i64 3, .int .i64 6] 3)) := (Below.refl _ _).alloc (Nat.le_refl _) _
  have b3 : Below (((x.alloc (.cells #[.int .i64 1, .int .i64 3, .int .i64 5] 3)).alloc (.cells #[.int .i64 0, .int .i64 3, .int .i64 4] 3)).alloc (.cells #[.int .i64 2, .int .i64 3, .int .i64 6] 3)).heap.size (((x.alloc (.cells #[.int .i64 1, .int .i64 3, .int .i64 5] 3)).alloc (.cells #[.int .i64 0, .int .i64 3, .int .i64 4] 3)).alloc (.cells #[.int .i64 2, .int .i64 3, .int .i64 6] 3)) ((((x.alloc (.cells #[.int .i64 1, .int .i64 3, .int .i64 5] 3)).alloc (.cells #[.int .i64 0, .int .i64 3, .int .i64 4] 3)).alloc (.cells #[.int .i64 2, .int .i64 3, .int .i64 6] 3)).alloc (.cells #[.slice (some ⟨x.heap.size, 0, none⟩) 3 3, .slice (some ⟨x.heap.size + 1, 0, none⟩) 3 3, .slice (some ⟨x.heap.size + 1 + 1, 0, none⟩) 3 3] 40)) := (Below.refl _ _).alloc (Nat.le_refl _) _
  have e4 := Below.refl ((((x.alloc (.cells #[.int .i64 1, .int .i64 3, .int .i64 5] 3)).alloc (.cells #[.int .i64 0, .int .i64 3, .int .i64 4] 3)).alloc (.cells #[.int .i64 2, .int .i64 3, .int .i64 6] 3)).alloc (.cells #[.slice (some ⟨x.heap.size, 0, none⟩) 3 3, .slice (some ⟨x.heap.size + 1, 0, none⟩) 3 3, .slice (some ⟨x.heap.size + 1 + 1, 0, none⟩) 3 3] 40)).heap.size ((((x.alloc (.cells #[.int .i64 1, .int .i64 3, .int .i64 5] 3)).alloc (.cells #[.int .i64 0, .int .i64 3, .int .i64 4] 3)).alloc (.cells #[.int .i64 2, .int .i64 3, .int .i64 6] 3)).alloc (.cells #[.slice (some ⟨x.heap.size, 0, none⟩) 3 3, .slice (some ⟨x.heap.size + 1, 0, none⟩) 3 3, .slice (some ⟨x.heap.size + 1 + 1, 0, none⟩) 3 3] 40))
  have e3 := b3.trans (e4.mono b3.size)
  have e2 := b2.trans (e3.mono b2.size)
  have e1 := b1.trans (e2.mono b1.size)
  have e0 := b0.trans (e1.mono b0.size)
  have r0 : Row (x.alloc (.cells #[.int .i64 1, .int .i64 3, .int .i64 5] 3)) (x.heap.size) 3 #[.int .i64 1, .int .i64 3, .int .i64 5] := by
    have := row_new' x #[.int .i64 1, .int .i64 3, .int .i64 5] 3
    exact this
  have n0 := ns_lit (l := [1, 3, 5]) (r0.go e1) rfl (by decide) rfl
  have r1 : Row ((x.alloc (.cells #[.int .i64 1, .int .i64 3, .int .i64 5] 3)).alloc (.cells #[.int .i64 0, .int .i64 3, .int .i64 4] 3)) (x.heap.size + 1) 3 #[.int .i64 0, .int .i64 3, .int .i64 4] := by
    have := row_new' (x.alloc (.cells #[.int .i64 1, .int .i64 3, .int .i64 5] 3)) #[.int .i64 0, .int .i64 3, .int .i64 4] 3
    simp only [World.size_alloc] at this
    exact this
  have n1 := ns_lit (l := [0, 3, 4]) (r1.go e2) rfl (by decide) rfl
  have r2 : Row (((x.alloc (.cells #[.int .i64 1, .int .i64 3, .int .i64 5] 3)).alloc (.cells #[.int .i64 0, .int .i64 3, .int .i64 4] 3)).alloc (.cells #[.int .i64 2, .int .i64 3, .int .i64 6] 3)) (x.heap.size + 1 + 1) 3 #[.int .i64 2, .int .i64 3, .int .i64 6] := by
    have := row_new' ((x.alloc (.cells #[.int .i64 1, .int .i64 3, .int .i64 5] 3)).alloc (.cells #[.int .i64 0, .int .i64 3, .int .i64 4] 3)) #[.int .i64 2, .int .i64 3, .int .i64 6] 3
    simp only [World.size_alloc] at this
    exact this
  have n2 := ns_lit (l := [2, 3, 6]) (r2.go e3) rfl (by decide) rfl
  have rr : Row ((((x.alloc (.cells #[.int .i64 1, .int .i64 3, .int .i64 5] 3)).alloc (.cells #[.int .i64 0, .int .i64 3, .int .i64 4] 3)).alloc (.cells #[.int .i64 2, .int .i64 3, .int .i64 6] 3)).alloc (.cells #[.slice (some ⟨x.heap.size, 0, none⟩) 3 3, .slice (some ⟨x.heap.size + 1, 0, none⟩) 3 3, .slice (some ⟨x.heap.size + 1 + 1, 0, none⟩) 3 3] 40)) (x.heap.size + 1 + 1 + 1) 40 #[.slice (some ⟨x.heap.size, 0, none⟩) 3 3, .slice (some ⟨x.heap.size + 1, 0, none⟩) 3 3, .slice (some ⟨x.heap.size + 1 + 1, 0, none⟩) 3 3] := by
    have := row_new' (((x.alloc (.cells #[.int .i64 1, .int .i64 3, .int .i64 5] 3)).alloc (.cells #[.int .i64 0, .int .i64 3, .int .i64 4] 3)).alloc (.cells #[.int .i64 2, .int .i64 3, .int .i64 6] 3)) #[.slice (some ⟨x.heap.size, 0, none⟩) 3 3, .slice (some ⟨x.heap.size + 1, 0, none⟩) 3 3, .slice (some ⟨x.heap.size + 1 + 1, 0, none⟩) 3 3] 40
    simp only [World.size_alloc] at this
    exact this
  refine ⟨gs_lit (us := [.slice (some ⟨x.heap.size, 0, none⟩) 3 3, .slice (some ⟨x.heap.size + 1, 0, none⟩) 3 3, .slice (some ⟨x.heap.size + 1 + 1, 0, none⟩) 3 3]) (L := [[1, 3, 5], [0, 3, 4], [2, 3, 6]]) rr rfl rfl (by decide) fun k h h' => ?_, e0⟩
  match k, h with
  | 0, _ => exact n0
  | 1, _ => exact n1
  | 2, _ => exact n2
theorem lit_a2 (x : World) : Gs (((((((x.alloc (.cells #[.int .i64 0, .int .i64 2] 3)).alloc (.cells #[.int .i64 1, .int .i64 3] 3)).alloc (.cells #[.int .i64 0, .int .i64 3] 3)).alloc (.cells #[.int .i64 1, .int .i64 2] 3)).alloc (.cells #[.int .i64 0, .int .i64 1] 3)).alloc (.cells #[.int .i64 2, .int .i64 3] 3)).alloc (.cells #[.slice (some ⟨x.heap.size, 0, none⟩) 2 2, .slice (some ⟨x.heap.size + 1, 0, none⟩) 2 2, .slice (some ⟨x.heap.size + 1 + 1, 0, none⟩) 2 2, .slice (some ⟨x.heap.size + 1 + 1 + 1, 0, none⟩) 2 2, .slice (some ⟨x.heap.size + 1 + 1 + 1 + 1, 0, none⟩) 2 2, .slice (some ⟨x.heap.size + 1 + 1 + 1 + 1 + 1, 0, none⟩) 2 2] 40)) (.slice (some ⟨x.heap.size + 1 + 1 + 1 + 1 + 1 + 1, 0, none⟩) 6 6) [[0, 2], [1, 3], [0, 3], [1, 2], [0, 1], [2, 3]] ∧ Below x.heap.size x (((((((x.alloc (.cells #[.int .i64 0, .int .i64 2] 3)).alloc (.cells #[.int .i64 1, .int .i64 3] 3)).alloc (.cells #[.int .i64 0, .int .i64 3] 3)).alloc (.cells #[.int .i64 1, .int .i64 2] 3)).alloc (.cells #[.int .i64 0, .int .i64 1] 3)).alloc (.cells #[.int .i64 2, .int .i64 3] 3)).alloc (.cells #[.slice (some ⟨x.heap.size, 0, none⟩) 2 2, .slice (some ⟨x.heap.size + 1, 0, none⟩) 2 2, .slice (some ⟨x.heap.size + 1 + 1, 0, none⟩) 2 2, .slice (some ⟨x.heap.size + 1 + 1 + 1, 0, none⟩) 2 2, .slice (some ⟨x.heap.size + 1 + 1 + 1 + 1, 0, none⟩) 2 2, .slice (some ⟨x.heap.size + 1 + 1 + 1 + 1 + 1, 0, none⟩) 2 2] 40)) := by
  have b0 : Below x.heap.size x (x.alloc (.cells #[.int .i64 0, .int .i64 2] 3)) := (Below.refl _ _).alloc (Nat.le_refl _) _
  have b1 : Below (x.alloc (.cells #[.int .i64 0, .int .i64 2] 3)).heap.size (x.alloc (.cells #[.int .i64 0, .int .i64 2] 3)) ((x.alloc (.cells #[.int .i64 0, .int .i64 2] 3)).alloc (.cells #[.int .i64 1, .int .i64 3] 3)) := (Below.refl _ _).alloc (Nat.le_refl _) _
  have b2 : Below ((x.alloc (.cells #[.int .i64 0, .int .i64 2] 3)).alloc (.cells #[.int .i64 1, .int .i64 3] 3)).heap.size ((x.alloc (.cells #[.int .i64 0, .int .i64 2] 3)).alloc (.cells #[.int .i64 1, .int .i64 3] 3)) (((x.alloc (.cells #[.int .i64 0, .int .i64 2] 3)).alloc (.cells #[.int .i64 1, .int .i64 3] 3)).alloc (.cells #[.int .i64 0, .int .i64 3] 3)) := (Below.refl _ _).alloc (Nat.le_refl _) _
  have b3 : Below (((x.alloc (.cells #[.int .i64 0, .int .i64 2] 3)).alloc (.cells #[.int .i64 1, .int .i64 3] 3)).alloc (.cells #[.int .i64 0, .int .i64 3] 3)).heap.size (((x.alloc (.cells #[.int .i64 0, .int .i64 2] 3)).alloc (.cells #[.int .i64 1, .int .i64 3] 3)).alloc (.cells #[.int .i64 0, .int .i64 3] 3)) ((((x.alloc (.cells #[.int .i64 0, .int .i64 2] 3)).alloc (.cells #[.int .i64 1, .int .i64 3] 3)).alloc (.cells #[.int .i64 0, .int .i64 3] 3)).alloc (.cells #[.int .i64 1, .int .i64 2] 3)) := (Below.refl _ _).alloc (Nat.le_refl _) _
  have b4 : Below ((((x.alloc (.cells #[.int .i64 0, .int .i64 2] 3)).alloc (.cells #[.int .i64 1, .int .i64 3] 3)).alloc (.cells #[.int .i64 0, .int .i64 3] 3)).alloc (.cells #[.int .i64 1, .int .i64 2] 3)).heap.size ((((x.alloc (.cells #[.int .i64 0, .int .i64 2] 3)).alloc (.cells #[.int .i64 1, .int .i64 3] 3)).alloc (.cells #[.int .i64 0, .int .i64 3] 3)).alloc (.cells #[.int .i64 1, .int .i64 2] 3)) (((((x.alloc (.cells #[.int .i64 0, .int .i64 2] 3)).alloc (.cells #[.int .i64 1, .int .i64 3] 3)).alloc (.cells #[.int .i64 0, .int .i64 3] 3)).alloc (.cells #[.int .i64 1, .int .i64 2] 3)).alloc (.cells #[.int .i64 0, .int .i64 1] 3)) := (Below.refl _ _).alloc (Nat.le_refl _) _
  have b5 : Below (((((x.alloc (.cells #[.int .i64 0, .int .i64 2] 3)).alloc (.cells #[.int .i64 1, .int .i64 3] 3)).alloc (.cells #[.int .i64 0, .int .i64 3] 3)).alloc (.cells #[.int .i64 1, .int .i64 2] 3)).alloc (.cells #[.int .i64 0, .int .i64 1] 3)).heap.size (((((x.alloc (.cells #[.int .i64 0, .int .i64 2] 3)).alloc (.cells #[.int .i64 1, .int .i64 3] 3)).alloc (.cells #[.int .i64 0, .int .i64 3] 3)).alloc (.cells #[.int .i64 1, .int .i64 2] 3)).alloc (.cells #[.int .i64 0, .int .i64 1] 3)) ((((((x.alloc (.cells #[.int .i64 0, .int .i64 2] 3)).alloc (.cells #[.int .i64 1, .int .i64 3] 3)).alloc (.cells #[.int .i64 0, .int .i64 3] 3)).alloc (.cells #[.int .i64 1, .int .i64 2] 3)).alloc (.cells #[.int .i64 0, .int .i64 1] 3)).alloc (.cells #[.int .i64 2, .int .i64 3] 3)) := (Below.refl _ _).alloc (Nat.le_refl _) _
  have b6 : Below ((((((x.alloc (.cells #[.int .i64 0, .int .i64 2] 3)).alloc (.cells #[.int .i64 1, .int .i64 3] 3)).alloc (.cells #[.int .i64 0, .int .i64 3] 3)).alloc (.cells #[.int .i64 1, .int .i64 2] 3)).alloc (.cells #[.int .i64 0, .int .i64 1] 3)).alloc (.cells #[.int .i64 2, .int .i64 3] 3)).heap.size ((((((x.alloc (.cells #[.int .i64 0, .int .i64 2] 3)).alloc (.cells #[.int .i64 1, .int .i64 3] 3)).alloc (.cells #[.int .i64 0, .int .i64 3] 3)).alloc (.cells #[.int .i64 1, .int .i64 2] 3)).alloc (.cells #[.int .i64 0, .int .i64 1] 3)).alloc (.cells #[.int .i64 2, .int .i64 3] 3)) (((((((x.alloc (.cells #[.int .i64 0, .int .i64 2] 3)).alloc (.cells #[.int .i64 1, .int .i64 3] 3)).alloc (.cells #[.int .i64 0, .int .i64 3] 3)).alloc (.cells #[.int .i64 1, .int .i64 2] 3)).alloc (.cells #[.int .i64 0, .int .i64 1] 3)).alloc (.cells #[.int .i64 2, .int .i64 3] 3)).alloc (.cells #[.slice (some ⟨x.heap.size, 0, none⟩) 2 2, .slice (some ⟨x.heap.size + 1, 0, none⟩) 2 2, .slice (some ⟨x.heap.size + 1 + 1, 0, none⟩) 2 2, .slice (some ⟨x.heap.size + 1 + 1 + 1, 0, none⟩) 2 2, .slice (some ⟨x.heap.size + 1 + 1 + 1 + 1, 0, none⟩) 2 2, .slice (some ⟨x.heap.size + 1 + 1 + 1 + 1 + 1, 0, none⟩) 2 2] 40)) := (Below.refl _ _).alloc (Nat.le_refl _) _
  have e7 := Below.refl (((((((x.alloc (.cells #[.int .i64 0, .int .i64 2] 3)).alloc (.cells #[.int .i64 1, .int .i64 3] 3)).alloc (.cells #[.int .i64 0, .int .i64 3] 3)).alloc (.cells #[.int .i64 1, .int .i64 2] 3)).alloc (.cells #[.int .i64 0, .int .i64 1] 3)).alloc (.cells #[.int .i64 2, .int .i64 3] 3)).alloc (.cells #[.slice (some ⟨x.heap.size, 0, none⟩) 2 2, .slice (some ⟨x.heap.size + 1, 0, none⟩) 2 2, .slice (some ⟨x.heap.size + 1 + 1, 0, none⟩) 2 2, .slice (some ⟨x.heap.size + 1 + 1 + 1, 0, none⟩) 2 2, .slice (some ⟨x.heap.size + 1 + 1 + 1 + 1, 0, none⟩) 2 2, .slice (some ⟨x.heap.size + 1 + 1 + 1 + 1 + 1, 0, none⟩) 2 2] 40)).heap.size (((((((x.alloc (.cells #[.int .i64 0, .int .i64 2] 3)).alloc (.cells #[.int .i64 1, .int .i64 3] 3)).alloc (.cells #[.int .i64 0, .int .i64 3] 3)).alloc (.cells #[.int .i64 1, .int .i64 2] 3)).alloc (.cells #[.int .i64 0, .int .i64 1] 3)).alloc (.cells #[.int .i64 2, .int .i64 3] 3)).alloc (.cells #[.slice (some ⟨x.heap.size, 0, none⟩) 2 2, .slice (some ⟨x.heap.size + 1, 0, none⟩) 2 2, .slice (some ⟨x.heap.size + 1 + 1, 0, none⟩) 2 2, .slice (some ⟨x.heap.size + 1 + 1 + 1, 0, none⟩) 2 2, .slice (some ⟨x.heap.size + 1 + 1 + 1 + 1, 0, none⟩) 2 2, .slice (some ⟨x.heap.size + 1 + 1 + 1 + 1 + 1, 0, none⟩) 2 2] 40))
  have e6 := b6.trans (e7.mono b6.size)
  have e5 := b5.trans (e6.mono b5.size)
  have e4 := b4.trans (e5.mono b4.size)
  have e3 := b3.trans (e4.mono b3.size)
  have e2 := b2.trans (e3.mono b2.size)
  have e1 := b1.trans (e2.mono b1.size)
  have e0 := b0.trans (e1.mono b0.size)
  have r0 : Row (x.alloc (.cells #[.int .i64 0, .int .i64 2] 3)) (x.heap.size) 3 #[.int .i64 0, .int .i64 2] := by
    have := row_new' x #[.int .i64 0, .int .i64 2] 3
    exact this
  have n0 := ns_lit (l := [0, 2]) (r0.go e1) rfl (by decide) rfl
  have r1 : Row ((x.alloc (.cells #[.int .i64 0, .int .i64 2] 3)).alloc (.cells #[.int .i64 1, .int .i64 3] 3)) (x.heap.size + 1) 3 #[.int .i64 1, .int .i64 3] := by
    have := row_new' (x.alloc (.cells #[.int .i64 0, .int .i64 2] 3)) #[.int .i64 1, .int .i64 3] 3
    simp only [World.size_alloc] at this
    exact this
  have n1 := ns_lit (l := [1, 3]) (r1.go e2) rfl (by decide) rfl
  have r2 : Row (((x.alloc (.cells #[.int .i64 0, .int .i64 2] 3)).alloc (.cells #[.int .i64 1, .int .i64 3] 3)).alloc (.cells #[.int .i64 0, .int .i64 3] 3)) (x.heap.size + 1 + 1) 3 #[.int .i64 0, .int .i64 3] := by
    have := row_new' ((x.alloc (.cells #[.int .i64 0, .int .i64 2] 3)).alloc (.cells #[.int .i64 1, .int .i64 3] 3)) #[.int .i64 0, .int .i64 3] 3
    simp only [World.size_alloc] at this
    exact this
  have n2 := ns_lit (l := [0, 3]) (r2.go e3) rfl (by decide) rfl
  have r3 : Row ((((x.alloc (.cells #[.int .i64 0, .int .i64 2] 3)).alloc (.cells #[.int .i64 1, .int .i64 3] 3)).alloc (.cells #[.int .i64 0, .int .i64 3] 3)).alloc (.cells #[.int .i64 1, .int .i64 2] 3)) (x.heap.size + 1 + 1 + 1) 3 #[.int .i64 1, .int .i64 2] := by
    have := row_new' (((x.alloc (.cells #[.int .i64 0, .int .i64 2] 3)).alloc (.cells #[.int .i64 1, .int .i64 3] 3)).alloc (.cells #[.int .i64 0, .int .i64 3] 3)) #[.int .i64 1, .int .i64 2] 3
    simp only [World.size_alloc] at this
    exact this
  have n3 := ns_lit (l := [1, 2]) (r3.go e4) rfl (by decide) rfl
  have r4 : Row (((((x.alloc (.cells #[.int .i64 0, .int .i64 2] 3)).alloc (.cells #[.int .i64 1, .int .i64 3] 3)).alloc (.cells #[.int .i64 0, .int .i64 3] 3)).alloc (.cells #[.int .i64 1, .int .i64 2] 3)).alloc (.cells #[.int .i64 0, .int .i64 1] 3)) (x.heap.size + 1 + 1 + 1 + 1) 3 #[.int .i64 0, .int .i64 1] := by
    have := row_new' ((((x.alloc (.cells #[.int .i64 0, .int .i64 2] 3)).alloc (.cells #[.int .i64 1, .int .i64 3] 3)).alloc (.cells #[.int .i64 0, .int .i64 3] 3)).alloc (.cells #[.int .i64 1, .int .i64 2] 3)) #[.int .i64 0, .int .i64 1] 3
    simp only [World.size_alloc] at this
    exact this
  have n4 := ns_lit (l := [0, 1]) (r4.go e5) rfl (by decide) rfl
  have r5 : Row ((((((x.alloc (.cells #[.int .i64 0, .int .i64 2] 3)).alloc (.cells #[.int .i64 1, .int .i64 3] 3)).alloc (.cells #[.int .i64 0, .int .i64 3] 3)).alloc (.cells #[.int .i64 1, .int .i64 2] 3)).alloc (.cells #[.int .i64 0, .int .i64 1] 3)).alloc (.cells #[.int .i64 2, .int .i64 3] 3)) (x.heap.size + 1 + 1 + 1 + 1 + 1) 3 #[.int .i64 2, .int .i64 3] := by
    have := row_new' (((((x.alloc (.cells #[.int .i64 0, .int .i64 2] 3)).alloc (.cells #[.int .i64 1, .int .i64 3] 3)).alloc (.cells #[.int .i64 0, .int .i64 3] 3)).alloc (.cells #[.int .i64 1, .int .i64 2] 3)).alloc (.cells #[.int .i64 0, .int .i64 1] 3)) #[.int .i64 2, .int .i64 3] 3
    simp only [World.size_alloc] at this
    exact this
  have n5 := ns_lit (l := [2, 3]) (r5.go e6) rfl (by decide) rfl
  have rr : Row (((((((x.alloc (.cells #[.int .i64 0, .int .i64 2] 3)).alloc (.cells #[.int .i64 1, .int .i64 3] 3)).alloc (.cells #[.int .i64 0, .int .i64 3] 3)).alloc (.cells #[.int .i64 1, .int .i64 2] 3)).alloc (.cells #[.int .i64 0, .int .i64 1] 3)).alloc (.cells #[.int .i64 2, .int .i64 3] 3)).alloc (.cells #[.slice (some ⟨x.heap.size, 0, none⟩) 2 2, .slice (some ⟨x.heap.size + 1, 0, none⟩) 2 2, .slice (some ⟨x.heap.size + 1 + 1, 0, none⟩) 2 2, .slice (some ⟨x.heap.size + 1 + 1 + 1, 0, none⟩) 2 2, .slice (some ⟨x.heap.size + 1 + 1 + 1 + 1, 0, none⟩) 2 2, .slice (some ⟨x.heap.size + 1 + 1 + 1 + 1 + 1, 0, none⟩) 2 2] 40)) (x.heap.size + 1 + 1 + 1 + 1 + 1 + 1) 40 #[.slice (some ⟨x.heap.size, 0, none⟩) 2 2, .slice (some ⟨x.heap.size + 1, 0, none⟩) 2 2, .slice (some ⟨x.heap.size + 1 + 1, 0, none⟩) 2 2, .slice (some ⟨x.heap.size + 1 + 1 + 1, 0, none⟩) 2 2, .slice (some ⟨x.heap.size + 1 + 1 + 1 + 1, 0, none⟩) 2 2, .slice (some ⟨x.heap.size + 1 + 1 + 1 + 1 + 1, 0, none⟩) 2 2] := by
    have := row_new' ((((((x.alloc (.cells #[.int .i64 0, .int .i64 2] 3)).alloc (.cells #[.int .i64 1, .int .i64 3] 3)).alloc (.cells #[.int .i64 0, .int .i64 3] 3)).alloc (.cells #[.int .i64 1, .int .i64 2] 3)).alloc (.cells #[.int .i64 0, .int .i64 1] 3)).alloc (.cells #[.int .i64 2, .int .i64 3] 3)) #[.slice (some ⟨x.heap.size, 0, none⟩) 2 2, .slice (some ⟨x.heap.size + 1, 0, none⟩) 2 2, .slice (some ⟨x.heap.size + 1 + 1, 0, none⟩) 2 2, .slice (some ⟨x.heap.size + 1 + 1 + 1, 0, none⟩) 2 2, .slice (some ⟨x.heap.size + 1 + 1 + 1 + 1, 0, none⟩) 2 2, .slice (some ⟨x.heap.size + 1 + 1 + 1 + 1 + 1, 0, none⟩) 2 2] 40
    simp only [World.size_alloc] at this
    exact this
  refine ⟨gs_lit (us := [.slice (some ⟨x.heap.size, 0, none⟩) 2 2, .slice (some ⟨x.heap.size + 1, 0, none⟩) 2 2, .slice (some ⟨x.heap.size + 1 + 1, 0, none⟩) 2 2, .slice (some ⟨x.heap.size + 1 + 1 + 1, 0, none⟩) 2 2, .slice (some ⟨x.heap.size + 1 + 1 + 1 + 1, 0, none⟩) 2 2, .slice (some ⟨x.heap.size + 1 + 1 + 1 + 1 + 1, 0, none⟩) 2 2]) (L := [[0, 2], [1, 3], [0, 3], [1, 2], [0, 1], [2, 3]]) rr rfl rfl (by decide) fun k h h' => ?_, e0⟩
  match k, h with
  | 0, _ => exact n0
  | 1, _ => exact n1
  | 2, _ => exact n2
  | 3, _ => exact n3
  | 4, _ => exact n4
  | 5, _ => exact n5
end Go.Proofs.YtnnacofjogfkeaaDoor
