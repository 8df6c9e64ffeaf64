/- Contracts: awake. WRITTEN BY gen_Up.py. -/
import Derived.Test.YtjbgfpbidjhlkaaDoorUo
import Derived.Test.YtjbgfpbidjhlkaaDoorUi
import Derived.Test.YtjbgfpbidjhlkaaDoorUj
namespace Go.Proofs.YtjbgfpbidjhlkaaDoor
open Go Go.RowKit Pl
set_option linter.unusedVariables false
set_option linter.unusedSimpArgs false

def aw6Post (w : World) (e : Ending) (w' : World) : Prop := e = .returned (.bool true) ∧ Below w.heap.size w w'
/-- The first rows of a table. -/
theorem Gs.take {w : World} {A : Option Addr} {n c k : Nat} {L : List (List Nat)} (h : Gs w (.slice A n c) L) (hk : k ≤ n) : Gs w (.slice A k c) (L.take k) := by
  obtain ⟨A', c', he, hm, hz, hc⟩ := h
  injection he with h1 h2 h3
  subst h1 h3
  have hl : (L.take k).length = k := by rw [List.length_take]; omega
  refine ⟨A, c, by rw [hl], ⟨by omega, hm.2⟩, hz, fun hn => ?_⟩
  obtain ⟨b, off, hb, hcell⟩ := hc (by omega)
  refine ⟨b, off, hb, fun j hj => ?_⟩
  obtain ⟨u, hu, hr⟩ := hcell j (by omega)
  exact ⟨u, hu, by rw [List.getElem_take]; exact hr⟩
/-- A literal row. -/
theorem ns_lit {w : World} {b n : Nat} {t : TypeId} {cs : Array Value} {l : List Nat} (h : Row w b t cs) (hn : l.length = n) (h1 : n ≤ 1000) (hc : cs = (l.map fun x : Nat => Value.int .i64 (x : Int)).toArray) : Ns w (.slice (some ⟨b, 0, none⟩) n n) l := by
  subst hn hc
  refine ⟨_, _, rfl, ⟨Nat.le_refl _, by unfold maxLen; omega⟩, fun h => (by cases h), fun _ => ⟨b, 0, rfl, fun k hk => ⟨_, by rw [Nat.zero_add, h.cell]; simp [hk], rfl⟩⟩⟩
/-- A literal table, of rows that lie in a row of slices. -/
theorem gs_lit {w : World} {b n : Nat} {t : TypeId} {us : List Value} {L : List (List Nat)} (h : Row w b t us.toArray) (hn : L.length = n) (hu : us.length = n) (h1 : n ≤ 1000) (hc : ∀ k (h : k < us.length) (h' : k < L.length), Ns w us[k] L[k]) : Gs w (.slice (some ⟨b, 0, none⟩) n n) L := by
  subst hn
  exact ⟨_, _, rfl, ⟨Nat.le_refl _, by unfold maxLen; omega⟩, fun h => (by cases h), fun _ => ⟨b, 0, rfl, fun k hk => ⟨us[k], by rw [Nat.zero_add, h.cell]; simp [show k < us.length by omega], hc k (by omega) hk⟩⟩⟩

theorem lit_p3 (x : World) : Gs ((((x.alloc (.cells #[.int .i64 1, .int .i64 3, .int .i64 5] 3)).alloc (.cells #[.int .i64 0, .int .i64 3, .int .i64 4] 3)).alloc (.cells #[.int .i64 2, .int .i64 3, .int .i64 6] 3)).alloc (.cells #[.slice (some ⟨x.heap.size, 0, none⟩) 3 3, .slice (some ⟨x.heap.size + 1, 0, none⟩) 3 3, .slice (some ⟨x.heap.size + 1 + 1, 0, none⟩) 3 3] 37)) (.slice (some ⟨x.heap.size + 1 + 1 + 1, 0, none⟩) 3 3) [[1, 3, 5], [0, 3, 4], [2, 3, 6]] ∧ Below x.heap.size x ((((x.alloc (.cells #[.int .i64 1, .int .i64 3, .int .i64 5] 3)).alloc (.cells #[.int .i64 0, .int .i64 3, .int .i64 4] 3)).alloc (.cells #[.int .i64 2, .int .i64 3, .int .i64 6] 3)).alloc (.cells #[.slice (some ⟨x.heap.size, 0, none⟩) 3 3, .slice (some ⟨x.heap.size + 1, 0, none⟩) 3 3, .slice (some ⟨x.heap.size + 1 + 1, 0, none⟩) 3 3] 37)) := by
  have b0 : Below x.heap.size x (x.alloc (.cells #[.int .i64 1, .int .i64 3, .int .i64 5] 3)) := (Below.refl _ _).alloc (Nat.le_refl _) _
  have b1 : Below (x.alloc (.cells #[.int .i64 1, .int .i64 3, .int .i64 5] 3)).heap.size (x.alloc (.cells #[.int .i64 1, .int .i64 3, .int .i64 5] 3)) ((x.alloc (.cells #[.int .i64 1, .int .i64 3, .int .i64 5] 3)).alloc (.cells #[.int .i64 0, .int .i64 3, .int .i64 4] 3)) := (Below.refl _ _).alloc (Nat.le_refl _) _
  have b2 : Below ((x.alloc (.cells #[.int .i64 1, .int .i64 3, .int .i64 5] 3)).alloc (.cells #[.int .i64 0, .int .i64 3, .int .i64 4] 3)).heap.size ((x.alloc (.cells #[.int .i64 1, .int .i64 3, .int .i64 5] 3)).alloc (.cells #[.int .i64 0, .int .i64 3, .int .i64 4] 3)) (((x.alloc (.cells #[.int .i64 1, .int .i64 3, .int .i64 5] 3)).alloc (.cells #[.int .i64 0, .int .i64 3, .int .i64 4] 3)).alloc (.cells #[.int .i64 2, .int .i64 3, .int .i64 6] 3)) := (Below.refl _ _).alloc (Nat.le_refl _) _
  have b3 : Below (((x.alloc (.cells #[.int .i64 1, .int .i64 3, .int .i64 5] 3)).alloc (.cells #[.int .i64 0, .int .i64 3, .int .i64 4] 3)).alloc (.cells #[.int .i64 2, .int .i64 3, .int .i64 6] 3)).heap.size (((x.alloc (.cells #[.int .i64 1, .int .i64 3, .int .i64 5] 3)).alloc (.cells #[.int .i64 0, .int .i64 3, .int .i64 4] 3)).alloc (.cells #[.int .i64 2, .int .i64 3, .int .i64 6] 3)) ((((x.alloc (.cells #[.int .i64 1, .int .i64 3, .int .i64 5] 3)).alloc (.cells #[.int .i64 0, .int .i64 3, .int .i64 4] 3)).alloc (.cells #[.int .i64 2, .int .i64 3, .int .i64 6] 3)).alloc (.cells #[.slice (some ⟨x.heap.size, 0, none⟩) 3 3, .slice (some ⟨x.heap.size + 1, 0, none⟩) 3 3, .slice (some ⟨x.heap.size + 1 + 1, 0, none⟩) 3 3] 37)) := (Below.refl _ _).alloc (Nat.le_refl _) _
  have e4 := Below.refl ((((x.alloc (.cells #[.int .i64 1, .int .i64 3, .int .i64 5] 3)).alloc (.cells #[.int .i64 0, .int .i64 3, .int .i64 4] 3)).alloc (.cells #[.int .i64 2, .int .i64 3, .int .i64 6] 3)).alloc (.cells #[.slice (some ⟨x.heap.size, 0, none⟩) 3 3, .slice (some ⟨x.heap.size + 1, 0, none⟩) 3 3, .slice (some ⟨x.heap.size + 1 + 1, 0, none⟩) 3 3] 37)).heap.size ((((x.alloc (.cells #[.int .i64 1, .int .i64 3, .int .i64 5] 3)).alloc (.cells #[.int .i64 0, .int .i64 3, .int .i64 4] 3)).alloc (.cells #[.int .i64 2, .int .i64 3, .int .i64 6] 3)).alloc (.cells #[.slice (some ⟨x.heap.size, 0, none⟩) 3 3, .slice (some ⟨x.heap.size + 1, 0, none⟩) 3 3, .slice (some ⟨x.heap.size + 1 + 1, 0, none⟩) 3 3] 37))
  have e3 := b3.trans (e4.mono b3.size)
  have e2 := b2.trans (e3.mono b2.size)
  have e1 := b1.trans (e2.mono b1.size)
  have e0 := b0.trans (e1.mono b0.size)
  have r0 : Row (x.alloc (.cells #[.int .i64 1, .int .i64 3, .int .i64 5] 3)) (x.heap.size) 3 #[.int .i64 1, .int .i64 3, .int .i64 5] := by
    have := row_new' x #[.int .i64 1, .int .i64 3, .int .i64 5] 3
    exact this
  have n0 := ns_lit (l := [1, 3, 5]) (r0.go e1) rfl (by decide) rfl
  have r1 : Row ((x.alloc (.cells #[.int .i64 1, .int .i64 3, .int .i64 5] 3)).alloc (.cells #[.int .i64 0, .int .i64 3, .int .i64 4] 3)) (x.heap.size + 1) 3 #[.int .i64 0, .int .i64 3, .int .i64 4] := by
    have := row_new' (x.alloc (.cells #[.int .i64 1, .int .i64 3, .int .i64 5] 3)) #[.int .i64 0, .int .i64 3, .int .i64 4] 3
    simp only [World.size_alloc] at this
    exact this
  have n1 := ns_lit (l := [0, 3, 4]) (r1.go e2) rfl (by decide) rfl
  have r2 : Row (((x.alloc (.cells #[.int .i64 1, .int .i64 3, .int .i64 5] 3)).alloc (.cells #[.int .i64 0, .int .i64 3, .int .i64 4] 3)).alloc (.cells #[.int .i64 2, .int .i64 3, .int .i64 6] 3)) (x.heap.size + 1 + 1) 3 #[.int .i64 2, .int .i64 3, .int .i64 6] := by
    have := row_new' ((x.alloc (.cells #[.int .i64 1, .int .i64 3, .int .i64 5] 3)).alloc (.cells #[.int .i64 0, .int .i64 3, .int .i64 4] 3)) #[.int .i64 2, .int .i64 3, .int .i64 6] 3
    simp only [World.size_alloc] at this
    exact this
  have n2 := ns_lit (l := [2, 3, 6]) (r2.go e3) rfl (by decide) rfl
  have rr : Row ((((x.alloc (.cells #[.int .i64 1, .int .i64 3, .int .i64 5] 3)).alloc (.cells #[.int .i64 0, .int .i64 3, .int .i64 4] 3)).alloc (.cells #[.int .i64 2, .int .i64 3, .int .i64 6] 3)).alloc (.cells #[.slice (some ⟨x.heap.size, 0, none⟩) 3 3, .slice (some ⟨x.heap.size + 1, 0, none⟩) 3 3, .slice (some ⟨x.heap.size + 1 + 1, 0, none⟩) 3 3] 37)) (x.heap.size + 1 + 1 + 1) 37 #[.slice (some ⟨x.heap.size, 0, none⟩) 3 3, .slice (some ⟨x.heap.size + 1, 0, none⟩) 3 3, .slice (some ⟨x.heap.size + 1 + 1, 0, none⟩) 3 3] := by
    have := row_new' (((x.alloc (.cells #[.int .i64 1, .int .i64 3, .int .i64 5] 3)).alloc (.cells #[.int .i64 0, .int .i64 3, .int .i64 4] 3)).alloc (.cells #[.int .i64 2, .int .i64 3, .int .i64 6] 3)) #[.slice (some ⟨x.heap.size, 0, none⟩) 3 3, .slice (some ⟨x.heap.size + 1, 0, none⟩) 3 3, .slice (some ⟨x.heap.size + 1 + 1, 0, none⟩) 3 3] 37
    simp only [World.size_alloc] at this
    exact this
  refine ⟨gs_lit (us := [.slice (some ⟨x.heap.size, 0, none⟩) 3 3, .slice (some ⟨x.heap.size + 1, 0, none⟩) 3 3, .slice (some ⟨x.heap.size + 1 + 1, 0, none⟩) 3 3]) (L := [[1, 3, 5], [0, 3, 4], [2, 3, 6]]) rr rfl rfl (by decide) fun k h h' => ?_, e0⟩
  match k, h with
  | 0, _ => exact n0
  | 1, _ => exact n1
  | 2, _ => exact n2
theorem lit_a2 (x : World) : Gs (((((((x.alloc (.cells #[.int .i64 0, .int .i64 2] 3)).alloc (.cells #[.int .i64 1, .int .i64 3] 3)).alloc (.cells #[.int .i64 0, .int .i64 3] 3)).alloc (.cells #[.int .i64 1, .int .i64 2] 3)).alloc (.cells #[.int .i64 0, .int .i64 1] 3)).alloc (.cells #[.int .i64 2, .int .i64 3] 3)).alloc (.cells #[.slice (some ⟨x.heap.size, 0, none⟩) 2 2, .slice (some ⟨x.heap.size + 1, 0, none⟩) 2 2, .slice (some ⟨x.heap.size + 1 + 1, 0, none⟩) 2 2, .slice (some ⟨x.heap.size + 1 + 1 + 1, 0, none⟩) 2 2, .slice (some ⟨x.heap.size + 1 + 1 + 1 + 1, 0, none⟩) 2 2, .slice (some ⟨x.heap.size + 1 + 1 + 1 + 1 + 1, 0, none⟩) 2 2] 37)) (.slice (some ⟨x.heap.size + 1 + 1 + 1 + 1 + 1 + 1, 0, none⟩) 6 6) [[0, 2], [1, 3], [0, 3], [1, 2], [0, 1], [2, 3]] ∧ Below x.heap.size x (((((((x.alloc (.cells #[.int .i64 0, .int .i64 2] 3)).alloc (.cells #[.int .i64 1, .int .i64 3] 3)).alloc (.cells #[.int .i64 0, .int .i64 3] 3)).alloc (.cells #[.int .i64 1, .int .i64 2] 3)).alloc (.cells #[.int .i64 0, .int .i64 1] 3)).alloc (.cells #[.int .i64 2, .int .i64 3] 3)).alloc (.cells #[.slice (some ⟨x.heap.size, 0, none⟩) 2 2, .slice (some ⟨x.heap.size + 1, 0, none⟩) 2 2, .slice (some ⟨x.heap.size + 1 + 1, 0, none⟩) 2 2, .slice (some ⟨x.heap.size + 1 + 1 + 1, 0, none⟩) 2 2, .slice (some ⟨x.heap.size + 1 + 1 + 1 + 1, 0, none⟩) 2 2, .slice (some ⟨x.heap.size + 1 + 1 + 1 + 1 + 1, 0, none⟩) 2 2] 37)) := by
  have b0 : Below x.heap.size x (x.alloc (.cells #[.int .i64 0, .int .i64 2] 3)) := (Below.refl _ _).alloc (Nat.le_refl _) _
  have b1 : Below (x.alloc (.cells #[.int .i64 0, .int .i64 2] 3)).heap.size (x.alloc (.cells #[.int .i64 0, .int .i64 2] 3)) ((x.alloc (.cells #[.int .i64 0, .int .i64 2] 3)).alloc (.cells #[.int .i64 1, .int .i64 3] 3)) := (Below.refl _ _).alloc (Nat.le_refl _) _
  have b2 : Below ((x.alloc (.cells #[.int .i64 0, .int .i64 2] 3)).alloc (.cells #[.int .i64 1, .int .i64 3] 3)).heap.size ((x.alloc (.cells #[.int .i64 0, .int .i64 2] 3)).alloc (.cells #[.int .i64 1, .int .i64 3] 3)) (((x.alloc (.cells #[.int .i64 0, .int .i64 2] 3)).alloc (.cells #[.int .i64 1, .int .i64 3] 3)).alloc (.cells #[.int .i64 0, .int .i64 3] 3)) := (Below.refl _ _).alloc (Nat.le_refl _) _
  have b3 : Below (((x.alloc (.cells #[.int .i64 0, .int .i64 2] 3)).alloc (.cells #[.int .i64 1, .int .i64 3] 3)).alloc (.cells #[.int .i64 0, .int .i64 3] 3)).heap.size (((x.alloc (.cells #[.int .i64 0, .int .i64 2] 3)).alloc (.cells #[.int .i64 1, .int .i64 3] 3)).alloc (.cells #[.int .i64 0, .int .i64 3] 3)) ((((x.alloc (.cells #[.int .i64 0, .int .i64 2] 3)).alloc (.cells #[.int .i64 1, .int .i64 3] 3)).alloc (.cells #[.int .i64 0, .int .i64 3] 3)).alloc (.cells #[.int .i64 1, .int .i64 2] 3)) := (Below.refl _ _).alloc (Nat.le_refl _) _
  have b4 : Below ((((x.alloc (.cells #[.int .i64 0, .int .i64 2] 3)).alloc (.cells #[.int .i64 1, .int .i64 3] 3)).alloc (.cells #[.int .i64 0, .int .i64 3] 3)).alloc (.cells #[.int .i64 1, .int .i64 2] 3)).heap.size ((((x.alloc (.cells #[.int .i64 0, .int .i64 2] 3)).alloc (.cells #[.int .i64 1, .int .i64 3] 3)).alloc (.cells #[.int .i64 0, .int .i64 3] 3)).alloc (.cells #[.int .i64 1, .int .i64 2] 3)) (((((x.alloc (.cells #[.int .i64 0, .int .i64 2] 3)).alloc (.cells #[.int .i64 1, .int .i64 3] 3)).alloc (.cells #[.int .i64 0, .int .i64 3] 3)).alloc (.cells #[.int .i64 1, .int .i64 2] 3)).alloc (.cells #[.int .i64 0, .int .i64 1] 3)) := (Below.refl _ _).alloc (Nat.le_refl _) _
  have b5 : Below (((((x.alloc (.cells #[.int .i64 0, .int .i64 2] 3)).alloc (.cells #[.int .i64 1, .int .i64 3] 3)).alloc (.cells #[.int .i64 0, .int .i64 3] 3)).alloc (.cells #[.int .i64 1, .int .i64 2] 3)).alloc (.cells #[.int .i64 0, .int .i64 1] 3)).heap.size (((((x.alloc (.cells #[.int .i64 0, .int .i64 2] 3)).alloc (.cells #[.int .i64 1, .int .i64 3] 3)).alloc (.cells #[.int .i64 0, .int .i64 3] 3)).alloc (.cells #[.int .i64 1, .int .i64 2] 3)).alloc (.cells #[.int .i64 0, .int .i64 1] 3)) ((((((x.alloc (.cells #[.int .i64 0, .int .i64 2] 3)).alloc (.cells #[.int .i64 1, .int .i64 3] 3)).alloc (.cells #[.int .i64 0, .int .i64 3] 3)).alloc (.cells #[.int .i64 1, .int .i64 2] 3)).alloc (.cells #[.int .i64 0, .int .i64 1] 3)).alloc (.cells #[.int .i64 2, .int .i64 3] 3)) := (Below.refl _ _).alloc (Nat.le_refl _) _
  have b6 : Below ((((((x.alloc (.cells #[.int .i64 0, .int .i64 2] 3)).alloc (.cells #[.int .i64 1, .int .i64 3] 3)).alloc (.cells #[.int .i64 0, .int .i64 3] 3)).alloc (.cells #[.int .i64 1, .int .i64 2] 3)).alloc (.cells #[.int .i64 0, .int .i64 1] 3)).alloc (.cells #[.int .i64 2, .int .i64 3] 3)).heap.size ((((((x.alloc (.cells #[.int .i64 0, .int .i64 2] 3)).alloc (.cells #[.int .i64 1, .int .i64 3] 3)).alloc (.cells #[.int .i64 0, .int .i64 3] 3)).alloc (.cells #[.int .i64 1, .int .i64 2] 3)).alloc (.cells #[.int .i64 0, .int .i64 1] 3)).alloc (.cells #[.int .i64 2, .int .i64 3] 3)) (((((((x.alloc (.cells #[.int .i64 0, .int .i64 2] 3)).alloc (.cells #[.int .i64 1, .int .i64 3] 3)).alloc (.cells #[.int .i64 0, .int .i64 3] 3)).alloc (.cells #[.int .i64 1, .int .i64 2] 3)).alloc (.cells #[.int .i64 0, .int .i64 1] 3)).alloc (.cells #[.int .i64 2, .int .i64 3] 3)).alloc (.cells #[.slice (some ⟨x.heap.size, 0, none⟩) 2 2, .slice (some ⟨x.heap.size + 1, 0, none⟩) 2 2, .slice (some ⟨x.heap.size + 1 + 1, 0, none⟩) 2 2, .slice (some ⟨x.heap.size + 1 + 1 + 1, 0, none⟩) 2 2, .slice (some ⟨x.heap.size + 1 + 1 + 1 + 1, 0, none⟩) 2 2, .slice (some ⟨x.heap.size + 1 + 1 + 1 + 1 + 1, 0, none⟩) 2 2] 37)) := (Below.refl _ _).alloc (Nat.le_refl _) _
  have e7 := Below.refl (((((((x.alloc (.cells #[.int .i64 0, .int .i64 2] 3)).alloc (.cells #[.int .i64 1, .int .i64 3] 3)).alloc (.cells #[.int .i64 0, .int .i64 3] 3)).alloc (.cells #[.int .i64 1, .int .i64 2] 3)).alloc (.cells #[.int .i64 0, .int .i64 1] 3)).alloc (.cells #[.int .i64 2, .int .i64 3] 3)).alloc (.cells #[.slice (some ⟨x.heap.size, 0, none⟩) 2 2, .slice (some ⟨x.heap.size + 1, 0, none⟩) 2 2, .slice (some ⟨x.heap.size + 1 + 1, 0, none⟩) 2 2, .slice (some ⟨x.heap.size + 1 + 1 + 1, 0, none⟩) 2 2, .slice (some ⟨x.heap.size + 1 + 1 + 1 + 1, 0, none⟩) 2 2, .slice (some ⟨x.heap.size + 1 + 1 + 1 + 1 + 1, 0, none⟩) 2 2] 37)).heap.size (((((((x.alloc (.cells #[.int .i64 0, .int .i64 2] 3)).alloc (.cells #[.int .i64 1, .int .i64 3] 3)).alloc (.cells #[.int .i64 0, .int .i64 3] 3)).alloc (.cells #[.int .i64 1, .int .i64 2] 3)).alloc (.cells #[.int .i64 0, .int .i64 1] 3)).alloc (.cells #[.int .i64 2, .int .i64 3] 3)).alloc (.cells #[.slice (some ⟨x.heap.size, 0, none⟩) 2 2, .slice (some ⟨x.heap.size + 1, 0, none⟩) 2 2, .slice (some ⟨x.heap.size + 1 + 1, 0, none⟩) 2 2, .slice (some ⟨x.heap.size + 1 + 1 + 1, 0, none⟩) 2 2, .slice (some ⟨x.heap.size + 1 + 1 + 1 + 1, 0, none⟩) 2 2, .slice (some ⟨x.heap.size + 1 + 1 + 1 + 1 + 1, 0, none⟩) 2 2] 37))
  have e6 := b6.trans (e7.mono b6.size)
  have e5 := b5.trans (e6.mono b5.size)
  have e4 := b4.trans (e5.mono b4.size)
  have e3 := b3.trans (e4.mono b3.size)
  have e2 := b2.trans (e3.mono b2.size)
  have e1 := b1.trans (e2.mono b1.size)
  have e0 := b0.trans (e1.mono b0.size)
  have r0 : Row (x.alloc (.cells #[.int .i64 0, .int .i64 2] 3)) (x.heap.size) 3 #[.int .i64 0, .int .i64 2] := by
    have := row_new' x #[.int .i64 0, .int .i64 2] 3
    exact this
  have n0 := ns_lit (l := [0, 2]) (r0.go e1) rfl (by decide) rfl
  have r1 : Row ((x.alloc (.cells #[.int .i64 0, .int .i64 2] 3)).alloc (.cells #[.int .i64 1, .int .i64 3] 3)) (x.heap.size + 1) 3 #[.int .i64 1, .int .i64 3] := by
    have := row_new' (x.alloc (.cells #[.int .i64 0, .int .i64 2] 3)) #[.int .i64 1, .int .i64 3] 3
    simp only [World.size_alloc] at this
    exact this
  have n1 := ns_lit (l := [1, 3]) (r1.go e2) rfl (by decide) rfl
  have r2 : Row (((x.alloc (.cells #[.int .i64 0, .int .i64 2] 3)).alloc (.cells #[.int .i64 1, .int .i64 3] 3)).alloc (.cells #[.int .i64 0, .int .i64 3] 3)) (x.heap.size + 1 + 1) 3 #[.int .i64 0, .int .i64 3] := by
    have := row_new' ((x.alloc (.cells #[.int .i64 0, .int .i64 2] 3)).alloc (.cells #[.int .i64 1, .int .i64 3] 3)) #[.int .i64 0, .int .i64 3] 3
    simp only [World.size_alloc] at this
    exact this
  have n2 := ns_lit (l := [0, 3]) (r2.go e3) rfl (by decide) rfl
  have r3 : Row ((((x.alloc (.cells #[.int .i64 0, .int .i64 2] 3)).alloc (.cells #[.int .i64 1, .int .i64 3] 3)).alloc (.cells #[.int .i64 0, .int .i64 3] 3)).alloc (.cells #[.int .i64 1, .int .i64 2] 3)) (x.heap.size + 1 + 1 + 1) 3 #[.int .i64 1, .int .i64 2] := by
    have := row_new' (((x.alloc (.cells #[.int .i64 0, .int .i64 2] 3)).alloc (.cells #[.int .i64 1, .int .i64 3] 3)).alloc (.cells #[.int .i64 0, .int .i64 3] 3)) #[.int .i64 1, .int .i64 2] 3
    simp only [World.size_alloc] at this
    exact this
  have n3 := ns_lit (l := [1, 2]) (r3.go e4) rfl (by decide) rfl
  have r4 : Row (((((x.alloc (.cells #[.int .i64 0, .int .i64 2] 3)).alloc (.cells #[.int .i64 1, .int .i64 3] 3)).alloc (.cells #[.int .i64 0, .int .i64 3] 3)).alloc (.cells #[.int .i64 1, .int .i64 2] 3)).alloc (.cells #[.int .i64 0, .int .i64 1] 3)) (x.heap.size + 1 + 1 + 1 + 1) 3 #[.int .i64 0, .int .i64 1] := by
    have := row_new' ((((x.alloc (.cells #[.int .i64 0, .int .i64 2] 3)).alloc (.cells #[.int .i64 1, .int .i64 3] 3)).alloc (.cells #[.int .i64 0, .int .i64 3] 3)).alloc (.cells #[.int .i64 1, .int .i64 2] 3)) #[.int .i64 0, .int .i64 1] 3
    simp only [World.size_alloc] at this
    exact this
  have n4 := ns_lit (l := [0, 1]) (r4.go e5) rfl (by decide) rfl
  have r5 : Row ((((((x.alloc (.cells #[.int .i64 0, .int .i64 2] 3)).alloc (.cells #[.int .i64 1, .int .i64 3] 3)).alloc (.cells #[.int .i64 0, .int .i64 3] 3)).alloc (.cells #[.int .i64 1, .int .i64 2] 3)).alloc (.cells #[.int .i64 0, .int .i64 1] 3)).alloc (.cells #[.int .i64 2, .int .i64 3] 3)) (x.heap.size + 1 + 1 + 1 + 1 + 1) 3 #[.int .i64 2, .int .i64 3] := by
    have := row_new' (((((x.alloc (.cells #[.int .i64 0, .int .i64 2] 3)).alloc (.cells #[.int .i64 1, .int .i64 3] 3)).alloc (.cells #[.int .i64 0, .int .i64 3] 3)).alloc (.cells #[.int .i64 1, .int .i64 2] 3)).alloc (.cells #[.int .i64 0, .int .i64 1] 3)) #[.int .i64 2, .int .i64 3] 3
    simp only [World.size_alloc] at this
    exact this
  have n5 := ns_lit (l := [2, 3]) (r5.go e6) rfl (by decide) rfl
  have rr : Row (((((((x.alloc (.cells #[.int .i64 0, .int .i64 2] 3)).alloc (.cells #[.int .i64 1, .int .i64 3] 3)).alloc (.cells #[.int .i64 0, .int .i64 3] 3)).alloc (.cells #[.int .i64 1, .int .i64 2] 3)).alloc (.cells #[.int .i64 0, .int .i64 1] 3)).alloc (.cells #[.int .i64 2, .int .i64 3] 3)).alloc (.cells #[.slice (some ⟨x.heap.size, 0, none⟩) 2 2, .slice (some ⟨x.heap.size + 1, 0, none⟩) 2 2, .slice (some ⟨x.heap.size + 1 + 1, 0, none⟩) 2 2, .slice (some ⟨x.heap.size + 1 + 1 + 1, 0, none⟩) 2 2, .slice (some ⟨x.heap.size + 1 + 1 + 1 + 1, 0, none⟩) 2 2, .slice (some ⟨x.heap.size + 1 + 1 + 1 + 1 + 1, 0, none⟩) 2 2] 37)) (x.heap.size + 1 + 1 + 1 + 1 + 1 + 1) 37 #[.slice (some ⟨x.heap.size, 0, none⟩) 2 2, .slice (some ⟨x.heap.size + 1, 0, none⟩) 2 2, .slice (some ⟨x.heap.size + 1 + 1, 0, none⟩) 2 2, .slice (some ⟨x.heap.size + 1 + 1 + 1, 0, none⟩) 2 2, .slice (some ⟨x.heap.size + 1 + 1 + 1 + 1, 0, none⟩) 2 2, .slice (some ⟨x.heap.size + 1 + 1 + 1 + 1 + 1, 0, none⟩) 2 2] := by
    have := row_new' ((((((x.alloc (.cells #[.int .i64 0, .int .i64 2] 3)).alloc (.cells #[.int .i64 1, .int .i64 3] 3)).alloc (.cells #[.int .i64 0, .int .i64 3] 3)).alloc (.cells #[.int .i64 1, .int .i64 2] 3)).alloc (.cells #[.int .i64 0, .int .i64 1] 3)).alloc (.cells #[.int .i64 2, .int .i64 3] 3)) #[.slice (some ⟨x.heap.size, 0, none⟩) 2 2, .slice (some ⟨x.heap.size + 1, 0, none⟩) 2 2, .slice (some ⟨x.heap.size + 1 + 1, 0, none⟩) 2 2, .slice (some ⟨x.heap.size + 1 + 1 + 1, 0, none⟩) 2 2, .slice (some ⟨x.heap.size + 1 + 1 + 1 + 1, 0, none⟩) 2 2, .slice (some ⟨x.heap.size + 1 + 1 + 1 + 1 + 1, 0, none⟩) 2 2] 37
    simp only [World.size_alloc] at this
    exact this
  refine ⟨gs_lit (us := [.slice (some ⟨x.heap.size, 0, none⟩) 2 2, .slice (some ⟨x.heap.size + 1, 0, none⟩) 2 2, .slice (some ⟨x.heap.size + 1 + 1, 0, none⟩) 2 2, .slice (some ⟨x.heap.size + 1 + 1 + 1, 0, none⟩) 2 2, .slice (some ⟨x.heap.size + 1 + 1 + 1 + 1, 0, none⟩) 2 2, .slice (some ⟨x.heap.size + 1 + 1 + 1 + 1 + 1, 0, none⟩) 2 2]) (L := [[0, 2], [1, 3], [0, 3], [1, 2], [0, 1], [2, 3]]) rr rfl rfl (by decide) fun k h h' => ?_, e0⟩
  match k, h with
  | 0, _ => exact n0
  | 1, _ => exact n1
  | 2, _ => exact n2
  | 3, _ => exact n3
  | 4, _ => exact n4
  | 5, _ => exact n5
set_option maxHeartbeats 4000000 in
set_option maxRecDepth 100000 in
theorem awake6 (w : World) (hK : Kd w) : Calls Tryd.prog 11 #[] w (aw6Post w) := by
  have HK0 := Lib.hid hK
  have C1 := Lib.hid (proj_ok 2 w hK (by decide))
  have C2 := Lib.hid fun W (h : Kd W) => affine_ok 2 W h (by decide)
  have C3 := Lib.hid fun W (h : Kd W) => meet_of _ _ _ _ _ W (com_ok 2 0 1 W h (by decide) (by decide) (by decide) (by decide))
  rw [show meet 2 0 1 = 3 by decide +kernel] at C3
  rw [show cN 2 = 7 from rfl] at C1
  clear hK
  go_enter Tryd.func11, Tryd.ntmps11
  go_wp2_with fail
  refine (C1.out).mono ?_
  rintro e x2 ⟨v1, rfl, hg3, hb1⟩
  obtain ⟨A1, k1, rfl⟩ := slform hg3
  rw [show ((List.range 7).map (line 2)).length = 7 by simp] at hg3 ⊢
  have hq4 : Below w.heap.size w x2 := hb1
  have K_5 := Lib.hid (Kd.below HK0.out hq4)
  have HB_6 : Hid (Below w.heap.size w x2) := Lib.hid (hq4)
  clear hq4
  have G1_ := Lib.hid hg3
  unfold dv
  have hba : Below x2.heap.size x2 (x2.alloc (.cells #[.int .i64 7, .slice A1 7 k1] 25)) := (Below.refl _ _).alloc (Nat.le_refl _) _
  have RW1 := Lib.hid (row_new' x2 #[.int .i64 7, .slice A1 7 k1] 25)
  clear hb1 hg3
  go_wp2_with fail
  obtain ⟨D1, hD1⟩ : ∃ D, x2.heap.size = D := ⟨_, rfl⟩
  rw [hD1] at RW1 ⊢
  obtain ⟨y7, hy⟩ : ∃ y, (x2.alloc (.cells #[.int .i64 7, .slice A1 7 k1] 25)) = y := ⟨_, rfl⟩
  rw [hy] at RW1 hba ⊢
  have hq8 : Below x2.heap.size x2 y7 := hba
  have K_9 := Lib.hid (Kd.below K_5.out hq8)
  have G1_10 := Lib.hid (Gs.to G1_.out hq8)
  have HB_11 : Hid (Below w.heap.size w y7) := Lib.hid (HB_6.out.trans (hq8.mono HB_6.out.size))
  clear hq8
  clear hy hba hD1
  refine (C2.out _ K_9.out).mono ?_
  rintro e x13 ⟨v2, rfl, hg14, hb12⟩
  obtain ⟨A2, k2, rfl⟩ := slform hg14
  rw [show ((List.range (2 * 2 + 2)).map (aff 2)).length = 6 by simp] at hg14 ⊢
  have hq15 : Below y7.heap.size y7 x13 := hb12
  have K_16 := Lib.hid (Kd.below K_9.out hq15)
  have G1_17 := Lib.hid (Gs.to G1_10.out hq15)
  have R1_18 := Lib.hid (Row.go RW1.out hq15)
  have HB_19 : Hid (Below w.heap.size w x13) := Lib.hid (HB_11.out.trans (hq15.mono HB_11.out.size))
  clear hq15
  have G2_ := Lib.hid hg14
  unfold dv
  have hba : Below x13.heap.size x13 (x13.alloc (.cells #[.int .i64 4, .slice A2 6 k2] 25)) := (Below.refl _ _).alloc (Nat.le_refl _) _
  have RW2 := Lib.hid (row_new' x13 #[.int .i64 4, .slice A2 6 k2] 25)
  clear hb12 hg14
  go_wp2_with fail
  obtain ⟨D2, hD2⟩ : ∃ D, x13.heap.size = D := ⟨_, rfl⟩
  rw [hD2] at RW2 ⊢
  obtain ⟨y20, hy⟩ : ∃ y, (x13.alloc (.cells #[.int .i64 4, .slice A2 6 k2] 25)) = y := ⟨_, rfl⟩
  rw [hy] at RW2 hba ⊢
  have hq21 : Below x13.heap.size x13 y20 := hba
  have K_22 := Lib.hid (Kd.below K_16.out hq21)
  have G1_23 := Lib.hid (Gs.to G1_17.out hq21)
  have R1_24 := Lib.hid (Row.go R1_18.out hq21)
  have G2_25 := Lib.hid (Gs.to G2_.out hq21)
  have HB_26 : Hid (Below w.heap.size w y20) := Lib.hid (HB_19.out.trans (hq21.mono HB_19.out.size))
  clear hq21
  clear hy hba hD2
  refine (C3.out _ K_22.out).mono ?_
  rintro e x28 ⟨rfl, hb27⟩
  have hq29 : Below y20.heap.size y20 x28 := hb27
  have K_30 := Lib.hid (Kd.below K_22.out hq29)
  have G1_31 := Lib.hid (Gs.to G1_23.out hq29)
  have R1_32 := Lib.hid (Row.go R1_24.out hq29)
  have G2_33 := Lib.hid (Gs.to G2_25.out hq29)
  have R2_34 := Lib.hid (Row.go RW2.out hq29)
  have HB_35 : Hid (Below w.heap.size w x28) := Lib.hid (HB_26.out.trans (hq29.mono HB_26.out.size))
  clear hq29
  clear hb27
  have c1 := R1_32.out.cell 0
  have c2 := R1_32.out.cell 1
  have c3 := R2_34.out.cell 0
  have c4 := R2_34.out.cell 1
  have k1I : (3 : Int) ≤ (k1 : Int) := by have := G1_31.out.cells.2.1; omega
  go_wp2_with fail
  have L1 := Lib.hid (lit_p3 x28)
  obtain ⟨y36, hy⟩ : ∃ y, ((((x28.alloc (.cells #[.int .i64 1, .int .i64 3, .int .i64 5] 3)).alloc (.cells #[.int .i64 0, .int .i64 3, .int .i64 4] 3)).alloc (.cells #[.int .i64 2, .int .i64 3, .int .i64 6] 3)).alloc (.cells #[.slice (some ⟨x28.heap.size, 0, none⟩) 3 3, .slice (some ⟨x28.heap.size + 1, 0, none⟩) 3 3, .slice (some ⟨x28.heap.size + 1 + 1, 0, none⟩) 3 3] 37)) = y := ⟨_, rfl⟩
  rw [hy] at L1 ⊢
  clear hy
  have hq37 : Below x28.heap.size x28 y36 := L1.out.2
  have G1_38 := Lib.hid (Gs.to G1_31.out hq37)
  have R1_39 := Lib.hid (Row.go R1_32.out hq37)
  have G2_40 := Lib.hid (Gs.to G2_33.out hq37)
  have R2_41 := Lib.hid (Row.go R2_34.out hq37)
  have HB_42 : Hid (Below w.heap.size w y36) := Lib.hid (HB_35.out.trans (hq37.mono HB_35.out.size))
  clear hq37
  have LG1 := Lib.hid L1.out.1
  have S1 : Hid (Calls Tryd.prog 14 #[.agg #[.int .i64 0, .slice A1 3 k1], .agg #[.int .i64 0, .slice (some ⟨x28.heap.size + 1 + 1 + 1, 0, none⟩) 3 3]] y36 (bel (.bool true) y36)) := Lib.hid (same_any 0 _ _ _ y36 (by have h := G1_38.out.take (show 3 ≤ 7 by decide); rw [show ((List.range 7).map (line 2)).take 3 = [[1, 3, 5], [0, 3, 4], [2, 3, 6]] by decide +kernel] at h; exact h) LG1.out)
  refine S1.out.mono ?_
  rintro e x43 ⟨rfl, hb44⟩
  have hq45 : Below y36.heap.size y36 x43 := hb44
  have G1_46 := Lib.hid (Gs.to G1_38.out hq45)
  have R1_47 := Lib.hid (Row.go R1_39.out hq45)
  have G2_48 := Lib.hid (Gs.to G2_40.out hq45)
  have R2_49 := Lib.hid (Row.go R2_41.out hq45)
  have HB_50 : Hid (Below w.heap.size w x43) := Lib.hid (HB_42.out.trans (hq45.mono HB_42.out.size))
  clear hq45
  clear hb44
  clear c1 c2 c3 c4 k1I
  have c3 := R2_49.out.cell 0
  have c4 := R2_49.out.cell 1
  go_wp2_with fail
  have L2 := Lib.hid (lit_a2 x43)
  obtain ⟨y51, hy⟩ : ∃ y, (((((((x43.alloc (.cells #[.int .i64 0, .int .i64 2] 3)).alloc (.cells #[.int .i64 1, .int .i64 3] 3)).alloc (.cells #[.int .i64 0, .int .i64 3] 3)).alloc (.cells #[.int .i64 1, .int .i64 2] 3)).alloc (.cells #[.int .i64 0, .int .i64 1] 3)).alloc (.cells #[.int .i64 2, .int .i64 3] 3)).alloc (.cells #[.slice (some ⟨x43.heap.size, 0, none⟩) 2 2, .slice (some ⟨x43.heap.size + 1, 0, none⟩) 2 2, .slice (some ⟨x43.heap.size + 1 + 1, 0, none⟩) 2 2, .slice (some ⟨x43.heap.size + 1 + 1 + 1, 0, none⟩) 2 2, .slice (some ⟨x43.heap.size + 1 + 1 + 1 + 1, 0, none⟩) 2 2, .slice (some ⟨x43.heap.size + 1 + 1 + 1 + 1 + 1, 0, none⟩) 2 2] 37)) = y := ⟨_, rfl⟩
  rw [hy] at L2 ⊢
  clear hy
  have hq52 : Below x43.heap.size x43 y51 := L2.out.2
  have G1_53 := Lib.hid (Gs.to G1_46.out hq52)
  have R1_54 := Lib.hid (Row.go R1_47.out hq52)
  have G2_55 := Lib.hid (Gs.to G2_48.out hq52)
  have R2_56 := Lib.hid (Row.go R2_49.out hq52)
  have HB_57 : Hid (Below w.heap.size w y51) := Lib.hid (HB_50.out.trans (hq52.mono HB_50.out.size))
  clear hq52
  have LG2 := Lib.hid L2.out.1
  have S2 : Hid (Calls Tryd.prog 14 #[.agg #[.int .i64 4, .slice A2 6 k2], .agg #[.int .i64 4, .slice (some ⟨x43.heap.size + 1 + 1 + 1 + 1 + 1 + 1, 0, none⟩) 6 6]] y51 (bel (.bool true) y51)) := Lib.hid (same_any 4 _ _ _ y51 (by have h := G2_55.out; rw [show (List.range (2 * 2 + 2)).map (aff 2) = [[0, 2], [1, 3], [0, 3], [1, 2], [0, 1], [2, 3]] by decide +kernel] at h; exact h) LG2.out)
  refine S2.out.mono ?_
  rintro e x58 ⟨rfl, hb59⟩
  have hq60 : Below y51.heap.size y51 x58 := hb59
  have G1_61 := Lib.hid (Gs.to G1_53.out hq60)
  have R1_62 := Lib.hid (Row.go R1_54.out hq60)
  have G2_63 := Lib.hid (Gs.to G2_55.out hq60)
  have R2_64 := Lib.hid (Row.go R2_56.out hq60)
  have HB_65 : Hid (Below w.heap.size w x58) := Lib.hid (HB_57.out.trans (hq60.mono HB_57.out.size))
  clear hq60
  clear hb59
  clear c3 c4
  go_wp2_with fail
  go_ret
  exact ⟨rfl, HB_65.out⟩
end Go.Proofs.YtjbgfpbidjhlkaaDoor
