/- Contracts: the functions that make the closures. -/
import Derived.Test.YtjbgfpbidjhlkaaDoorSc
import Derived.WalkSpells
import Derived.Laws.EntriesVeiled
namespace Go.Proofs.YtjbgfpbidjhlkaaDoor
open Go Go.RowKit

theorem Cap.alloc {w : World} {B : Nat} {v : Value} (h : Cap w B v) (o : Obj) : Cap (w.alloc o) B v := (World.cell?_alloc_lt w o _ (World.block_lt_of_cell? w _ h)).trans h
/-- The value of digitwise's closure, over the block where p lies. -/
def addV (Bd : Nat) : Value := .func (.func 51) #[] #[.pointer (some ⟨Bd, 0, none⟩)]
def modV (Bd : Nat) : Value := .func (.func 52) #[] #[.pointer (some ⟨Bd, 0, none⟩)]
def polyV (Bh Bp Bt Ba : Nat) : Value := .func (.func 54) #[] #[.pointer (some ⟨Bh, 0, none⟩), .pointer (some ⟨Bp, 0, none⟩), .pointer (some ⟨Bt, 0, none⟩), .pointer (some ⟨Ba, 0, none⟩)]

theorem digitwise_any (p : Nat) (w : World) :
    Calls Tryd.prog 44 #[.int .i64 (p : Int)] w fun e w' => e = .returned (addV w.heap.size) ∧ Cap w' w.heap.size (.int .i64 (p : Int)) ∧ Below w.heap.size w w' := by
  go_enter Tryd.func44, Tryd.ntmps44
  go_wp2
  go_ret
  refine ⟨rfl, cell_new w _ _ _ rfl, (Below.refl _ _).alloc (Nat.le_refl _) _⟩
theorem modulo_any (p : Nat) (w : World) :
    Calls Tryd.prog 45 #[.int .i64 (p : Int)] w fun e w' => e = .returned (modV w.heap.size) ∧ Cap w' w.heap.size (.int .i64 (p : Int)) ∧ Below w.heap.size w w' := by
  go_enter Tryd.func45, Tryd.ntmps45
  go_wp2
  go_ret
  refine ⟨rfl, cell_new w _ _ _ rfl, (Below.refl _ _).alloc (Nat.le_refl _) _⟩
set_option maxHeartbeats 1000000 in
theorem polynomial_any (q p o h : Nat) (v : Value) (w : World) (hv : ∃ Bd, v = addV Bd) (hh : q / p = h) (hq : q ≤ 9) (hp : 2 ≤ p) (hp9 : p ≤ 9) :
    Calls Tryd.prog 46 #[.int .i64 (q : Int), .int .i64 (p : Int), .int .i64 (o : Int), v] w fun e w' => ∃ Bh Bp Bt Ba Bo, e = .returned (polyV Bh Bp Bt Ba) ∧
      Cap w' Bh (.int .i64 (h : Int)) ∧ Cap w' Bp (.int .i64 (p : Int)) ∧ Cap w' Ba v ∧ Cap w' Bo (.int .i64 (o : Int)) ∧
      Cap w' Bt (.func (.func 53) #[] #[.pointer (some ⟨Bh, 0, none⟩), .pointer (some ⟨Bp, 0, none⟩), .pointer (some ⟨Ba, 0, none⟩), .pointer (some ⟨Bo, 0, none⟩)]) ∧ Below w.heap.size w w' := by
  obtain ⟨Bd, rfl⟩ := hv
  have e1 : (q : Int) / (p : Int) = (h : Int) := by rw [← hh, Int.natCast_ediv]
  have hh9 : h ≤ 9 := by rw [← hh]; exact Nat.le_trans (Nat.div_le_self _ _) hq
  clear hh
  unfold addV
  go_enter Tryd.func46, Tryd.ntmps46
  go_wp2
  go_ret
  refine ⟨_, _, _, _, w.heap.size + 1, rfl, ?_, ?_, ?_, ?_, ?_, ?_⟩
  · exact Cap.alloc (cell_new _ _ _ _ (by simp)) _
  · exact Cap.alloc (Cap.alloc (Cap.alloc (Cap.alloc (cell_new w _ _ _ rfl) _) _) _) _
  · exact Cap.alloc (Cap.alloc (cell_new _ _ _ _ (by simp)) _) _
  · exact Cap.alloc (Cap.alloc (Cap.alloc (cell_new _ _ _ _ (by simp)) _) _) _
  · exact cell_new _ _ _ _ (by simp)
  · exact (((((Below.refl _ _).alloc (Nat.le_refl _) _).alloc (by simp) _).alloc (by simp; omega) _).alloc (by simp; omega) _).alloc (by simp; omega) _
end Go.Proofs.YtjbgfpbidjhlkaaDoor
