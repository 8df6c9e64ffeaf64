/- Contracts: New, Sizes. -/
import Derived.Test.YtclmlcoikohceaaDoorSg
namespace Go.Proofs.YtclmlcoikohceaaDoor
open Go Go.RowKit
set_option linter.unusedVariables false

theorem new_ok (q : Nat) (w : World) (hK : Kd w) (hq : q ∈ Sf.sizes) : Calls Tryd.prog 12 #[.int .i64 (q : Int)] w (newPost q w) := by
  by_cases hp : Sf.prm q = q
  · exact new_prime q w hK hq hp
  · exact new_big q w hK hq ((show ∀ q ∈ Sf.sizes, Sf.prm q ≠ q → q = 4 ∨ q = 8 ∨ q = 9 by decide) q hq hp)

/-- The sizes, in memory. -/
def Szs (w : World) (v : Value) : Prop := ∃ B, v = .slice (some ⟨B, 0, none⟩) 7 7 ∧ w.rowIs B 3 7 (fun i => .int .i64 (kS i : Int))
set_option maxHeartbeats 2000000 in
set_option maxRecDepth 100000 in
theorem sizes_any (w : World) (hK : Kd w) : Calls Tryd.prog 11 #[] w fun e w' => ∃ v, e = .returned v ∧ Szs w' v ∧ Below w.heap.size w w' := by
  obtain ⟨C, hC⟩ : ∃ C, kindC = C := ⟨_, rfl⟩
  have KI := Lib.hid kind_at
  have KR := hK
  unfold Kd at KR
  rw [hC] at KI KR
  have SI : Hid ((Tryd.prog.info? 47).map (·.size) = some C.length) := Lib.hid (by rw [← hC]; kernel_rfl)
  have KR' := Lib.hid (fun ob => World.rangeAt_alloc KR ob)
  have hmk : ∀ w : World, (Instr.makeSlice 23 (.int .i64 7) (.int .i64 7)).run Tryd.prog w = .ok (.slice (some ⟨w.heap.size, 0, none⟩) 7 7) (w.alloc (.cells (madeCells #[.int .i64 0] 7) 3)) := fun w => run_make_row' (P := Tryd.prog) 23 3 _ _ Tryd.underlying23 info_int rfl .i64 .i64 7 (by omega) (by omega) w
  clear KR hK hC
  go_enter Tryd.func11, Tryd.ntmps11
  go_wp2_with (refine wpList_load_mid rfl _ _ rfl 0 0 rfl C _ (KR'.out _) Tryd.underlying47 rfl SI.out ?_)
  go_loopw [2, 3, 6] (fun _ _ i wr => ∃ k : Nat, k ≤ 7 ∧ i = .int .i64 (k : Int) ∧ Hid (Below w.heap.size w wr ∧ wr.rowIs w.heap.size 3 7 (fun i => .int .i64 ((if i < k then kS i else 0 : Nat) : Int)))) (fun _ _ i _ => 7 - (intOf i).toNat)
  case atStart => exact ⟨0, by omega, rfl, Lib.hid ⟨(Below.refl _ _).alloc (Nat.le_refl _) _, (World.rowIs_made w _ 7 _).congr fun i _ => by rw [if_neg (Nat.not_lt_zero i)]; rfl⟩⟩
  case round =>
    obtain ⟨k, hk, rfl, H⟩ := hrel
    by_cases hlt : k < 7
    · have hkI : (k : Int) < 7 := by omega
      have hidx := KI.out k hlt
      obtain ⟨hbel, hrow⟩ := H.out
      obtain ⟨s, hs⟩ : ∃ s, kS k = s := ⟨_, rfl⟩
      rw [hs] at hidx
      have q1 : ∀ o, (wr.alloc o).cell? ⟨w.heap.size, k, none⟩ = some (.int .i64 0) := fun o => by
        have := (hrow.alloc o).cell hlt
        simpa using this
      have q2 : ∀ o, (wr.alloc o).frozen? ⟨w.heap.size, k, none⟩ = false := fun o => (hrow.alloc o).frozen k
      have KS := Lib.hid hs
      have HB := Lib.hid hbel
      have HW := Lib.hid hrow
      generalize (Sf.prm s : Int) = p at hidx
      generalize (Sf.ovf s : Int) = o at hidx
      have SC := fun t => struct_cells wr (.int .i64 (s : Int)) (.int .i64 p) (.int .i64 o) t _ rfl
      have c0 := fun t => (SC t).1
      clear hs hbel hrow H SC
      go_wp2
      go_roundw
      case rel =>
        refine ⟨k + 1, by omega, by go_num, Lib.hid ⟨(HB.out.alloc HB.out.size _).setCell (Nat.le_refl _) _, ((HW.out.alloc _).set k _).congr fun i hi => ?_⟩⟩
        by_cases e : i = k
        · rw [if_pos e, if_pos (by omega), e, KS.out]
        · rw [if_neg e]
          by_cases e2 : i < k
          · rw [if_pos e2, if_pos (by omega)]
          · rw [if_neg e2, if_neg (by omega)]
      case measure => simp [intOf]; omega
    · obtain rfl : k = 7 := by omega
      go_wp2
      go_ret
      exact ⟨_, rfl, ⟨_, rfl, H.out.2.congr fun i hi => by rw [if_pos hi]⟩, H.out.1⟩
end Go.Proofs.YtclmlcoikohceaaDoor
