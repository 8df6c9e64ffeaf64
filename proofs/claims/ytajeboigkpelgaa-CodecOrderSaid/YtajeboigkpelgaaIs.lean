/- Layer 9: the law's prefix. -/
import Derived.Test.YtajeboigkpelgaaIr
import Derived.BigQuiet
import Derived.Lib.SliceRun
namespace Go.Proofs.Ytajeboigkpelgaa
open Go Go.RowKit
set_option linter.unusedVariables false
set_option linter.unusedSimpArgs false
theorem take_run (A : Option Addr) (m c k : Nat) (hk : k ≤ m) (hm : m ≤ c) : ∀ w, (Instr.slice 22 (.slice A m c) none (some (.int .i64 (k : Int))) none).run Try.prog w = .ok (.slice A k c) w := by
  intro w
  have hel : Try.prog.elem 22 = 5 := by kernel_rfl
  have hu : Try.prog.underlying 22 = some (.slice (Try.prog.elem 22)) := by rw [hel]; exact Try.underlying22
  obtain ⟨i, hi, hzz⟩ := Option.map_eq_some_iff.1 info_u8
  simp only [Prod.mk.injEq] at hzz
  rw [run_slice_h w 22 A m c hu .i64 (k : Int) (by omega) (by omega), hel]
  have e : sliced A 0 k c 1 = .slice A k c := by
    unfold sliced
    congr 1
    split
    · rfl
    · cases A with
      | none => rfl
      | some a => rfl
  simp [sizeOf, typeInfo, hi, hzz.2.1, Result.andThen, e]
theorem take_run2 (A : Option Addr) (m c k : Nat) (hk : k ≤ m) (hm : m ≤ c) : ∀ w, (Instr.sliceAt 22 (.slice A m c) none (some (.int .i64 (k : Int))) none).run Try.prog w = .ok (.slice A k c) w := by
  intro w
  have hel : Try.prog.elem 22 = 5 := by kernel_rfl
  have hu : Try.prog.underlying 22 = some (.slice (Try.prog.elem 22)) := by rw [hel]; exact Try.underlying22
  rw [run_sliceAt_slice w _ _ _ _ _ hu]; exact take_run A m c k hk hm w
set_option maxHeartbeats 2000000 in
set_option maxRecDepth 100000 in
theorem prefix_any (v0 v1 : Value) (a b : List Nat) (w : World) (h0 : Bs w v0 a) (h1 : Bs w v1 b) (ha : a.length ≤ 1000000) (hb : b.length ≤ 1000000) :
    Calls Try.prog 31 #[v0, v1] w (qPost (.bool (decide (a.take (min a.length b.length) = b.take (min a.length b.length)))) w) := by
  obtain ⟨A0, c0, rfl⟩ := h0.form
  obtain ⟨A1, c1, rfl⟩ := h1.form
  have K0 := h0.cap.2.1
  have K1 := h1.cap.2.1
  have T0 := Lib.hid (bs_take h0 (Nat.min_le_left a.length b.length))
  have T1 := Lib.hid (bs_take h1 (Nat.min_le_right a.length b.length))
  have ST := Lib.hid (strOf_eq _ _ T0.out.lt T1.out.lt)
  have hmin : ∀ w ts t, (Builtin.min_ ts t #[.int .i64 ((a.length : Nat) : Int), .int .i64 ((b.length : Nat) : Int)]).run Try.prog w = .ok (.int .i64 ((min a.length b.length : Nat) : Int)) w := fun w ts t => by
    simp [Builtin.min_, Builtin.min2]
    (repeat' split) <;> omega
  have q0 := take_run A0 a.length c0 (min a.length b.length) (Nat.min_le_left _ _) K0
  have q1 := take_run A1 b.length c1 (min a.length b.length) (Nat.min_le_right _ _) K1
  have r0 := take_run2 A0 a.length c0 (min a.length b.length) (Nat.min_le_left _ _) K0
  have r1 := take_run2 A1 b.length c1 (min a.length b.length) (Nat.min_le_right _ _) K1
  clear h0 h1 K0 K1
  generalize a.take (min a.length b.length) = p at *
  generalize b.take (min a.length b.length) = q at *
  generalize min a.length b.length = k at *
  generalize a.length = n0 at *
  generalize b.length = n1 at *
  have k1 := fun m => conv_bs 22 5 9 Try.underlying22 Try.underlying5 Try.underlying9 (show Bs (w.drewN m) _ p from T0.out.keep fun _ _ => rfl)
  have k2 := fun m => conv_bs 22 5 9 Try.underlying22 Try.underlying5 Try.underlying9 (show Bs (w.drewN m) _ q from T1.out.keep fun _ _ => rfl)
  generalize decide (p = q) = d at *
  generalize strOf p = t0 at *
  generalize strOf q = t1 at *
  go_enter Try.func31, Try.ntmps31
  go_wp2_with fail
  go_quiet (fail)
  go_wp2_with fail
  go_ret
  exact ⟨congrArg (fun t => Ending.returned (.bool t)) ST.out, below_drewN (Below.refl _ _) nq⟩
end Go.Proofs.Ytajeboigkpelgaa
