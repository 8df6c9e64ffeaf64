/- Contracts: New, Sizes; the table of the fields. -/
import Derived.Test.YtjbgfpbidjhlkaaDoorSe
import Derived.Deep.MidRow
namespace Go.Proofs.YtjbgfpbidjhlkaaDoor
open Go Go.RowKit
set_option linter.unusedVariables false

theorem addFv {q Bd : Nat} {w : World} (hq : q ∈ Sf.sizes) (hc : Cap w Bd (.int .i64 (Sf.prm q : Int))) : Fv q (Sf.addF q) w (addV Bd) := by
  refine ⟨_, _, rfl, enters_of Tryd.func51 (by kernel_rfl) rfl, fun w' hb a b ha hb' => ?_⟩
  obtain ⟨p1, p2, p3, p4, p5⟩ := Sf.prm_ok hq
  have hs := Sf.add_lt hq ha hb'
  exact (digit_any a b (Sf.prm q) Bd w' (hc.below hb) (by omega) (by omega) p1 (by omega) (by rw [Sf.addF] at hs; omega)).mono fun e x ⟨he, hx⟩ => ⟨he, hx ▸ Dr.refl _⟩
theorem modFv {q Bd : Nat} {w : World} (hq : q ∈ Sf.sizes) (hp : Sf.prm q = q) (hc : Cap w Bd (.int .i64 (q : Int))) : Fv q (Sf.mulF q) w (modV Bd) := by
  refine ⟨_, _, rfl, enters_of Tryd.func52 (by kernel_rfl) rfl, fun w' hb a b ha hb' => ?_⟩
  obtain ⟨p1, p2, p3, p4, p5⟩ := Sf.prm_ok hq
  rw [Sf.mulF, if_pos hp]
  exact (modf_any a b q Bd w' (hc.below hb) (by omega) (by omega) p4).mono fun e x ⟨he, hx⟩ => ⟨he, hx ▸ Dr.refl _⟩
theorem polyFv {q Bh Bp Bt Ba Bo Bd : Nat} {w : World} (hq : q = 4 ∨ q = 8 ∨ q = 9)
    (c1 : Cap w Bh (.int .i64 ((q / Sf.prm q : Nat) : Int))) (c2 : Cap w Bp (.int .i64 (Sf.prm q : Int))) (c3 : Cap w Ba (addV Bd)) (c4 : Cap w Bo (.int .i64 (Sf.ovf q : Int))) (c5 : Cap w Bd (.int .i64 (Sf.prm q : Int)))
    (c6 : Cap w Bt (.func (.func 53) #[] #[.pointer (some ⟨Bh, 0, none⟩), .pointer (some ⟨Bp, 0, none⟩), .pointer (some ⟨Ba, 0, none⟩), .pointer (some ⟨Bo, 0, none⟩)])) : Fv q (Sf.mulF q) w (polyV Bh Bp Bt Ba) := by
  refine ⟨_, _, rfl, enters_of Tryd.func54 (by kernel_rfl) rfl, fun w' hb a b ha hb' => ?_⟩
  exact poly_any q _ _ _ a b Bh Bp Bt Ba Bo Bd w' hq rfl rfl rfl ha hb' (c1.below hb) (c2.below hb) (c3.below hb) (c4.below hb) (c5.below hb) (c6.below hb)

/-- The fields' table, as it lies in memory. -/
def kindC : List Value := [2, 2, 0, 3, 3, 0, 4, 2, 3, 5, 5, 0, 7, 7, 0, 8, 2, 3, 9, 3, 2].map fun n : Nat => .int .i64 (n : Int)
def Kd (w : World) : Prop := w.rangeAt 0 0 kindC
theorem Kd.below {w w' : World} (h : Kd w) (hb : Below w.heap.size w w') : Kd w' := fun j v hv => (hb.cell (World.block_lt_of_cell? w _ (h j v hv))).trans (h j v hv)
/-- The k-th size. -/
def kS (k : Nat) : Nat := Sf.sizes.getD k 0
theorem kind_at (k : Nat) (hk : k < 7) (w : World) : (Instr.index 73 (.agg kindC.toArray) (.int .i64 (k : Int))).run Tryd.prog w = .ok (.agg #[.int .i64 (kS k : Int), .int .i64 (Sf.prm (kS k) : Int), .int .i64 (Sf.ovf (kS k) : Int)]) w := by
  rcases (by omega : k = 0 ∨ k = 1 ∨ k = 2 ∨ k = 3 ∨ k = 4 ∨ k = 5 ∨ k = 6) with rfl | rfl | rfl | rfl | rfl | rfl | rfl <;> kernel_rfl
theorem kS_ok (k : Nat) (hk : k < 7) : kS k ∈ Sf.sizes ∧ kS k ≤ 9 ∧ Sf.prm (kS k) ≤ 9 ∧ Sf.ovf (kS k) ≤ 9 := (show ∀ k, k < 7 → kS k ∈ Sf.sizes ∧ kS k ≤ 9 ∧ Sf.prm (kS k) ≤ 9 ∧ Sf.ovf (kS k) ≤ 9 by decide) k hk
theorem kS_all (q : Nat) (hq : q ∈ Sf.sizes) : ∃ k, k < 7 ∧ kS k = q := (show ∀ q ∈ Sf.sizes, ∃ k, k < 7 ∧ kS k = q by decide) q hq

/-- A field: its prime number and its tables. -/
def Fd (w : World) (v : Value) (q : Nat) : Prop := ∃ B s1 s2, v = .pointer (some ⟨B, 0, none⟩) ∧ w.cell? ⟨B, 0, none⟩ = some (.int .i64 (Sf.prm q : Int)) ∧ w.cell? ⟨B, 1, none⟩ = some s1 ∧ w.cell? ⟨B, 2, none⟩ = some s2 ∧ Tb w s1 q (Sf.addF q) ∧ Tb w s2 q (Sf.mulF q)
theorem Fd.to {w w' : World} {v : Value} {q : Nat} (h : Fd w v q) (hb : Below w.heap.size w w') : Fd w' v q := by
  obtain ⟨B, s1, s2, hv, c0, c1, c2, t1, t2⟩ := h
  exact ⟨B, s1, s2, hv, (hb.cell (World.block_lt_of_cell? w _ c0)).trans c0, (hb.cell (World.block_lt_of_cell? w _ c1)).trans c1, (hb.cell (World.block_lt_of_cell? w _ c2)).trans c2, t1.to hb, t2.to hb⟩

set_option maxHeartbeats 2000000 in
set_option maxRecDepth 100000 in
theorem new_err (q : Int) (w : World) (hK : Kd w) (hq : ∀ k, k < 7 → (kS k : Int) ≠ q) :
    Calls Tryd.prog 39 #[.int .i64 q] w fun e w' => e = .returned (.tuple #[.pointer none, .int .i64 1]) ∧ Below w.heap.size w w' := by
  obtain ⟨C, hC⟩ : ∃ C, kindC = C := ⟨_, rfl⟩
  have KI := Lib.hid kind_at
  have KR := hK
  unfold Kd at KR
  rw [hC] at KI KR
  have SI : Hid ((Tryd.prog.info? 73).map (·.size) = some C.length) := Lib.hid (by rw [← hC]; kernel_rfl)
  have KR' := Lib.hid KR
  have HQ := Lib.hid hq
  clear KR hK hq hC
  go_enter Tryd.func39, Tryd.ntmps39
  go_wp2_with (refine wpList_load_mid rfl _ _ rfl 0 0 rfl C _ KR'.out Tryd.underlying73 rfl SI.out ?_)
  go_loopw [5, 6, 7, 9] (fun _ _ _ i wr => ∃ k : Nat, k ≤ 7 ∧ i = .int .i64 (k : Int) ∧ Hid (Below w.heap.size w wr)) (fun _ _ _ i _ => 7 - (intOf i).toNat)
  case atStart => exact ⟨0, by omega, rfl, Lib.hid (Below.refl _ _)⟩
  case round =>
    obtain ⟨k, hk, rfl, H⟩ := hrel
    by_cases hlt : k < 7
    · have hkI : (k : Int) < 7 := by omega
      have hidx := KI.out k hlt
      have hne : ((kS k : Int) != q) = true := by simp [HQ.out k hlt]
      generalize (kS k : Int) = s at hidx hne
      generalize (Sf.prm (kS k) : Int) = p at hidx
      generalize (Sf.ovf (kS k) : Int) = o at hidx
      go_wp2
      go_roundw
      case rel => exact ⟨k + 1, by omega, by go_num, Lib.hid (H.out.alloc H.out.size _)⟩
      case measure => simp [intOf]; omega
    · obtain rfl : k = 7 := by omega
      go_wp2
      go_ret2
      exact ⟨rfl, H.out⟩
end Go.Proofs.YtjbgfpbidjhlkaaDoor
