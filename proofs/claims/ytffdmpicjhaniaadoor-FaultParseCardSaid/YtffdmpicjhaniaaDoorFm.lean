/- Layer 13: the examples of the document hold. -/
import Derived.Test.YtffdmpicjhaniaaDoorFp
namespace Go.Proofs.YtffdmpicjhaniaaDoor
open Go Go.RowKit Flt
set_option linter.unusedVariables false
set_option linter.unusedSimpArgs false
def exF : List F := [⟨3, 1, 0⟩, ⟨7, 3, 12⟩, ⟨20, 7, 0⟩]
def exS : List Nat := [100, 114, 111, 112, 32, 51, 59, 32, 115, 116, 114, 97, 121, 32, 55, 32, 116, 111, 32, 49, 50, 59, 32, 100, 105, 101, 32, 50, 48]
def exT : List Nat := [100, 114, 111, 112, 32, 48, 51]
theorem exF_v : vld exF = true := by decide
theorem exF_f : fits exF := by
  intro f hf
  simp only [exF, List.mem_cons, List.not_mem_nil, or_false] at hf
  rcases hf with rfl | rfl | rfl <;> decide
theorem exF_t : text exF = exS := by
  have d3 : dig 3 = [51] := dig_small (by decide)
  have d7 : dig 7 = [55] := dig_small (by decide)
  have d12 : dig 12 = [49, 50] := by rw [dig_big (by decide), dig_small (by decide)]; rfl
  have d20 : dig 20 = [50, 48] := by rw [dig_big (by decide), dig_small (by decide)]; rfl
  show one ⟨3, 1, 0⟩ ++ sep ++ (one ⟨7, 3, 12⟩ ++ sep ++ one ⟨20, 7, 0⟩) = _
  unfold one
  rw [show (3 : Int).toNat = 3 from rfl, show (7 : Int).toNat = 7 from rfl, show (12 : Int).toNat = 12 from rfl, show (20 : Int).toNat = 20 from rfl, d3, d7, d12, d20]
  rfl
theorem exF_p : parse exS = some exF := by rw [← exF_t]; exact parse_text exF_f exF_v
theorem exT_p : parse exT = none := by
  have d3 : dig 3 = [51] := dig_small (by decide)
  have h : rdL exT.length exT = some [⟨3, 1, 0⟩] := by kernel_rfl
  unfold parse
  rw [h]
  refine if_neg fun e => ?_
  have e2 := e.2
  have : text [(⟨3, 1, 0⟩ : F)] = [100, 114, 111, 112, 32, 51] := by
    show one ⟨3, 1, 0⟩ = _
    unfold one
    rw [show (3 : Int).toNat = 3 from rfl, d3]
    rfl
  rw [this] at e2
  exact absurd e2 (by decide)
theorem exS_s : strOf exS = ⟨#[100, 114, 111, 112, 32, 51, 59, 32, 115, 116, 114, 97, 121, 32, 55, 32, 116, 111, 32, 49, 50, 59, 32, 100, 105, 101, 32, 50, 48]⟩ := word_str (by decide)
theorem exT_s : strOf exT = ⟨#[100, 114, 111, 112, 32, 48, 51]⟩ := word_str (by decide)
theorem range9 : Array.range 9 = #[0, 1, 2, 3, 4, 5, 6, 7, 8] := rfl
theorem run_build_f3 (a b c d e f g h i : Int) (w : World) : (Instr.buildSlice 22 3 #[(0, .agg #[.int .i64 a, .int .i64 b, .int .i64 c]), (1, .agg #[.int .i64 d, .int .i64 e, .int .i64 f]), (2, .agg #[.int .i64 g, .int .i64 h, .int .i64 i])]).run Tryd.prog w = .ok (.slice (some ⟨w.heap.size, 0, none⟩) 3 3) (w.alloc (.cells #[.int .i64 a, .int .i64 b, .int .i64 c, .int .i64 d, .int .i64 e, .int .i64 f, .int .i64 g, .int .i64 h, .int .i64 i] 26)) := by
  obtain ⟨i, hi, hz, hs, hb⟩ := parts13 info_ft
  simp [Instr.buildSlice, run_underlying Tryd.underlying22, sizeOf, typeInfo, hi, hs, zeroValue, hz, newRow, Instr.fill, zft, Value.cells, range9]
theorem exF_in (w : World) : Fts (w.alloc (.cells #[.int .i64 3, .int .i64 1, .int .i64 0, .int .i64 7, .int .i64 3, .int .i64 12, .int .i64 20, .int .i64 7, .int .i64 0] 26)) (.slice (some ⟨w.heap.size, 0, none⟩) 3 3) exF := by
  have hr := new13 w #[.int .i64 3, .int .i64 1, .int .i64 0, .int .i64 7, .int .i64 3, .int .i64 12, .int .i64 20, .int .i64 7, .int .i64 0] 26 rfl
  refine ⟨_, 3, rfl, ⟨by decide, by decide⟩, exF_f, fun _ => ⟨w.heap.size, 0, rfl, fun k hk j v hv => ?_⟩⟩
  rw [Nat.zero_add, hr.cell, ← hv]
  have hj : j < 3 := by have := (List.getElem?_eq_some_iff.1 hv).1; simpa [fcs] using this
  have hk3 : k < 3 := hk
  match k, j, hk3, hj with
  | 0, 0, _, _ => rfl
  | 0, 1, _, _ => rfl
  | 0, 2, _, _ => rfl
  | 1, 0, _, _ => rfl
  | 1, 1, _, _ => rfl
  | 1, 2, _, _ => rfl
  | 2, 0, _, _ => rfl
  | 2, 1, _, _ => rfl
  | 2, 2, _, _ => rfl
set_option maxHeartbeats 4000000 in
set_option maxRecDepth 100000 in
theorem awake13 (w : World) (T : Tab w) : Calls Tryd.prog 9 #[] w (mPost (.bool true) w) := by
  have bf := fun w => run_build_f3 3 1 0 7 3 12 20 7 0 w
  have AL := Lib.hid ((Below.refl w.heap.size w).alloc (Nat.le_refl _) (.cells #[.int .i64 3, .int .i64 1, .int .i64 0, .int .i64 7, .int .i64 3, .int .i64 12, .int .i64 20, .int .i64 7, .int .i64 0] 26))
  have FX := Lib.hid (exF_in w)
  have PS := fun w T => ppa_any exS ⟨by decide, by decide⟩ w T
  have PT := fun w T => ppa_any exT ⟨by decide, by decide⟩ w T
  rw [exS_s] at PS
  rw [exT_s] at PT
  have PSH := Lib.hid PS
  have PTH := Lib.hid PT
  have HT := Lib.hid T
  clear PS PT T
  go_enter Tryd.func9, Tryd.ntmps9
  go_wp2_with fail
  refine (PSH.out _ (HT.out.fw AL.out)).mono ?_
  rintro e w2 ⟨k, K, E, rfl, hk, hp, hb⟩
  obtain ⟨rfl, rfl⟩ : exF = K ∧ E = 0 := by
    rcases hp with ⟨h1, h2⟩ | ⟨h1, _⟩
    · rw [exF_p] at h1; injection h1 with h1; exact ⟨h1, h2⟩
    · rw [exF_p] at h1; cases h1
  have F2 := Lib.hid (FX.out.fw hb)
  have K2 := Lib.hid hk
  have B2 := Lib.hid (AL.out.trans (hb.mono AL.out.size))
  clear hp hk hb PSH bf
  go_wp2_with fail
  refine (PTH.out _ (HT.out.fw B2.out)).mono ?_
  rintro e w3 ⟨k3, K3, E3, rfl, hk3, hp, hb⟩
  obtain rfl : E3 = 4 := by
    rcases hp with ⟨h1, h2⟩ | ⟨_, _, h1⟩
    · rw [exT_p] at h1; cases h1
    · exact h1
  have F3 := Lib.hid (F2.out.fw hb)
  have K4 := Lib.hid (K2.out.fw hb)
  have B3 := Lib.hid (B2.out.trans (hb.mono B2.out.size))
  clear hp hb hk3 PTH
  go_wp2_with fail
  have VL := pvl_any _ _ _ F3.out
  rw [exF_v] at VL
  refine VL.mono ?_
  rintro e w4 ⟨rfl, hb⟩
  have F4 := Lib.hid (F3.out.fw hb)
  have K5 := Lib.hid (K4.out.fw hb)
  have B4 := Lib.hid (B3.out.trans (hb.mono B3.out.size))
  clear hb VL
  have TX := ptx_any _ _ _ F4.out (by decide) (HT.out.fw B4.out)
  rw [show txt exF = exS from (if_pos exF_v).trans exF_t, exS_s] at TX
  go_wp2_with fail
  refine TX.mono ?_
  rintro e w5 ⟨rfl, hb⟩
  have SM := rsm_any _ _ _ _ _ (K5.out.fw hb) (F4.out.fw hb)
  have B5 := Lib.hid (B4.out.trans (hb.mono B4.out.size))
  clear hb TX
  go_wp2_with fail
  refine SM.mono ?_
  rintro e w6 ⟨bb, rfl, hq, hb⟩
  have hbb : bb = true := hq.2 rfl
  have B6 := Lib.hid (B5.out.trans (hb.mono B5.out.size))
  clear hq hb SM
  subst hbb
  go_wp2_with fail
  go_ret
  exact ⟨rfl, B6.out⟩
end Go.Proofs.YtffdmpicjhaniaaDoor
