/- The examples of the document hold: 'awake' answers true. WRITTEN BY gen_Do.py. -/
import Derived.Test.YtheijobnmdbodaaDl
namespace Go.Proofs.Ytheijobnmdbodaa
open Go Go.RowKit Lin
set_option linter.unusedVariables false
set_option linter.unusedSimpArgs false
theorem bos_at (w : World) (n : Nat) (hn : w.heap.size = n) (a b c d e : Bool) : Bos (w.alloc (.cells #[.bool a, .bool b, .bool c, .bool d, .bool e] 4)) (.slice (some ⟨n, 0, none⟩) 5 5) [a, b, c, d, e] := hn ▸ bos_lit5 w a b c d e
theorem bl_at (w : World) (k : Nat) (hk : w.heap.size = k) (cs : Array Value) (D : List (List Nat)) (n : Nat) (hc : cs = bcs D.flatten) (hD : D.all (fun d => d.length == 8 && d.all (· < 256)) = true) (hn : D.length = n) (hm : n ≤ 1000) : Bl (w.alloc (.cells cs 33)) (.slice (some ⟨k, 0, none⟩) n n) D := hk ▸ bl_lit w cs D n hc hD hn hm

set_option maxHeartbeats 4000000 in
set_option maxRecDepth 100000 in
theorem dawake_any (w : World) : Calls Try.prog 11 #[] w (bPost (.bool true) w) := by
  go_enter Try.func11, Try.ntmps11
  go_wp2_with fail
  refine (wts_v 2 5 0 [1, 2] [1, 1] _ _ rfl (by decide) (by decide) (is_lit2 _ 1 2) cho12 (by decide) wt12).mono ?_
  rintro e x2 ⟨A1, c1, rfl, hn3, hb1⟩
  have hq4 : Below w.heap.size w x2 := al1 (hb1)
  have HB_5 : Hid (Below w.heap.size w x2) := Lib.hid (hq4)
  clear hq4
  have A_6 := Lib.hid hn3
  clear hb1 hn3
  go_wp2_with fail
  refine (wts_v 2 5 0 [1, 3] [2, 1] _ _ rfl (by decide) (by decide) (is_lit2 _ 1 3) cho13 (by decide) wt13).mono ?_
  rintro e x8 ⟨A2, c2, rfl, hn9, hb7⟩
  have hq10 : Below x2.heap.size x2 x8 := al1 (hb7)
  have A_11 := Lib.hid (Bs.to A_6.out hq10)
  have HB_12 : Hid (Below w.heap.size w x8) := Lib.hid (HB_5.out.trans (hq10.mono HB_5.out.size))
  clear hq10
  have C_13 := Lib.hid hn9
  clear hb7 hn9
  go_wp2_with fail
  skip
  refine (dec_exB _ _ _ ?hB ?hM).mono ?_
  case hM => exact bos_at _ _ (by simp) true true false false true
  case hB =>
    refine Bl.alloc ?_ _
    exact bl_at _ _ (by simp) _ exB 5 rfl (by decide) rfl (by decide)
  rintro e w4 ⟨g4, c4, rfl, hl4, hb4⟩
  have HG : Hid (Bl w4 (.slice (some ⟨x8.heap.size, 0, none⟩) 5 5) exG) := Lib.hid (by
    have h := al1 (al1 hb4)
    refine Bl.to ?_ h
    exact bl_lit _ _ exG 5 rfl (by decide) rfl (by decide))
  have hq14 : Below x8.heap.size x8 w4 := al1 (al1 (al1 hb4))
  have A_15 := Lib.hid (Bs.to A_11.out hq14)
  have C_16 := Lib.hid (Bs.to C_13.out hq14)
  have HB_17 : Hid (Below w.heap.size w w4) := Lib.hid (HB_12.out.trans (hq14.mono HB_12.out.size))
  clear hq14
  have HL := Lib.hid hl4
  clear hl4 hb4
  go_wp2_with fail
  refine (loc_exQ _ _ (bl_lit _ _ exQ 5 rfl (by decide) rfl (by decide))).mono ?_
  rintro e x19 ⟨rfl, hb18⟩
  have hq20 : Below w4.heap.size w4 x19 := al1 (hb18)
  have A_21 := Lib.hid (Bs.to A_15.out hq20)
  have C_22 := Lib.hid (Bs.to C_16.out hq20)
  have G_23 := Lib.hid (Bl.to HG.out hq20)
  have L_24 := Lib.hid (Bl.to HL.out hq20)
  have HB_25 : Hid (Below w.heap.size w x19) := Lib.hid (HB_17.out.trans (hq20.mono HB_17.out.size))
  clear hq20
  clear hb18
  go_wp2_with fail
  refine (same01_b _ _ [1, 1] [1, 1] true _ (A_21.out.to (by exact (Below.refl _ _).alloc (Nat.le_refl _) _)) (bs_lit _ 1 1 _ rfl (by decide) (by decide)) (by decide)).mono ?_
  rintro e x27 ⟨rfl, hb26⟩
  have hq28 : Below x19.heap.size x19 x27 := al1 (hb26)
  have A_29 := Lib.hid (Bs.to A_21.out hq28)
  have C_30 := Lib.hid (Bs.to C_22.out hq28)
  have G_31 := Lib.hid (Bl.to G_23.out hq28)
  have L_32 := Lib.hid (Bl.to L_24.out hq28)
  have HB_33 : Hid (Below w.heap.size w x27) := Lib.hid (HB_25.out.trans (hq28.mono HB_25.out.size))
  clear hq28
  clear hb26
  go_wp2_with fail
  refine (same01_b _ _ [2, 1] [2, 1] true _ (C_30.out.to (by exact (Below.refl _ _).alloc (Nat.le_refl _) _)) (bs_lit _ 2 1 _ rfl (by decide) (by decide)) (by decide)).mono ?_
  rintro e x35 ⟨rfl, hb34⟩
  have hq36 : Below x27.heap.size x27 x35 := al1 (hb34)
  have A_37 := Lib.hid (Bs.to A_29.out hq36)
  have C_38 := Lib.hid (Bs.to C_30.out hq36)
  have G_39 := Lib.hid (Bl.to G_31.out hq36)
  have L_40 := Lib.hid (Bl.to L_32.out hq36)
  have HB_41 : Hid (Below w.heap.size w x35) := Lib.hid (HB_33.out.trans (hq36.mono HB_33.out.size))
  clear hq36
  clear hb34
  go_wp2_with fail
  refine (same_b _ _ exG exG true _ L_40.out G_39.out (by decide)).mono ?_
  rintro e x43 ⟨rfl, hb42⟩
  have hq44 : Below x35.heap.size x35 x43 := hb42
  have A_45 := Lib.hid (Bs.to A_37.out hq44)
  have C_46 := Lib.hid (Bs.to C_38.out hq44)
  have G_47 := Lib.hid (Bl.to G_39.out hq44)
  have L_48 := Lib.hid (Bl.to L_40.out hq44)
  have HB_49 : Hid (Below w.heap.size w x43) := Lib.hid (HB_41.out.trans (hq44.mono HB_41.out.size))
  clear hq44
  clear hb42
  go_wp2_with fail
  go_ret
  exact ⟨by first | rfl | simp, HB_49.out⟩
end Go.Proofs.Ytheijobnmdbodaa
