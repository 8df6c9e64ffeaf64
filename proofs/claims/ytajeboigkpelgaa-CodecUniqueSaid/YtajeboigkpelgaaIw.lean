/- Layer 9: the law's read with a nil reader. WRITTEN BY gen_Iw.py. -/
import Derived.Test.YtajeboigkpelgaaIv
namespace Go.Proofs.Ytajeboigkpelgaa
open Go Go.RowKit
set_option linter.unusedVariables false
set_option linter.unusedSimpArgs false
def rnPost (p : Nat → Prop) (w : World) (e : Ending) (w' : World) : Prop := e = .returned (.bool true) ∧ Chg p w w'

theorem bs_empty {w w' : World} {A : Option Addr} {c : Nat} (h : Bs w (.slice A ([] : List Nat).length c) []) : Bs w' (.slice A ([] : List Nat).length c) [] := by
  obtain ⟨A', c', e, hm, hl, hn, -⟩ := h
  exact ⟨A', c', e, hm, hl, hn, fun h => absurd h (Nat.lt_irrefl 0)⟩

set_option maxHeartbeats 4000000 in
set_option maxRecDepth 100000 in
theorem readn_0 (T z : Nat) (p : Nat → Prop) (w : World) (hs : RdR w T [] false p) (hz : z < 256) (hj : z % 5 = 0) :
    Calls Try.prog 21 #[.pointer none, .pointer (some ⟨T, 0, none⟩), .int .u8 (z : Int)] w (rnPost p w) := by
  have EX := Lib.hid (Cod.rU_none Cod.dec_nil : Cod.rU [] false = _)
  have e1 : (z : Int).tmod 5 = 0 := by rw [mod_5, hj]; rfl
  have e2 : (z : Int) % 5 = 0 := by omega
  have P := Lib.hid (puint_nil w)
  have Q := Lib.hid fun w1 (hs1 : RdR w1 T [] false p) => ruint_any T [] false p w1 hs1
  have HS := Lib.hid hs
  clear hs hj
  unfold uPost at Q
  go_enter Try.func21, Try.ntmps21
  go_wp2_with fail
  refine P.out.mono ?_
  rintro e w1 ⟨rfl, hb⟩
  have S1 := Lib.hid (HS.out.below hb)
  have C1 := Lib.hid (below_chg hb p)
  clear hb
  go_wp2_with fail
  refine (Q.out w1 S1.out).mono ?_
  rw [EX.out]
  rintro e w2 ⟨rfl, hr, hc⟩
  have C2 := Lib.hid hc
  clear hr hc
  go_wp2_with fail
  go_ret
  exact ⟨congrArg (fun t => Ending.returned (.bool t)) (by simp), C1.out.trans C2.out⟩

set_option maxHeartbeats 4000000 in
set_option maxRecDepth 100000 in
theorem readn_1 (T z : Nat) (p : Nat → Prop) (w : World) (hs : RdR w T [] false p) (hz : z < 256) (hj : z % 5 = 1) :
    Calls Try.prog 21 #[.pointer none, .pointer (some ⟨T, 0, none⟩), .int .u8 (z : Int)] w (rnPost p w) := by
  have EX := Lib.hid (Cod.rI_none Cod.dec_nil : Cod.rI [] false = _)
  have e1 : (z : Int).tmod 5 = 1 := by rw [mod_5, hj]; rfl
  have e2 : (z : Int) % 5 = 1 := by omega
  have P := Lib.hid (pint_nil w)
  have Q := Lib.hid fun w1 (hs1 : RdR w1 T [] false p) => rint_any T [] false p w1 hs1
  have HS := Lib.hid hs
  clear hs hj
  unfold iPost at Q
  go_enter Try.func21, Try.ntmps21
  go_wp2_with fail
  refine P.out.mono ?_
  rintro e w1 ⟨rfl, hb⟩
  have S1 := Lib.hid (HS.out.below hb)
  have C1 := Lib.hid (below_chg hb p)
  clear hb
  go_wp2_with fail
  refine (Q.out w1 S1.out).mono ?_
  rw [EX.out]
  rintro e w2 ⟨rfl, hr, hc⟩
  have C2 := Lib.hid hc
  clear hr hc
  go_wp2_with fail
  go_ret
  exact ⟨congrArg (fun t => Ending.returned (.bool t)) (by simp), C1.out.trans C2.out⟩

set_option maxHeartbeats 4000000 in
set_option maxRecDepth 100000 in
theorem readn_2 (T z : Nat) (p : Nat → Prop) (w : World) (hs : RdR w T [] false p) (hz : z < 256) (hj : z % 5 = 2) :
    Calls Try.prog 21 #[.pointer none, .pointer (some ⟨T, 0, none⟩), .int .u8 (z : Int)] w (rnPost p w) := by
  have EX := Lib.hid (Cod.rB_none Cod.dec_nil : Cod.rB [] false = _)
  have e1 : (z : Int).tmod 5 = 2 := by rw [mod_5, hj]; rfl
  have e2 : (z : Int) % 5 = 2 := by omega
  have P := Lib.hid (pbytes_nil w)
  have Q := Lib.hid fun w1 (hs1 : RdR w1 T [] false p) => rbytes_any T [] false p w1 hs1 (by decide)
  have HS := Lib.hid hs
  clear hs hj
  unfold bPost at Q
  go_enter Try.func21, Try.ntmps21
  go_wp2_with fail
  refine P.out.mono ?_
  rintro e w1 ⟨v1, rfl, hb1, hb⟩
  have S1 := Lib.hid (HS.out.below hb)
  have C1 := Lib.hid (below_chg hb p)
  have G1 := Lib.hid hb1
  obtain ⟨A1, c1, rfl⟩ := hb1.form
  clear hb hb1
  go_wp2_with fail
  refine (Q.out w1 S1.out).mono ?_
  rw [EX.out]
  rintro e w2 ⟨v2, rfl, hb2, hn2, hr, hc⟩
  have C2 := Lib.hid hc
  have k1 := conv_bs (w := w2) (v := .slice A1 ([] : List Nat).length c1) (l := []) 22 5 9 Try.underlying22 Try.underlying5 Try.underlying9 (bs_empty G1.out)
  have k2 := conv_bs 22 5 9 Try.underlying22 Try.underlying5 Try.underlying9 hb2
  obtain ⟨A2, c2, rfl⟩ := hb2.form
  clear hr hc hb2 hn2
  simp only [List.length_nil] at k1 k2
  generalize strOf [] = t at k1 k2
  go_wp2_with fail
  go_ret
  exact ⟨congrArg (fun t => Ending.returned (.bool t)) (by simp), C1.out.trans C2.out⟩

set_option maxHeartbeats 4000000 in
set_option maxRecDepth 100000 in
theorem readn_3 (T z : Nat) (p : Nat → Prop) (w : World) (hs : RdR w T [] false p) (hz : z < 256) (hj : z % 5 = 3) :
    Calls Try.prog 21 #[.pointer none, .pointer (some ⟨T, 0, none⟩), .int .u8 (z : Int)] w (rnPost p w) := by
  have EX := Lib.hid (Cod.rK_out (by decide) : Cod.rK [] false = _)
  have e1 : (z : Int).tmod 5 = 3 := by rw [mod_5, hj]; rfl
  have e2 : (z : Int) % 5 = 3 := by omega
  have P := Lib.hid (pblock_nil w)
  have Q := Lib.hid fun w1 (hs1 : RdR w1 T [] false p) => rblock_any T [] false p w1 hs1
  have HS := Lib.hid hs
  clear hs hj
  unfold kPost at Q
  go_enter Try.func21, Try.ntmps21
  go_wp2_with fail
  refine P.out.mono ?_
  rintro e w1 ⟨rfl, hb⟩
  have S1 := Lib.hid (HS.out.below hb)
  have C1 := Lib.hid (below_chg hb p)
  clear hb
  obtain ⟨q1, hq1⟩ : ∃ q : List Nat, [0, 0, 0, 0, 0, 0, 0, 0] = q := ⟨_, rfl⟩
  have E8b := Lib.hid (show E8 q1 by rw [← hq1]; exact ⟨rfl, by decide⟩)
  rw [hq1] at EX ⊢
  obtain ⟨C, hC⟩ : ∃ C, bkc q1 = C := ⟨_, rfl⟩
  have e8 := fun w => beql8 q1 q1 E8b.out E8b.out w
  have NI := Lib.hid (bkc_info E8b.out.1)
  have ON := Lib.hid (bkc_one q1)
  have SZ := Lib.hid (show C.size = 8 by rw [← hC, bkc_size, E8b.out.1])
  have HC := Lib.hid hC
  rw [hC]
  rw [hC] at e8 NI ON
  clear hC hq1
  have TH := Lib.hid fun (w : World) (Z : Array Value) (hz : Z.size = 8) => rw_there (rw_new w Z 25 rfl) (n := C.size) (by rw [SZ.out, hz]; exact Nat.le_refl _)
  have PT := Lib.hid fun (w : World) (Z : Array Value) (hz : Z.size = 8) => rw_put (rw_new w Z 25 rfl) (ds := C) (by rw [SZ.out, hz])
  have BL := Lib.hid fun (w : World) (Z : Array Value) => rw_below ((Below.refl w.heap.size w).alloc (Nat.le_refl _) (.cells Z 25)) C.toList w.heap.size 0 (Nat.le_refl _)
  go_wp2_with (refine wpList_store_mid rfl _ _ _ rfl _ 0 _ rfl rfl (TH.out _ _ rfl) NI.out ON.out ?_)
  obtain ⟨Z, hZ⟩ : ∃ Z : Array Value, #[.int .u8 0, .int .u8 0, .int .u8 0, .int .u8 0, .int .u8 0, .int .u8 0, .int .u8 0, .int .u8 0] = Z := ⟨_, rfl⟩
  have Z8 : Z.size = 8 := by rw [← hZ]; rfl
  rw [hZ]
  have RA := Lib.hid (PT.out w1 Z Z8)
  have BA := Lib.hid (BL.out w1 Z)
  obtain ⟨g1, hg1⟩ : ∃ g, w1.heap.size = g := ⟨_, rfl⟩
  rw [hg1] at RA BA ⊢
  generalize hww : World.setCells (World.alloc w1 _) g1 0 C.toList = w2 at RA BA ⊢
  rw [← hg1] at BA
  clear hww hZ Z8
  have S2 := Lib.hid (S1.out.below BA.out)
  have G1 := Lib.hid (show ∀ k, p k → k < g1 by rw [← hg1]; exact S1.out.2.1)
  refine (Q.out w2 S2.out).mono ?_
  rw [EX.out]
  rintro e w3 ⟨rfl, hr, hc⟩
  have C3 := Lib.hid hc
  have RB := Lib.hid (rw_ch RA.out hc fun h => by have := G1.out _ h; omega)
  clear hr hc
  rw [HC.out]
  have LA := Lib.hid fun (Z : Array Value) => rw_fw RB.out (BL.out w3 Z)
  have FA := Lib.hid fun (Z : Array Value) => (show Chg p w ((w3.alloc (.cells Z 25)).setCells w3.heap.size 0 C.toList) from
    ((C1.out.trans (below_chg BA.out _)).trans C3.out).trans (below_chg (BL.out w3 Z) _))
  clear S1 S2 C1 C3 BA RA RB
  go_wp2_with (first
    | (refine wpList_load_row rfl _ _ rfl _ rfl _ _ (0, 0) _ (LA.out _) Try.underlying25 rfl NI.out ?_)
    | (refine wpList_load_row rfl _ _ rfl _ rfl _ _ (0, 0) _ (PT.out w3 _ rfl) Try.underlying25 rfl NI.out ?_)
    | (refine wpList_store_mid rfl _ _ _ rfl _ 0 _ rfl rfl (TH.out _ _ rfl) NI.out ON.out ?_))
  go_ret
  exact ⟨congrArg (fun t => Ending.returned (.bool t)) (by simp), FA.out _⟩

set_option maxHeartbeats 4000000 in
set_option maxRecDepth 100000 in
theorem readn_4 (T z : Nat) (p : Nat → Prop) (w : World) (hs : RdR w T [] false p) (hz : z < 256) (hj : z % 5 = 4) :
    Calls Try.prog 21 #[.pointer none, .pointer (some ⟨T, 0, none⟩), .int .u8 (z : Int)] w (rnPost p w) := by
  have EX := Lib.hid (Cod.rC_none Cod.dec_nil : Cod.rC z [] false = _)
  have e1 : (z : Int).tmod 5 = 4 := by rw [mod_5, hj]; rfl
  have e2 : (z : Int) % 5 = 4 := by omega
  have P := Lib.hid (pcount_nil w (z : Int) (by omega) (by omega))
  have Q := Lib.hid fun w1 (hs1 : RdR w1 T [] false p) => rcount_any T [] false p w1 hs1 (z : Int) (by omega) (by omega)
  have HS := Lib.hid hs
  clear hs hj
  unfold cPost at Q
  go_enter Try.func21, Try.ntmps21
  go_wp2_with fail
  refine P.out.mono ?_
  rintro e w1 ⟨rfl, hb⟩
  have S1 := Lib.hid (HS.out.below hb)
  have C1 := Lib.hid (below_chg hb p)
  clear hb
  go_wp2_with fail
  refine (Q.out w1 S1.out).mono ?_
  rw [EX.out]
  rintro e w2 ⟨rfl, hr, hc⟩
  have C2 := Lib.hid hc
  clear hr hc
  go_wp2_with fail
  go_ret
  exact ⟨congrArg (fun t => Ending.returned (.bool t)) (by simp), C1.out.trans C2.out⟩

theorem readn_any (T z : Nat) (p : Nat → Prop) (w : World) (hs : RdR w T [] false p) (hz : z < 256) :
    Calls Try.prog 21 #[.pointer none, .pointer (some ⟨T, 0, none⟩), .int .u8 (z : Int)] w (rnPost p w) := by
  rcases (by omega : z % 5 = 0 ∨ z % 5 = 1 ∨ z % 5 = 2 ∨ z % 5 = 3 ∨ z % 5 = 4) with hj | hj | hj | hj | hj
  · exact readn_0 T z p w hs hz hj
  · exact readn_1 T z p w hs hz hj
  · exact readn_2 T z p w hs hz hj
  · exact readn_3 T z p w hs hz hj
  · exact readn_4 T z p w hs hz hj
end Go.Proofs.Ytajeboigkpelgaa
