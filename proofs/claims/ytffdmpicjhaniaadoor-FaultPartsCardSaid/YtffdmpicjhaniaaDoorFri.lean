/- Layer 13: contracts of the program: read. WRITTEN BY gen_Fri.py. -/
import Derived.Test.YtffdmpicjhaniaaDoorFrh
namespace Go.Proofs.YtffdmpicjhaniaaDoor
open Go Go.RowKit Flt
set_option linter.unusedVariables false
set_option linter.unusedSimpArgs false
theorem si13 : (Tryd.prog.info? 26).map (·.size) = some 3 := by kernel_rfl
theorem Row.thr13 {w : World} {g : Nat} {t : TypeId} {x y z : Value} (h : Row w g t #[x, y, z]) : w.there g 0 3 := by
  intro j hj
  rw [Nat.zero_add]
  refine ⟨?_, h.frozen j⟩
  rw [h.cell]
  match j, hj with
  | 0, _ => rfl
  | 1, _ => rfl
  | 2, _ => rfl
theorem ba_sz (l : List UInt8) : (⟨l.toArray⟩ : ByteArray).size = l.length := rfl
theorem ba_dat (l : List UInt8) : (⟨l.toArray⟩ : ByteArray).data.toList = l := rfl
set_option maxHeartbeats 4000000 in
set_option maxRecDepth 100000 in
theorem pread_any (s : ByteArray) (hs : s.size < 4294967281) (w : World) (T : Tab w) : Calls Tryd.prog 29 #[.string s] w (mPost (fV (rdf s.data.toList)) w) := by
  obtain ⟨B0, hB0⟩ : ∃ B, w.heap.size = B := ⟨_, rfl⟩
  obtain ⟨W0, hW0⟩ : ∃ W, w.alloc (.cells #[.int .i64 0, .int .i64 0, .int .i64 0] 26) = W := ⟨_, rfl⟩
  have HBW : Hid (Below w.heap.size w W0) := Lib.hid (by subst hW0; exact (Below.refl _ _).alloc (Nat.le_refl _) _)
  have R0 : Hid (Row W0 B0 26 #[.int .i64 0, .int .i64 0, .int .i64 0]) := Lib.hid (by subst hW0; exact new13 w _ _ hB0)
  have TT0 := Lib.hid (T.fw HBW.out)
  have HB0 := Lib.hid hB0
  have HW0 := Lib.hid hW0
  have C1 := fun w T => cut_any s ⟨#[32]⟩ hs w T
  obtain ⟨l, hl⟩ : ∃ l, s.data.toList = l := ⟨_, rfl⟩
  have ls : l.length = s.size := by rw [← hl]; simp
  unfold cuV at C1
  rw [hl] at C1 ⊢
  rw [show (⟨#[32]⟩ : ByteArray).data.toList = uSp from rfl] at C1
  have e1 := cut_right l uSp
  obtain ⟨p1, hp1⟩ : ∃ x, (⟨(Lib.cut l uSp).1.toArray⟩ : ByteArray) = x := ⟨_, rfl⟩
  obtain ⟨p2, hp2⟩ : ∃ x, (⟨(Lib.cut l uSp).2.1.toArray⟩ : ByteArray) = x := ⟨_, rfl⟩
  have l2 : p2.data.toList = (Lib.cut l uSp).2.1 := by rw [← hp2]
  have s2 : p2.size ≤ s.size := by rw [← hp2, ba_sz]; omega
  have C2 := fun w T => cut_any p2 ⟨#[32, 116, 111, 32]⟩ (by omega) w T
  unfold cuV at C2
  rw [l2, show (⟨#[32, 116, 111, 32]⟩ : ByteArray).data.toList = uTo from rfl] at C2
  have e3 := cut_left (Lib.cut l uSp).2.1 uTo
  have e4 := cut_right (Lib.cut l uSp).2.1 uTo
  obtain ⟨q1, hq1⟩ : ∃ x, (⟨(Lib.cut (Lib.cut l uSp).2.1 uTo).1.toArray⟩ : ByteArray) = x := ⟨_, rfl⟩
  obtain ⟨q2, hq2⟩ : ∃ x, (⟨(Lib.cut (Lib.cut l uSp).2.1 uTo).2.1.toArray⟩ : ByteArray) = x := ⟨_, rfl⟩
  have N1 := fun w T => pnum_any q1 (by rw [← hq1, ba_sz]; omega) w T
  have N2 := fun w T => pnum_any q2 (by rw [← hq2, ba_sz]; omega) w T
  have IX := fun w T => idx_any p1 w T
  have RV : rdf l = ⟨num q1.data.toList, Lib.idxOfS wds p1, num q2.data.toList⟩ := by rw [← hq1, ← hq2, ← hp1]; rfl
  rw [hp1, hp2] at C1
  rw [hq1, hq2] at C2
  rw [RV]
  obtain ⟨b1, hb1⟩ : ∃ x, (Lib.cut l uSp).2.2 = x := ⟨_, rfl⟩
  obtain ⟨b2, hb2⟩ : ∃ x, (Lib.cut (Lib.cut l uSp).2.1 uTo).2.2 = x := ⟨_, rfl⟩
  rw [hb1] at C1
  rw [hb2] at C2
  show Calls _ _ _ _ (mPost (.agg #[.int .i64 (num q1.data.toList), .int .i64 (Lib.idxOfS wds p1), .int .i64 (num q2.data.toList)]) w)
  obtain ⟨x, hx⟩ : ∃ x, num q1.data.toList = x := ⟨_, rfl⟩
  obtain ⟨y, hy⟩ : ∃ x, Lib.idxOfS wds p1 = x := ⟨_, rfl⟩
  obtain ⟨z, hz⟩ : ∃ x, num q2.data.toList = x := ⟨_, rfl⟩
  rw [hx] at N1 ⊢
  rw [hy] at IX ⊢
  rw [hz] at N2 ⊢
  have C1 := Lib.hid C1
  have C2 := Lib.hid C2
  have N1 := Lib.hid N1
  have N2 := Lib.hid N2
  have IX := Lib.hid IX
  have BB := Lib.hid (show w.heap.size ≤ B0 by omega)
  clear hB0 hW0 hs T hl ls e1 hp1 hp2 l2 s2 e3 e4 hq1 hq2 RV hb1 hb2 hx hy hz
  go_enter Tryd.func29, Tryd.ntmps29
  go_wp2_with (first | rw [HB0.out] | rw [HW0.out])
  refine (C1.out _ TT0.out).mono ?_
  rintro e x1 ⟨rfl, hb⟩
  have hq2 : Below W0.heap.size W0 x1 := hb
  have R_3 := Lib.hid (rw13 R0.out hq2)
  have T_4 := Lib.hid (Tab.fw TT0.out hq2)
  have HB_5 : Hid (Below w.heap.size w x1) := Lib.hid (HBW.out.trans (hq2.mono HBW.out.size))
  clear hq2
  clear hb
  go_wp2_with fail
  refine (C2.out _ T_4.out).mono ?_
  rintro e x6 ⟨rfl, hb⟩
  have hq7 : Below x1.heap.size x1 x6 := hb
  have R_8 := Lib.hid (rw13 R_3.out hq7)
  have T_9 := Lib.hid (Tab.fw T_4.out hq7)
  have HB_10 : Hid (Below w.heap.size w x6) := Lib.hid (HB_5.out.trans (hq7.mono HB_5.out.size))
  clear hq7
  clear hb
  go_wp2_with fail
  refine wp_region_held (P := Tryd.prog) (S := (fun w' : World => True)) rfl ?_
  change wpAnyH _ _ _ _ _ _ _ _ x6.drew
  have hz12 : Below x6.heap.size x6 x6.drew := (Below.refl x6.heap.size x6).drew
  generalize x6.drew = wz11 at hz12 ⊢
  have hq13 : Below x6.heap.size x6 wz11 := hz12
  have R_14 := Lib.hid (rw13 R_8.out hq13)
  have T_15 := Lib.hid (Tab.fw T_9.out hq13)
  have HB_16 : Hid (Below w.heap.size w wz11) := Lib.hid (HB_10.out.trans (hq13.mono HB_10.out.size))
  clear hq13
  clear hz12
  have hS17 : (fun w' : World => True) wz11 := trivial
  refine takeD (i := 0) (v := .string q1) (some 21) rfl rfl (by kernel_rfl) (by kernel_rfl) (by kernel_rfl) (fun _ _ _ h => h) (Or.inl ⟨by rfl, by rintro w' -; go_simp⟩) hS17 ?_
  simp only [Act.put, List.setIfInBounds_toArray, List.set_cons_zero, List.set_cons_succ]
  refine takeD (i := 2) (v := .slice (some ⟨0, 0, none⟩) 8 8) (some 23) rfl rfl (by kernel_rfl) (by kernel_rfl) (by kernel_rfl) (fun _ _ _ h => h) (Or.inl ⟨by rfl, by rintro w' -; go_simp⟩) hS17 ?_
  simp only [Act.put, List.setIfInBounds_toArray, List.set_cons_zero, List.set_cons_succ]
  refine takeD (i := 3) (v := .string p1) (some 24) rfl rfl (by kernel_rfl) (by kernel_rfl) (by kernel_rfl) (fun _ _ _ h => h) (Or.inl ⟨by rfl, by rintro w' -; go_simp⟩) hS17 ?_
  simp only [Act.put, List.setIfInBounds_toArray, List.set_cons_zero, List.set_cons_succ]
  refine takeD (i := 5) (v := .string q2) (some 26) rfl rfl (by kernel_rfl) (by kernel_rfl) (by kernel_rfl) (fun _ _ _ h => h) (Or.inl ⟨by rfl, by rintro w' -; go_simp⟩) hS17 ?_
  simp only [Act.put, List.setIfInBounds_toArray, List.set_cons_zero, List.set_cons_succ]
  refine wpAnyH_ready (rs := [1]) (by kernel_rfl) (by simp) ?_
  refine AllReadyH.cons rfl (fun K18 hK18 => ?_) AllReadyH.nil
  have HK18 := Lib.hid hK18
  clear hK18
  rw [if_pos (by rfl)]
  go_simp
  refine (N1.out _ T_15.out).mono ?_
  rintro e x19 ⟨rfl, hb⟩
  have hq20 : Below wz11.heap.size wz11 x19 := hb
  have R_21 := Lib.hid (rw13 R_14.out hq20)
  have T_22 := Lib.hid (Tab.fw T_15.out hq20)
  have HB_23 : Hid (Below w.heap.size w x19) := Lib.hid (HB_16.out.trans (hq20.mono HB_16.out.size))
  clear hq20
  clear hb
  have hS24 : (fun w' : World => True) x19 := trivial
  refine HK18.out _ _ hS24 fun _ => ?_
  try simp only [Act.put, List.setIfInBounds_toArray, List.set_cons_zero, List.set_cons_succ]
  refine wpAnyH_ready (rs := [4]) (by kernel_rfl) (by simp) ?_
  refine AllReadyH.cons rfl (fun K25 hK25 => ?_) AllReadyH.nil
  have HK25 := Lib.hid hK25
  clear hK25
  rw [if_pos (by rfl)]
  go_simp
  refine (IX.out _ T_22.out).mono ?_
  rintro e x26 ⟨rfl, hw⟩
  have hb : Below x19.heap.size x19 x26 := hw ▸ Below.refl _ _
  have hq27 : Below x19.heap.size x19 x26 := hb
  have R_28 := Lib.hid (rw13 R_21.out hq27)
  have T_29 := Lib.hid (Tab.fw T_22.out hq27)
  have HB_30 : Hid (Below w.heap.size w x26) := Lib.hid (HB_23.out.trans (hq27.mono HB_23.out.size))
  clear hq27
  clear hb hw
  have hS31 : (fun w' : World => True) x26 := trivial
  refine HK25.out _ _ hS31 fun _ => ?_
  try simp only [Act.put, List.setIfInBounds_toArray, List.set_cons_zero, List.set_cons_succ]
  refine wpAnyH_ready (rs := [6]) (by kernel_rfl) (by simp) ?_
  refine AllReadyH.cons rfl (fun K32 hK32 => ?_) AllReadyH.nil
  have HK32 := Lib.hid hK32
  clear hK32
  rw [if_pos (by rfl)]
  go_simp
  refine (N2.out _ T_29.out).mono ?_
  rintro e x33 ⟨rfl, hb⟩
  have hq34 : Below x26.heap.size x26 x33 := hb
  have R_35 := Lib.hid (rw13 R_28.out hq34)
  have T_36 := Lib.hid (Tab.fw T_29.out hq34)
  have HB_37 : Hid (Below w.heap.size w x33) := Lib.hid (HB_30.out.trans (hq34.mono HB_30.out.size))
  clear hq34
  clear hb
  have hS38 : (fun w' : World => True) x33 := trivial
  refine HK32.out _ _ hS38 fun _ => ?_
  try simp only [Act.put, List.setIfInBounds_toArray, List.set_cons_zero, List.set_cons_succ]
  refine takeD (i := 7) (v := .agg #[.int .i64 x, .int .i64 y, .int .i64 z]) (some 28) rfl rfl (by kernel_rfl) (by kernel_rfl) (by kernel_rfl) (fun _ _ _ h => h) (Or.inl ⟨by rfl, by rintro w' -; go_simp⟩) hS38 ?_
  simp only [Act.put, List.setIfInBounds_toArray, List.set_cons_zero, List.set_cons_succ]
  refine wpAnyH_ready (rs := [8]) (by kernel_rfl) (by simp) ?_
  refine AllReadyH.cons rfl (fun K39 hK39 => ?_) AllReadyH.nil
  have HK39 := Lib.hid hK39
  clear hK39
  rw [if_pos (by rfl)]
  refine wp_store_mid _ _ _ rfl B0 0 #[.int .i64 x, .int .i64 y, .int .i64 z] rfl rfl R_35.out.thr13 si13 (by simp [Value.oneCell']) ?_
  have ZR := Lib.hid (row_set3 R_35.out (x' := .int .i64 x) (y' := .int .i64 y) (z' := .int .i64 z))
  have ZB := Lib.hid (((HB_37.out.setCell (p := ⟨B0, 0, none⟩) BB.out (.int .i64 x)).setCell (p := ⟨B0, 1, none⟩) BB.out (.int .i64 y)).setCell (p := ⟨B0, 2, none⟩) BB.out (.int .i64 z))
  generalize hww : x33.setCells B0 0 #[.int .i64 x, .int .i64 y, .int .i64 z].toList = W9
  rw [show ((x33.setCell ⟨B0, 0, none⟩ (.int .i64 x)).setCell ⟨B0, 1, none⟩ (.int .i64 y)).setCell ⟨B0, 2, none⟩ (.int .i64 z) = W9 from hww] at ZR ZB
  clear hww
  have hS40 : (fun w' : World => True) W9 := trivial
  refine HK39.out _ _ hS40 fun _ => ?_
  refine wpAnyH_done (by kernel_rfl) ?_ _
  go_wp2_with fail
  refine bodyPost_ret (results_cell_row (g := B0) (t := 26) (fr := (0, 0)) rfl _ _ _ _ rfl ZR.out Tryd.underlying26 rfl si13) rfl ?_
  exact ⟨rfl, ZB.out⟩
end Go.Proofs.YtffdmpicjhaniaaDoor
