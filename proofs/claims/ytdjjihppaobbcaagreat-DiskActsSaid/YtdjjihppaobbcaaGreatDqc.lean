/- Layer 14: the law's same. WRITTEN BY gen_Dqc.py. -/
import Derived.Test.YtdjjihppaobbcaaGreatHC
namespace Go.Proofs.YtdjjihppaobbcaaGreat
open Go Go.RowKit Med Flt
set_option linter.unusedVariables false
set_option linter.unusedSimpArgs false
theorem DRow.sts {w : World} {D R Bn T S O K P : Nat} {v : Value} {d : Dsk.Dk} (h : DRow w D R Bn T S O K P v d) : w.rangeAt D 12 [.int .i64 (d.rs : Int), .int .i64 (d.ws : Int), .int .i64 (d.es : Int), .int .i64 (d.fs : Int)] := by
  intro j u hu
  have hj : j < 4 := (List.getElem?_eq_some_iff.1 hu).1
  rw [Row.cell h, ← hu]
  match j, hj with
  | 0, _ => rfl
  | 1, _ => rfl
  | 2, _ => rfl
  | 3, _ => rfl
set_option maxHeartbeats 4000000 in
set_option maxRecDepth 100000 in
theorem same14_any {A B : Zn} {w : World} {D P E Q R Bn T S O : Nat} {L L' : List F} {d : Dsk.Dk} (h1 : PDk A w D P R Bn T S O L d) (h2 : RDk B w E Q R Bn T S O L' d) :
    Calls Tryz.prog 12 #[.pointer (some ⟨D, 0, none⟩), .pointer (some ⟨E, 0, none⟩)] w (gPost (.bool true) w) := by
  obtain ⟨⟨K, v, hr, hre, ho⟩, hlow⟩ := h2
  obtain ⟨M0, X0, c0_, vo, ha⟩ := id hre
  obtain ⟨p, cap, rfl, _, _⟩ := ha.ol.form
  obtain ⟨n0, hn0⟩ : ∃ n, d.ops.length = n := ⟨_, rfl⟩
  have EO := Lib.hid hn0
  have har := ha.row
  rw [hn0] at har
  have PD0 := Lib.hid h1
  have DR0 := Lib.hid hr
  have RE0 := Lib.hid hre
  have AR0 := Lib.hid har
  obtain ⟨l, hl⟩ : ∃ x, Dsk.cont R Bn T S O d = x := ⟨_, rfl⟩
  have EL := Lib.hid hl
  clear h1 hr hre ho hlow ha hn0 har hl
  go_enter Tryz.func12, Tryz.ntmps12
  go_wp2_with fail
  refine wp_region_held (P := Tryz.prog) (S := (fun w' : World => Below w.heap.size w w')) rfl ?_
  change wpAnyH _ _ _ _ _ _ _ _ w.drew
  have hz2 : Below w.heap.size w w.drew := (Below.refl w.heap.size w).drew
  generalize w.drew = wz1 at hz2 ⊢
  have P_3 := Lib.hid (PDk.fw PD0.out (hz2))
  have D_4 := Lib.hid (Row.go DR0.out (hz2))
  have E_5 := Lib.hid (Re.fw RE0.out (hz2))
  have A_6 := Lib.hid (Row.go AR0.out (hz2))
  have hl7 := hz2
  have HT_8 : Hid (Below w.heap.size w wz1) := Lib.hid (hl7)
  refine wpAnyH_up (S' := (fun w' : World => Below wz1.heap.size wz1 w')) (fun w' h => hz2.trans (h.mono hz2.size)) ?_
  have hS9 : (fun w' : World => Below wz1.heap.size wz1 w') wz1 := Below.refl _ _
  refine takeD (i := 0) (v := .pointer (some ⟨D, 0, none⟩)) (some 7) rfl rfl (by kernel_rfl) (by kernel_rfl) (by kernel_rfl) (fun _ _ _ h => h) (Or.inl ⟨by rfl, by rintro w' -; go_simp⟩) hS9 ?_
  simp only [Act.put, List.setIfInBounds_toArray, List.set_cons_zero, List.set_cons_succ]
  refine takeD (i := 2) (v := .pointer (some ⟨E, 0, none⟩)) (some 9) rfl rfl (by kernel_rfl) (by kernel_rfl) (by kernel_rfl) (fun _ _ _ h => h) (Or.inl ⟨by rfl, by rintro w' -; go_simp⟩) hS9 ?_
  simp only [Act.put, List.setIfInBounds_toArray, List.set_cons_zero, List.set_cons_succ]
  refine takeD (i := 3) (v := .pointer (some ⟨E, 0, none⟩)) (some 10) rfl rfl (by kernel_rfl) (by kernel_rfl) (by kernel_rfl) (fun _ _ _ h => h) (Or.inl ⟨by rfl, by rintro w' -; go_simp⟩) hS9 ?_
  simp only [Act.put, List.setIfInBounds_toArray, List.set_cons_zero, List.set_cons_succ]
  refine takeD (i := 4) (v := .pointer (some ⟨E, 0, none⟩)) (some 11) rfl rfl (by kernel_rfl) (by kernel_rfl) (by kernel_rfl) (fun _ _ _ h => h) (Or.inl ⟨by rfl, by rintro w' -; go_simp⟩) hS9 ?_
  simp only [Act.put, List.setIfInBounds_toArray, List.set_cons_zero, List.set_cons_succ]
  refine takeD (i := 5) (v := .agg #[.int .i64 (R : Int), .int .i64 (Bn : Int), .int .i64 (T : Int), .int .i64 (S : Int), .int .i64 (O : Int)]) (some 12) rfl rfl (by kernel_rfl) (by kernel_rfl) (by kernel_rfl) (fun _ _ _ h => h) (yieldsIf_load_mid (by rfl) _ _ rfl E 0 rfl [.int .i64 (R : Int), .int .i64 (Bn : Int), .int .i64 (T : Int), .int .i64 (S : Int), .int .i64 (O : Int)] _ (fun w' h => DRow.geo (Row.go D_4.out h)) Tryz.underlying23 rfl (by kernel_rfl)) hS9 ?_
  simp only [Act.put, List.setIfInBounds_toArray, List.set_cons_zero, List.set_cons_succ]
  refine wpAnyH_ready (rs := [1]) (by kernel_rfl) (by simp) ?_
  refine AllReadyH.cons rfl (fun K10 hK10 => ?_) AllReadyH.nil
  have HK10 := Lib.hid hK10
  clear hK10
  rw [if_pos (by rfl)]
  go_simp
  refine (pgeo14_any (p := Dsk.Pw.new) P_3.out).mono ?_
  rintro e x11 ⟨rfl, hb⟩
  have P_12 := Lib.hid (PDk.fw P_3.out (hb))
  have D_13 := Lib.hid (Row.go D_4.out (hb))
  have E_14 := Lib.hid (Re.fw E_5.out (hb))
  have A_15 := Lib.hid (Row.go A_6.out (hb))
  have hl16 := hb
  have HT_17 : Hid (Below w.heap.size w x11) := Lib.hid (HT_8.out.trans ((hl16).mono HT_8.out.size))
  clear hb
  have hb19 : Below wz1.heap.size wz1 x11 := hl16
  have hS18 : (fun w' : World => Below wz1.heap.size wz1 w') x11 := hb19
  refine HK10.out _ _ hS18 fun _ => ?_
  try simp only [Act.put, List.setIfInBounds_toArray, List.set_cons_zero, List.set_cons_succ]
  refine wpAnyH_up (S' := (fun w' : World => Below x11.heap.size x11 w')) (fun w' h => hb19.trans (h.mono hb19.size)) ?_
  have hS20 : (fun w' : World => Below x11.heap.size x11 w') x11 := Below.refl _ _
  refine takeD (i := 6) (v := .bool false) (some 13) rfl rfl (by kernel_rfl) (by kernel_rfl) (by kernel_rfl) (fun _ _ _ h => h) (Or.inl ⟨by rfl, by rintro w' -; go_simp⟩) hS20 ?_
  simp only [Act.put, List.setIfInBounds_toArray, List.set_cons_zero, List.set_cons_succ]
  refine takeD (i := 7) (v := .bool false) (some 14) rfl rfl (by kernel_rfl) (by kernel_rfl) (by kernel_rfl) (fun _ _ _ h => h) (Or.inl ⟨by rfl, by rintro w' -; go_simp⟩) hS20 ?_
  simp only [Act.put, List.setIfInBounds_toArray, List.set_cons_zero, List.set_cons_succ]
  refine takeD (i := 8) (v := .pointer (some ⟨D, 0, none⟩)) (some 15) rfl rfl (by kernel_rfl) (by kernel_rfl) (by kernel_rfl) (fun _ _ _ h => h) (Or.inl ⟨by rfl, by rintro w' -; go_simp⟩) hS20 ?_
  simp only [Act.put, List.setIfInBounds_toArray, List.set_cons_zero, List.set_cons_succ]
  refine takeD (i := 10) (v := .pointer (some ⟨E, 0, none⟩)) (some 17) rfl rfl (by kernel_rfl) (by kernel_rfl) (by kernel_rfl) (fun _ _ _ h => h) (Or.inl ⟨by rfl, by rintro w' -; go_simp⟩) hS20 ?_
  simp only [Act.put, List.setIfInBounds_toArray, List.set_cons_zero, List.set_cons_succ]
  refine takeD (i := 11) (v := .pointer (some ⟨E, 0, none⟩)) (some 18) rfl rfl (by kernel_rfl) (by kernel_rfl) (by kernel_rfl) (fun _ _ _ h => h) (Or.inl ⟨by rfl, by rintro w' -; go_simp⟩) hS20 ?_
  simp only [Act.put, List.setIfInBounds_toArray, List.set_cons_zero, List.set_cons_succ]
  refine takeD (i := 12) (v := .pointer (some ⟨E, 9, none⟩)) (some 19) rfl rfl (by kernel_rfl) (by kernel_rfl) (by kernel_rfl) (fun _ _ _ h => h) (Or.inl ⟨by rfl, by rintro w' -; go_simp⟩) hS20 ?_
  simp only [Act.put, List.setIfInBounds_toArray, List.set_cons_zero, List.set_cons_succ]
  refine takeD (i := 13) (v := .bool d.dead) (some 20) rfl rfl (by kernel_rfl) (by kernel_rfl) (by kernel_rfl) (fun _ _ _ h => h) (Or.inl ⟨by rfl, by rintro w' h; have hc := (DRow.cells (Row.go D_13.out h)).1.2.2.2.2; go_simp⟩) hS20 ?_
  simp only [Act.put, List.setIfInBounds_toArray, List.set_cons_zero, List.set_cons_succ]
  refine wpAnyH_ready (rs := [9]) (by kernel_rfl) (by simp) ?_
  refine AllReadyH.cons rfl (fun K21 hK21 => ?_) AllReadyH.nil
  have HK21 := Lib.hid hK21
  clear hK21
  rw [if_pos (by rfl)]
  go_simp
  have QC := pdead_any (p := Dsk.Pw.new) P_12.out
  refine QC.mono ?_
  clear QC
  rintro e x22 ⟨rfl, hw⟩
  have hb : Below x11.heap.size x11 x22 := hw ▸ Below.refl _ _
  have P_23 := Lib.hid (PDk.fw P_12.out (hb))
  have D_24 := Lib.hid (Row.go D_13.out (hb))
  have E_25 := Lib.hid (Re.fw E_14.out (hb))
  have A_26 := Lib.hid (Row.go A_15.out (hb))
  have hl27 := hb
  have HT_28 : Hid (Below w.heap.size w x22) := Lib.hid (HT_17.out.trans ((hl27).mono HT_17.out.size))
  clear hb hw
  have hb30 : Below x11.heap.size x11 x22 := hl27
  have hS29 : (fun w' : World => Below x11.heap.size x11 w') x22 := hb30
  refine HK21.out _ _ hS29 fun _ => ?_
  try simp only [Act.put, List.setIfInBounds_toArray, List.set_cons_zero, List.set_cons_succ]
  refine wpAnyH_up (S' := (fun w' : World => Below x22.heap.size x22 w')) (fun w' h => hb30.trans (h.mono hb30.size)) ?_
  have hS31 : (fun w' : World => Below x22.heap.size x22 w') x22 := Below.refl _ _
  refine takeD (i := 14) (v := .bool false) (some 21) rfl rfl (by kernel_rfl) (by kernel_rfl) (by kernel_rfl) (fun _ _ _ h => h) (Or.inl ⟨by rfl, by rintro w' -; go_simp⟩) hS31 ?_
  simp only [Act.put, List.setIfInBounds_toArray, List.set_cons_zero, List.set_cons_succ]
  refine takeD (i := 15) (v := .bool false) (some 22) rfl rfl (by kernel_rfl) (by kernel_rfl) (by kernel_rfl) (fun _ _ _ h => h) (Or.inl ⟨by rfl, by rintro w' -; go_simp⟩) hS31 ?_
  simp only [Act.put, List.setIfInBounds_toArray, List.set_cons_zero, List.set_cons_succ]
  refine takeD (i := 16) (v := .bool false) (some 23) rfl rfl (by kernel_rfl) (by kernel_rfl) (by kernel_rfl) (fun _ _ _ h => h) (Or.inl ⟨by rfl, by rintro w' -; go_simp⟩) hS31 ?_
  simp only [Act.put, List.setIfInBounds_toArray, List.set_cons_zero, List.set_cons_succ]
  refine takeD (i := 17) (v := .pointer (some ⟨D, 0, none⟩)) (some 24) rfl rfl (by kernel_rfl) (by kernel_rfl) (by kernel_rfl) (fun _ _ _ h => h) (Or.inl ⟨by rfl, by rintro w' -; go_simp⟩) hS31 ?_
  simp only [Act.put, List.setIfInBounds_toArray, List.set_cons_zero, List.set_cons_succ]
  refine takeD (i := 19) (v := .pointer (some ⟨E, 0, none⟩)) (some 26) rfl rfl (by kernel_rfl) (by kernel_rfl) (by kernel_rfl) (fun _ _ _ h => h) (Or.inl ⟨by rfl, by rintro w' -; go_simp⟩) hS31 ?_
  simp only [Act.put, List.setIfInBounds_toArray, List.set_cons_zero, List.set_cons_succ]
  refine takeD (i := 20) (v := .pointer (some ⟨E, 0, none⟩)) (some 27) rfl rfl (by kernel_rfl) (by kernel_rfl) (by kernel_rfl) (fun _ _ _ h => h) (Or.inl ⟨by rfl, by rintro w' -; go_simp⟩) hS31 ?_
  simp only [Act.put, List.setIfInBounds_toArray, List.set_cons_zero, List.set_cons_succ]
  refine takeD (i := 21) (v := .pointer (some ⟨E, 12, none⟩)) (some 28) rfl rfl (by kernel_rfl) (by kernel_rfl) (by kernel_rfl) (fun _ _ _ h => h) (Or.inl ⟨by rfl, by rintro w' -; go_simp⟩) hS31 ?_
  simp only [Act.put, List.setIfInBounds_toArray, List.set_cons_zero, List.set_cons_succ]
  refine takeD (i := 22) (v := .agg #[.int .i64 (d.rs : Int), .int .i64 (d.ws : Int), .int .i64 (d.es : Int), .int .i64 (d.fs : Int)]) (some 29) rfl rfl (by kernel_rfl) (by kernel_rfl) (by kernel_rfl) (fun _ _ _ h => h) (yieldsIf_load_mid (by rfl) _ _ rfl E 12 rfl [.int .i64 (d.rs : Int), .int .i64 (d.ws : Int), .int .i64 (d.es : Int), .int .i64 (d.fs : Int)] _ (fun w' h => DRow.sts (Row.go D_24.out h)) Tryz.underlying56 rfl (by kernel_rfl)) hS31 ?_
  simp only [Act.put, List.setIfInBounds_toArray, List.set_cons_zero, List.set_cons_succ]
  refine wpAnyH_ready (rs := [18]) (by kernel_rfl) (by simp) ?_
  refine AllReadyH.cons rfl (fun K32 hK32 => ?_) AllReadyH.nil
  have HK32 := Lib.hid hK32
  clear hK32
  rw [if_pos (by rfl)]
  go_simp
  refine (pstats_any (p := Dsk.Pw.new) P_23.out).mono ?_
  rintro e x33 ⟨rfl, hb⟩
  have P_34 := Lib.hid (PDk.fw P_23.out (hb))
  have D_35 := Lib.hid (Row.go D_24.out (hb))
  have E_36 := Lib.hid (Re.fw E_25.out (hb))
  have A_37 := Lib.hid (Row.go A_26.out (hb))
  have hl38 := hb
  have HT_39 : Hid (Below w.heap.size w x33) := Lib.hid (HT_28.out.trans ((hl38).mono HT_28.out.size))
  clear hb
  have hb41 : Below x22.heap.size x22 x33 := hl38
  have hS40 : (fun w' : World => Below x22.heap.size x22 w') x33 := hb41
  refine HK32.out _ _ hS40 fun _ => ?_
  try simp only [Act.put, List.setIfInBounds_toArray, List.set_cons_zero, List.set_cons_succ]
  refine wpAnyH_up (S' := (fun w' : World => Below x33.heap.size x33 w')) (fun w' h => hb41.trans (h.mono hb41.size)) ?_
  have hS42 : (fun w' : World => Below x33.heap.size x33 w') x33 := Below.refl _ _
  refine takeD (i := 23) (v := .bool false) (some 30) rfl rfl (by kernel_rfl) (by kernel_rfl) (by kernel_rfl) (fun _ _ _ h => h) (Or.inl ⟨by rfl, by rintro w' -; go_simp⟩) hS42 ?_
  simp only [Act.put, List.setIfInBounds_toArray, List.set_cons_zero, List.set_cons_succ]
  refine takeD (i := 24) (v := .bool false) (some 31) rfl rfl (by kernel_rfl) (by kernel_rfl) (by kernel_rfl) (fun _ _ _ h => h) (Or.inl ⟨by rfl, by rintro w' -; go_simp⟩) hS42 ?_
  simp only [Act.put, List.setIfInBounds_toArray, List.set_cons_zero, List.set_cons_succ]
  refine takeD (i := 25) (v := .bool false) (some 32) rfl rfl (by kernel_rfl) (by kernel_rfl) (by kernel_rfl) (fun _ _ _ h => h) (Or.inl ⟨by rfl, by rintro w' -; go_simp⟩) hS42 ?_
  simp only [Act.put, List.setIfInBounds_toArray, List.set_cons_zero, List.set_cons_succ]
  refine takeD (i := 26) (v := .pointer (some ⟨D, 0, none⟩)) (some 33) rfl rfl (by kernel_rfl) (by kernel_rfl) (by kernel_rfl) (fun _ _ _ h => h) (Or.inl ⟨by rfl, by rintro w' -; go_simp⟩) hS42 ?_
  simp only [Act.put, List.setIfInBounds_toArray, List.set_cons_zero, List.set_cons_succ]
  refine takeD (i := 28) (v := .pointer (some ⟨E, 0, none⟩)) (some 35) rfl rfl (by kernel_rfl) (by kernel_rfl) (by kernel_rfl) (fun _ _ _ h => h) (Or.inl ⟨by rfl, by rintro w' -; go_simp⟩) hS42 ?_
  simp only [Act.put, List.setIfInBounds_toArray, List.set_cons_zero, List.set_cons_succ]
  refine takeD (i := 29) (v := .pointer (some ⟨E, 0, none⟩)) (some 36) rfl rfl (by kernel_rfl) (by kernel_rfl) (by kernel_rfl) (fun _ _ _ h => h) (Or.inl ⟨by rfl, by rintro w' -; go_simp⟩) hS42 ?_
  simp only [Act.put, List.setIfInBounds_toArray, List.set_cons_zero, List.set_cons_succ]
  refine takeD (i := 30) (v := .pointer (some ⟨E, 11, none⟩)) (some 37) rfl rfl (by kernel_rfl) (by kernel_rfl) (by kernel_rfl) (fun _ _ _ h => h) (Or.inl ⟨by rfl, by rintro w' -; go_simp⟩) hS42 ?_
  simp only [Act.put, List.setIfInBounds_toArray, List.set_cons_zero, List.set_cons_succ]
  refine takeD (i := 31) (v := .int .i64 (d.count : Int)) (some 38) rfl rfl (by kernel_rfl) (by kernel_rfl) (by kernel_rfl) (fun _ _ _ h => h) (Or.inl ⟨by rfl, by rintro w' h; have hc := (DRow.cells (Row.go D_35.out h)).2.2.1; go_simp⟩) hS42 ?_
  simp only [Act.put, List.setIfInBounds_toArray, List.set_cons_zero, List.set_cons_succ]
  refine wpAnyH_ready (rs := [27]) (by kernel_rfl) (by simp) ?_
  refine AllReadyH.cons rfl (fun K43 hK43 => ?_) AllReadyH.nil
  have HK43 := Lib.hid hK43
  clear hK43
  rw [if_pos (by rfl)]
  go_simp
  have QC := pops_any (p := Dsk.Pw.new) P_34.out
  refine QC.mono ?_
  clear QC
  rintro e x44 ⟨rfl, hw⟩
  have hb : Below x33.heap.size x33 x44 := hw ▸ Below.refl _ _
  have P_45 := Lib.hid (PDk.fw P_34.out (hb))
  have D_46 := Lib.hid (Row.go D_35.out (hb))
  have E_47 := Lib.hid (Re.fw E_36.out (hb))
  have A_48 := Lib.hid (Row.go A_37.out (hb))
  have hl49 := hb
  have HT_50 : Hid (Below w.heap.size w x44) := Lib.hid (HT_39.out.trans ((hl49).mono HT_39.out.size))
  clear hb hw
  have hb52 : Below x33.heap.size x33 x44 := hl49
  have hS51 : (fun w' : World => Below x33.heap.size x33 w') x44 := hb52
  refine HK43.out _ _ hS51 fun _ => ?_
  try simp only [Act.put, List.setIfInBounds_toArray, List.set_cons_zero, List.set_cons_succ]
  refine wpAnyH_up (S' := (fun w' : World => Below x44.heap.size x44 w')) (fun w' h => hb52.trans (h.mono hb52.size)) ?_
  have hS53 : (fun w' : World => Below x44.heap.size x44 w') x44 := Below.refl _ _
  refine takeD (i := 32) (v := .bool false) (some 39) rfl rfl (by kernel_rfl) (by kernel_rfl) (by kernel_rfl) (fun _ _ _ h => h) (Or.inl ⟨by rfl, by rintro w' -; go_simp⟩) hS53 ?_
  simp only [Act.put, List.setIfInBounds_toArray, List.set_cons_zero, List.set_cons_succ]
  refine takeD (i := 33) (v := .bool false) (some 40) rfl rfl (by kernel_rfl) (by kernel_rfl) (by kernel_rfl) (fun _ _ _ h => h) (Or.inl ⟨by rfl, by rintro w' -; go_simp⟩) hS53 ?_
  simp only [Act.put, List.setIfInBounds_toArray, List.set_cons_zero, List.set_cons_succ]
  refine takeD (i := 34) (v := .bool false) (some 41) rfl rfl (by kernel_rfl) (by kernel_rfl) (by kernel_rfl) (fun _ _ _ h => h) (Or.inl ⟨by rfl, by rintro w' -; go_simp⟩) hS53 ?_
  simp only [Act.put, List.setIfInBounds_toArray, List.set_cons_zero, List.set_cons_succ]
  refine takeD (i := 35) (v := .pointer (some ⟨D, 0, none⟩)) (some 42) rfl rfl (by kernel_rfl) (by kernel_rfl) (by kernel_rfl) (fun _ _ _ h => h) (Or.inl ⟨by rfl, by rintro w' -; go_simp⟩) hS53 ?_
  simp only [Act.put, List.setIfInBounds_toArray, List.set_cons_zero, List.set_cons_succ]
  refine takeD (i := 37) (v := .pointer (some ⟨E, 0, none⟩)) (some 44) rfl rfl (by kernel_rfl) (by kernel_rfl) (by kernel_rfl) (fun _ _ _ h => h) (Or.inl ⟨by rfl, by rintro w' -; go_simp⟩) hS53 ?_
  simp only [Act.put, List.setIfInBounds_toArray, List.set_cons_zero, List.set_cons_succ]
  refine takeD (i := 38) (v := .pointer (some ⟨E, 0, none⟩)) (some 45) rfl rfl (by kernel_rfl) (by kernel_rfl) (by kernel_rfl) (fun _ _ _ h => h) (Or.inl ⟨by rfl, by rintro w' -; go_simp⟩) hS53 ?_
  simp only [Act.put, List.setIfInBounds_toArray, List.set_cons_zero, List.set_cons_succ]
  refine takeD (i := 39) (v := .pointer (some ⟨E, 5, none⟩)) (some 46) rfl rfl (by kernel_rfl) (by kernel_rfl) (by kernel_rfl) (fun _ _ _ h => h) (Or.inl ⟨by rfl, by rintro w' -; go_simp⟩) hS53 ?_
  simp only [Act.put, List.setIfInBounds_toArray, List.set_cons_zero, List.set_cons_succ]
  refine takeD (i := 40) (v := .pointer (some ⟨K, 0, none⟩)) (some 47) rfl rfl (by kernel_rfl) (by kernel_rfl) (by kernel_rfl) (fun _ _ _ h => h) (Or.inl ⟨by rfl, by rintro w' h; have hc := (DRow.cells (Row.go D_46.out h)).1.1; go_simp⟩) hS53 ?_
  simp only [Act.put, List.setIfInBounds_toArray, List.set_cons_zero, List.set_cons_succ]
  refine takeD (i := 41) (v := .pointer (some ⟨K, 0, none⟩)) (some 48) rfl rfl (by kernel_rfl) (by kernel_rfl) (by kernel_rfl) (fun _ _ _ h => h) (Or.inl ⟨by rfl, by rintro w' -; go_simp⟩) hS53 ?_
  simp only [Act.put, List.setIfInBounds_toArray, List.set_cons_zero, List.set_cons_succ]
  refine takeD (i := 42) (v := .pointer (some ⟨K, 1, none⟩)) (some 49) rfl rfl (by kernel_rfl) (by kernel_rfl) (by kernel_rfl) (fun _ _ _ h => h) (Or.inl ⟨by rfl, by rintro w' -; go_simp⟩) hS53 ?_
  simp only [Act.put, List.setIfInBounds_toArray, List.set_cons_zero, List.set_cons_succ]
  refine takeD (i := 43) (v := .slice p n0 cap) (some 50) rfl rfl (by kernel_rfl) (by kernel_rfl) (by kernel_rfl) (fun _ _ _ h => h) (Or.inl ⟨by rfl, by rintro w' h; have hc : w'.cell? ⟨K, 1, none⟩ = some (.slice p n0 cap) := by { rw [(Row.go A_48.out h).cell]; rfl }; go_simp⟩) hS53 ?_
  simp only [Act.put, List.setIfInBounds_toArray, List.set_cons_zero, List.set_cons_succ]
  refine takeD (i := 44) (v := .int .i64 (n0 : Int)) (some 51) rfl rfl (by kernel_rfl) (by kernel_rfl) (by kernel_rfl) (fun _ _ _ h => h) (Or.inl ⟨by rfl, by rintro w' -; go_simp⟩) hS53 ?_
  simp only [Act.put, List.setIfInBounds_toArray, List.set_cons_zero, List.set_cons_succ]
  refine wpAnyH_ready (rs := [36]) (by kernel_rfl) (by simp) ?_
  refine AllReadyH.cons rfl (fun K54 hK54 => ?_) AllReadyH.nil
  have HK54 := Lib.hid hK54
  clear hK54
  rw [if_pos (by rfl)]
  go_simp
  have QC := ppend_any (p := Dsk.Pw.new) P_45.out
  rw [EO.out] at QC
  refine QC.mono ?_
  clear QC
  rintro e x55 ⟨rfl, hw⟩
  have hb : Below x44.heap.size x44 x55 := hw ▸ Below.refl _ _
  have P_56 := Lib.hid (PDk.fw P_45.out (hb))
  have D_57 := Lib.hid (Row.go D_46.out (hb))
  have E_58 := Lib.hid (Re.fw E_47.out (hb))
  have A_59 := Lib.hid (Row.go A_48.out (hb))
  have hl60 := hb
  have HT_61 : Hid (Below w.heap.size w x55) := Lib.hid (HT_50.out.trans ((hl60).mono HT_50.out.size))
  clear hb hw
  have hb63 : Below x44.heap.size x44 x55 := hl60
  have hS62 : (fun w' : World => Below x44.heap.size x44 w') x55 := hb63
  refine HK54.out _ _ hS62 fun _ => ?_
  try simp only [Act.put, List.setIfInBounds_toArray, List.set_cons_zero, List.set_cons_succ]
  refine wpAnyH_up (S' := (fun w' : World => Below x55.heap.size x55 w')) (fun w' h => hb63.trans (h.mono hb63.size)) ?_
  have hS64 : (fun w' : World => Below x55.heap.size x55 w') x55 := Below.refl _ _
  refine takeD (i := 45) (v := .bool false) (some 52) rfl rfl (by kernel_rfl) (by kernel_rfl) (by kernel_rfl) (fun _ _ _ h => h) (Or.inl ⟨by rfl, by rintro w' -; go_simp⟩) hS64 ?_
  simp only [Act.put, List.setIfInBounds_toArray, List.set_cons_zero, List.set_cons_succ]
  refine takeD (i := 46) (v := .bool false) (some 53) rfl rfl (by kernel_rfl) (by kernel_rfl) (by kernel_rfl) (fun _ _ _ h => h) (Or.inl ⟨by rfl, by rintro w' -; go_simp⟩) hS64 ?_
  simp only [Act.put, List.setIfInBounds_toArray, List.set_cons_zero, List.set_cons_succ]
  refine wpAnyH_done (by kernel_rfl) ?_ _
  have a5 : x55.cell? ⟨E, 5, none⟩ = some (.pointer (some ⟨K, 0, none⟩)) := (DRow.cells D_57.out).1.1
  have CT := rct_any E_58.out
  rw [show Med.play R Bn T S O d.l d.ops = l from EL.out] at CT
  replace CT := Lib.hid CT
  go_wp2_with fail
  refine CT.out.mono ?_
  rintro e y1 ⟨M', X', c', rfl, hm, hx, hb⟩
  have R1 := Lib.hid hm
  have T1 := Lib.hid (HT_61.out.trans (hb.mono HT_61.out.size))
  have C2 := Lib.hid (P_56.out.fw hb)
  have sm := hm.small
  obtain ⟨n, hn⟩ : ∃ n, l.length = n := ⟨_, rfl⟩
  have EN := Lib.hid hn
  rw [hn] at sm
  clear hm hx hb hn CT a5
  go_wp2_with fail
  go_loopw [6] (fun i wr => ∃ k : Nat, k ≤ n + 2 ∧ i = .int .i64 ((k : Int) - 1) ∧ Hid (Below w.heap.size w wr ∧ PDk A wr D P R Bn T S O L d ∧ RMd wr M' X' c' R Bn T S O l)) (fun i _ => n + 2 - (intOf i + 1).toNat)
  case atStart => exact ⟨0, Nat.zero_le _, rfl, Lib.hid ⟨T1.out, C2.out, R1.out⟩⟩
  case round =>
    obtain ⟨k, hk, rfl, V⟩ := hrel
    have c5 := V.out.2.2.c5
    rw [EN.out] at c5
    by_cases hlt : k < n + 2
    · have kI : (k : Int) - 1 ≤ (n : Int) := by omega
      have kb : n ≤ 100000 := by omega
      have VV := Lib.hid V.out.2
      have TV := Lib.hid V.out.1
      have S1 := pstat_any (p := Dsk.Pw.new) VV.out.1 ((k : Int) - 1)
      rw [EL.out] at S1
      obtain ⟨sv, hsv⟩ : ∃ x, st l ((k : Int) - 1) = x := ⟨_, rfl⟩
      have S2 := rst_any VV.out.2 ((k : Int) - 1)
      rw [hsv] at S1 S2
      replace S1 := Lib.hid S1
      replace S2 := Lib.hid S2
      clear V hsv
      go_wp2_with fail
      refine S1.out.mono ?_
      rintro e w' ⟨rfl, rfl⟩
      go_wp2_with fail
      refine S2.out.mono ?_
      rintro e w' ⟨rfl, rfl⟩
      clear S1 S2
      go_wp2_with fail
      go_roundw
      case rel => exact ⟨k + 1, by omega, by go_num, Lib.hid ⟨TV.out, VV.out.1, VV.out.2⟩⟩
      case measure => simp [intOf]; omega
    · have kI : ¬ (k : Int) - 1 ≤ (n : Int) := by omega
      have dk : decide ((k : Int) - 1 ≤ (n : Int)) = false := decide_eq_false kI
      have TV := Lib.hid V.out.1
      clear V
      go_wp2_with fail
      go_ret
      exact ⟨rfl, TV.out⟩
end Go.Proofs.YtdjjihppaobbcaaGreat

