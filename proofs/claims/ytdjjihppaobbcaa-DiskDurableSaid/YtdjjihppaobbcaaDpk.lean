/- Layer 14: contracts of the program: copies of lists of faults, New. WRITTEN BY gen_Dpk.py. -/
import Derived.Test.YtdjjihppaobbcaaDpj
namespace Go.Proofs.Ytdjjihppaobbcaa
open Go Go.RowKit Med Flt
set_option linter.unusedVariables false
set_option linter.unusedSimpArgs false
def ftcPost (L : List F) (w : World) (e : Ending) (w' : World) : Prop := ∃ v, e = .returned v ∧ Owf w.heap.size w' v L ∧ Below w.heap.size w w'
set_option maxHeartbeats 4000000 in
set_option maxRecDepth 100000 in
theorem ftclone_any {L : List F} {v : Value} {w : World} (h : Fts w v L) (hl : L.length * 24 ≤ 140737488355328) : Calls Try.prog 42 #[v] w (ftcPost L w) := by
  obtain ⟨A, c, rfl⟩ := h.form
  have hnil := fun w => Lib.run_eql_slice_nil (P := Try.prog) w 24 80 A L.length c 0 0 Try.underlying24
  obtain ⟨n, hn⟩ : ∃ n, L.length = n := ⟨_, rfl⟩
  have HN := Lib.hid hn
  rw [hn] at h hl hnil ⊢
  rcases A with _ | ad
  · obtain rfl : L = [] := by
      rcases Nat.eq_zero_or_pos L.length with h0 | h0
      · exact List.length_eq_zero_iff.1 h0
      · obtain ⟨A', c', e, _, _, hq⟩ := h
        obtain ⟨b, off, e2, _⟩ := hq h0
        injection e with e1
        rw [← e1] at e2; cases e2
    clear h hl hn
    go_enter Try.func42, Try.ntmps42
    go_wp2_with fail
    go_ret
    exact ⟨_, rfl, Owf.nil_ _ _, Below.refl _ _⟩
  · obtain ⟨b0, hb0⟩ : ∃ b, w.heap.size = b := ⟨_, rfl⟩
    obtain ⟨W0, hW0⟩ : ∃ q, w.alloc (.cells #[] 80) = q := ⟨_, rfl⟩
    have B0 : Below w.heap.size w W0 := by subst hW0; exact (Below.refl _ _).alloc (Nat.le_refl _) _
    have OW : Hid (Owf b0 W0 (.slice (some ⟨b0, 0, none⟩) 0 0) []) := Lib.hid (by subst hb0 hW0; exact Owf.made14 w (Nat.le_refl _))
    have HF := Lib.hid (h.fw B0)
    have HL := Lib.hid hl
    have SZ := Lib.hid (show b0 ≤ W0.heap.size by have := B0.size; omega)
    have HB0 := Lib.hid hb0
    have HW0 := Lib.hid hW0
    have BH := Lib.hid B0
    clear h hl hn hb0 hW0 B0
    go_enter Try.func42, Try.ntmps42
    go_wp2_with (first | rw [HW0.out, HB0.out] | (refine wpList_plain rfl fun _ hK' => wp_build_e Try.underlying24 info_ft rfl (hK' _ _ ?_)) | (at_builtin; refine wpList_plain rfl fun _ hK' => wp_cat_d (B := b0) _ _ rfl b0 0 n c (some ad) L rfl OW.out rfl HF.out HN.out HL.out SZ.out ?_; intro g2 cap2 w1 ho hg; refine hK' _ _ ?_))
    have P := Lib.hid (And.intro ho (BH.out.trans (hg.below BH.out.size (fun j hj => by rw [hj]; exact Nat.le_of_eq HB0.out))))
    clear ho hg
    go_wp2_with fail
    go_ret
    exact ⟨_, rfl, by rw [HB0.out]; exact P.out.1, P.out.2⟩
set_option maxHeartbeats 4000000 in
set_option maxRecDepth 100000 in
theorem pdnew_geo {r b t s o : Int} {v : Value} {q : Option Addr} {w : World} (h : ¬ Geo.GV r b t s o) :
    Calls Try.prog 12 #[.agg #[.int .i64 r, .int .i64 b, .int .i64 t, .int .i64 s, .int .i64 o], v, .pointer q] w (gPost (.tuple #[.pointer none, .int .i64 1]) w) := by
  obtain ⟨B0, hB0⟩ : ∃ B, w.heap.size = B := ⟨_, rfl⟩
  obtain ⟨W0, hW0⟩ : ∃ W, w.alloc (.cells #[.int .i64 r, .int .i64 b, .int .i64 t, .int .i64 s, .int .i64 o] 23) = W := ⟨_, rfl⟩
  have T0 : Hid (Below w.heap.size w W0) := Lib.hid (by subst hW0; exact (Below.refl _ _).alloc (Nat.le_refl _) _)
  have G0 : Hid (Row W0 B0 23 #[.int .i64 r, .int .i64 b, .int .i64 t, .int .i64 s, .int .i64 o]) := Lib.hid (by subst hW0; exact gr_new w _ _ hB0)
  have HB0 := Lib.hid hB0
  have HW0 := Lib.hid hW0
  have NB := Lib.hid (pnew_bad r b t s o W0 h)
  clear hB0 hW0 h
  obtain ⟨c0, c1_, c2, c3, c4⟩ := geo_cells14 G0.out
  go_enter Try.func12, Try.ntmps12
  go_wp2_with (first | rw [HB0.out] | rw [HW0.out])
  refine NB.out.mono ?_
  rintro e x1 ⟨rfl, hb⟩
  have T1 := Lib.hid (T0.out.trans (hb.mono T0.out.size))
  clear hb c0 c1_ c2 c3 c4
  go_wp2_with fail
  refine bodyPost_ret (results_two rfl _ _ _) rfl ?_
  exact ⟨rfl, T1.out⟩
set_option maxHeartbeats 4000000 in
set_option maxRecDepth 100000 in
theorem pdnew_flt {R Bn T S O : Nat} {L : List F} {v : Value} {q : Option Addr} {w : World} (hg : Geo.GV (R : Int) Bn T S O) (hL : Fts w v L) (hv : vld L = false) :
    Calls Try.prog 12 #[.agg #[.int .i64 (R : Int), .int .i64 (Bn : Int), .int .i64 (T : Int), .int .i64 (S : Int), .int .i64 (O : Int)], v, .pointer q] w (gPost (.tuple #[.pointer none, .int .i64 1]) w) := by
  obtain ⟨B0, hB0⟩ : ∃ B, w.heap.size = B := ⟨_, rfl⟩
  obtain ⟨W0, hW0⟩ : ∃ W, w.alloc (.cells #[.int .i64 (R : Int), .int .i64 (Bn : Int), .int .i64 (T : Int), .int .i64 (S : Int), .int .i64 (O : Int)] 23) = W := ⟨_, rfl⟩
  have T0 : Hid (Below w.heap.size w W0) := Lib.hid (by subst hW0; exact (Below.refl _ _).alloc (Nat.le_refl _) _)
  have G0 : Hid (Row W0 B0 23 #[.int .i64 (R : Int), .int .i64 (Bn : Int), .int .i64 (T : Int), .int .i64 (S : Int), .int .i64 (O : Int)]) := Lib.hid (by subst hW0; exact gr_new w _ _ hB0)
  have HB0 := Lib.hid hB0
  have HW0 := Lib.hid hW0
  have NB := Lib.hid (pnew_ok R Bn T S O W0 hg)
  have L0 := Lib.hid (hL.fw T0.out)
  obtain ⟨A1, c1, rfl⟩ := hL.form
  obtain ⟨N, hN⟩ : ∃ n, L.length = n := ⟨_, rfl⟩
  have EN := Lib.hid hN
  have VL := Lib.hid hv
  rw [hN] at L0 ⊢
  clear hB0 hW0 hg hv hL hN
  obtain ⟨c0, c1_, c2, c3, c4⟩ := geo_cells14 G0.out
  go_enter Try.func12, Try.ntmps12
  go_wp2_with (first | rw [HB0.out] | rw [HW0.out])
  refine NB.out.mono ?_
  rintro e x1 ⟨M, X, rfl, hm, hx1, hb2⟩
  have VC := Lib.hid (pvl_any _ L x1 (L0.out.fw hb2))
  have T1 := Lib.hid (T0.out.trans (hb2.mono T0.out.size))
  rw [VL.out] at VC
  clear hm hx1 hb2 c0 c1_ c2 c3 c4
  go_wp2_with fail
  refine VC.out.mono ?_
  rintro e x2 ⟨rfl, hb⟩
  have T2 := Lib.hid (T1.out.trans (hb.mono T1.out.size))
  clear hb VC
  go_wp2_with fail
  refine bodyPost_ret (results_two rfl _ _ _) rfl ?_
  exact ⟨rfl, T2.out⟩
set_option maxHeartbeats 4000000 in
set_option maxRecDepth 100000 in
theorem pdnew_pow {R Bn T S O : Nat} {L : List F} {v : Value} {w : World} (hg : Geo.GV (R : Int) Bn T S O) (hL : Fts w v L) (hv : vld L = true) :
    Calls Try.prog 12 #[.agg #[.int .i64 (R : Int), .int .i64 (Bn : Int), .int .i64 (T : Int), .int .i64 (S : Int), .int .i64 (O : Int)], v, .pointer none] w (gPost (.tuple #[.pointer none, .int .i64 1]) w) := by
  obtain ⟨B0, hB0⟩ : ∃ B, w.heap.size = B := ⟨_, rfl⟩
  obtain ⟨W0, hW0⟩ : ∃ W, w.alloc (.cells #[.int .i64 (R : Int), .int .i64 (Bn : Int), .int .i64 (T : Int), .int .i64 (S : Int), .int .i64 (O : Int)] 23) = W := ⟨_, rfl⟩
  have T0 : Hid (Below w.heap.size w W0) := Lib.hid (by subst hW0; exact (Below.refl _ _).alloc (Nat.le_refl _) _)
  have G0 : Hid (Row W0 B0 23 #[.int .i64 (R : Int), .int .i64 (Bn : Int), .int .i64 (T : Int), .int .i64 (S : Int), .int .i64 (O : Int)]) := Lib.hid (by subst hW0; exact gr_new w _ _ hB0)
  have HB0 := Lib.hid hB0
  have HW0 := Lib.hid hW0
  have NB := Lib.hid (pnew_ok R Bn T S O W0 hg)
  have L0 := Lib.hid (hL.fw T0.out)
  obtain ⟨A1, c1, rfl⟩ := hL.form
  obtain ⟨N, hN⟩ : ∃ n, L.length = n := ⟨_, rfl⟩
  have EN := Lib.hid hN
  have VL := Lib.hid hv
  rw [hN] at L0 ⊢
  clear hB0 hW0 hg hv hL hN
  obtain ⟨c0, c1_, c2, c3, c4⟩ := geo_cells14 G0.out
  go_enter Try.func12, Try.ntmps12
  go_wp2_with (first | rw [HB0.out] | rw [HW0.out])
  refine NB.out.mono ?_
  rintro e x1 ⟨M, X, rfl, hm, hx1, hb2⟩
  have VC := Lib.hid (pvl_any _ L x1 (L0.out.fw hb2))
  have T1 := Lib.hid (T0.out.trans (hb2.mono T0.out.size))
  rw [VL.out] at VC
  clear hm hx1 hb2 c0 c1_ c2 c3 c4
  go_wp2_with fail
  refine VC.out.mono ?_
  rintro e x2 ⟨rfl, hb⟩
  have T2 := Lib.hid (T1.out.trans (hb.mono T1.out.size))
  clear hb VC
  go_wp2_with fail
  refine bodyPost_ret (results_two rfl _ _ _) rfl ?_
  exact ⟨rfl, T2.out⟩
/-- A new disk of the program. -/
def pdNew (P R Bn T S O : Nat) (L : List F) (p : Dsk.Pw) (w : World) (e : Ending) (w' : World) : Prop :=
  ∃ D, e = .returned (.tuple #[.pointer (some ⟨D, 0, none⟩), .int .i64 0]) ∧ PDk (w.heap.size : Zn) w' D P R Bn T S O L (Dsk.Dk.new (List.replicate (R + Bn * (T * S)) Med.blank) p) ∧ Below w.heap.size w w'
set_option maxHeartbeats 4000000 in
set_option maxRecDepth 100000 in
theorem pdnew_ok {P R Bn T S O : Nat} {L : List F} {v : Value} {p : Dsk.Pw} {w : World} (hg : Geo.GV (R : Int) Bn T S O) (hL : Fts w v L) (hv : vld L = true) (hl : L.length * 24 ≤ 140737488355328) (hp : PPw w P p) :
    Calls Try.prog 12 #[.agg #[.int .i64 (R : Int), .int .i64 (Bn : Int), .int .i64 (T : Int), .int .i64 (S : Int), .int .i64 (O : Int)], v, .pointer (some ⟨P, 0, none⟩)] w (pdNew P R Bn T S O L p w) := by
  obtain ⟨B0, hB0⟩ : ∃ B, w.heap.size = B := ⟨_, rfl⟩
  obtain ⟨W0, hW0⟩ : ∃ W, w.alloc (.cells #[.int .i64 (R : Int), .int .i64 (Bn : Int), .int .i64 (T : Int), .int .i64 (S : Int), .int .i64 (O : Int)] 23) = W := ⟨_, rfl⟩
  have T0 : Hid (Below w.heap.size w W0) := Lib.hid (by subst hW0; exact (Below.refl _ _).alloc (Nat.le_refl _) _)
  have G0 : Hid (Row W0 B0 23 #[.int .i64 (R : Int), .int .i64 (Bn : Int), .int .i64 (T : Int), .int .i64 (S : Int), .int .i64 (O : Int)]) := Lib.hid (by subst hW0; exact gr_new w _ _ hB0)
  have HB0 := Lib.hid hB0
  have HW0 := Lib.hid hW0
  have P0 := Lib.hid (hp.fw T0.out)
  have HLN := Lib.hid hl
  clear hp
  have NB := Lib.hid (pnew_ok R Bn T S O W0 hg)
  have L0 := Lib.hid (hL.fw T0.out)
  obtain ⟨A1, c1, rfl⟩ := hL.form
  obtain ⟨N, hN⟩ : ∃ n, L.length = n := ⟨_, rfl⟩
  have EN := Lib.hid hN
  have VL := Lib.hid hv
  rw [hN] at L0 ⊢
  clear hB0 hW0 hg hv hL hN
  obtain ⟨c0, c1_, c2, c3, c4⟩ := geo_cells14 G0.out
  go_enter Try.func12, Try.ntmps12
  go_wp2_with (first | rw [HB0.out] | rw [HW0.out])
  refine NB.out.mono ?_
  rintro e x1 ⟨M, X, rfl, hm, hx1, hb2⟩
  have VC := Lib.hid (pvl_any _ L x1 (L0.out.fw hb2))
  have G1 := Lib.hid (G0.out.go hb2)
  have L1 := Lib.hid (L0.out.fw hb2)
  have P1 := Lib.hid (P0.out.fw hb2)
  have T1 := Lib.hid (T0.out.trans (hb2.mono T0.out.size))
  have M1 := Lib.hid hm
  rw [VL.out] at VC
  clear hm hx1 hb2 c0 c1_ c2 c3 c4
  go_wp2_with fail
  refine VC.out.mono ?_
  rintro e x2 ⟨rfl, hb⟩
  have G2 := Lib.hid (G1.out.go hb)
  have L2 := Lib.hid (L1.out.fw hb)
  have P2 := Lib.hid (P1.out.fw hb)
  have M2 := Lib.hid (M1.out.fw hb)
  have T2 := Lib.hid (T1.out.trans (hb.mono T1.out.size))
  obtain ⟨fl, hfl⟩ : ∃ n, p.fails = n := ⟨_, rfl⟩
  have FE := Lib.hid hfl
  clear hb VC hfl
  go_wp2_with fail
  refine wp_region_held (P := Try.prog) (S := (fun w' : World => Below x2.heap.size x2 w')) rfl ?_
  change wpAnyH _ _ _ _ _ _ _ _ x2.drew
  have hz102 : Below x2.heap.size x2 x2.drew := (Below.refl x2.heap.size x2).drew
  generalize x2.drew = wz101 at hz102 ⊢
  have G_103 := Lib.hid (Row.go G2.out (hz102))
  have F_104 := Lib.hid (Fts.fw L2.out (hz102))
  have P_105 := Lib.hid (PPw.fw P2.out (hz102))
  have M_106 := Lib.hid (Md.fw M2.out (hz102))
  have hl107 := hz102
  have HT_108 : Hid (Below w.heap.size w wz101) := Lib.hid (T2.out.trans ((hl107).mono T2.out.size))
  refine wpAnyH_up (S' := (fun w' : World => Below wz101.heap.size wz101 w')) (fun w' h => hz102.trans (h.mono hz102.size)) ?_
  have hS109 : (fun w' : World => Below wz101.heap.size wz101 w') wz101 := Below.refl _ _
  refine takeD (i := 0) (v := .agg #[.int .i64 (R : Int), .int .i64 (Bn : Int), .int .i64 (T : Int), .int .i64 (S : Int), .int .i64 (O : Int)]) (some 26) rfl rfl (by kernel_rfl) (by kernel_rfl) (by kernel_rfl) (fun _ _ _ h => h) (yieldsIf_load_mid (by rfl) _ _ rfl B0 0 rfl [.int .i64 (R : Int), .int .i64 (Bn : Int), .int .i64 (T : Int), .int .i64 (S : Int), .int .i64 (O : Int)] _ (fun w' h => geo_rg14 (Row.go G_103.out h)) Try.underlying23 rfl (by kernel_rfl)) hS109 ?_
  simp only [Act.put, List.setIfInBounds_toArray, List.set_cons_zero, List.set_cons_succ]
  refine takeD (i := 1) (v := .pointer (some ⟨M, 0, none⟩)) (some 27) rfl rfl (by kernel_rfl) (by kernel_rfl) (by kernel_rfl) (fun _ _ _ h => h) (Or.inl ⟨by rfl, by rintro w' -; go_simp⟩) hS109 ?_
  simp only [Act.put, List.setIfInBounds_toArray, List.set_cons_zero, List.set_cons_succ]
  refine takeD (i := 3) (v := .slice A1 N c1) (some 29) rfl rfl (by kernel_rfl) (by kernel_rfl) (by kernel_rfl) (fun _ _ _ h => h) (Or.inl ⟨by rfl, by rintro w' -; go_simp⟩) hS109 ?_
  simp only [Act.put, List.setIfInBounds_toArray, List.set_cons_zero, List.set_cons_succ]
  refine takeD (i := 5) (v := .pointer (some ⟨P, 0, none⟩)) (some 31) rfl rfl (by kernel_rfl) (by kernel_rfl) (by kernel_rfl) (fun _ _ _ h => h) (Or.inl ⟨by rfl, by rintro w' -; go_simp⟩) hS109 ?_
  simp only [Act.put, List.setIfInBounds_toArray, List.set_cons_zero, List.set_cons_succ]
  refine takeD (i := 6) (v := .pointer (some ⟨P, 0, none⟩)) (some 32) rfl rfl (by kernel_rfl) (by kernel_rfl) (by kernel_rfl) (fun _ _ _ h => h) (Or.inl ⟨by rfl, by rintro w' -; go_simp⟩) hS109 ?_
  simp only [Act.put, List.setIfInBounds_toArray, List.set_cons_zero, List.set_cons_succ]
  refine takeD (i := 7) (v := .pointer (some ⟨P, 0, none⟩)) (some 33) rfl rfl (by kernel_rfl) (by kernel_rfl) (by kernel_rfl) (fun _ _ _ h => h) (Or.inl ⟨by rfl, by rintro w' -; go_simp⟩) hS109 ?_
  simp only [Act.put, List.setIfInBounds_toArray, List.set_cons_zero, List.set_cons_succ]
  refine takeD (i := 8) (v := .pointer (some ⟨P, 3, none⟩)) (some 34) rfl rfl (by kernel_rfl) (by kernel_rfl) (by kernel_rfl) (fun _ _ _ h => h) (Or.inl ⟨by rfl, by rintro w' -; go_simp⟩) hS109 ?_
  simp only [Act.put, List.setIfInBounds_toArray, List.set_cons_zero, List.set_cons_succ]
  refine takeD (i := 9) (v := .int .i64 (fl : Int)) (some 35) rfl rfl (by kernel_rfl) (by kernel_rfl) (by kernel_rfl) (fun _ _ _ h => h) (Or.inl ⟨by rfl, by rintro w' h; have hc := (PPw.fw P_105.out h).cells.2.2.2; rw [FE.out] at hc; go_simp⟩) hS109 ?_
  simp only [Act.put, List.setIfInBounds_toArray, List.set_cons_zero, List.set_cons_succ]
  refine wpAnyH_ready (rs := [2]) (by kernel_rfl) (by simp) ?_
  refine AllReadyH.cons rfl (fun K110 hK110 => ?_) AllReadyH.nil
  have HK110 := Lib.hid hK110
  clear hK110
  rw [if_pos (by rfl)]
  go_simp
  refine (cnew_any M_106.out).mono ?_
  rintro e x111 ⟨K, rfl, hce, hb⟩
  have NK := Lib.hid HT_108.out.size
  have HCE := Lib.hid (hce.low (B := (w.heap.size : Zn)) fun k hk => Nat.le_trans NK.out hk)
  have G_112 := Lib.hid (Row.go G_103.out (hb))
  have F_113 := Lib.hid (Fts.fw F_104.out (hb))
  have P_114 := Lib.hid (PPw.fw P_105.out (hb))
  have M_115 := Lib.hid (Md.fw M_106.out (hb))
  have hl116 := hb
  have HT_117 : Hid (Below w.heap.size w x111) := Lib.hid (HT_108.out.trans ((hl116).mono HT_108.out.size))
  clear hb hce
  have hb119 : Below wz101.heap.size wz101 x111 := hl116
  have hS118 : (fun w' : World => Below wz101.heap.size wz101 w') x111 := hb119
  refine HK110.out _ _ hS118 fun _ => ?_
  try simp only [Act.put, List.setIfInBounds_toArray, List.set_cons_zero, List.set_cons_succ]
  refine wpAnyH_up (S' := (fun w' : World => Below x111.heap.size x111 w')) (fun w' h => hb119.trans (h.mono hb119.size)) ?_
  have hS120 : (fun w' : World => Below x111.heap.size x111 w') x111 := Below.refl _ _
  refine wpAnyH_ready (rs := [4]) (by kernel_rfl) (by simp) ?_
  refine AllReadyH.cons rfl (fun K121 hK121 => ?_) AllReadyH.nil
  have HK121 := Lib.hid hK121
  clear hK121
  rw [if_pos (by rfl)]
  go_simp
  refine (ftclone_any F_113.out (by rw [EN.out]; rw [EN.out] at HLN; exact HLN.out)).mono ?_
  rintro e x122 ⟨v9, rfl, hof, hb⟩
  obtain ⟨A9, c9, rfl⟩ := hof.form
  rw [EN.out] at hof ⊢
  have HOF := Lib.hid hof
  have G_123 := Lib.hid (Row.go G_112.out (hb))
  have F_124 := Lib.hid (Fts.fw F_113.out (hb))
  have P_125 := Lib.hid (PPw.fw P_114.out (hb))
  have M_126 := Lib.hid (Md.fw M_115.out (hb))
  have C_127 := Lib.hid (Ce.fw HCE.out (hb))
  have hl128 := hb
  have HT_129 : Hid (Below w.heap.size w x122) := Lib.hid (HT_117.out.trans ((hl128).mono HT_117.out.size))
  clear hb hof
  have hb131 : Below x111.heap.size x111 x122 := hl128
  have hS130 : (fun w' : World => Below x111.heap.size x111 w') x122 := hb131
  refine HK121.out _ _ hS130 fun _ => ?_
  try simp only [Act.put, List.setIfInBounds_toArray, List.set_cons_zero, List.set_cons_succ]
  refine wpAnyH_up (S' := (fun w' : World => Below x122.heap.size x122 w')) (fun w' h => hb131.trans (h.mono hb131.size)) ?_
  have hS132 : (fun w' : World => Below x122.heap.size x122 w') x122 := Below.refl _ _
  refine takeD (i := 10) (v := .agg #[.int .i64 0, .int .i64 0, .int .i64 0, .int .i64 0, .int .i64 0, .int .i64 (R : Int), .int .i64 (Bn : Int), .int .i64 (T : Int), .int .i64 (S : Int), .int .i64 (O : Int), .pointer (some ⟨K, 0, none⟩), .slice A9 N c9, .pointer (some ⟨P, 0, none⟩), .int .i64 (fl : Int), .int .u64 0, .bool false]) (some 36) rfl rfl (by kernel_rfl) (by kernel_rfl) (by kernel_rfl) (fun _ _ _ h => h) (Or.inl ⟨by rfl, by rintro w' -; go_simp⟩) hS132 ?_
  simp only [Act.put, List.setIfInBounds_toArray, List.set_cons_zero, List.set_cons_succ]
  refine wpAnyH_ready (rs := [11]) (by kernel_rfl) (by simp) ?_
  refine AllReadyH.cons rfl (fun K133 hK133 => ?_) AllReadyH.nil
  have HK133 := Lib.hid hK133
  clear hK133
  rw [if_pos (by rfl)]
  go_simp
  obtain ⟨N1, hN1⟩ : ∃ n, x122.heap.size = n := ⟨_, rfl⟩
  have SB := gr_new x122 #[.int .i64 0, .int .i64 0, .int .i64 0, .int .i64 0, .int .i64 0, .int .i64 (R : Int), .int .i64 (Bn : Int), .int .i64 (T : Int), .int .i64 (S : Int), .int .i64 (O : Int), .pointer (some ⟨K, 0, none⟩), .slice A9 N c9, .pointer (some ⟨P, 0, none⟩), .int .i64 (fl : Int), .int .u64 0, .bool false] 93 hN1
  obtain ⟨x134, hxb⟩ : ∃ q, x122.alloc (.cells #[.int .i64 0, .int .i64 0, .int .i64 0, .int .i64 0, .int .i64 0, .int .i64 (R : Int), .int .i64 (Bn : Int), .int .i64 (T : Int), .int .i64 (S : Int), .int .i64 (O : Int), .pointer (some ⟨K, 0, none⟩), .slice A9 N c9, .pointer (some ⟨P, 0, none⟩), .int .i64 (fl : Int), .int .u64 0, .bool false] 93) = q := ⟨_, rfl⟩
  have hbx : Below x122.heap.size x122 x134 := by rw [← hxb]; exact (Below.refl _ _).alloc (Nat.le_refl _) _
  rw [hxb] at SB
  rw [hxb]
  rw [hN1]
  have NG := Lib.hid (show w.heap.size ≤ N1 from by rw [← hN1]; exact HT_129.out.size)
  have G_135 := Lib.hid (Row.go G_123.out (hbx))
  have F_136 := Lib.hid (Fts.fw F_124.out (hbx))
  have P_137 := Lib.hid (PPw.fw P_125.out (hbx))
  have M_138 := Lib.hid (Md.fw M_126.out (hbx))
  have C_139 := Lib.hid (Ce.fw C_127.out (hbx))
  have O_140 := Lib.hid (Owf.fw HOF.out (hbx))
  have hl141 := hbx
  have HT_142 : Hid (Below w.heap.size w x134) := Lib.hid (HT_129.out.trans ((hl141).mono HT_129.out.size))
  have SBH := Lib.hid SB
  clear SB
  clear hxb hN1
  have hb144 : Below x122.heap.size x122 x134 := hl141
  have hS143 : (fun w' : World => Below x122.heap.size x122 w') x134 := hb144
  refine HK133.out _ _ hS143 fun _ => ?_
  try simp only [Act.put, List.setIfInBounds_toArray, List.set_cons_zero, List.set_cons_succ]
  refine wpAnyH_up (S' := (fun w' : World => Below x134.heap.size x134 w')) (fun w' h => hb144.trans (h.mono hb144.size)) ?_
  have hS145 : (fun w' : World => Below x134.heap.size x134 w') x134 := Below.refl _ _
  refine takeD (i := 12) (v := .pointer (some ⟨N1, 0, none⟩)) (some 6) rfl rfl (by kernel_rfl) (by kernel_rfl) (by kernel_rfl) (fun _ _ _ h => h) (Or.inl ⟨by rfl, by rintro w' -; go_simp⟩) hS145 ?_
  simp only [Act.put, List.setIfInBounds_toArray, List.set_cons_zero, List.set_cons_succ]
  refine takeD (i := 13) (v := .int .i64 0) (some 7) rfl rfl (by kernel_rfl) (by kernel_rfl) (by kernel_rfl) (fun _ _ _ h => h) (Or.inl ⟨by rfl, by rintro w' -; go_simp⟩) hS145 ?_
  simp only [Act.put, List.setIfInBounds_toArray, List.set_cons_zero, List.set_cons_succ]
  refine wpAnyH_done (by kernel_rfl) ?_ _
  go_wp2_with fail
  refine bodyPost_ret (results_two rfl _ _ _) rfl ?_
  refine ⟨N1, rfl, ⟨⟨K, .slice A9 N c9, ?_, C_139.out, ?_⟩, VL.out, NG.out⟩, HT_142.out⟩
  · have h := SBH.out
    rw [← FE.out] at h
    exact h
  · show FtT _ _ (Dsk.rest L 0)
    rw [Dsk.rest_zero VL.out]
    exact Owf.ftt O_140.out
end Go.Proofs.Ytdjjihppaobbcaa

