/- Law walk: PlaneParallel. WRITTEN BY gen_We.py. -/
import Derived.Test.YtjbgfpbidjhlkaaDoorWb
namespace Go.Proofs.YtjbgfpbidjhlkaaDoor
open Go Go.RowKit Pl
set_option linter.unusedVariables false
set_option linter.unusedSimpArgs false

def parP (q a g h : Nat) : Bool := has (aff q h) a && (common (aff q h) (aff q g)).length == 0
def joiP (q a b h : Nat) : Bool := has (aff q h) a && has (aff q h) b
theorem cnt_up (p : Nat → Bool) (k : Nat) : cnt p (k + 1) = cnt p k + (bif p k then 1 else 0) := rfl

set_option maxHeartbeats 4000000 in
set_option maxRecDepth 100000 in
theorem parlaw_walk (n x0 x1 x2 : Nat) (w : World) (hK : Kd w) (hn : n < 256) (h0 : x0 < 256) (h1 : x1 < 256) (h2 : x2 < 256) : Calls Tryd.prog 9 #[.int .u8 (n : Int), .agg #[.int .u8 (x0 : Int), .int .u8 (x1 : Int), .int .u8 (x2 : Int)]] w (lawPost w) := by
  have HK0 := Lib.hid hK
  have AW := Lib.hid fun W (h : Kd W) => awake6 W h
  obtain ⟨q, hq⟩ : ∃ q, sz n = q := ⟨_, rfl⟩
  have qs : q ∈ szs := by rw [← hq]; exact sz_mem n
  have C0 := Lib.hid fun W => size6_any n W hn
  rw [hq] at C0
  have QS := Lib.hid qs
  have C1 := Lib.hid fun W (h : Kd W) => affine_ok q W h qs
  have q2 := (szs_ok qs).2.1
  have q7 := (szs_ok qs).2.2.1
  have N57 := (szs_ok qs).2.2.2.1
  obtain ⟨p, hp⟩ : ∃ p, q * q = p := ⟨_, rfl⟩
  have ep : (q : Int) * (q : Int) = (p : Int) := by rw [← hp]; rfl
  have HP := Lib.hid hp
  have HN : Hid (p + q = p + q) := Lib.hid rfl
  obtain ⟨N, hN⟩ : ∃ N, p + q = N := ⟨_, rfl⟩
  have CNN : cN q = N + 1 := by unfold cN; rw [hp, hN]
  rw [CNN] at N57
  have eN : (p : Int) + (q : Int) = (N : Int) := by omega
  have NN := Lib.hid hN
  have LL := Lib.hid (show ∀ k, k < N → ((List.range (p + q)).map (aff q)).getD k [] = aff q k from fun k hk => by rw [hN]; simp [List.getD, hk])
  rw [hp, hN] at C1
  rw [hN] at LL
  obtain ⟨L, hL⟩ : ∃ L, (List.range N).map (aff q) = L := ⟨_, rfl⟩
  have LN : Hid (L.length = N) := Lib.hid (by rw [← hL]; simp)
  rw [hL] at C1 LL
  clear CNN HN
  have N0 : 0 < N := by omega
  have PAR := Lib.hid (show ∀ a g, a < p → g < N → cnt (parP q a g) N = bif has (aff q g) a then 0 else 1 from fun a g ha hg => by rw [← hN, ← hp]; exact aff_par qs (by rw [hp]; exact ha) (by rw [hp, hN]; exact hg))
  have JOI := Lib.hid (show ∀ a b, a < p → b < p → cnt (joiP q a b) N = if a = b then q + 1 else 1 from fun a b ha hb => by rw [← hN, ← hp]; exact aff_join qs (by rw [hp]; exact ha) (by rw [hp]; exact hb))
  have LE := Lib.hid fun a => aff_len (q := q) (n := a)
  have p4 : 0 < p := by rw [← hp]; exact Nat.mul_pos (by omega) (by omega)
  clear hK hq qs hp hN hL hn
  go_enter Tryd.func9, Tryd.ntmps9
  go_wp2_with fail
  have hbx : Below w.heap.size w (w.alloc (.cells #[.int .u8 (x0 : Int), .int .u8 (x1 : Int), .int .u8 (x2 : Int)] 41)) := (Below.refl _ _).alloc (Nat.le_refl _) _
  have XT0 := Lib.hid (row_new' w #[.int .u8 (x0 : Int), .int .u8 (x1 : Int), .int .u8 (x2 : Int)] 41)
  obtain ⟨bx, hbx2⟩ : ∃ b, w.heap.size = b := ⟨_, rfl⟩
  rw [hbx2] at XT0 ⊢
  have uhq3 : Below w.heap.size w (w.alloc (.cells #[.int .u8 (x0 : Int), .int .u8 (x1 : Int), .int .u8 (x2 : Int)] 41)) := hbx
  have uK_4 := Lib.hid (Kd.below HK0.out uhq3)
  have uHB_5 : Hid (Below w.heap.size w (w.alloc (.cells #[.int .u8 (x0 : Int), .int .u8 (x1 : Int), .int .u8 (x2 : Int)] 41))) := Lib.hid (uhq3)
  clear uhq3
  clear hbx hbx2
  refine (AW.out _ uK_4.out).mono ?_
  rintro e ux2 ⟨rfl, uhb1⟩
  have uhq6 : Below (w.alloc (.cells #[.int .u8 (x0 : Int), .int .u8 (x1 : Int), .int .u8 (x2 : Int)] 41)).heap.size (w.alloc (.cells #[.int .u8 (x0 : Int), .int .u8 (x1 : Int), .int .u8 (x2 : Int)] 41)) ux2 := uhb1
  have uK_7 := Lib.hid (Kd.below uK_4.out uhq6)
  have uT_8 := Lib.hid (Row.go XT0.out uhq6)
  have uHB_9 : Hid (Below w.heap.size w ux2) := Lib.hid (uHB_5.out.trans (uhq6.mono uHB_5.out.size))
  clear uhq6
  clear uhb1
  go_wp2_with fail
  have t0 := uT_8.out.cell 0
  have t1 := uT_8.out.cell 1
  have t2 := uT_8.out.cell 2
  go_quiet (fail)
  clear t0 t1 t2
  have uhq10 : Below ux2.heap.size ux2 (ux2.drewN nq) := (below_drewN (Below.refl ux2.heap.size ux2) nq)
  have uT_11 := Lib.hid (Row.go uT_8.out uhq10)
  have uHB_12 : Hid (Below w.heap.size w (ux2.drewN nq)) := Lib.hid (uHB_9.out.trans (uhq10.mono uHB_9.out.size))
  clear uhq10
  generalize ux2.drewN nq = wv at uT_11 uHB_12 ⊢
  go_wp2_with fail
  refine (C0.out _).mono ?_
  rintro e ux14 ⟨rfl, uhb13⟩
  have uhq15 : Below wv.heap.size wv ux14 := uhb13
  have uT_16 := Lib.hid (Row.go uT_11.out uhq15)
  have uHB_17 : Hid (Below w.heap.size w ux14) := Lib.hid (uHB_12.out.trans (uhq15.mono uHB_12.out.size))
  clear uhq15
  clear uhb13 C0
  go_wp2_with fail
  have KX := Lib.hid (HK0.out.below uHB_17.out)
  refine (C1.out _ KX.out).mono ?_
  rintro e ux19 ⟨v, rfl, uhg20, uhb18⟩
  obtain ⟨A1, k1, rfl⟩ := slform uhg20
  rw [LN.out] at uhg20 ⊢
  obtain ⟨b1, o1, rfl, -⟩ := uhg20.cells.2.2.2 N0
  have uhq21 : Below ux14.heap.size ux14 ux19 := uhb18
  have uT_22 := Lib.hid (Row.go uT_16.out uhq21)
  have uK_23 := Lib.hid (Kd.below KX.out uhq21)
  have uHB_24 : Hid (Below w.heap.size w ux19) := Lib.hid (uHB_17.out.trans (uhq21.mono uHB_17.out.size))
  clear uhq21
  have G1_ := Lib.hid uhg20
  have hba : Below ux19.heap.size ux19 (ux19.alloc (.cells #[.int .i64 (p : Int), .slice (some ⟨b1, o1, none⟩) N k1] 25)) := (Below.refl _ _).alloc (Nat.le_refl _) _
  have RW := Lib.hid (row_new' ux19 #[.int .i64 (p : Int), .slice (some ⟨b1, o1, none⟩) N k1] 25)
  clear uhb18 uhg20 C1
  unfold dv
  go_wp2_with fail
  obtain ⟨D, hD⟩ : ∃ D, ux19.heap.size = D := ⟨_, rfl⟩
  rw [hD] at RW ⊢
  obtain ⟨y1, hy⟩ : ∃ y, (ux19.alloc (.cells #[.int .i64 (p : Int), .slice (some ⟨b1, o1, none⟩) N k1] 25)) = y := ⟨_, rfl⟩
  rw [hy] at RW hba ⊢
  have uhq25 : Below ux19.heap.size ux19 y1 := hba
  have uT_26 := Lib.hid (Row.go uT_22.out uhq25)
  have uK_27 := Lib.hid (Kd.below uK_23.out uhq25)
  have uG_28 := Lib.hid (Gs.to G1_.out uhq25)
  have uHB_29 : Hid (Below w.heap.size w y1) := Lib.hid (uHB_24.out.trans (uhq25.mono uHB_24.out.size))
  clear uhq25
  clear hy hba hD
  have d0 := RW.out.cell 0
  have d1 := RW.out.cell 1
  go_wp2_with fail
  obtain ⟨a, ha⟩ : ∃ a, x1 % p = a := ⟨_, rfl⟩
  obtain ⟨b, hb⟩ : ∃ b, x2 % p = b := ⟨_, rfl⟩
  obtain ⟨g, hg⟩ : ∃ g, x0 % N = g := ⟨_, rfl⟩
  have aN : a < p := by rw [← ha]; exact Nat.mod_lt _ (by omega)
  have bN : b < p := by rw [← hb]; exact Nat.mod_lt _ (by omega)
  have gN : g < N := by rw [← hg]; exact Nat.mod_lt _ (by omega)
  have ra : (x1 : Int).tmod (p : Int) = (a : Int) := by rw [← ha]; exact (Int.ofNat_tmod x1 p).symm
  have rb : (x2 : Int).tmod (p : Int) = (b : Int) := by rw [← hb]; exact (Int.ofNat_tmod x2 p).symm
  have rg : (x0 : Int).tmod (N : Int) = (g : Int) := by rw [← hg]; exact (Int.ofNat_tmod x0 N).symm
  have ra' : (x1 : Int) % (p : Int) = (a : Int) := by rw [← ha]; rfl
  have rb' : (x2 : Int) % (p : Int) = (b : Int) := by rw [← hb]; rfl
  have rg' : (x0 : Int) % (N : Int) = (g : Int) := by rw [← hg]; rfl
  have va : IntKind.i64.wrap (a : Int) = (a : Int) := wrapS (by omega)
  have vb : IntKind.i64.wrap (b : Int) = (b : Int) := wrapS (by omega)
  have vg : IntKind.i64.wrap (g : Int) = (g : Int) := wrapS (by omega)
  have NZ : ¬ ((N : Int) = 0) := by omega
  have PZ : ¬ ((p : Int) = 0) := by omega
  have gI : (g : Int) < (N : Int) := by omega
  clear ha hb hg
  go_quiet (fail)
  clear d0 d1
  have uhq30 : Below y1.heap.size y1 (y1.drewN nq) := (below_drewN (Below.refl y1.heap.size y1) nq)
  have uG_31 := Lib.hid (Gs.to uG_28.out uhq30)
  have uR_32 := Lib.hid (Row.go RW.out uhq30)
  have uHB_33 : Hid (Below w.heap.size w (y1.drewN nq)) := Lib.hid (uHB_29.out.trans (uhq30.mono uHB_29.out.size))
  clear uhq30
  generalize y1.drewN nq = wz at uG_31 uR_32 uHB_33 ⊢
  clear ra rb rg va vb vg ep eN
  try rw [ra']
  try rw [rb']
  try rw [rg']
  clear ra' rb' rg'
  go_wp2_with fail
  have PU := Lib.hid fun k => cnt_up (parP q a g) k
  have JU := Lib.hid fun k => cnt_up (joiP q a b) k
  have PL := Lib.hid fun k => cnt_le (parP q a g) k
  have JL := Lib.hid fun k => cnt_le (joiP q a b) k
  have PD := Lib.hid (show ∀ h, parP q a g h = (has (aff q h) a && (common (aff q h) (aff q g)).length == 0) from fun h => rfl)
  have JD := Lib.hid (show ∀ h, joiP q a b h = (has (aff q h) a && has (aff q h) b) from fun h => rfl)
  have PE := Lib.hid (PAR.out a g aN gN)
  have JE := Lib.hid (JOI.out a b aN bN)
  have Z0 : Hid (cnt (parP q a g) 0 = 0 ∧ cnt (joiP q a b) 0 = 0) := Lib.hid ⟨rfl, rfl⟩
  obtain ⟨P, hP⟩ : ∃ P, cnt (parP q a g) = P := ⟨_, rfl⟩
  obtain ⟨J, hJ⟩ : ∃ J, cnt (joiP q a b) = J := ⟨_, rfl⟩
  rw [hP] at PU PL PE Z0
  rw [hJ] at JU JL JE Z0
  clear hP hJ PAR JOI
  go_loopw [14, 15, 16] (fun u v i wr => ∃ m : Nat, m ≤ N ∧ i = .int .i64 (m : Int) ∧ u = .int .i64 (P m : Nat) ∧ v = .int .i64 (J m : Nat) ∧ Hid (Below wz.heap.size wz wr)) (fun _ _ i _ => N - (intOf i).toNat)
  case atStart => exact ⟨0, Nat.zero_le _, rfl, by rw [Z0.out.1]; rfl, by rw [Z0.out.2]; rfl, Lib.hid (Below.refl _ _)⟩
  case round =>
    obtain ⟨m, hm, rfl, rfl, rfl, H⟩ := hrel
    have d1 := (uR_32.out.go H.out).cell 1
    have pl := PL.out m
    have jl := JL.out m
    by_cases hlt : m < N
    · have mI : (m : Int) < (N : Int) := by omega
      have HR := Lib.hid (uR_32.out.go H.out)
      have HG := Lib.hid (uG_31.out.to H.out)
      have PS := Lib.hid (PU.out m)
      have JS := Lib.hid (JU.out m)
      rw [PD.out m] at PS
      rw [JD.out m] at JS
      obtain ⟨cp, hcp⟩ : ∃ c, P m = c := ⟨_, rfl⟩
      obtain ⟨cj, hcj⟩ : ∃ c, J m = c := ⟨_, rfl⟩
      rw [hcp] at PS pl ⊢
      rw [hcj] at JS jl ⊢
      have HB1 := Lib.hid H.out
      clear hcp hcj H
      obtain ⟨um, hxm, hnm⟩ := HG.out.at_ (show m < N by assumption)
      rw [LL.out m (by assumption)] at hnm
      obtain ⟨Am, cm, rfl⟩ := slform hnm
      obtain ⟨mm, hmm⟩ : ∃ zz, (aff q m).length = zz := ⟨_, rfl⟩
      rw [hmm] at hnm hxm
      have HMm := Lib.hid hmm
      have Xm := Lib.hid hxm
      have Nm := Lib.hid hnm
      clear hmm hnm hxm
      obtain ⟨ug, hxg, hng⟩ := HG.out.at_ (show g < N by assumption)
      rw [LL.out g (by assumption)] at hng
      obtain ⟨Ag, cg, rfl⟩ := slform hng
      obtain ⟨mg, hmg⟩ : ∃ zz, (aff q g).length = zz := ⟨_, rfl⟩
      rw [hmg] at hng hxg
      have HMg := Lib.hid hmg
      have Xg := Lib.hid hxg
      have Ng := Lib.hid hng
      clear hmg hng hxg
      have HA := Lib.hid fun W (h : Ns W (.slice Am mm cm) (aff q m)) => hasn_any (aff q m) a (.slice Am mm cm) W h
      have HC := Lib.hid fun W (h : Ns W (.slice Am mm cm) (aff q m)) => hasn_any (aff q m) b (.slice Am mm cm) W h
      have l1000 : (aff q m).length ≤ 1000 := by rw [LE.out m]; omega
      have CC := Lib.hid fun W (h1 : Ns W (.slice Am mm cm) (aff q m)) (h2 : Ns W (.slice Ag mg cg) (aff q g)) => common_any (aff q m) (aff q g) (.slice Am mm cm) (.slice Ag mg cg) W h1 h2 l1000
      obtain ⟨lc, hlc⟩ : ∃ l, (common (aff q m) (aff q g)).length = l := ⟨_, rfl⟩
      have LC := Lib.hid hlc
      rw [hlc] at PS
      clear l1000 hlc HMm HMg
      have d1 := HR.out.cell 1
      have xm := Xm.out
      by_cases ea : has (aff q m) a = true
      · by_cases l0 : lc = 0
        · by_cases eb : has (aff q m) b = true
          · rw [ea] at HA PS JS
            rw [eb] at HC JS
            have lcB : ((lc : Int) == 0) = true := by rw [beq_iff_eq]; omega
            rw [show (true && lc == 0) = true by simp [l0]] at PS
            simp only [Bool.and_true, Bool.and_false, cond_true, cond_false, Nat.add_zero] at PS JS
            clear ea eb l0 d1 xm
            have d1 := HR.out.cell 1
            have xm := Xm.out
            go_wp2_with fail
            clear d1 xm
            refine wp_region_held (P := Tryd.prog) (S := (fun w' : World => w'.cell? ⟨D, 1, none⟩ = some (.slice (some ⟨b1, o1, none⟩) N k1) ∧ w'.cell? ⟨b1, o1 + m, none⟩ = some (.slice Am mm cm) ∧ w'.cell? ⟨b1, o1 + g, none⟩ = some (.slice Ag mg cg))) rfl ?_
            change wpAnyH _ _ _ _ _ _ _ _ wr.drew
            have yhz2 : Below wr.heap.size wr wr.drew := (Below.refl wr.heap.size wr).drew
            generalize wr.drew = ywz1 at yhz2 ⊢
            have yhq3 : Below wr.heap.size wr ywz1 := yhz2
            have yR_4 := Lib.hid (Row.go HR.out yhq3)
            have yG_5 := Lib.hid (Gs.to HG.out yhq3)
            have yXm_6 := Lib.hid (cell_to Xm.out yhq3)
            have yNm_7 := Lib.hid (Ns.to Nm.out yhq3)
            have yXg_8 := Lib.hid (cell_to Xg.out yhq3)
            have yNg_9 := Lib.hid (Ns.to Ng.out yhq3)
            have yHB_10 : Hid (Below wz.heap.size wz ywz1) := Lib.hid (HB1.out.trans (yhq3.mono HB1.out.size))
            clear yhq3
            clear yhz2
            have yhS11 : (fun w' : World => w'.cell? ⟨D, 1, none⟩ = some (.slice (some ⟨b1, o1, none⟩) N k1) ∧ w'.cell? ⟨b1, o1 + m, none⟩ = some (.slice Am mm cm) ∧ w'.cell? ⟨b1, o1 + g, none⟩ = some (.slice Ag mg cg)) ywz1 := ⟨yR_4.out.cell 1, yXm_6.out, yXg_8.out⟩
            refine takeD (i := 0) (v := .pointer (some ⟨D, 1, none⟩)) (some 76) rfl rfl (by kernel_rfl) (by kernel_rfl) (by kernel_rfl) (fun _ _ _ h => h) (Or.inl ⟨by rfl, by rintro w' -; go_simp⟩) yhS11 ?_
            simp only [Act.put, List.setIfInBounds_toArray, List.set_cons_zero, List.set_cons_succ]
            refine takeD (i := 1) (v := .slice (some ⟨b1, o1, none⟩) N k1) (some 77) rfl rfl (by kernel_rfl) (by kernel_rfl) (by kernel_rfl) (fun _ _ _ h => h) (Or.inl ⟨by rfl, by rintro w' h; have hc := h.1; go_simp⟩) yhS11 ?_
            simp only [Act.put, List.setIfInBounds_toArray, List.set_cons_zero, List.set_cons_succ]
            refine takeD (i := 2) (v := .int .i64 (m : Int)) (some 78) rfl rfl (by kernel_rfl) (by kernel_rfl) (by kernel_rfl) (fun _ _ _ h => h) (Or.inl ⟨by rfl, by rintro w' -; go_simp⟩) yhS11 ?_
            simp only [Act.put, List.setIfInBounds_toArray, List.set_cons_zero, List.set_cons_succ]
            refine takeD (i := 3) (v := .pointer (some ⟨b1, o1 + m * 1, none⟩)) (some 79) rfl rfl (by kernel_rfl) (by kernel_rfl) (by kernel_rfl) (fun _ _ _ h => h) (Or.inl ⟨by rfl, by rintro w' -; go_simp⟩) yhS11 ?_
            simp only [Act.put, List.setIfInBounds_toArray, List.set_cons_zero, List.set_cons_succ]
            refine takeD (i := 4) (v := .slice Am mm cm) (some 80) rfl rfl (by kernel_rfl) (by kernel_rfl) (by kernel_rfl) (fun _ _ _ h => h) (Or.inl ⟨by rfl, by rintro w' h; have hc := h.2.1; go_simp⟩) yhS11 ?_
            simp only [Act.put, List.setIfInBounds_toArray, List.set_cons_zero, List.set_cons_succ]
            refine takeD (i := 5) (v := .int .i64 (a : Int)) (some 81) rfl rfl (by kernel_rfl) (by kernel_rfl) (by kernel_rfl) (fun _ _ _ h => h) (Or.inl ⟨by rfl, by rintro w' -; go_simp⟩) yhS11 ?_
            simp only [Act.put, List.setIfInBounds_toArray, List.set_cons_zero, List.set_cons_succ]
            refine wpAnyH_ready (rs := [6]) (by kernel_rfl) (by simp) ?_
            refine AllReadyH.cons rfl (fun yK12 hyK12 => ?_) AllReadyH.nil
            have HyK12 := Lib.hid hyK12
            clear hyK12
            rw [if_pos (by rfl)]
            go_simp
            refine (HA.out _ yNm_7.out).mono ?_
            rintro e yz13 ⟨rfl, yhz14⟩
            obtain rfl := yhz14.symm
            have yhS15 : (fun w' : World => w'.cell? ⟨D, 1, none⟩ = some (.slice (some ⟨b1, o1, none⟩) N k1) ∧ w'.cell? ⟨b1, o1 + m, none⟩ = some (.slice Am mm cm) ∧ w'.cell? ⟨b1, o1 + g, none⟩ = some (.slice Ag mg cg)) ywz1 := ⟨yR_4.out.cell 1, yXm_6.out, yXg_8.out⟩
            refine HyK12.out _ _ yhS15 fun _ => ?_
            try simp only [Act.put, List.setIfInBounds_toArray, List.set_cons_zero, List.set_cons_succ]
            refine takeD (i := 7) (v := .bool true) (some 83) rfl rfl (by kernel_rfl) (by kernel_rfl) (by kernel_rfl) (fun _ _ _ h => h) (Or.inl ⟨by rfl, by rintro w' -; go_simp⟩) yhS15 ?_
            simp only [Act.put, List.setIfInBounds_toArray, List.set_cons_zero, List.set_cons_succ]
            refine takeD (i := 8) (v := .pointer (some ⟨D, 1, none⟩)) (some 84) rfl rfl (by kernel_rfl) (by kernel_rfl) (by kernel_rfl) (fun _ _ _ h => h) (Or.inl ⟨by rfl, by rintro w' -; go_simp⟩) yhS15 ?_
            simp only [Act.put, List.setIfInBounds_toArray, List.set_cons_zero, List.set_cons_succ]
            refine takeD (i := 9) (v := .slice (some ⟨b1, o1, none⟩) N k1) (some 85) rfl rfl (by kernel_rfl) (by kernel_rfl) (by kernel_rfl) (fun _ _ _ h => h) (Or.inl ⟨by rfl, by rintro w' h; have hc := h.1; go_simp⟩) yhS15 ?_
            simp only [Act.put, List.setIfInBounds_toArray, List.set_cons_zero, List.set_cons_succ]
            refine takeD (i := 10) (v := .int .i64 (m : Int)) (some 86) rfl rfl (by kernel_rfl) (by kernel_rfl) (by kernel_rfl) (fun _ _ _ h => h) (Or.inl ⟨by rfl, by rintro w' -; go_simp⟩) yhS15 ?_
            simp only [Act.put, List.setIfInBounds_toArray, List.set_cons_zero, List.set_cons_succ]
            refine takeD (i := 11) (v := .pointer (some ⟨b1, o1 + m * 1, none⟩)) (some 87) rfl rfl (by kernel_rfl) (by kernel_rfl) (by kernel_rfl) (fun _ _ _ h => h) (Or.inl ⟨by rfl, by rintro w' -; go_simp⟩) yhS15 ?_
            simp only [Act.put, List.setIfInBounds_toArray, List.set_cons_zero, List.set_cons_succ]
            refine takeD (i := 12) (v := .slice Am mm cm) (some 88) rfl rfl (by kernel_rfl) (by kernel_rfl) (by kernel_rfl) (fun _ _ _ h => h) (Or.inl ⟨by rfl, by rintro w' h; have hc := h.2.1; go_simp⟩) yhS15 ?_
            simp only [Act.put, List.setIfInBounds_toArray, List.set_cons_zero, List.set_cons_succ]
            refine takeD (i := 13) (v := .pointer (some ⟨D, 1, none⟩)) (some 89) rfl rfl (by kernel_rfl) (by kernel_rfl) (by kernel_rfl) (fun _ _ _ h => h) (Or.inl ⟨by rfl, by rintro w' -; go_simp⟩) yhS15 ?_
            simp only [Act.put, List.setIfInBounds_toArray, List.set_cons_zero, List.set_cons_succ]
            refine takeD (i := 14) (v := .slice (some ⟨b1, o1, none⟩) N k1) (some 90) rfl rfl (by kernel_rfl) (by kernel_rfl) (by kernel_rfl) (fun _ _ _ h => h) (Or.inl ⟨by rfl, by rintro w' h; have hc := h.1; go_simp⟩) yhS15 ?_
            simp only [Act.put, List.setIfInBounds_toArray, List.set_cons_zero, List.set_cons_succ]
            refine takeD (i := 15) (v := .int .i64 (g : Int)) (some 91) rfl rfl (by kernel_rfl) (by kernel_rfl) (by kernel_rfl) (fun _ _ _ h => h) (Or.inl ⟨by rfl, by rintro w' -; go_simp⟩) yhS15 ?_
            simp only [Act.put, List.setIfInBounds_toArray, List.set_cons_zero, List.set_cons_succ]
            refine takeD (i := 16) (v := .pointer (some ⟨b1, o1 + g * 1, none⟩)) (some 92) rfl rfl (by kernel_rfl) (by kernel_rfl) (by kernel_rfl) (fun _ _ _ h => h) (Or.inl ⟨by rfl, by rintro w' -; go_simp⟩) yhS15 ?_
            simp only [Act.put, List.setIfInBounds_toArray, List.set_cons_zero, List.set_cons_succ]
            refine takeD (i := 17) (v := .slice Ag mg cg) (some 93) rfl rfl (by kernel_rfl) (by kernel_rfl) (by kernel_rfl) (fun _ _ _ h => h) (Or.inl ⟨by rfl, by rintro w' h; have hc := h.2.2; go_simp⟩) yhS15 ?_
            simp only [Act.put, List.setIfInBounds_toArray, List.set_cons_zero, List.set_cons_succ]
            refine wpAnyH_ready (rs := [18]) (by kernel_rfl) (by simp) ?_
            refine AllReadyH.cons rfl (fun yK16 hyK16 => ?_) AllReadyH.nil
            have HyK16 := Lib.hid hyK16
            clear hyK16
            rw [if_pos (by rfl)]
            go_simp
            refine (CC.out _ yNm_7.out yNg_9.out).mono ?_
            rintro e yx18 ⟨vc, rfl, yhn19, yhb17⟩
            have yhq20 : Below ywz1.heap.size ywz1 yx18 := yhb17
            have yR_21 := Lib.hid (Row.go yR_4.out yhq20)
            have yG_22 := Lib.hid (Gs.to yG_5.out yhq20)
            have yXm_23 := Lib.hid (cell_to yXm_6.out yhq20)
            have yNm_24 := Lib.hid (Ns.to yNm_7.out yhq20)
            have yXg_25 := Lib.hid (cell_to yXg_8.out yhq20)
            have yNg_26 := Lib.hid (Ns.to yNg_9.out yhq20)
            have yHB_27 : Hid (Below wz.heap.size wz yx18) := Lib.hid (yHB_10.out.trans (yhq20.mono yHB_10.out.size))
            clear yhq20
            obtain ⟨Ac, kc, rfl⟩ := slform yhn19
            rw [LC.out]
            clear yhn19 yhb17
            have yhS28 : (fun w' : World => w'.cell? ⟨D, 1, none⟩ = some (.slice (some ⟨b1, o1, none⟩) N k1) ∧ w'.cell? ⟨b1, o1 + m, none⟩ = some (.slice Am mm cm) ∧ w'.cell? ⟨b1, o1 + g, none⟩ = some (.slice Ag mg cg)) yx18 := ⟨yR_21.out.cell 1, yXm_23.out, yXg_25.out⟩
            refine HyK16.out _ _ yhS28 fun _ => ?_
            try simp only [Act.put, List.setIfInBounds_toArray, List.set_cons_zero, List.set_cons_succ]
            refine takeD (i := 19) (v := .int .i64 (lc : Int)) (some 95) rfl rfl (by kernel_rfl) (by kernel_rfl) (by kernel_rfl) (fun _ _ _ h => h) (Or.inl ⟨by rfl, by rintro w' -; go_simp⟩) yhS28 ?_
            simp only [Act.put, List.setIfInBounds_toArray, List.set_cons_zero, List.set_cons_succ]
            refine takeD (i := 20) (v := .bool true) (some 96) rfl rfl (by kernel_rfl) (by kernel_rfl) (by kernel_rfl) (fun _ _ _ h => h) (Or.inl ⟨by rfl, by rintro w' -; go_simp⟩) yhS28 ?_
            simp only [Act.put, List.setIfInBounds_toArray, List.set_cons_zero, List.set_cons_succ]
            refine takeD (i := 21) (v := .bool true) (some 97) rfl rfl (by kernel_rfl) (by kernel_rfl) (by kernel_rfl) (fun _ _ _ h => h) (Or.inl ⟨by rfl, by rintro w' -; go_simp⟩) yhS28 ?_
            simp only [Act.put, List.setIfInBounds_toArray, List.set_cons_zero, List.set_cons_succ]
            refine wpAnyH_done (by kernel_rfl) ?_ _
            have d1 := yR_21.out.cell 1
            have xm := yXm_23.out
            go_wp2_with fail
            refine (HA.out _ yNm_24.out).mono ?_
            rintro e yz29 ⟨rfl, yhz30⟩
            obtain rfl := yhz30.symm
            go_wp2_with fail
            refine (HC.out _ yNm_24.out).mono ?_
            rintro e yz31 ⟨rfl, yhz32⟩
            obtain rfl := yhz32.symm
            go_wp2_with fail
            go_roundw
            case rel => exact ⟨m + 1, by omega, by go_num, by rw [PS.out]; go_num, by rw [JS.out]; go_num, yHB_27⟩
            case measure => simp [intOf]; omega
          · rw [ea] at HA PS JS
            have eb := Bool.eq_false_iff.2 eb
            rw [eb] at HC JS
            have lcB : ((lc : Int) == 0) = true := by rw [beq_iff_eq]; omega
            rw [show (true && lc == 0) = true by simp [l0]] at PS
            simp only [Bool.and_true, Bool.and_false, cond_true, cond_false, Nat.add_zero] at PS JS
            clear ea eb l0 d1 xm
            have d1 := HR.out.cell 1
            have xm := Xm.out
            go_wp2_with fail
            clear d1 xm
            refine wp_region_held (P := Tryd.prog) (S := (fun w' : World => w'.cell? ⟨D, 1, none⟩ = some (.slice (some ⟨b1, o1, none⟩) N k1) ∧ w'.cell? ⟨b1, o1 + m, none⟩ = some (.slice Am mm cm) ∧ w'.cell? ⟨b1, o1 + g, none⟩ = some (.slice Ag mg cg))) rfl ?_
            change wpAnyH _ _ _ _ _ _ _ _ wr.drew
            have yhz2 : Below wr.heap.size wr wr.drew := (Below.refl wr.heap.size wr).drew
            generalize wr.drew = ywz1 at yhz2 ⊢
            have yhq3 : Below wr.heap.size wr ywz1 := yhz2
            have yR_4 := Lib.hid (Row.go HR.out yhq3)
            have yG_5 := Lib.hid (Gs.to HG.out yhq3)
            have yXm_6 := Lib.hid (cell_to Xm.out yhq3)
            have yNm_7 := Lib.hid (Ns.to Nm.out yhq3)
            have yXg_8 := Lib.hid (cell_to Xg.out yhq3)
            have yNg_9 := Lib.hid (Ns.to Ng.out yhq3)
            have yHB_10 : Hid (Below wz.heap.size wz ywz1) := Lib.hid (HB1.out.trans (yhq3.mono HB1.out.size))
            clear yhq3
            clear yhz2
            have yhS11 : (fun w' : World => w'.cell? ⟨D, 1, none⟩ = some (.slice (some ⟨b1, o1, none⟩) N k1) ∧ w'.cell? ⟨b1, o1 + m, none⟩ = some (.slice Am mm cm) ∧ w'.cell? ⟨b1, o1 + g, none⟩ = some (.slice Ag mg cg)) ywz1 := ⟨yR_4.out.cell 1, yXm_6.out, yXg_8.out⟩
            refine takeD (i := 0) (v := .pointer (some ⟨D, 1, none⟩)) (some 76) rfl rfl (by kernel_rfl) (by kernel_rfl) (by kernel_rfl) (fun _ _ _ h => h) (Or.inl ⟨by rfl, by rintro w' -; go_simp⟩) yhS11 ?_
            simp only [Act.put, List.setIfInBounds_toArray, List.set_cons_zero, List.set_cons_succ]
            refine takeD (i := 1) (v := .slice (some ⟨b1, o1, none⟩) N k1) (some 77) rfl rfl (by kernel_rfl) (by kernel_rfl) (by kernel_rfl) (fun _ _ _ h => h) (Or.inl ⟨by rfl, by rintro w' h; have hc := h.1; go_simp⟩) yhS11 ?_
            simp only [Act.put, List.setIfInBounds_toArray, List.set_cons_zero, List.set_cons_succ]
            refine takeD (i := 2) (v := .int .i64 (m : Int)) (some 78) rfl rfl (by kernel_rfl) (by kernel_rfl) (by kernel_rfl) (fun _ _ _ h => h) (Or.inl ⟨by rfl, by rintro w' -; go_simp⟩) yhS11 ?_
            simp only [Act.put, List.setIfInBounds_toArray, List.set_cons_zero, List.set_cons_succ]
            refine takeD (i := 3) (v := .pointer (some ⟨b1, o1 + m * 1, none⟩)) (some 79) rfl rfl (by kernel_rfl) (by kernel_rfl) (by kernel_rfl) (fun _ _ _ h => h) (Or.inl ⟨by rfl, by rintro w' -; go_simp⟩) yhS11 ?_
            simp only [Act.put, List.setIfInBounds_toArray, List.set_cons_zero, List.set_cons_succ]
            refine takeD (i := 4) (v := .slice Am mm cm) (some 80) rfl rfl (by kernel_rfl) (by kernel_rfl) (by kernel_rfl) (fun _ _ _ h => h) (Or.inl ⟨by rfl, by rintro w' h; have hc := h.2.1; go_simp⟩) yhS11 ?_
            simp only [Act.put, List.setIfInBounds_toArray, List.set_cons_zero, List.set_cons_succ]
            refine takeD (i := 5) (v := .int .i64 (a : Int)) (some 81) rfl rfl (by kernel_rfl) (by kernel_rfl) (by kernel_rfl) (fun _ _ _ h => h) (Or.inl ⟨by rfl, by rintro w' -; go_simp⟩) yhS11 ?_
            simp only [Act.put, List.setIfInBounds_toArray, List.set_cons_zero, List.set_cons_succ]
            refine wpAnyH_ready (rs := [6]) (by kernel_rfl) (by simp) ?_
            refine AllReadyH.cons rfl (fun yK12 hyK12 => ?_) AllReadyH.nil
            have HyK12 := Lib.hid hyK12
            clear hyK12
            rw [if_pos (by rfl)]
            go_simp
            refine (HA.out _ yNm_7.out).mono ?_
            rintro e yz13 ⟨rfl, yhz14⟩
            obtain rfl := yhz14.symm
            have yhS15 : (fun w' : World => w'.cell? ⟨D, 1, none⟩ = some (.slice (some ⟨b1, o1, none⟩) N k1) ∧ w'.cell? ⟨b1, o1 + m, none⟩ = some (.slice Am mm cm) ∧ w'.cell? ⟨b1, o1 + g, none⟩ = some (.slice Ag mg cg)) ywz1 := ⟨yR_4.out.cell 1, yXm_6.out, yXg_8.out⟩
            refine HyK12.out _ _ yhS15 fun _ => ?_
            try simp only [Act.put, List.setIfInBounds_toArray, List.set_cons_zero, List.set_cons_succ]
            refine takeD (i := 7) (v := .bool true) (some 83) rfl rfl (by kernel_rfl) (by kernel_rfl) (by kernel_rfl) (fun _ _ _ h => h) (Or.inl ⟨by rfl, by rintro w' -; go_simp⟩) yhS15 ?_
            simp only [Act.put, List.setIfInBounds_toArray, List.set_cons_zero, List.set_cons_succ]
            refine takeD (i := 8) (v := .pointer (some ⟨D, 1, none⟩)) (some 84) rfl rfl (by kernel_rfl) (by kernel_rfl) (by kernel_rfl) (fun _ _ _ h => h) (Or.inl ⟨by rfl, by rintro w' -; go_simp⟩) yhS15 ?_
            simp only [Act.put, List.setIfInBounds_toArray, List.set_cons_zero, List.set_cons_succ]
            refine takeD (i := 9) (v := .slice (some ⟨b1, o1, none⟩) N k1) (some 85) rfl rfl (by kernel_rfl) (by kernel_rfl) (by kernel_rfl) (fun _ _ _ h => h) (Or.inl ⟨by rfl, by rintro w' h; have hc := h.1; go_simp⟩) yhS15 ?_
            simp only [Act.put, List.setIfInBounds_toArray, List.set_cons_zero, List.set_cons_succ]
            refine takeD (i := 10) (v := .int .i64 (m : Int)) (some 86) rfl rfl (by kernel_rfl) (by kernel_rfl) (by kernel_rfl) (fun _ _ _ h => h) (Or.inl ⟨by rfl, by rintro w' -; go_simp⟩) yhS15 ?_
            simp only [Act.put, List.setIfInBounds_toArray, List.set_cons_zero, List.set_cons_succ]
            refine takeD (i := 11) (v := .pointer (some ⟨b1, o1 + m * 1, none⟩)) (some 87) rfl rfl (by kernel_rfl) (by kernel_rfl) (by kernel_rfl) (fun _ _ _ h => h) (Or.inl ⟨by rfl, by rintro w' -; go_simp⟩) yhS15 ?_
            simp only [Act.put, List.setIfInBounds_toArray, List.set_cons_zero, List.set_cons_succ]
            refine takeD (i := 12) (v := .slice Am mm cm) (some 88) rfl rfl (by kernel_rfl) (by kernel_rfl) (by kernel_rfl) (fun _ _ _ h => h) (Or.inl ⟨by rfl, by rintro w' h; have hc := h.2.1; go_simp⟩) yhS15 ?_
            simp only [Act.put, List.setIfInBounds_toArray, List.set_cons_zero, List.set_cons_succ]
            refine takeD (i := 13) (v := .pointer (some ⟨D, 1, none⟩)) (some 89) rfl rfl (by kernel_rfl) (by kernel_rfl) (by kernel_rfl) (fun _ _ _ h => h) (Or.inl ⟨by rfl, by rintro w' -; go_simp⟩) yhS15 ?_
            simp only [Act.put, List.setIfInBounds_toArray, List.set_cons_zero, List.set_cons_succ]
            refine takeD (i := 14) (v := .slice (some ⟨b1, o1, none⟩) N k1) (some 90) rfl rfl (by kernel_rfl) (by kernel_rfl) (by kernel_rfl) (fun _ _ _ h => h) (Or.inl ⟨by rfl, by rintro w' h; have hc := h.1; go_simp⟩) yhS15 ?_
            simp only [Act.put, List.setIfInBounds_toArray, List.set_cons_zero, List.set_cons_succ]
            refine takeD (i := 15) (v := .int .i64 (g : Int)) (some 91) rfl rfl (by kernel_rfl) (by kernel_rfl) (by kernel_rfl) (fun _ _ _ h => h) (Or.inl ⟨by rfl, by rintro w' -; go_simp⟩) yhS15 ?_
            simp only [Act.put, List.setIfInBounds_toArray, List.set_cons_zero, List.set_cons_succ]
            refine takeD (i := 16) (v := .pointer (some ⟨b1, o1 + g * 1, none⟩)) (some 92) rfl rfl (by kernel_rfl) (by kernel_rfl) (by kernel_rfl) (fun _ _ _ h => h) (Or.inl ⟨by rfl, by rintro w' -; go_simp⟩) yhS15 ?_
            simp only [Act.put, List.setIfInBounds_toArray, List.set_cons_zero, List.set_cons_succ]
            refine takeD (i := 17) (v := .slice Ag mg cg) (some 93) rfl rfl (by kernel_rfl) (by kernel_rfl) (by kernel_rfl) (fun _ _ _ h => h) (Or.inl ⟨by rfl, by rintro w' h; have hc := h.2.2; go_simp⟩) yhS15 ?_
            simp only [Act.put, List.setIfInBounds_toArray, List.set_cons_zero, List.set_cons_succ]
            refine wpAnyH_ready (rs := [18]) (by kernel_rfl) (by simp) ?_
            refine AllReadyH.cons rfl (fun yK16 hyK16 => ?_) AllReadyH.nil
            have HyK16 := Lib.hid hyK16
            clear hyK16
            rw [if_pos (by rfl)]
            go_simp
            refine (CC.out _ yNm_7.out yNg_9.out).mono ?_
            rintro e yx18 ⟨vc, rfl, yhn19, yhb17⟩
            have yhq20 : Below ywz1.heap.size ywz1 yx18 := yhb17
            have yR_21 := Lib.hid (Row.go yR_4.out yhq20)
            have yG_22 := Lib.hid (Gs.to yG_5.out yhq20)
            have yXm_23 := Lib.hid (cell_to yXm_6.out yhq20)
            have yNm_24 := Lib.hid (Ns.to yNm_7.out yhq20)
            have yXg_25 := Lib.hid (cell_to yXg_8.out yhq20)
            have yNg_26 := Lib.hid (Ns.to yNg_9.out yhq20)
            have yHB_27 : Hid (Below wz.heap.size wz yx18) := Lib.hid (yHB_10.out.trans (yhq20.mono yHB_10.out.size))
            clear yhq20
            obtain ⟨Ac, kc, rfl⟩ := slform yhn19
            rw [LC.out]
            clear yhn19 yhb17
            have yhS28 : (fun w' : World => w'.cell? ⟨D, 1, none⟩ = some (.slice (some ⟨b1, o1, none⟩) N k1) ∧ w'.cell? ⟨b1, o1 + m, none⟩ = some (.slice Am mm cm) ∧ w'.cell? ⟨b1, o1 + g, none⟩ = some (.slice Ag mg cg)) yx18 := ⟨yR_21.out.cell 1, yXm_23.out, yXg_25.out⟩
            refine HyK16.out _ _ yhS28 fun _ => ?_
            try simp only [Act.put, List.setIfInBounds_toArray, List.set_cons_zero, List.set_cons_succ]
            refine takeD (i := 19) (v := .int .i64 (lc : Int)) (some 95) rfl rfl (by kernel_rfl) (by kernel_rfl) (by kernel_rfl) (fun _ _ _ h => h) (Or.inl ⟨by rfl, by rintro w' -; go_simp⟩) yhS28 ?_
            simp only [Act.put, List.setIfInBounds_toArray, List.set_cons_zero, List.set_cons_succ]
            refine takeD (i := 20) (v := .bool true) (some 96) rfl rfl (by kernel_rfl) (by kernel_rfl) (by kernel_rfl) (fun _ _ _ h => h) (Or.inl ⟨by rfl, by rintro w' -; go_simp⟩) yhS28 ?_
            simp only [Act.put, List.setIfInBounds_toArray, List.set_cons_zero, List.set_cons_succ]
            refine takeD (i := 21) (v := .bool true) (some 97) rfl rfl (by kernel_rfl) (by kernel_rfl) (by kernel_rfl) (fun _ _ _ h => h) (Or.inl ⟨by rfl, by rintro w' -; go_simp⟩) yhS28 ?_
            simp only [Act.put, List.setIfInBounds_toArray, List.set_cons_zero, List.set_cons_succ]
            refine wpAnyH_done (by kernel_rfl) ?_ _
            have d1 := yR_21.out.cell 1
            have xm := yXm_23.out
            go_wp2_with fail
            refine (HA.out _ yNm_24.out).mono ?_
            rintro e yz29 ⟨rfl, yhz30⟩
            obtain rfl := yhz30.symm
            go_wp2_with fail
            refine (HC.out _ yNm_24.out).mono ?_
            rintro e yz31 ⟨rfl, yhz32⟩
            obtain rfl := yhz32.symm
            go_wp2_with fail
            go_roundw
            case rel => exact ⟨m + 1, by omega, by go_num, by rw [PS.out]; go_num, by rw [JS.out], yHB_27⟩
            case measure => simp [intOf]; omega
        · by_cases eb : has (aff q m) b = true
          · rw [ea] at HA PS JS
            rw [eb] at HC JS
            have lcB : ((lc : Int) == 0) = false := by rw [beq_eq_false_iff_ne]; omega
            rw [show (true && lc == 0) = false by simp [l0]] at PS
            simp only [Bool.and_true, Bool.and_false, cond_true, cond_false, Nat.add_zero] at PS JS
            clear ea eb l0 d1 xm
            have d1 := HR.out.cell 1
            have xm := Xm.out
            go_wp2_with fail
            clear d1 xm
            refine wp_region_held (P := Tryd.prog) (S := (fun w' : World => w'.cell? ⟨D, 1, none⟩ = some (.slice (some ⟨b1, o1, none⟩) N k1) ∧ w'.cell? ⟨b1, o1 + m, none⟩ = some (.slice Am mm cm) ∧ w'.cell? ⟨b1, o1 + g, none⟩ = some (.slice Ag mg cg))) rfl ?_
            change wpAnyH _ _ _ _ _ _ _ _ wr.drew
            have yhz2 : Below wr.heap.size wr wr.drew := (Below.refl wr.heap.size wr).drew
            generalize wr.drew = ywz1 at yhz2 ⊢
            have yhq3 : Below wr.heap.size wr ywz1 := yhz2
            have yR_4 := Lib.hid (Row.go HR.out yhq3)
            have yG_5 := Lib.hid (Gs.to HG.out yhq3)
            have yXm_6 := Lib.hid (cell_to Xm.out yhq3)
            have yNm_7 := Lib.hid (Ns.to Nm.out yhq3)
            have yXg_8 := Lib.hid (cell_to Xg.out yhq3)
            have yNg_9 := Lib.hid (Ns.to Ng.out yhq3)
            have yHB_10 : Hid (Below wz.heap.size wz ywz1) := Lib.hid (HB1.out.trans (yhq3.mono HB1.out.size))
            clear yhq3
            clear yhz2
            have yhS11 : (fun w' : World => w'.cell? ⟨D, 1, none⟩ = some (.slice (some ⟨b1, o1, none⟩) N k1) ∧ w'.cell? ⟨b1, o1 + m, none⟩ = some (.slice Am mm cm) ∧ w'.cell? ⟨b1, o1 + g, none⟩ = some (.slice Ag mg cg)) ywz1 := ⟨yR_4.out.cell 1, yXm_6.out, yXg_8.out⟩
            refine takeD (i := 0) (v := .pointer (some ⟨D, 1, none⟩)) (some 76) rfl rfl (by kernel_rfl) (by kernel_rfl) (by kernel_rfl) (fun _ _ _ h => h) (Or.inl ⟨by rfl, by rintro w' -; go_simp⟩) yhS11 ?_
            simp only [Act.put, List.setIfInBounds_toArray, List.set_cons_zero, List.set_cons_succ]
            refine takeD (i := 1) (v := .slice (some ⟨b1, o1, none⟩) N k1) (some 77) rfl rfl (by kernel_rfl) (by kernel_rfl) (by kernel_rfl) (fun _ _ _ h => h) (Or.inl ⟨by rfl, by rintro w' h; have hc := h.1; go_simp⟩) yhS11 ?_
            simp only [Act.put, List.setIfInBounds_toArray, List.set_cons_zero, List.set_cons_succ]
            refine takeD (i := 2) (v := .int .i64 (m : Int)) (some 78) rfl rfl (by kernel_rfl) (by kernel_rfl) (by kernel_rfl) (fun _ _ _ h => h) (Or.inl ⟨by rfl, by rintro w' -; go_simp⟩) yhS11 ?_
            simp only [Act.put, List.setIfInBounds_toArray, List.set_cons_zero, List.set_cons_succ]
            refine takeD (i := 3) (v := .pointer (some ⟨b1, o1 + m * 1, none⟩)) (some 79) rfl rfl (by kernel_rfl) (by kernel_rfl) (by kernel_rfl) (fun _ _ _ h => h) (Or.inl ⟨by rfl, by rintro w' -; go_simp⟩) yhS11 ?_
            simp only [Act.put, List.setIfInBounds_toArray, List.set_cons_zero, List.set_cons_succ]
            refine takeD (i := 4) (v := .slice Am mm cm) (some 80) rfl rfl (by kernel_rfl) (by kernel_rfl) (by kernel_rfl) (fun _ _ _ h => h) (Or.inl ⟨by rfl, by rintro w' h; have hc := h.2.1; go_simp⟩) yhS11 ?_
            simp only [Act.put, List.setIfInBounds_toArray, List.set_cons_zero, List.set_cons_succ]
            refine takeD (i := 5) (v := .int .i64 (a : Int)) (some 81) rfl rfl (by kernel_rfl) (by kernel_rfl) (by kernel_rfl) (fun _ _ _ h => h) (Or.inl ⟨by rfl, by rintro w' -; go_simp⟩) yhS11 ?_
            simp only [Act.put, List.setIfInBounds_toArray, List.set_cons_zero, List.set_cons_succ]
            refine wpAnyH_ready (rs := [6]) (by kernel_rfl) (by simp) ?_
            refine AllReadyH.cons rfl (fun yK12 hyK12 => ?_) AllReadyH.nil
            have HyK12 := Lib.hid hyK12
            clear hyK12
            rw [if_pos (by rfl)]
            go_simp
            refine (HA.out _ yNm_7.out).mono ?_
            rintro e yz13 ⟨rfl, yhz14⟩
            obtain rfl := yhz14.symm
            have yhS15 : (fun w' : World => w'.cell? ⟨D, 1, none⟩ = some (.slice (some ⟨b1, o1, none⟩) N k1) ∧ w'.cell? ⟨b1, o1 + m, none⟩ = some (.slice Am mm cm) ∧ w'.cell? ⟨b1, o1 + g, none⟩ = some (.slice Ag mg cg)) ywz1 := ⟨yR_4.out.cell 1, yXm_6.out, yXg_8.out⟩
            refine HyK12.out _ _ yhS15 fun _ => ?_
            try simp only [Act.put, List.setIfInBounds_toArray, List.set_cons_zero, List.set_cons_succ]
            refine takeD (i := 7) (v := .bool true) (some 83) rfl rfl (by kernel_rfl) (by kernel_rfl) (by kernel_rfl) (fun _ _ _ h => h) (Or.inl ⟨by rfl, by rintro w' -; go_simp⟩) yhS15 ?_
            simp only [Act.put, List.setIfInBounds_toArray, List.set_cons_zero, List.set_cons_succ]
            refine takeD (i := 8) (v := .pointer (some ⟨D, 1, none⟩)) (some 84) rfl rfl (by kernel_rfl) (by kernel_rfl) (by kernel_rfl) (fun _ _ _ h => h) (Or.inl ⟨by rfl, by rintro w' -; go_simp⟩) yhS15 ?_
            simp only [Act.put, List.setIfInBounds_toArray, List.set_cons_zero, List.set_cons_succ]
            refine takeD (i := 9) (v := .slice (some ⟨b1, o1, none⟩) N k1) (some 85) rfl rfl (by kernel_rfl) (by kernel_rfl) (by kernel_rfl) (fun _ _ _ h => h) (Or.inl ⟨by rfl, by rintro w' h; have hc := h.1; go_simp⟩) yhS15 ?_
            simp only [Act.put, List.setIfInBounds_toArray, List.set_cons_zero, List.set_cons_succ]
            refine takeD (i := 10) (v := .int .i64 (m : Int)) (some 86) rfl rfl (by kernel_rfl) (by kernel_rfl) (by kernel_rfl) (fun _ _ _ h => h) (Or.inl ⟨by rfl, by rintro w' -; go_simp⟩) yhS15 ?_
            simp only [Act.put, List.setIfInBounds_toArray, List.set_cons_zero, List.set_cons_succ]
            refine takeD (i := 11) (v := .pointer (some ⟨b1, o1 + m * 1, none⟩)) (some 87) rfl rfl (by kernel_rfl) (by kernel_rfl) (by kernel_rfl) (fun _ _ _ h => h) (Or.inl ⟨by rfl, by rintro w' -; go_simp⟩) yhS15 ?_
            simp only [Act.put, List.setIfInBounds_toArray, List.set_cons_zero, List.set_cons_succ]
            refine takeD (i := 12) (v := .slice Am mm cm) (some 88) rfl rfl (by kernel_rfl) (by kernel_rfl) (by kernel_rfl) (fun _ _ _ h => h) (Or.inl ⟨by rfl, by rintro w' h; have hc := h.2.1; go_simp⟩) yhS15 ?_
            simp only [Act.put, List.setIfInBounds_toArray, List.set_cons_zero, List.set_cons_succ]
            refine takeD (i := 13) (v := .pointer (some ⟨D, 1, none⟩)) (some 89) rfl rfl (by kernel_rfl) (by kernel_rfl) (by kernel_rfl) (fun _ _ _ h => h) (Or.inl ⟨by rfl, by rintro w' -; go_simp⟩) yhS15 ?_
            simp only [Act.put, List.setIfInBounds_toArray, List.set_cons_zero, List.set_cons_succ]
            refine takeD (i := 14) (v := .slice (some ⟨b1, o1, none⟩) N k1) (some 90) rfl rfl (by kernel_rfl) (by kernel_rfl) (by kernel_rfl) (fun _ _ _ h => h) (Or.inl ⟨by rfl, by rintro w' h; have hc := h.1; go_simp⟩) yhS15 ?_
            simp only [Act.put, List.setIfInBounds_toArray, List.set_cons_zero, List.set_cons_succ]
            refine takeD (i := 15) (v := .int .i64 (g : Int)) (some 91) rfl rfl (by kernel_rfl) (by kernel_rfl) (by kernel_rfl) (fun _ _ _ h => h) (Or.inl ⟨by rfl, by rintro w' -; go_simp⟩) yhS15 ?_
            simp only [Act.put, List.setIfInBounds_toArray, List.set_cons_zero, List.set_cons_succ]
            refine takeD (i := 16) (v := .pointer (some ⟨b1, o1 + g * 1, none⟩)) (some 92) rfl rfl (by kernel_rfl) (by kernel_rfl) (by kernel_rfl) (fun _ _ _ h => h) (Or.inl ⟨by rfl, by rintro w' -; go_simp⟩) yhS15 ?_
            simp only [Act.put, List.setIfInBounds_toArray, List.set_cons_zero, List.set_cons_succ]
            refine takeD (i := 17) (v := .slice Ag mg cg) (some 93) rfl rfl (by kernel_rfl) (by kernel_rfl) (by kernel_rfl) (fun _ _ _ h => h) (Or.inl ⟨by rfl, by rintro w' h; have hc := h.2.2; go_simp⟩) yhS15 ?_
            simp only [Act.put, List.setIfInBounds_toArray, List.set_cons_zero, List.set_cons_succ]
            refine wpAnyH_ready (rs := [18]) (by kernel_rfl) (by simp) ?_
            refine AllReadyH.cons rfl (fun yK16 hyK16 => ?_) AllReadyH.nil
            have HyK16 := Lib.hid hyK16
            clear hyK16
            rw [if_pos (by rfl)]
            go_simp
            refine (CC.out _ yNm_7.out yNg_9.out).mono ?_
            rintro e yx18 ⟨vc, rfl, yhn19, yhb17⟩
            have yhq20 : Below ywz1.heap.size ywz1 yx18 := yhb17
            have yR_21 := Lib.hid (Row.go yR_4.out yhq20)
            have yG_22 := Lib.hid (Gs.to yG_5.out yhq20)
            have yXm_23 := Lib.hid (cell_to yXm_6.out yhq20)
            have yNm_24 := Lib.hid (Ns.to yNm_7.out yhq20)
            have yXg_25 := Lib.hid (cell_to yXg_8.out yhq20)
            have yNg_26 := Lib.hid (Ns.to yNg_9.out yhq20)
            have yHB_27 : Hid (Below wz.heap.size wz yx18) := Lib.hid (yHB_10.out.trans (yhq20.mono yHB_10.out.size))
            clear yhq20
            obtain ⟨Ac, kc, rfl⟩ := slform yhn19
            rw [LC.out]
            clear yhn19 yhb17
            have yhS28 : (fun w' : World => w'.cell? ⟨D, 1, none⟩ = some (.slice (some ⟨b1, o1, none⟩) N k1) ∧ w'.cell? ⟨b1, o1 + m, none⟩ = some (.slice Am mm cm) ∧ w'.cell? ⟨b1, o1 + g, none⟩ = some (.slice Ag mg cg)) yx18 := ⟨yR_21.out.cell 1, yXm_23.out, yXg_25.out⟩
            refine HyK16.out _ _ yhS28 fun _ => ?_
            try simp only [Act.put, List.setIfInBounds_toArray, List.set_cons_zero, List.set_cons_succ]
            refine takeD (i := 19) (v := .int .i64 (lc : Int)) (some 95) rfl rfl (by kernel_rfl) (by kernel_rfl) (by kernel_rfl) (fun _ _ _ h => h) (Or.inl ⟨by rfl, by rintro w' -; go_simp⟩) yhS28 ?_
            simp only [Act.put, List.setIfInBounds_toArray, List.set_cons_zero, List.set_cons_succ]
            refine takeD (i := 20) (v := .bool false) (some 96) rfl rfl (by kernel_rfl) (by kernel_rfl) (by kernel_rfl) (fun _ _ _ h => h) (Or.inl ⟨by rfl, by rintro w' -; go_simp⟩) yhS28 ?_
            simp only [Act.put, List.setIfInBounds_toArray, List.set_cons_zero, List.set_cons_succ]
            refine takeD (i := 21) (v := .bool false) (some 97) rfl rfl (by kernel_rfl) (by kernel_rfl) (by kernel_rfl) (fun _ _ _ h => h) (Or.inl ⟨by rfl, by rintro w' -; go_simp⟩) yhS28 ?_
            simp only [Act.put, List.setIfInBounds_toArray, List.set_cons_zero, List.set_cons_succ]
            refine wpAnyH_done (by kernel_rfl) ?_ _
            have d1 := yR_21.out.cell 1
            have xm := yXm_23.out
            go_wp2_with fail
            refine (HA.out _ yNm_24.out).mono ?_
            rintro e yz29 ⟨rfl, yhz30⟩
            obtain rfl := yhz30.symm
            go_wp2_with fail
            refine (HC.out _ yNm_24.out).mono ?_
            rintro e yz31 ⟨rfl, yhz32⟩
            obtain rfl := yhz32.symm
            go_wp2_with fail
            go_roundw
            case rel => exact ⟨m + 1, by omega, by go_num, by rw [PS.out], by rw [JS.out]; go_num, yHB_27⟩
            case measure => simp [intOf]; omega
          · rw [ea] at HA PS JS
            have eb := Bool.eq_false_iff.2 eb
            rw [eb] at HC JS
            have lcB : ((lc : Int) == 0) = false := by rw [beq_eq_false_iff_ne]; omega
            rw [show (true && lc == 0) = false by simp [l0]] at PS
            simp only [Bool.and_true, Bool.and_false, cond_true, cond_false, Nat.add_zero] at PS JS
            clear ea eb l0 d1 xm
            have d1 := HR.out.cell 1
            have xm := Xm.out
            go_wp2_with fail
            clear d1 xm
            refine wp_region_held (P := Tryd.prog) (S := (fun w' : World => w'.cell? ⟨D, 1, none⟩ = some (.slice (some ⟨b1, o1, none⟩) N k1) ∧ w'.cell? ⟨b1, o1 + m, none⟩ = some (.slice Am mm cm) ∧ w'.cell? ⟨b1, o1 + g, none⟩ = some (.slice Ag mg cg))) rfl ?_
            change wpAnyH _ _ _ _ _ _ _ _ wr.drew
            have yhz2 : Below wr.heap.size wr wr.drew := (Below.refl wr.heap.size wr).drew
            generalize wr.drew = ywz1 at yhz2 ⊢
            have yhq3 : Below wr.heap.size wr ywz1 := yhz2
            have yR_4 := Lib.hid (Row.go HR.out yhq3)
            have yG_5 := Lib.hid (Gs.to HG.out yhq3)
            have yXm_6 := Lib.hid (cell_to Xm.out yhq3)
            have yNm_7 := Lib.hid (Ns.to Nm.out yhq3)
            have yXg_8 := Lib.hid (cell_to Xg.out yhq3)
            have yNg_9 := Lib.hid (Ns.to Ng.out yhq3)
            have yHB_10 : Hid (Below wz.heap.size wz ywz1) := Lib.hid (HB1.out.trans (yhq3.mono HB1.out.size))
            clear yhq3
            clear yhz2
            have yhS11 : (fun w' : World => w'.cell? ⟨D, 1, none⟩ = some (.slice (some ⟨b1, o1, none⟩) N k1) ∧ w'.cell? ⟨b1, o1 + m, none⟩ = some (.slice Am mm cm) ∧ w'.cell? ⟨b1, o1 + g, none⟩ = some (.slice Ag mg cg)) ywz1 := ⟨yR_4.out.cell 1, yXm_6.out, yXg_8.out⟩
            refine takeD (i := 0) (v := .pointer (some ⟨D, 1, none⟩)) (some 76) rfl rfl (by kernel_rfl) (by kernel_rfl) (by kernel_rfl) (fun _ _ _ h => h) (Or.inl ⟨by rfl, by rintro w' -; go_simp⟩) yhS11 ?_
            simp only [Act.put, List.setIfInBounds_toArray, List.set_cons_zero, List.set_cons_succ]
            refine takeD (i := 1) (v := .slice (some ⟨b1, o1, none⟩) N k1) (some 77) rfl rfl (by kernel_rfl) (by kernel_rfl) (by kernel_rfl) (fun _ _ _ h => h) (Or.inl ⟨by rfl, by rintro w' h; have hc := h.1; go_simp⟩) yhS11 ?_
            simp only [Act.put, List.setIfInBounds_toArray, List.set_cons_zero, List.set_cons_succ]
            refine takeD (i := 2) (v := .int .i64 (m : Int)) (some 78) rfl rfl (by kernel_rfl) (by kernel_rfl) (by kernel_rfl) (fun _ _ _ h => h) (Or.inl ⟨by rfl, by rintro w' -; go_simp⟩) yhS11 ?_
            simp only [Act.put, List.setIfInBounds_toArray, List.set_cons_zero, List.set_cons_succ]
            refine takeD (i := 3) (v := .pointer (some ⟨b1, o1 + m * 1, none⟩)) (some 79) rfl rfl (by kernel_rfl) (by kernel_rfl) (by kernel_rfl) (fun _ _ _ h => h) (Or.inl ⟨by rfl, by rintro w' -; go_simp⟩) yhS11 ?_
            simp only [Act.put, List.setIfInBounds_toArray, List.set_cons_zero, List.set_cons_succ]
            refine takeD (i := 4) (v := .slice Am mm cm) (some 80) rfl rfl (by kernel_rfl) (by kernel_rfl) (by kernel_rfl) (fun _ _ _ h => h) (Or.inl ⟨by rfl, by rintro w' h; have hc := h.2.1; go_simp⟩) yhS11 ?_
            simp only [Act.put, List.setIfInBounds_toArray, List.set_cons_zero, List.set_cons_succ]
            refine takeD (i := 5) (v := .int .i64 (a : Int)) (some 81) rfl rfl (by kernel_rfl) (by kernel_rfl) (by kernel_rfl) (fun _ _ _ h => h) (Or.inl ⟨by rfl, by rintro w' -; go_simp⟩) yhS11 ?_
            simp only [Act.put, List.setIfInBounds_toArray, List.set_cons_zero, List.set_cons_succ]
            refine wpAnyH_ready (rs := [6]) (by kernel_rfl) (by simp) ?_
            refine AllReadyH.cons rfl (fun yK12 hyK12 => ?_) AllReadyH.nil
            have HyK12 := Lib.hid hyK12
            clear hyK12
            rw [if_pos (by rfl)]
            go_simp
            refine (HA.out _ yNm_7.out).mono ?_
            rintro e yz13 ⟨rfl, yhz14⟩
            obtain rfl := yhz14.symm
            have yhS15 : (fun w' : World => w'.cell? ⟨D, 1, none⟩ = some (.slice (some ⟨b1, o1, none⟩) N k1) ∧ w'.cell? ⟨b1, o1 + m, none⟩ = some (.slice Am mm cm) ∧ w'.cell? ⟨b1, o1 + g, none⟩ = some (.slice Ag mg cg)) ywz1 := ⟨yR_4.out.cell 1, yXm_6.out, yXg_8.out⟩
            refine HyK12.out _ _ yhS15 fun _ => ?_
            try simp only [Act.put, List.setIfInBounds_toArray, List.set_cons_zero, List.set_cons_succ]
            refine takeD (i := 7) (v := .bool true) (some 83) rfl rfl (by kernel_rfl) (by kernel_rfl) (by kernel_rfl) (fun _ _ _ h => h) (Or.inl ⟨by rfl, by rintro w' -; go_simp⟩) yhS15 ?_
            simp only [Act.put, List.setIfInBounds_toArray, List.set_cons_zero, List.set_cons_succ]
            refine takeD (i := 8) (v := .pointer (some ⟨D, 1, none⟩)) (some 84) rfl rfl (by kernel_rfl) (by kernel_rfl) (by kernel_rfl) (fun _ _ _ h => h) (Or.inl ⟨by rfl, by rintro w' -; go_simp⟩) yhS15 ?_
            simp only [Act.put, List.setIfInBounds_toArray, List.set_cons_zero, List.set_cons_succ]
            refine takeD (i := 9) (v := .slice (some ⟨b1, o1, none⟩) N k1) (some 85) rfl rfl (by kernel_rfl) (by kernel_rfl) (by kernel_rfl) (fun _ _ _ h => h) (Or.inl ⟨by rfl, by rintro w' h; have hc := h.1; go_simp⟩) yhS15 ?_
            simp only [Act.put, List.setIfInBounds_toArray, List.set_cons_zero, List.set_cons_succ]
            refine takeD (i := 10) (v := .int .i64 (m : Int)) (some 86) rfl rfl (by kernel_rfl) (by kernel_rfl) (by kernel_rfl) (fun _ _ _ h => h) (Or.inl ⟨by rfl, by rintro w' -; go_simp⟩) yhS15 ?_
            simp only [Act.put, List.setIfInBounds_toArray, List.set_cons_zero, List.set_cons_succ]
            refine takeD (i := 11) (v := .pointer (some ⟨b1, o1 + m * 1, none⟩)) (some 87) rfl rfl (by kernel_rfl) (by kernel_rfl) (by kernel_rfl) (fun _ _ _ h => h) (Or.inl ⟨by rfl, by rintro w' -; go_simp⟩) yhS15 ?_
            simp only [Act.put, List.setIfInBounds_toArray, List.set_cons_zero, List.set_cons_succ]
            refine takeD (i := 12) (v := .slice Am mm cm) (some 88) rfl rfl (by kernel_rfl) (by kernel_rfl) (by kernel_rfl) (fun _ _ _ h => h) (Or.inl ⟨by rfl, by rintro w' h; have hc := h.2.1; go_simp⟩) yhS15 ?_
            simp only [Act.put, List.setIfInBounds_toArray, List.set_cons_zero, List.set_cons_succ]
            refine takeD (i := 13) (v := .pointer (some ⟨D, 1, none⟩)) (some 89) rfl rfl (by kernel_rfl) (by kernel_rfl) (by kernel_rfl) (fun _ _ _ h => h) (Or.inl ⟨by rfl, by rintro w' -; go_simp⟩) yhS15 ?_
            simp only [Act.put, List.setIfInBounds_toArray, List.set_cons_zero, List.set_cons_succ]
            refine takeD (i := 14) (v := .slice (some ⟨b1, o1, none⟩) N k1) (some 90) rfl rfl (by kernel_rfl) (by kernel_rfl) (by kernel_rfl) (fun _ _ _ h => h) (Or.inl ⟨by rfl, by rintro w' h; have hc := h.1; go_simp⟩) yhS15 ?_
            simp only [Act.put, List.setIfInBounds_toArray, List.set_cons_zero, List.set_cons_succ]
            refine takeD (i := 15) (v := .int .i64 (g : Int)) (some 91) rfl rfl (by kernel_rfl) (by kernel_rfl) (by kernel_rfl) (fun _ _ _ h => h) (Or.inl ⟨by rfl, by rintro w' -; go_simp⟩) yhS15 ?_
            simp only [Act.put, List.setIfInBounds_toArray, List.set_cons_zero, List.set_cons_succ]
            refine takeD (i := 16) (v := .pointer (some ⟨b1, o1 + g * 1, none⟩)) (some 92) rfl rfl (by kernel_rfl) (by kernel_rfl) (by kernel_rfl) (fun _ _ _ h => h) (Or.inl ⟨by rfl, by rintro w' -; go_simp⟩) yhS15 ?_
            simp only [Act.put, List.setIfInBounds_toArray, List.set_cons_zero, List.set_cons_succ]
            refine takeD (i := 17) (v := .slice Ag mg cg) (some 93) rfl rfl (by kernel_rfl) (by kernel_rfl) (by kernel_rfl) (fun _ _ _ h => h) (Or.inl ⟨by rfl, by rintro w' h; have hc := h.2.2; go_simp⟩) yhS15 ?_
            simp only [Act.put, List.setIfInBounds_toArray, List.set_cons_zero, List.set_cons_succ]
            refine wpAnyH_ready (rs := [18]) (by kernel_rfl) (by simp) ?_
            refine AllReadyH.cons rfl (fun yK16 hyK16 => ?_) AllReadyH.nil
            have HyK16 := Lib.hid hyK16
            clear hyK16
            rw [if_pos (by rfl)]
            go_simp
            refine (CC.out _ yNm_7.out yNg_9.out).mono ?_
            rintro e yx18 ⟨vc, rfl, yhn19, yhb17⟩
            have yhq20 : Below ywz1.heap.size ywz1 yx18 := yhb17
            have yR_21 := Lib.hid (Row.go yR_4.out yhq20)
            have yG_22 := Lib.hid (Gs.to yG_5.out yhq20)
            have yXm_23 := Lib.hid (cell_to yXm_6.out yhq20)
            have yNm_24 := Lib.hid (Ns.to yNm_7.out yhq20)
            have yXg_25 := Lib.hid (cell_to yXg_8.out yhq20)
            have yNg_26 := Lib.hid (Ns.to yNg_9.out yhq20)
            have yHB_27 : Hid (Below wz.heap.size wz yx18) := Lib.hid (yHB_10.out.trans (yhq20.mono yHB_10.out.size))
            clear yhq20
            obtain ⟨Ac, kc, rfl⟩ := slform yhn19
            rw [LC.out]
            clear yhn19 yhb17
            have yhS28 : (fun w' : World => w'.cell? ⟨D, 1, none⟩ = some (.slice (some ⟨b1, o1, none⟩) N k1) ∧ w'.cell? ⟨b1, o1 + m, none⟩ = some (.slice Am mm cm) ∧ w'.cell? ⟨b1, o1 + g, none⟩ = some (.slice Ag mg cg)) yx18 := ⟨yR_21.out.cell 1, yXm_23.out, yXg_25.out⟩
            refine HyK16.out _ _ yhS28 fun _ => ?_
            try simp only [Act.put, List.setIfInBounds_toArray, List.set_cons_zero, List.set_cons_succ]
            refine takeD (i := 19) (v := .int .i64 (lc : Int)) (some 95) rfl rfl (by kernel_rfl) (by kernel_rfl) (by kernel_rfl) (fun _ _ _ h => h) (Or.inl ⟨by rfl, by rintro w' -; go_simp⟩) yhS28 ?_
            simp only [Act.put, List.setIfInBounds_toArray, List.set_cons_zero, List.set_cons_succ]
            refine takeD (i := 20) (v := .bool false) (some 96) rfl rfl (by kernel_rfl) (by kernel_rfl) (by kernel_rfl) (fun _ _ _ h => h) (Or.inl ⟨by rfl, by rintro w' -; go_simp⟩) yhS28 ?_
            simp only [Act.put, List.setIfInBounds_toArray, List.set_cons_zero, List.set_cons_succ]
            refine takeD (i := 21) (v := .bool false) (some 97) rfl rfl (by kernel_rfl) (by kernel_rfl) (by kernel_rfl) (fun _ _ _ h => h) (Or.inl ⟨by rfl, by rintro w' -; go_simp⟩) yhS28 ?_
            simp only [Act.put, List.setIfInBounds_toArray, List.set_cons_zero, List.set_cons_succ]
            refine wpAnyH_done (by kernel_rfl) ?_ _
            have d1 := yR_21.out.cell 1
            have xm := yXm_23.out
            go_wp2_with fail
            refine (HA.out _ yNm_24.out).mono ?_
            rintro e yz29 ⟨rfl, yhz30⟩
            obtain rfl := yhz30.symm
            go_wp2_with fail
            refine (HC.out _ yNm_24.out).mono ?_
            rintro e yz31 ⟨rfl, yhz32⟩
            obtain rfl := yhz32.symm
            go_wp2_with fail
            go_roundw
            case rel => exact ⟨m + 1, by omega, by go_num, by rw [PS.out], by rw [JS.out], yHB_27⟩
            case measure => simp [intOf]; omega
      · have ea := Bool.eq_false_iff.2 ea
        rw [ea] at HA PS JS
        simp only [Bool.false_and, cond_false, Nat.add_zero] at PS JS
        clear ea
        go_wp2_with fail
        clear d1 xm
        refine wp_region_held (P := Tryd.prog) (S := (fun w' : World => w'.cell? ⟨D, 1, none⟩ = some (.slice (some ⟨b1, o1, none⟩) N k1) ∧ w'.cell? ⟨b1, o1 + m, none⟩ = some (.slice Am mm cm) ∧ w'.cell? ⟨b1, o1 + g, none⟩ = some (.slice Ag mg cg))) rfl ?_
        change wpAnyH _ _ _ _ _ _ _ _ wr.drew
        have yhz2 : Below wr.heap.size wr wr.drew := (Below.refl wr.heap.size wr).drew
        generalize wr.drew = ywz1 at yhz2 ⊢
        have yhq3 : Below wr.heap.size wr ywz1 := yhz2
        have yR_4 := Lib.hid (Row.go HR.out yhq3)
        have yG_5 := Lib.hid (Gs.to HG.out yhq3)
        have yXm_6 := Lib.hid (cell_to Xm.out yhq3)
        have yNm_7 := Lib.hid (Ns.to Nm.out yhq3)
        have yXg_8 := Lib.hid (cell_to Xg.out yhq3)
        have yNg_9 := Lib.hid (Ns.to Ng.out yhq3)
        have yHB_10 : Hid (Below wz.heap.size wz ywz1) := Lib.hid (HB1.out.trans (yhq3.mono HB1.out.size))
        clear yhq3
        clear yhz2
        have yhS11 : (fun w' : World => w'.cell? ⟨D, 1, none⟩ = some (.slice (some ⟨b1, o1, none⟩) N k1) ∧ w'.cell? ⟨b1, o1 + m, none⟩ = some (.slice Am mm cm) ∧ w'.cell? ⟨b1, o1 + g, none⟩ = some (.slice Ag mg cg)) ywz1 := ⟨yR_4.out.cell 1, yXm_6.out, yXg_8.out⟩
        refine takeD (i := 0) (v := .pointer (some ⟨D, 1, none⟩)) (some 76) rfl rfl (by kernel_rfl) (by kernel_rfl) (by kernel_rfl) (fun _ _ _ h => h) (Or.inl ⟨by rfl, by rintro w' -; go_simp⟩) yhS11 ?_
        simp only [Act.put, List.setIfInBounds_toArray, List.set_cons_zero, List.set_cons_succ]
        refine takeD (i := 1) (v := .slice (some ⟨b1, o1, none⟩) N k1) (some 77) rfl rfl (by kernel_rfl) (by kernel_rfl) (by kernel_rfl) (fun _ _ _ h => h) (Or.inl ⟨by rfl, by rintro w' h; have hc := h.1; go_simp⟩) yhS11 ?_
        simp only [Act.put, List.setIfInBounds_toArray, List.set_cons_zero, List.set_cons_succ]
        refine takeD (i := 2) (v := .int .i64 (m : Int)) (some 78) rfl rfl (by kernel_rfl) (by kernel_rfl) (by kernel_rfl) (fun _ _ _ h => h) (Or.inl ⟨by rfl, by rintro w' -; go_simp⟩) yhS11 ?_
        simp only [Act.put, List.setIfInBounds_toArray, List.set_cons_zero, List.set_cons_succ]
        refine takeD (i := 3) (v := .pointer (some ⟨b1, o1 + m * 1, none⟩)) (some 79) rfl rfl (by kernel_rfl) (by kernel_rfl) (by kernel_rfl) (fun _ _ _ h => h) (Or.inl ⟨by rfl, by rintro w' -; go_simp⟩) yhS11 ?_
        simp only [Act.put, List.setIfInBounds_toArray, List.set_cons_zero, List.set_cons_succ]
        refine takeD (i := 4) (v := .slice Am mm cm) (some 80) rfl rfl (by kernel_rfl) (by kernel_rfl) (by kernel_rfl) (fun _ _ _ h => h) (Or.inl ⟨by rfl, by rintro w' h; have hc := h.2.1; go_simp⟩) yhS11 ?_
        simp only [Act.put, List.setIfInBounds_toArray, List.set_cons_zero, List.set_cons_succ]
        refine takeD (i := 5) (v := .int .i64 (a : Int)) (some 81) rfl rfl (by kernel_rfl) (by kernel_rfl) (by kernel_rfl) (fun _ _ _ h => h) (Or.inl ⟨by rfl, by rintro w' -; go_simp⟩) yhS11 ?_
        simp only [Act.put, List.setIfInBounds_toArray, List.set_cons_zero, List.set_cons_succ]
        refine wpAnyH_ready (rs := [6]) (by kernel_rfl) (by simp) ?_
        refine AllReadyH.cons rfl (fun yK12 hyK12 => ?_) AllReadyH.nil
        have HyK12 := Lib.hid hyK12
        clear hyK12
        rw [if_pos (by rfl)]
        go_simp
        refine (HA.out _ yNm_7.out).mono ?_
        rintro e yz13 ⟨rfl, yhz14⟩
        obtain rfl := yhz14.symm
        have yhS15 : (fun w' : World => w'.cell? ⟨D, 1, none⟩ = some (.slice (some ⟨b1, o1, none⟩) N k1) ∧ w'.cell? ⟨b1, o1 + m, none⟩ = some (.slice Am mm cm) ∧ w'.cell? ⟨b1, o1 + g, none⟩ = some (.slice Ag mg cg)) ywz1 := ⟨yR_4.out.cell 1, yXm_6.out, yXg_8.out⟩
        refine HyK12.out _ _ yhS15 fun _ => ?_
        try simp only [Act.put, List.setIfInBounds_toArray, List.set_cons_zero, List.set_cons_succ]
        refine takeD (i := 7) (v := .bool false) (some 83) rfl rfl (by kernel_rfl) (by kernel_rfl) (by kernel_rfl) (fun _ _ _ h => h) (Or.inl ⟨by rfl, by rintro w' -; go_simp⟩) yhS15 ?_
        simp only [Act.put, List.setIfInBounds_toArray, List.set_cons_zero, List.set_cons_succ]
        refine takeD (i := 8) (v := undef) (some 84) rfl rfl (by kernel_rfl) (by kernel_rfl) (by kernel_rfl) (fun _ _ _ h => h) (Or.inr ⟨by rfl, rfl⟩) yhS15 ?_
        simp only [Act.put, List.setIfInBounds_toArray, List.set_cons_zero, List.set_cons_succ]
        refine takeD (i := 9) (v := undef) (some 85) rfl rfl (by kernel_rfl) (by kernel_rfl) (by kernel_rfl) (fun _ _ _ h => h) (Or.inr ⟨by rfl, rfl⟩) yhS15 ?_
        simp only [Act.put, List.setIfInBounds_toArray, List.set_cons_zero, List.set_cons_succ]
        refine takeD (i := 10) (v := undef) (some 86) rfl rfl (by kernel_rfl) (by kernel_rfl) (by kernel_rfl) (fun _ _ _ h => h) (Or.inr ⟨by rfl, rfl⟩) yhS15 ?_
        simp only [Act.put, List.setIfInBounds_toArray, List.set_cons_zero, List.set_cons_succ]
        refine takeD (i := 11) (v := undef) (some 87) rfl rfl (by kernel_rfl) (by kernel_rfl) (by kernel_rfl) (fun _ _ _ h => h) (Or.inr ⟨by rfl, rfl⟩) yhS15 ?_
        simp only [Act.put, List.setIfInBounds_toArray, List.set_cons_zero, List.set_cons_succ]
        refine takeD (i := 12) (v := undef) (some 88) rfl rfl (by kernel_rfl) (by kernel_rfl) (by kernel_rfl) (fun _ _ _ h => h) (Or.inr ⟨by rfl, rfl⟩) yhS15 ?_
        simp only [Act.put, List.setIfInBounds_toArray, List.set_cons_zero, List.set_cons_succ]
        refine takeD (i := 13) (v := undef) (some 89) rfl rfl (by kernel_rfl) (by kernel_rfl) (by kernel_rfl) (fun _ _ _ h => h) (Or.inr ⟨by rfl, rfl⟩) yhS15 ?_
        simp only [Act.put, List.setIfInBounds_toArray, List.set_cons_zero, List.set_cons_succ]
        refine takeD (i := 14) (v := undef) (some 90) rfl rfl (by kernel_rfl) (by kernel_rfl) (by kernel_rfl) (fun _ _ _ h => h) (Or.inr ⟨by rfl, rfl⟩) yhS15 ?_
        simp only [Act.put, List.setIfInBounds_toArray, List.set_cons_zero, List.set_cons_succ]
        refine takeD (i := 15) (v := undef) (some 91) rfl rfl (by kernel_rfl) (by kernel_rfl) (by kernel_rfl) (fun _ _ _ h => h) (Or.inr ⟨by rfl, rfl⟩) yhS15 ?_
        simp only [Act.put, List.setIfInBounds_toArray, List.set_cons_zero, List.set_cons_succ]
        refine takeD (i := 16) (v := undef) (some 92) rfl rfl (by kernel_rfl) (by kernel_rfl) (by kernel_rfl) (fun _ _ _ h => h) (Or.inr ⟨by rfl, rfl⟩) yhS15 ?_
        simp only [Act.put, List.setIfInBounds_toArray, List.set_cons_zero, List.set_cons_succ]
        refine takeD (i := 17) (v := undef) (some 93) rfl rfl (by kernel_rfl) (by kernel_rfl) (by kernel_rfl) (fun _ _ _ h => h) (Or.inr ⟨by rfl, rfl⟩) yhS15 ?_
        simp only [Act.put, List.setIfInBounds_toArray, List.set_cons_zero, List.set_cons_succ]
        refine takeD (i := 18) (v := undef) (some 94) rfl rfl (by kernel_rfl) (by kernel_rfl) (by kernel_rfl) (fun _ _ _ h => h) (Or.inr ⟨by rfl, rfl⟩) yhS15 ?_
        simp only [Act.put, List.setIfInBounds_toArray, List.set_cons_zero, List.set_cons_succ]
        refine takeD (i := 19) (v := undef) (some 95) rfl rfl (by kernel_rfl) (by kernel_rfl) (by kernel_rfl) (fun _ _ _ h => h) (Or.inr ⟨by rfl, rfl⟩) yhS15 ?_
        simp only [Act.put, List.setIfInBounds_toArray, List.set_cons_zero, List.set_cons_succ]
        refine takeD (i := 20) (v := undef) (some 96) rfl rfl (by kernel_rfl) (by kernel_rfl) (by kernel_rfl) (fun _ _ _ h => h) (Or.inr ⟨by rfl, rfl⟩) yhS15 ?_
        simp only [Act.put, List.setIfInBounds_toArray, List.set_cons_zero, List.set_cons_succ]
        refine takeD (i := 21) (v := .bool false) (some 97) rfl rfl (by kernel_rfl) (by kernel_rfl) (by kernel_rfl) (fun _ _ _ h => h) (Or.inl ⟨by rfl, by rintro w' -; go_simp⟩) yhS15 ?_
        simp only [Act.put, List.setIfInBounds_toArray, List.set_cons_zero, List.set_cons_succ]
        refine wpAnyH_done (by kernel_rfl) ?_ _
        have d1 := yR_4.out.cell 1
        have xm := yXm_6.out
        go_wp2_with fail
        refine (HA.out _ yNm_7.out).mono ?_
        rintro e yz16 ⟨rfl, yhz17⟩
        obtain rfl := yhz17.symm
        go_wp2_with fail
        go_roundw
        case rel => exact ⟨m + 1, by omega, by go_num, by rw [PS.out], by rw [JS.out], yHB_10⟩
        case measure => simp [intOf]; omega
    · have em : m = N := by omega
      have mI : ¬ (m : Int) < (N : Int) := by omega
      have HB9 := Lib.hid (uHB_33.out.trans (H.out.mono uHB_33.out.size))
      obtain ⟨ug, xg, ng⟩ := (uG_31.out.to H.out).at_ gN
      rw [LL.out g gN] at ng
      obtain ⟨Ag, cg, rfl⟩ := slform ng
      rw [LE.out g] at ng xg
      have HA := Lib.hid (hasn_any (aff q g) a (.slice Ag q cg) wr ng)
      rw [em, PE.out, JE.out]
      rw [← em]
      clear H ng PE JE em PU JU PL JL PD JD Z0 LL pl jl
      obtain ⟨x, hx⟩ : ∃ x, has (aff q g) a = x := ⟨_, rfl⟩
      rw [hx] at HA ⊢
      clear hx
      have qI : ((q + 1 : Nat) : Int) = (q : Int) + 1 := by omega
      have q1 : ¬ ((q : Int) + 1 = 0) := by omega
      cases x <;> by_cases ab : a = b
      all_goals first
        | (rw [if_pos ab]; subst ab)
        | (rw [if_neg ab]; have abI : ((a : Int) == (b : Int)) = false := by rw [beq_eq_false_iff_ne]; omega
           have abN : ((a : Int) != (b : Int)) = true := by rw [bne_iff_ne]; omega)
      all_goals
        simp only [cond_true, cond_false]
        go_wp2_with fail
        refine HA.out.mono ?_
        rintro e z ⟨rfl, hz⟩
        obtain rfl := hz.symm
        go_wp2_with fail
        go_ret
        exact ⟨rfl, HB9.out⟩
end Go.Proofs.YtjbgfpbidjhlkaaDoor
