/- Law walks: PlaneMeet, PlaneDual. WRITTEN BY gen_Wb.py. -/
import Derived.Test.YtjbgfpbidjhlkaaDoorWa
import Derived.Test.YtjbgfpbidjhlkaaDoorUn
namespace Go.Proofs.YtjbgfpbidjhlkaaDoor
open Go Go.RowKit Pl
set_option linter.unusedVariables false
set_option linter.unusedSimpArgs false

theorem Gs.at_ {w : World} {b off n c : Nat} {L : List (List Nat)} (h : Gs w (.slice (some ⟨b, off, none⟩) n c) L) {k : Nat} (hk : k < n) : ∃ u, w.cell? ⟨b, off + k, none⟩ = some u ∧ Ns w u (L.getD k []) := by
  obtain ⟨b', off', e, hc⟩ := h.cells.2.2.2 (by omega)
  injection e with e
  injection e with e1 e2
  subst e1 e2
  exact hc k hk
theorem Ns.at_ {w : World} {b off n c : Nat} {l : List Nat} (h : Ns w (.slice (some ⟨b, off, none⟩) n c) l) {k : Nat} (hk : k < n) : w.cell? ⟨b, off + k, none⟩ = some (.int .i64 ((l.getD k 0 : Nat) : Int)) := by
  obtain ⟨b', off', e, hc⟩ := h.cells.2.2.2 (by omega)
  injection e with e
  injection e with e1 e2
  subst e1 e2
  exact hc k hk
theorem wrapS {n : Nat} (h : n ≤ 1000000) : IntKind.i64.wrap (n : Int) = (n : Int) := by rw [IntKind.wrap_i64]; omega

set_option maxHeartbeats 4000000 in
set_option maxRecDepth 100000 in
theorem meetlaw_walk (n i k : Nat) (w : World) (hK : Kd w) (hn : n < 256) (hi : i < 256) (hk : k < 256) : Calls Tryd.prog 6 #[.int .u8 (n : Int), .int .u8 (i : Int), .int .u8 (k : Int)] w (lawPost w) := by
  have HK0 := Lib.hid hK
  have AW := Lib.hid (awake6 w hK)
  obtain ⟨q, hq⟩ : ∃ q, sz n = q := ⟨_, rfl⟩
  have qs : q ∈ szs := by rw [← hq]; exact sz_mem n
  have C0 := Lib.hid fun W => size6_any n W hn
  rw [hq] at C0
  have QS := Lib.hid qs
  have C1 := Lib.hid fun W (h : Kd W) => proj_ok q W h qs
  have q2 := (szs_ok qs).2.1
  have q7 := (szs_ok qs).2.2.1
  have N57 := (szs_ok qs).2.2.2.1
  obtain ⟨p, hp⟩ : ∃ p, q * q = p := ⟨_, rfl⟩
  have ep : (q : Int) * (q : Int) = (p : Int) := by rw [← hp]; rfl
  have HP := Lib.hid hp
  obtain ⟨N, hN⟩ : ∃ N, cN q = N := ⟨_, rfl⟩
  have eN : (p : Int) + (q : Int) + 1 = (N : Int) := by rw [← hN, ← hp]; unfold cN; omega
  have NN := Lib.hid hN
  have LL := Lib.hid (show ∀ k, k < cN q → ((List.range (cN q)).map (line q)).getD k [] = line q k from fun k hk => by simp [List.getD, hk])
  rw [hN] at C1 LL N57
  obtain ⟨L, hL⟩ : ∃ L, (List.range N).map (line q) = L := ⟨_, rfl⟩
  have LN : Hid (L.length = N) := Lib.hid (by rw [← hL]; simp)
  rw [hL] at C1 LL
  have N0 : 0 < N := by omega
  have HKQ := Lib.hid fun W (h : Kd W) => hK
  clear HKQ
  have C2 := Lib.hid fun a b (ha : a < N) (hb : b < N) (hne : a ≠ b) W (h : Kd W) => meet_of _ _ _ _ _ W (com_ok q a b W h qs (by rw [hN]; exact ha) (by rw [hN]; exact hb) hne)
  have LO := Lib.hid fun a b (ha : a < N) (hb : b < N) (hne : a ≠ b) => line_one qs (by rw [hN]; exact ha) (by rw [hN]; exact hb) hne
  have LE := Lib.hid fun a (ha : a < N) => line_len qs (n := a) (by rw [hN]; exact ha)
  clear hK hq qs hp hN hL hn
  go_enter Tryd.func6, Tryd.ntmps6
  go_wp2_with fail
  refine AW.out.mono ?_
  rintro e x2 ⟨rfl, hb1⟩
  have hq3 : Below w.heap.size w x2 := hb1
  have K_4 := Lib.hid (Kd.below HK0.out hq3)
  have HB_5 : Hid (Below w.heap.size w x2) := Lib.hid (hq3)
  clear hq3
  clear hb1
  go_wp2_with fail
  refine (C0.out _).mono ?_
  rintro e x7 ⟨rfl, hb6⟩
  have hq8 : Below x2.heap.size x2 x7 := hb6
  have K_9 := Lib.hid (Kd.below K_4.out hq8)
  have HB_10 : Hid (Below w.heap.size w x7) := Lib.hid (HB_5.out.trans (hq8.mono HB_5.out.size))
  clear hq8
  clear hb6 C0
  go_wp2_with fail
  refine (C1.out _ K_9.out).mono ?_
  rintro e x12 ⟨v, rfl, hg13, hb11⟩
  obtain ⟨A1, k1, rfl⟩ := slform hg13
  rw [LN.out] at hg13 ⊢
  obtain ⟨b1, o1, rfl, -⟩ := hg13.cells.2.2.2 N0
  have hq14 : Below x7.heap.size x7 x12 := hb11
  have K_15 := Lib.hid (Kd.below K_9.out hq14)
  have HB_16 : Hid (Below w.heap.size w x12) := Lib.hid (HB_10.out.trans (hq14.mono HB_10.out.size))
  clear hq14
  have G1_ := Lib.hid hg13
  have hba : Below x12.heap.size x12 (x12.alloc (.cells #[.int .i64 (N : Int), .slice (some ⟨b1, o1, none⟩) N k1] 25)) := (Below.refl _ _).alloc (Nat.le_refl _) _
  have RW := Lib.hid (row_new' x12 #[.int .i64 (N : Int), .slice (some ⟨b1, o1, none⟩) N k1] 25)
  clear hb11 hg13 C1
  unfold dv
  go_wp2_with fail
  obtain ⟨D, hD⟩ : ∃ D, x12.heap.size = D := ⟨_, rfl⟩
  rw [hD] at RW ⊢
  obtain ⟨y1, hy⟩ : ∃ y, (x12.alloc (.cells #[.int .i64 (N : Int), .slice (some ⟨b1, o1, none⟩) N k1] 25)) = y := ⟨_, rfl⟩
  rw [hy] at RW hba ⊢
  have hq17 : Below x12.heap.size x12 y1 := hba
  have K_18 := Lib.hid (Kd.below K_15.out hq17)
  have G_19 := Lib.hid (Gs.to G1_.out hq17)
  have HB_20 : Hid (Below w.heap.size w y1) := Lib.hid (HB_16.out.trans (hq17.mono HB_16.out.size))
  clear hq17
  clear hy hba hD
  have d0 := RW.out.cell 0
  have d1 := RW.out.cell 1
  go_wp2_with fail
  obtain ⟨a, ha⟩ : ∃ a, i % N = a := ⟨_, rfl⟩
  obtain ⟨b, hb⟩ : ∃ b, k % N = b := ⟨_, rfl⟩
  have aN : a < N := by rw [← ha]; exact Nat.mod_lt _ (by omega)
  have bN : b < N := by rw [← hb]; exact Nat.mod_lt _ (by omega)
  have ra : (i : Int).tmod (N : Int) = (a : Int) := by rw [← ha]; exact (Int.ofNat_tmod i N).symm
  have rb : (k : Int).tmod (N : Int) = (b : Int) := by rw [← hb]; exact (Int.ofNat_tmod k N).symm
  have ra' : (i : Int) % (N : Int) = (a : Int) := by rw [← ha]; rfl
  have rb' : (k : Int) % (N : Int) = (b : Int) := by rw [← hb]; rfl
  have va : IntKind.i64.wrap (a : Int) = (a : Int) := wrapS (by omega)
  have vb : IntKind.i64.wrap (b : Int) = (b : Int) := wrapS (by omega)
  have NZ : ¬ ((N : Int) = 0) := by omega
  clear ha hb
  go_quiet (fail)
  clear d0 d1
  have hq21 : Below y1.heap.size y1 (y1.drewN nq) := (below_drewN (Below.refl y1.heap.size y1) nq)
  have K_22 := Lib.hid (Kd.below K_18.out hq21)
  have G_23 := Lib.hid (Gs.to G_19.out hq21)
  have R_24 := Lib.hid (Row.go RW.out hq21)
  have HB_25 : Hid (Below w.heap.size w (y1.drewN nq)) := Lib.hid (HB_20.out.trans (hq21.mono HB_20.out.size))
  clear hq21
  generalize y1.drewN nq = wz at K_22 G_23 R_24 HB_25 ⊢
  clear ra rb va vb ep eN
  try rw [ra']
  try rw [rb']
  clear ra' rb'
  by_cases ab : a = b
  · subst ab
    obtain ⟨ua, hxa, hna⟩ := G_23.out.at_ (show a < N by assumption)
    rw [LL.out a (by assumption)] at hna
    obtain ⟨Aa, ca, rfl⟩ := slform hna
    obtain ⟨ma, hma⟩ : ∃ m, (line q a).length = m := ⟨_, rfl⟩
    rw [hma] at hna hxa
    have HMa := Lib.hid hma
    have Xa := Lib.hid hxa
    have Na := Lib.hid hna
    clear hma hna hxa
    rw [LE.out a aN] at HMa
    have HMa2 := HMa.out
    subst HMa2
    have x0 := Xa.out
    have aI : (a : Int) < (N : Int) := by omega
    have d0 := R_24.out.cell 0
    have d1 := R_24.out.cell 1
    clear C2 LO LE LL
    go_wp2_with fail
    go_ret
    exact ⟨rfl, HB_25.out⟩
  · have abI : ¬ ((a : Int) = (b : Int)) := by omega
    have aI : (a : Int) < (N : Int) := by omega
    have bI : (b : Int) < (N : Int) := by omega
    obtain ⟨ua, hxa, hna⟩ := G_23.out.at_ (show a < N by assumption)
    rw [LL.out a (by assumption)] at hna
    obtain ⟨Aa, ca, rfl⟩ := slform hna
    obtain ⟨ma, hma⟩ : ∃ m, (line q a).length = m := ⟨_, rfl⟩
    rw [hma] at hna hxa
    have HMa := Lib.hid hma
    have Xa := Lib.hid hxa
    have Na := Lib.hid hna
    clear hma hna hxa
    obtain ⟨ub, hxb, hnb⟩ := G_23.out.at_ (show b < N by assumption)
    rw [LL.out b (by assumption)] at hnb
    obtain ⟨Ab, cb, rfl⟩ := slform hnb
    obtain ⟨mb, hmb⟩ : ∃ m, (line q b).length = m := ⟨_, rfl⟩
    rw [hmb] at hnb hxb
    have HMb := Lib.hid hmb
    have Xb := Lib.hid hxb
    have Nb := Lib.hid hnb
    clear hmb hnb hxb
    have a1000 : (line q a).length ≤ 1000 := by rw [LE.out a aN]; omega
    have CC := Lib.hid fun W (h1 : Ns W (.slice Aa ma ca) (line q a)) (h2 : Ns W (.slice Ab mb cb) (line q b)) => common_any (line q a) (line q b) (.slice Aa ma ca) (.slice Ab mb cb) W h1 h2 a1000
    rw [LO.out a b aN bN ab] at CC
    have CM := Lib.hid (C2.out a b aN bN ab)
    obtain ⟨t, ht⟩ : ∃ t, meet q a b = t := ⟨_, rfl⟩
    rw [ht] at CC CM
    clear a1000 LO C2 LE LL ht ab HMa HMb
    go_wp2_with fail
    refine wp_region_held (P := Tryd.prog) (S := (fun w' : World => w'.cell? ⟨D, 1, none⟩ = some (.slice (some ⟨b1, o1, none⟩) N k1) ∧ w'.cell? ⟨b1, o1 + a, none⟩ = some (.slice Aa ma ca) ∧ w'.cell? ⟨b1, o1 + b, none⟩ = some (.slice Ab mb cb))) rfl ?_
    change wpAnyH _ _ _ _ _ _ _ _ wz.drew
    have hz27 : Below wz.heap.size wz wz.drew := (Below.refl wz.heap.size wz).drew
    generalize wz.drew = wz26 at hz27 ⊢
    have hq28 : Below wz.heap.size wz wz26 := hz27
    have K_29 := Lib.hid (Kd.below K_22.out hq28)
    have G_30 := Lib.hid (Gs.to G_23.out hq28)
    have R_31 := Lib.hid (Row.go R_24.out hq28)
    have Xa_32 := Lib.hid (cell_to Xa.out hq28)
    have Na_33 := Lib.hid (Ns.to Na.out hq28)
    have Xb_34 := Lib.hid (cell_to Xb.out hq28)
    have Nb_35 := Lib.hid (Ns.to Nb.out hq28)
    have HB_36 : Hid (Below w.heap.size w wz26) := Lib.hid (HB_25.out.trans (hq28.mono HB_25.out.size))
    clear hq28
    clear hz27
    have hS37 : (fun w' : World => w'.cell? ⟨D, 1, none⟩ = some (.slice (some ⟨b1, o1, none⟩) N k1) ∧ w'.cell? ⟨b1, o1 + a, none⟩ = some (.slice Aa ma ca) ∧ w'.cell? ⟨b1, o1 + b, none⟩ = some (.slice Ab mb cb)) wz26 := ⟨R_31.out.cell 1, Xa_32.out, Xb_34.out⟩
    refine takeD (i := 0) (v := .pointer (some ⟨D, 1, none⟩)) (some 62) rfl rfl (by kernel_rfl) (by kernel_rfl) (by kernel_rfl) (fun _ _ _ h => h) (Or.inl ⟨by rfl, by rintro w' -; go_simp⟩) hS37 ?_
    simp only [Act.put, List.setIfInBounds_toArray, List.set_cons_zero, List.set_cons_succ]
    refine takeD (i := 1) (v := .slice (some ⟨b1, o1, none⟩) N k1) (some 63) rfl rfl (by kernel_rfl) (by kernel_rfl) (by kernel_rfl) (fun _ _ _ h => h) (Or.inl ⟨by rfl, by rintro w' h; have hc := h.1; go_simp⟩) hS37 ?_
    simp only [Act.put, List.setIfInBounds_toArray, List.set_cons_zero, List.set_cons_succ]
    refine takeD (i := 2) (v := .int .i64 (a : Int)) (some 64) rfl rfl (by kernel_rfl) (by kernel_rfl) (by kernel_rfl) (fun _ _ _ h => h) (Or.inl ⟨by rfl, by rintro w' -; go_simp⟩) hS37 ?_
    simp only [Act.put, List.setIfInBounds_toArray, List.set_cons_zero, List.set_cons_succ]
    refine takeD (i := 3) (v := .pointer (some ⟨b1, o1 + a * 1, none⟩)) (some 65) rfl rfl (by kernel_rfl) (by kernel_rfl) (by kernel_rfl) (fun _ _ _ h => h) (Or.inl ⟨by rfl, by rintro w' -; go_simp⟩) hS37 ?_
    simp only [Act.put, List.setIfInBounds_toArray, List.set_cons_zero, List.set_cons_succ]
    refine takeD (i := 4) (v := .slice Aa ma ca) (some 66) rfl rfl (by kernel_rfl) (by kernel_rfl) (by kernel_rfl) (fun _ _ _ h => h) (Or.inl ⟨by rfl, by rintro w' h; have hc := h.2.1; go_simp⟩) hS37 ?_
    simp only [Act.put, List.setIfInBounds_toArray, List.set_cons_zero, List.set_cons_succ]
    refine takeD (i := 5) (v := .pointer (some ⟨D, 1, none⟩)) (some 67) rfl rfl (by kernel_rfl) (by kernel_rfl) (by kernel_rfl) (fun _ _ _ h => h) (Or.inl ⟨by rfl, by rintro w' -; go_simp⟩) hS37 ?_
    simp only [Act.put, List.setIfInBounds_toArray, List.set_cons_zero, List.set_cons_succ]
    refine takeD (i := 6) (v := .slice (some ⟨b1, o1, none⟩) N k1) (some 68) rfl rfl (by kernel_rfl) (by kernel_rfl) (by kernel_rfl) (fun _ _ _ h => h) (Or.inl ⟨by rfl, by rintro w' h; have hc := h.1; go_simp⟩) hS37 ?_
    simp only [Act.put, List.setIfInBounds_toArray, List.set_cons_zero, List.set_cons_succ]
    refine takeD (i := 7) (v := .int .i64 (b : Int)) (some 69) rfl rfl (by kernel_rfl) (by kernel_rfl) (by kernel_rfl) (fun _ _ _ h => h) (Or.inl ⟨by rfl, by rintro w' -; go_simp⟩) hS37 ?_
    simp only [Act.put, List.setIfInBounds_toArray, List.set_cons_zero, List.set_cons_succ]
    refine takeD (i := 8) (v := .pointer (some ⟨b1, o1 + b * 1, none⟩)) (some 70) rfl rfl (by kernel_rfl) (by kernel_rfl) (by kernel_rfl) (fun _ _ _ h => h) (Or.inl ⟨by rfl, by rintro w' -; go_simp⟩) hS37 ?_
    simp only [Act.put, List.setIfInBounds_toArray, List.set_cons_zero, List.set_cons_succ]
    refine takeD (i := 9) (v := .slice Ab mb cb) (some 71) rfl rfl (by kernel_rfl) (by kernel_rfl) (by kernel_rfl) (fun _ _ _ h => h) (Or.inl ⟨by rfl, by rintro w' h; have hc := h.2.2; go_simp⟩) hS37 ?_
    simp only [Act.put, List.setIfInBounds_toArray, List.set_cons_zero, List.set_cons_succ]
    refine wpAnyH_ready (rs := [10]) (by kernel_rfl) (by simp) ?_
    refine AllReadyH.cons rfl (fun K38 hK38 => ?_) AllReadyH.nil
    have HK38 := Lib.hid hK38
    clear hK38
    rw [if_pos (by rfl)]
    go_simp
    refine (CC.out _ Na_33.out Nb_35.out).mono ?_
    rintro e x40 ⟨vc, rfl, hn41, hb39⟩
    have hq42 : Below wz26.heap.size wz26 x40 := hb39
    have K_43 := Lib.hid (Kd.below K_29.out hq42)
    have G_44 := Lib.hid (Gs.to G_30.out hq42)
    have R_45 := Lib.hid (Row.go R_31.out hq42)
    have Xa_46 := Lib.hid (cell_to Xa_32.out hq42)
    have Na_47 := Lib.hid (Ns.to Na_33.out hq42)
    have Xb_48 := Lib.hid (cell_to Xb_34.out hq42)
    have Nb_49 := Lib.hid (Ns.to Nb_35.out hq42)
    have HB_50 : Hid (Below w.heap.size w x40) := Lib.hid (HB_36.out.trans (hq42.mono HB_36.out.size))
    clear hq42
    have NC := Lib.hid hn41
    clear hn41 hb39
    have hS51 : (fun w' : World => w'.cell? ⟨D, 1, none⟩ = some (.slice (some ⟨b1, o1, none⟩) N k1) ∧ w'.cell? ⟨b1, o1 + a, none⟩ = some (.slice Aa ma ca) ∧ w'.cell? ⟨b1, o1 + b, none⟩ = some (.slice Ab mb cb)) x40 := ⟨R_45.out.cell 1, Xa_46.out, Xb_48.out⟩
    refine HK38.out _ _ hS51 fun _ => ?_
    try simp only [Act.put, List.setIfInBounds_toArray, List.set_cons_zero, List.set_cons_succ]
    refine takeD (i := 11) (v := vc) (some 12) rfl rfl (by kernel_rfl) (by kernel_rfl) (by kernel_rfl) (fun _ _ _ h => h) (Or.inl ⟨by rfl, by rintro w' -; go_simp⟩) hS51 ?_
    simp only [Act.put, List.setIfInBounds_toArray, List.set_cons_zero, List.set_cons_succ]
    refine wpAnyH_done (by kernel_rfl) ?_ _
    obtain ⟨Ac, cc, rfl⟩ := slform NC.out
    rw [show [t].length = 1 from rfl] at NC ⊢
    go_wp2_with fail
    refine (CM.out _ K_43.out).mono ?_
    rintro e x53 ⟨rfl, hb52⟩
    have hq54 : Below x40.heap.size x40 x53 := hb52
    have K_55 := Lib.hid (Kd.below K_43.out hq54)
    have G_56 := Lib.hid (Gs.to G_44.out hq54)
    have R_57 := Lib.hid (Row.go R_45.out hq54)
    have Xa_58 := Lib.hid (cell_to Xa_46.out hq54)
    have Na_59 := Lib.hid (Ns.to Na_47.out hq54)
    have Xb_60 := Lib.hid (cell_to Xb_48.out hq54)
    have Nb_61 := Lib.hid (Ns.to Nb_49.out hq54)
    have NC_62 := Lib.hid (Ns.to NC.out hq54)
    have HB_63 : Hid (Below w.heap.size w x53) := Lib.hid (HB_50.out.trans (hq54.mono HB_50.out.size))
    clear hq54
    clear hb52
    obtain ⟨bc, oc, rfl, fc⟩ := (show Ns _ (.slice Ac 1 cc) [t] from NC_62.out).cells.2.2.2 (by omega)
    have y0 := fc 0 (by omega)
    rw [Nat.add_zero] at y0
    have y1 : x53.cell? ⟨bc, oc, none⟩ = some (.int .i64 (t : Int)) := y0
    clear fc y0
    go_wp2_with fail
    go_ret
    exact ⟨rfl, HB_63.out⟩
end Go.Proofs.YtjbgfpbidjhlkaaDoor
