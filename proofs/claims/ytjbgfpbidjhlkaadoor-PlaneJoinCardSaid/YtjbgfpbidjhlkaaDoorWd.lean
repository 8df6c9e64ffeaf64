/- Law walks: PlaneDual, PlaneJoin. WRITTEN BY gen_Wd.py. -/
import Derived.Test.YtjbgfpbidjhlkaaDoorWb
namespace Go.Proofs.YtjbgfpbidjhlkaaDoor
open Go Go.RowKit Pl
set_option linter.unusedVariables false
set_option linter.unusedSimpArgs false

/-- The lines below n through a and b. -/
def thr (q a b n : Nat) : List Nat := (List.range n).filter fun g => has (line q g) a && has (line q g) b
theorem thr_succ (q a b n : Nat) : thr q a b (n + 1) = if (has (line q n) a && has (line q n) b) = true then thr q a b n ++ [n] else thr q a b n := by
  unfold thr
  rw [List.range_succ, List.filter_append]
  by_cases h : (has (line q n) a && has (line q n) b) = true
  · rw [if_pos h, List.filter_cons, if_pos h]; rfl
  · rw [if_neg h, List.filter_cons, if_neg h]; simp
theorem thr_len (q a b n : Nat) : (thr q a b n).length ≤ n := by
  unfold thr; exact Nat.le_trans (List.length_filter_le _ _) (by simp)

set_option maxHeartbeats 4000000 in
set_option maxRecDepth 100000 in
theorem duallaw_walk (n i k : Nat) (w : World) (hK : Kd w) (hn : n < 256) (hi : i < 256) (hk : k < 256) : Calls Tryd.prog 8 #[.int .u8 (n : Int), .int .u8 (i : Int), .int .u8 (k : Int)] w (lawPost w) := by
  have HK0 := Lib.hid hK
  have AW := Lib.hid (awake6 w hK)
  obtain ⟨q, hq⟩ : ∃ q, sz n = q := ⟨_, rfl⟩
  have qs : q ∈ szs := by rw [← hq]; exact sz_mem n
  have C0 := Lib.hid fun W => size6_any n W hn
  rw [hq] at C0
  have QS := Lib.hid qs
  have C1 := Lib.hid fun W (h : Kd W) => proj_ok q W h qs
  have q2 := (szs_ok qs).2.1
  have q7 := (szs_ok qs).2.2.1
  have N57 := (szs_ok qs).2.2.2.1
  obtain ⟨p, hp⟩ : ∃ p, q * q = p := ⟨_, rfl⟩
  have ep : (q : Int) * (q : Int) = (p : Int) := by rw [← hp]; rfl
  have HP := Lib.hid hp
  obtain ⟨N, hN⟩ : ∃ N, cN q = N := ⟨_, rfl⟩
  have eN : (p : Int) + (q : Int) + 1 = (N : Int) := by rw [← hN, ← hp]; unfold cN; omega
  have NN := Lib.hid hN
  have LL := Lib.hid (show ∀ k, k < cN q → ((List.range (cN q)).map (line q)).getD k [] = line q k from fun k hk => by simp [List.getD, hk])
  rw [hN] at C1 LL N57
  obtain ⟨L, hL⟩ : ∃ L, (List.range N).map (line q) = L := ⟨_, rfl⟩
  have LN : Hid (L.length = N) := Lib.hid (by rw [← hL]; simp)
  rw [hL] at C1 LL
  have N0 : 0 < N := by omega
  have C2 := Lib.hid fun a b (ha : a < N) (hb : b < N) (hne : a ≠ b) W (h : Kd W) => meet_of _ _ _ _ _ W (com_ok q a b W h qs (by rw [hN]; exact ha) (by rw [hN]; exact hb) hne)
  have C3 := Lib.hid fun a b (ha : a < N) (hb : b < N) (hne : a ≠ b) W (h : Kd W) => join_of _ _ _ _ _ W (com_ok q a b W h qs (by rw [hN]; exact ha) (by rw [hN]; exact hb) hne)
  have D2 := Lib.hid fun a (ha : a < N) W (h : Kd W) => meet_of _ _ _ _ _ W (com_none q a W h qs (by rw [hN]; exact ha))
  have D3 := Lib.hid fun a (ha : a < N) W (h : Kd W) => join_of _ _ _ _ _ W (com_none q a W h qs (by rw [hN]; exact ha))
  have MC := Lib.hid fun a b (ha : a < N) (hb : b < N) (hne : a ≠ b) => meet_comm qs (by rw [hN]; exact ha) (by rw [hN]; exact hb) hne
  have SY := Lib.hid fun a b (ha : a < N) (hb : b < N) => line_sym qs (a := a) (b := b) (by rw [hN]; exact ha) (by rw [hN]; exact hb)
  clear hK hq qs hp hN hL hn
  go_enter Tryd.func8, Tryd.ntmps8
  go_wp2_with fail
  refine AW.out.mono ?_
  rintro e x2 ⟨rfl, hb1⟩
  have hq3 : Below w.heap.size w x2 := hb1
  have K_4 := Lib.hid (Kd.below HK0.out hq3)
  have HB_5 : Hid (Below w.heap.size w x2) := Lib.hid (hq3)
  clear hq3
  clear hb1
  go_wp2_with fail
  refine (C0.out _).mono ?_
  rintro e x7 ⟨rfl, hb6⟩
  have hq8 : Below x2.heap.size x2 x7 := hb6
  have K_9 := Lib.hid (Kd.below K_4.out hq8)
  have HB_10 : Hid (Below w.heap.size w x7) := Lib.hid (HB_5.out.trans (hq8.mono HB_5.out.size))
  clear hq8
  clear hb6 C0
  go_wp2_with fail
  refine (C1.out _ K_9.out).mono ?_
  rintro e x12 ⟨v, rfl, hg13, hb11⟩
  obtain ⟨A1, k1, rfl⟩ := slform hg13
  rw [LN.out] at hg13 ⊢
  obtain ⟨b1, o1, rfl, -⟩ := hg13.cells.2.2.2 N0
  have hq14 : Below x7.heap.size x7 x12 := hb11
  have K_15 := Lib.hid (Kd.below K_9.out hq14)
  have HB_16 : Hid (Below w.heap.size w x12) := Lib.hid (HB_10.out.trans (hq14.mono HB_10.out.size))
  clear hq14
  have G1_ := Lib.hid hg13
  have hba : Below x12.heap.size x12 (x12.alloc (.cells #[.int .i64 (N : Int), .slice (some ⟨b1, o1, none⟩) N k1] 25)) := (Below.refl _ _).alloc (Nat.le_refl _) _
  have RW := Lib.hid (row_new' x12 #[.int .i64 (N : Int), .slice (some ⟨b1, o1, none⟩) N k1] 25)
  clear hb11 hg13 C1
  unfold dv
  go_wp2_with fail
  obtain ⟨D, hD⟩ : ∃ D, x12.heap.size = D := ⟨_, rfl⟩
  rw [hD] at RW ⊢
  obtain ⟨y1, hy⟩ : ∃ y, (x12.alloc (.cells #[.int .i64 (N : Int), .slice (some ⟨b1, o1, none⟩) N k1] 25)) = y := ⟨_, rfl⟩
  rw [hy] at RW hba ⊢
  have hq17 : Below x12.heap.size x12 y1 := hba
  have K_18 := Lib.hid (Kd.below K_15.out hq17)
  have G_19 := Lib.hid (Gs.to G1_.out hq17)
  have HB_20 : Hid (Below w.heap.size w y1) := Lib.hid (HB_16.out.trans (hq17.mono HB_16.out.size))
  clear hq17
  clear hy hba hD
  have d0 := RW.out.cell 0
  have d1 := RW.out.cell 1
  go_wp2_with fail
  obtain ⟨a, ha⟩ : ∃ a, i % N = a := ⟨_, rfl⟩
  obtain ⟨b, hb⟩ : ∃ b, k % N = b := ⟨_, rfl⟩
  have aN : a < N := by rw [← ha]; exact Nat.mod_lt _ (by omega)
  have bN : b < N := by rw [← hb]; exact Nat.mod_lt _ (by omega)
  have ra : (i : Int).tmod (N : Int) = (a : Int) := by rw [← ha]; exact (Int.ofNat_tmod i N).symm
  have rb : (k : Int).tmod (N : Int) = (b : Int) := by rw [← hb]; exact (Int.ofNat_tmod k N).symm
  have ra' : (i : Int) % (N : Int) = (a : Int) := by rw [← ha]; rfl
  have rb' : (k : Int) % (N : Int) = (b : Int) := by rw [← hb]; rfl
  have va : IntKind.i64.wrap (a : Int) = (a : Int) := wrapS (by omega)
  have vb : IntKind.i64.wrap (b : Int) = (b : Int) := wrapS (by omega)
  have NZ : ¬ ((N : Int) = 0) := by omega
  clear ha hb
  go_quiet (fail)
  clear d0 d1
  have hq21 : Below y1.heap.size y1 (y1.drewN nq) := (below_drewN (Below.refl y1.heap.size y1) nq)
  have K_22 := Lib.hid (Kd.below K_18.out hq21)
  have G_23 := Lib.hid (Gs.to G_19.out hq21)
  have R_24 := Lib.hid (Row.go RW.out hq21)
  have HB_25 : Hid (Below w.heap.size w (y1.drewN nq)) := Lib.hid (HB_20.out.trans (hq21.mono HB_20.out.size))
  clear hq21
  generalize y1.drewN nq = wz at K_22 G_23 R_24 HB_25 ⊢
  clear ra rb va vb ep eN
  try rw [ra']
  try rw [rb']
  clear ra' rb'
  by_cases ab : a = b
  · subst ab
    have aI : (a : Int) < (N : Int) := by omega
    have CM := Lib.hid (D2.out a aN)
    have CJ := Lib.hid (D3.out a aN)
    clear C2 C3 D2 D3 MC
    obtain ⟨ua, hxa, hna⟩ := G_23.out.at_ (show a < N by assumption)
    rw [LL.out a (by assumption)] at hna
    obtain ⟨Aa, ca, rfl⟩ := slform hna
    obtain ⟨ma, hma⟩ : ∃ m, (line q a).length = m := ⟨_, rfl⟩
    rw [hma] at hna hxa
    have HMa := Lib.hid hma
    have Xa := Lib.hid hxa
    have Na := Lib.hid hna
    clear hma hna hxa
    have HA := Lib.hid fun W (h : Ns W (.slice Aa ma ca) (line q a)) => hasn_any (line q a) a (.slice Aa ma ca) W h
    obtain ⟨x, hx⟩ : ∃ x, has (line q a) a = x := ⟨_, rfl⟩
    rw [hx] at HA
    clear hx SY LL HMa
    go_wp2_with fail
    refine (CM.out _ K_22.out).mono ?_
    rintro e x27 ⟨rfl, hb26⟩
    have hq28 : Below wz.heap.size wz x27 := hb26
    have K_29 := Lib.hid (Kd.below K_22.out hq28)
    have G_30 := Lib.hid (Gs.to G_23.out hq28)
    have R_31 := Lib.hid (Row.go R_24.out hq28)
    have Xa_32 := Lib.hid (cell_to Xa.out hq28)
    have Na_33 := Lib.hid (Ns.to Na.out hq28)
    have HB_34 : Hid (Below w.heap.size w x27) := Lib.hid (HB_25.out.trans (hq28.mono HB_25.out.size))
    clear hq28
    clear hb26 CM
    go_wp2_with fail
    refine (CJ.out _ K_29.out).mono ?_
    rintro e x36 ⟨rfl, hb35⟩
    have hq37 : Below x27.heap.size x27 x36 := hb35
    have K_38 := Lib.hid (Kd.below K_29.out hq37)
    have G_39 := Lib.hid (Gs.to G_30.out hq37)
    have R_40 := Lib.hid (Row.go R_31.out hq37)
    have Xa_41 := Lib.hid (cell_to Xa_32.out hq37)
    have Na_42 := Lib.hid (Ns.to Na_33.out hq37)
    have HB_43 : Hid (Below w.heap.size w x36) := Lib.hid (HB_34.out.trans (hq37.mono HB_34.out.size))
    clear hq37
    clear hb35 CJ
    go_wp2_with fail
    refine wp_region_held (P := Tryd.prog) (S := (fun w' : World => w'.cell? ⟨D, 1, none⟩ = some (.slice (some ⟨b1, o1, none⟩) N k1) ∧ w'.cell? ⟨b1, o1 + a, none⟩ = some (.slice Aa ma ca))) rfl ?_
    change wpAnyH _ _ _ _ _ _ _ _ x36.drew
    have hz45 : Below x36.heap.size x36 x36.drew := (Below.refl x36.heap.size x36).drew
    generalize x36.drew = wz44 at hz45 ⊢
    have hq46 : Below x36.heap.size x36 wz44 := hz45
    have K_47 := Lib.hid (Kd.below K_38.out hq46)
    have G_48 := Lib.hid (Gs.to G_39.out hq46)
    have R_49 := Lib.hid (Row.go R_40.out hq46)
    have Xa_50 := Lib.hid (cell_to Xa_41.out hq46)
    have Na_51 := Lib.hid (Ns.to Na_42.out hq46)
    have HB_52 : Hid (Below w.heap.size w wz44) := Lib.hid (HB_43.out.trans (hq46.mono HB_43.out.size))
    clear hq46
    clear hz45
    have hS53 : (fun w' : World => w'.cell? ⟨D, 1, none⟩ = some (.slice (some ⟨b1, o1, none⟩) N k1) ∧ w'.cell? ⟨b1, o1 + a, none⟩ = some (.slice Aa ma ca)) wz44 := ⟨R_49.out.cell 1, Xa_50.out⟩
    refine takeD (i := 0) (v := .pointer (some ⟨D, 1, none⟩)) (some 64) rfl rfl (by kernel_rfl) (by kernel_rfl) (by kernel_rfl) (fun _ _ _ h => h) (Or.inl ⟨by rfl, by rintro w' -; go_simp⟩) hS53 ?_
    simp only [Act.put, List.setIfInBounds_toArray, List.set_cons_zero, List.set_cons_succ]
    refine takeD (i := 1) (v := .slice (some ⟨b1, o1, none⟩) N k1) (some 65) rfl rfl (by kernel_rfl) (by kernel_rfl) (by kernel_rfl) (fun _ _ _ h => h) (Or.inl ⟨by rfl, by rintro w' h; have hc := h.1; go_simp⟩) hS53 ?_
    simp only [Act.put, List.setIfInBounds_toArray, List.set_cons_zero, List.set_cons_succ]
    refine takeD (i := 2) (v := .int .i64 (a : Int)) (some 66) rfl rfl (by kernel_rfl) (by kernel_rfl) (by kernel_rfl) (fun _ _ _ h => h) (Or.inl ⟨by rfl, by rintro w' -; go_simp⟩) hS53 ?_
    simp only [Act.put, List.setIfInBounds_toArray, List.set_cons_zero, List.set_cons_succ]
    refine takeD (i := 3) (v := .pointer (some ⟨b1, o1 + a * 1, none⟩)) (some 67) rfl rfl (by kernel_rfl) (by kernel_rfl) (by kernel_rfl) (fun _ _ _ h => h) (Or.inl ⟨by rfl, by rintro w' -; go_simp⟩) hS53 ?_
    simp only [Act.put, List.setIfInBounds_toArray, List.set_cons_zero, List.set_cons_succ]
    refine takeD (i := 4) (v := .slice Aa ma ca) (some 68) rfl rfl (by kernel_rfl) (by kernel_rfl) (by kernel_rfl) (fun _ _ _ h => h) (Or.inl ⟨by rfl, by rintro w' h; have hc := h.2; go_simp⟩) hS53 ?_
    simp only [Act.put, List.setIfInBounds_toArray, List.set_cons_zero, List.set_cons_succ]
    refine takeD (i := 5) (v := .int .i64 (a : Int)) (some 69) rfl rfl (by kernel_rfl) (by kernel_rfl) (by kernel_rfl) (fun _ _ _ h => h) (Or.inl ⟨by rfl, by rintro w' -; go_simp⟩) hS53 ?_
    simp only [Act.put, List.setIfInBounds_toArray, List.set_cons_zero, List.set_cons_succ]
    refine takeD (i := 7) (v := .pointer (some ⟨D, 1, none⟩)) (some 71) rfl rfl (by kernel_rfl) (by kernel_rfl) (by kernel_rfl) (fun _ _ _ h => h) (Or.inl ⟨by rfl, by rintro w' -; go_simp⟩) hS53 ?_
    simp only [Act.put, List.setIfInBounds_toArray, List.set_cons_zero, List.set_cons_succ]
    refine takeD (i := 8) (v := .slice (some ⟨b1, o1, none⟩) N k1) (some 72) rfl rfl (by kernel_rfl) (by kernel_rfl) (by kernel_rfl) (fun _ _ _ h => h) (Or.inl ⟨by rfl, by rintro w' h; have hc := h.1; go_simp⟩) hS53 ?_
    simp only [Act.put, List.setIfInBounds_toArray, List.set_cons_zero, List.set_cons_succ]
    refine takeD (i := 9) (v := .int .i64 (a : Int)) (some 73) rfl rfl (by kernel_rfl) (by kernel_rfl) (by kernel_rfl) (fun _ _ _ h => h) (Or.inl ⟨by rfl, by rintro w' -; go_simp⟩) hS53 ?_
    simp only [Act.put, List.setIfInBounds_toArray, List.set_cons_zero, List.set_cons_succ]
    refine takeD (i := 10) (v := .pointer (some ⟨b1, o1 + a * 1, none⟩)) (some 74) rfl rfl (by kernel_rfl) (by kernel_rfl) (by kernel_rfl) (fun _ _ _ h => h) (Or.inl ⟨by rfl, by rintro w' -; go_simp⟩) hS53 ?_
    simp only [Act.put, List.setIfInBounds_toArray, List.set_cons_zero, List.set_cons_succ]
    refine takeD (i := 11) (v := .slice Aa ma ca) (some 75) rfl rfl (by kernel_rfl) (by kernel_rfl) (by kernel_rfl) (fun _ _ _ h => h) (Or.inl ⟨by rfl, by rintro w' h; have hc := h.2; go_simp⟩) hS53 ?_
    simp only [Act.put, List.setIfInBounds_toArray, List.set_cons_zero, List.set_cons_succ]
    refine takeD (i := 12) (v := .int .i64 (a : Int)) (some 76) rfl rfl (by kernel_rfl) (by kernel_rfl) (by kernel_rfl) (fun _ _ _ h => h) (Or.inl ⟨by rfl, by rintro w' -; go_simp⟩) hS53 ?_
    simp only [Act.put, List.setIfInBounds_toArray, List.set_cons_zero, List.set_cons_succ]
    refine wpAnyH_ready (rs := [6]) (by kernel_rfl) (by simp) ?_
    refine AllReadyH.cons rfl (fun K54 hK54 => ?_) AllReadyH.nil
    have HK54 := Lib.hid hK54
    clear hK54
    rw [if_pos (by rfl)]
    go_simp
    refine (HA.out _ Na_51.out).mono ?_
    rintro e z55 ⟨rfl, hz56⟩
    obtain rfl := hz56.symm
    have hS57 : (fun w' : World => w'.cell? ⟨D, 1, none⟩ = some (.slice (some ⟨b1, o1, none⟩) N k1) ∧ w'.cell? ⟨b1, o1 + a, none⟩ = some (.slice Aa ma ca)) wz44 := ⟨R_49.out.cell 1, Xa_50.out⟩
    refine HK54.out _ _ hS57 fun _ => ?_
    try simp only [Act.put, List.setIfInBounds_toArray, List.set_cons_zero, List.set_cons_succ]
    refine wpAnyH_ready (rs := [13]) (by kernel_rfl) (by simp) ?_
    refine AllReadyH.cons rfl (fun K58 hK58 => ?_) AllReadyH.nil
    have HK58 := Lib.hid hK58
    clear hK58
    rw [if_pos (by rfl)]
    go_simp
    refine (HA.out _ Na_51.out).mono ?_
    rintro e z59 ⟨rfl, hz60⟩
    obtain rfl := hz60.symm
    have hS61 : (fun w' : World => w'.cell? ⟨D, 1, none⟩ = some (.slice (some ⟨b1, o1, none⟩) N k1) ∧ w'.cell? ⟨b1, o1 + a, none⟩ = some (.slice Aa ma ca)) wz44 := ⟨R_49.out.cell 1, Xa_50.out⟩
    refine HK58.out _ _ hS61 fun _ => ?_
    try simp only [Act.put, List.setIfInBounds_toArray, List.set_cons_zero, List.set_cons_succ]
    refine takeD (i := 14) (v := .bool true) (some 78) rfl rfl (by kernel_rfl) (by kernel_rfl) (by kernel_rfl) (fun _ _ _ h => h) (Or.inl ⟨by rfl, by rintro w' -; go_simp⟩) hS61 ?_
    simp only [Act.put, List.setIfInBounds_toArray, List.set_cons_zero, List.set_cons_succ]
    refine takeD (i := 15) (v := .bool true) (some 79) rfl rfl (by kernel_rfl) (by kernel_rfl) (by kernel_rfl) (fun _ _ _ h => h) (Or.inl ⟨by rfl, by rintro w' -; go_simp⟩) hS61 ?_
    simp only [Act.put, List.setIfInBounds_toArray, List.set_cons_zero, List.set_cons_succ]
    refine takeD (i := 16) (v := .int .i64 9) (some 80) rfl rfl (by kernel_rfl) (by kernel_rfl) (by kernel_rfl) (fun _ _ _ h => h) (Or.inl ⟨by rfl, by rintro w' -; go_simp⟩) hS61 ?_
    simp only [Act.put, List.setIfInBounds_toArray, List.set_cons_zero, List.set_cons_succ]
    refine takeD (i := 17) (v := .int .i64 9) (some 81) rfl rfl (by kernel_rfl) (by kernel_rfl) (by kernel_rfl) (fun _ _ _ h => h) (Or.inl ⟨by rfl, by rintro w' -; go_simp⟩) hS61 ?_
    simp only [Act.put, List.setIfInBounds_toArray, List.set_cons_zero, List.set_cons_succ]
    refine takeD (i := 18) (v := .bool true) (some 82) rfl rfl (by kernel_rfl) (by kernel_rfl) (by kernel_rfl) (fun _ _ _ h => h) (Or.inl ⟨by rfl, by rintro w' -; go_simp⟩) hS61 ?_
    simp only [Act.put, List.setIfInBounds_toArray, List.set_cons_zero, List.set_cons_succ]
    refine takeD (i := 19) (v := .bool true) (some 83) rfl rfl (by kernel_rfl) (by kernel_rfl) (by kernel_rfl) (fun _ _ _ h => h) (Or.inl ⟨by rfl, by rintro w' -; go_simp⟩) hS61 ?_
    simp only [Act.put, List.setIfInBounds_toArray, List.set_cons_zero, List.set_cons_succ]
    refine takeD (i := 20) (v := .bool true) (some 84) rfl rfl (by kernel_rfl) (by kernel_rfl) (by kernel_rfl) (fun _ _ _ h => h) (Or.inl ⟨by rfl, by rintro w' -; go_simp⟩) hS61 ?_
    simp only [Act.put, List.setIfInBounds_toArray, List.set_cons_zero, List.set_cons_succ]
    refine takeD (i := 21) (v := .int .i64 0) (some 85) rfl rfl (by kernel_rfl) (by kernel_rfl) (by kernel_rfl) (fun _ _ _ h => h) (Or.inl ⟨by rfl, by rintro w' -; go_simp⟩) hS61 ?_
    simp only [Act.put, List.setIfInBounds_toArray, List.set_cons_zero, List.set_cons_succ]
    refine takeD (i := 22) (v := .int .i64 0) (some 86) rfl rfl (by kernel_rfl) (by kernel_rfl) (by kernel_rfl) (fun _ _ _ h => h) (Or.inl ⟨by rfl, by rintro w' -; go_simp⟩) hS61 ?_
    simp only [Act.put, List.setIfInBounds_toArray, List.set_cons_zero, List.set_cons_succ]
    refine takeD (i := 23) (v := .bool true) (some 87) rfl rfl (by kernel_rfl) (by kernel_rfl) (by kernel_rfl) (fun _ _ _ h => h) (Or.inl ⟨by rfl, by rintro w' -; go_simp⟩) hS61 ?_
    simp only [Act.put, List.setIfInBounds_toArray, List.set_cons_zero, List.set_cons_succ]
    refine takeD (i := 24) (v := .bool true) (some 88) rfl rfl (by kernel_rfl) (by kernel_rfl) (by kernel_rfl) (fun _ _ _ h => h) (Or.inl ⟨by rfl, by rintro w' -; go_simp⟩) hS61 ?_
    simp only [Act.put, List.setIfInBounds_toArray, List.set_cons_zero, List.set_cons_succ]
    refine takeD (i := 25) (v := .bool true) (some 6) rfl rfl (by kernel_rfl) (by kernel_rfl) (by kernel_rfl) (fun _ _ _ h => h) (Or.inl ⟨by rfl, by rintro w' -; go_simp⟩) hS61 ?_
    simp only [Act.put, List.setIfInBounds_toArray, List.set_cons_zero, List.set_cons_succ]
    refine wpAnyH_done (by kernel_rfl) ?_ _
    go_wp2_with fail
    go_ret
    exact ⟨rfl, HB_52.out⟩
  · have aI : (a : Int) < (N : Int) := by omega
    have bI : (b : Int) < (N : Int) := by omega
    have CM := Lib.hid (C2.out a b aN bN ab)
    have CJ0 := C3.out b a bN aN (Ne.symm ab)
    rw [← MC.out a b aN bN ab] at CJ0
    have CJ := Lib.hid CJ0
    obtain ⟨t, ht⟩ : ∃ t, meet q a b = t := ⟨_, rfl⟩
    rw [ht] at CM CJ
    clear CJ0 C2 C3 D2 D3 MC ht
    obtain ⟨ua, hxa, hna⟩ := G_23.out.at_ (show a < N by assumption)
    rw [LL.out a (by assumption)] at hna
    obtain ⟨Aa, ca, rfl⟩ := slform hna
    obtain ⟨ma, hma⟩ : ∃ m, (line q a).length = m := ⟨_, rfl⟩
    rw [hma] at hna hxa
    have HMa := Lib.hid hma
    have Xa := Lib.hid hxa
    have Na := Lib.hid hna
    clear hma hna hxa
    obtain ⟨ub, hxb, hnb⟩ := G_23.out.at_ (show b < N by assumption)
    rw [LL.out b (by assumption)] at hnb
    obtain ⟨Ab, cb, rfl⟩ := slform hnb
    obtain ⟨mb, hmb⟩ : ∃ m, (line q b).length = m := ⟨_, rfl⟩
    rw [hmb] at hnb hxb
    have HMb := Lib.hid hmb
    have Xb := Lib.hid hxb
    have Nb := Lib.hid hnb
    clear hmb hnb hxb
    have HA := Lib.hid fun W (h : Ns W (.slice Aa ma ca) (line q a)) => hasn_any (line q a) b (.slice Aa ma ca) W h
    have HB := Lib.hid fun W (h : Ns W (.slice Ab mb cb) (line q b)) => hasn_any (line q b) a (.slice Ab mb cb) W h
    rw [← SY.out a b aN bN] at HB
    obtain ⟨x, hx⟩ : ∃ x, has (line q a) b = x := ⟨_, rfl⟩
    rw [hx] at HA HB
    clear hx SY LL HMa HMb ab
    go_wp2_with fail
    refine (CM.out _ K_22.out).mono ?_
    rintro e x27 ⟨rfl, hb26⟩
    have hq28 : Below wz.heap.size wz x27 := hb26
    have K_29 := Lib.hid (Kd.below K_22.out hq28)
    have G_30 := Lib.hid (Gs.to G_23.out hq28)
    have R_31 := Lib.hid (Row.go R_24.out hq28)
    have Xa_32 := Lib.hid (cell_to Xa.out hq28)
    have Na_33 := Lib.hid (Ns.to Na.out hq28)
    have Xb_34 := Lib.hid (cell_to Xb.out hq28)
    have Nb_35 := Lib.hid (Ns.to Nb.out hq28)
    have HB_36 : Hid (Below w.heap.size w x27) := Lib.hid (HB_25.out.trans (hq28.mono HB_25.out.size))
    clear hq28
    clear hb26 CM
    go_wp2_with fail
    refine (CJ.out _ K_29.out).mono ?_
    rintro e x38 ⟨rfl, hb37⟩
    have hq39 : Below x27.heap.size x27 x38 := hb37
    have K_40 := Lib.hid (Kd.below K_29.out hq39)
    have G_41 := Lib.hid (Gs.to G_30.out hq39)
    have R_42 := Lib.hid (Row.go R_31.out hq39)
    have Xa_43 := Lib.hid (cell_to Xa_32.out hq39)
    have Na_44 := Lib.hid (Ns.to Na_33.out hq39)
    have Xb_45 := Lib.hid (cell_to Xb_34.out hq39)
    have Nb_46 := Lib.hid (Ns.to Nb_35.out hq39)
    have HB_47 : Hid (Below w.heap.size w x38) := Lib.hid (HB_36.out.trans (hq39.mono HB_36.out.size))
    clear hq39
    clear hb37 CJ
    go_wp2_with fail
    refine wp_region_held (P := Tryd.prog) (S := (fun w' : World => w'.cell? ⟨D, 1, none⟩ = some (.slice (some ⟨b1, o1, none⟩) N k1) ∧ w'.cell? ⟨b1, o1 + a, none⟩ = some (.slice Aa ma ca) ∧ w'.cell? ⟨b1, o1 + b, none⟩ = some (.slice Ab mb cb))) rfl ?_
    change wpAnyH _ _ _ _ _ _ _ _ x38.drew
    have hz49 : Below x38.heap.size x38 x38.drew := (Below.refl x38.heap.size x38).drew
    generalize x38.drew = wz48 at hz49 ⊢
    have hq50 : Below x38.heap.size x38 wz48 := hz49
    have K_51 := Lib.hid (Kd.below K_40.out hq50)
    have G_52 := Lib.hid (Gs.to G_41.out hq50)
    have R_53 := Lib.hid (Row.go R_42.out hq50)
    have Xa_54 := Lib.hid (cell_to Xa_43.out hq50)
    have Na_55 := Lib.hid (Ns.to Na_44.out hq50)
    have Xb_56 := Lib.hid (cell_to Xb_45.out hq50)
    have Nb_57 := Lib.hid (Ns.to Nb_46.out hq50)
    have HB_58 : Hid (Below w.heap.size w wz48) := Lib.hid (HB_47.out.trans (hq50.mono HB_47.out.size))
    clear hq50
    clear hz49
    have hS59 : (fun w' : World => w'.cell? ⟨D, 1, none⟩ = some (.slice (some ⟨b1, o1, none⟩) N k1) ∧ w'.cell? ⟨b1, o1 + a, none⟩ = some (.slice Aa ma ca) ∧ w'.cell? ⟨b1, o1 + b, none⟩ = some (.slice Ab mb cb)) wz48 := ⟨R_53.out.cell 1, Xa_54.out, Xb_56.out⟩
    refine takeD (i := 0) (v := .pointer (some ⟨D, 1, none⟩)) (some 64) rfl rfl (by kernel_rfl) (by kernel_rfl) (by kernel_rfl) (fun _ _ _ h => h) (Or.inl ⟨by rfl, by rintro w' -; go_simp⟩) hS59 ?_
    simp only [Act.put, List.setIfInBounds_toArray, List.set_cons_zero, List.set_cons_succ]
    refine takeD (i := 1) (v := .slice (some ⟨b1, o1, none⟩) N k1) (some 65) rfl rfl (by kernel_rfl) (by kernel_rfl) (by kernel_rfl) (fun _ _ _ h => h) (Or.inl ⟨by rfl, by rintro w' h; have hc := h.1; go_simp⟩) hS59 ?_
    simp only [Act.put, List.setIfInBounds_toArray, List.set_cons_zero, List.set_cons_succ]
    refine takeD (i := 2) (v := .int .i64 (a : Int)) (some 66) rfl rfl (by kernel_rfl) (by kernel_rfl) (by kernel_rfl) (fun _ _ _ h => h) (Or.inl ⟨by rfl, by rintro w' -; go_simp⟩) hS59 ?_
    simp only [Act.put, List.setIfInBounds_toArray, List.set_cons_zero, List.set_cons_succ]
    refine takeD (i := 3) (v := .pointer (some ⟨b1, o1 + a * 1, none⟩)) (some 67) rfl rfl (by kernel_rfl) (by kernel_rfl) (by kernel_rfl) (fun _ _ _ h => h) (Or.inl ⟨by rfl, by rintro w' -; go_simp⟩) hS59 ?_
    simp only [Act.put, List.setIfInBounds_toArray, List.set_cons_zero, List.set_cons_succ]
    refine takeD (i := 4) (v := .slice Aa ma ca) (some 68) rfl rfl (by kernel_rfl) (by kernel_rfl) (by kernel_rfl) (fun _ _ _ h => h) (Or.inl ⟨by rfl, by rintro w' h; have hc := h.2.1; go_simp⟩) hS59 ?_
    simp only [Act.put, List.setIfInBounds_toArray, List.set_cons_zero, List.set_cons_succ]
    refine takeD (i := 5) (v := .int .i64 (b : Int)) (some 69) rfl rfl (by kernel_rfl) (by kernel_rfl) (by kernel_rfl) (fun _ _ _ h => h) (Or.inl ⟨by rfl, by rintro w' -; go_simp⟩) hS59 ?_
    simp only [Act.put, List.setIfInBounds_toArray, List.set_cons_zero, List.set_cons_succ]
    refine takeD (i := 7) (v := .pointer (some ⟨D, 1, none⟩)) (some 71) rfl rfl (by kernel_rfl) (by kernel_rfl) (by kernel_rfl) (fun _ _ _ h => h) (Or.inl ⟨by rfl, by rintro w' -; go_simp⟩) hS59 ?_
    simp only [Act.put, List.setIfInBounds_toArray, List.set_cons_zero, List.set_cons_succ]
    refine takeD (i := 8) (v := .slice (some ⟨b1, o1, none⟩) N k1) (some 72) rfl rfl (by kernel_rfl) (by kernel_rfl) (by kernel_rfl) (fun _ _ _ h => h) (Or.inl ⟨by rfl, by rintro w' h; have hc := h.1; go_simp⟩) hS59 ?_
    simp only [Act.put, List.setIfInBounds_toArray, List.set_cons_zero, List.set_cons_succ]
    refine takeD (i := 9) (v := .int .i64 (b : Int)) (some 73) rfl rfl (by kernel_rfl) (by kernel_rfl) (by kernel_rfl) (fun _ _ _ h => h) (Or.inl ⟨by rfl, by rintro w' -; go_simp⟩) hS59 ?_
    simp only [Act.put, List.setIfInBounds_toArray, List.set_cons_zero, List.set_cons_succ]
    refine takeD (i := 10) (v := .pointer (some ⟨b1, o1 + b * 1, none⟩)) (some 74) rfl rfl (by kernel_rfl) (by kernel_rfl) (by kernel_rfl) (fun _ _ _ h => h) (Or.inl ⟨by rfl, by rintro w' -; go_simp⟩) hS59 ?_
    simp only [Act.put, List.setIfInBounds_toArray, List.set_cons_zero, List.set_cons_succ]
    refine takeD (i := 11) (v := .slice Ab mb cb) (some 75) rfl rfl (by kernel_rfl) (by kernel_rfl) (by kernel_rfl) (fun _ _ _ h => h) (Or.inl ⟨by rfl, by rintro w' h; have hc := h.2.2; go_simp⟩) hS59 ?_
    simp only [Act.put, List.setIfInBounds_toArray, List.set_cons_zero, List.set_cons_succ]
    refine takeD (i := 12) (v := .int .i64 (a : Int)) (some 76) rfl rfl (by kernel_rfl) (by kernel_rfl) (by kernel_rfl) (fun _ _ _ h => h) (Or.inl ⟨by rfl, by rintro w' -; go_simp⟩) hS59 ?_
    simp only [Act.put, List.setIfInBounds_toArray, List.set_cons_zero, List.set_cons_succ]
    refine wpAnyH_ready (rs := [6]) (by kernel_rfl) (by simp) ?_
    refine AllReadyH.cons rfl (fun K60 hK60 => ?_) AllReadyH.nil
    have HK60 := Lib.hid hK60
    clear hK60
    rw [if_pos (by rfl)]
    go_simp
    refine (HA.out _ Na_55.out).mono ?_
    rintro e z61 ⟨rfl, hz62⟩
    obtain rfl := hz62.symm
    have hS63 : (fun w' : World => w'.cell? ⟨D, 1, none⟩ = some (.slice (some ⟨b1, o1, none⟩) N k1) ∧ w'.cell? ⟨b1, o1 + a, none⟩ = some (.slice Aa ma ca) ∧ w'.cell? ⟨b1, o1 + b, none⟩ = some (.slice Ab mb cb)) wz48 := ⟨R_53.out.cell 1, Xa_54.out, Xb_56.out⟩
    refine HK60.out _ _ hS63 fun _ => ?_
    try simp only [Act.put, List.setIfInBounds_toArray, List.set_cons_zero, List.set_cons_succ]
    refine wpAnyH_ready (rs := [13]) (by kernel_rfl) (by simp) ?_
    refine AllReadyH.cons rfl (fun K64 hK64 => ?_) AllReadyH.nil
    have HK64 := Lib.hid hK64
    clear hK64
    rw [if_pos (by rfl)]
    go_simp
    refine (HB.out _ Nb_57.out).mono ?_
    rintro e z65 ⟨rfl, hz66⟩
    obtain rfl := hz66.symm
    have hS67 : (fun w' : World => w'.cell? ⟨D, 1, none⟩ = some (.slice (some ⟨b1, o1, none⟩) N k1) ∧ w'.cell? ⟨b1, o1 + a, none⟩ = some (.slice Aa ma ca) ∧ w'.cell? ⟨b1, o1 + b, none⟩ = some (.slice Ab mb cb)) wz48 := ⟨R_53.out.cell 1, Xa_54.out, Xb_56.out⟩
    refine HK64.out _ _ hS67 fun _ => ?_
    try simp only [Act.put, List.setIfInBounds_toArray, List.set_cons_zero, List.set_cons_succ]
    refine takeD (i := 14) (v := .bool true) (some 78) rfl rfl (by kernel_rfl) (by kernel_rfl) (by kernel_rfl) (fun _ _ _ h => h) (Or.inl ⟨by rfl, by rintro w' -; go_simp⟩) hS67 ?_
    simp only [Act.put, List.setIfInBounds_toArray, List.set_cons_zero, List.set_cons_succ]
    refine takeD (i := 15) (v := .bool true) (some 79) rfl rfl (by kernel_rfl) (by kernel_rfl) (by kernel_rfl) (fun _ _ _ h => h) (Or.inl ⟨by rfl, by rintro w' -; go_simp⟩) hS67 ?_
    simp only [Act.put, List.setIfInBounds_toArray, List.set_cons_zero, List.set_cons_succ]
    refine takeD (i := 16) (v := .int .i64 0) (some 80) rfl rfl (by kernel_rfl) (by kernel_rfl) (by kernel_rfl) (fun _ _ _ h => h) (Or.inl ⟨by rfl, by rintro w' -; go_simp⟩) hS67 ?_
    simp only [Act.put, List.setIfInBounds_toArray, List.set_cons_zero, List.set_cons_succ]
    refine takeD (i := 17) (v := .int .i64 0) (some 81) rfl rfl (by kernel_rfl) (by kernel_rfl) (by kernel_rfl) (fun _ _ _ h => h) (Or.inl ⟨by rfl, by rintro w' -; go_simp⟩) hS67 ?_
    simp only [Act.put, List.setIfInBounds_toArray, List.set_cons_zero, List.set_cons_succ]
    refine takeD (i := 18) (v := .bool true) (some 82) rfl rfl (by kernel_rfl) (by kernel_rfl) (by kernel_rfl) (fun _ _ _ h => h) (Or.inl ⟨by rfl, by rintro w' -; go_simp⟩) hS67 ?_
    simp only [Act.put, List.setIfInBounds_toArray, List.set_cons_zero, List.set_cons_succ]
    refine takeD (i := 19) (v := .bool true) (some 83) rfl rfl (by kernel_rfl) (by kernel_rfl) (by kernel_rfl) (fun _ _ _ h => h) (Or.inl ⟨by rfl, by rintro w' -; go_simp⟩) hS67 ?_
    simp only [Act.put, List.setIfInBounds_toArray, List.set_cons_zero, List.set_cons_succ]
    refine takeD (i := 20) (v := .bool true) (some 84) rfl rfl (by kernel_rfl) (by kernel_rfl) (by kernel_rfl) (fun _ _ _ h => h) (Or.inl ⟨by rfl, by rintro w' -; go_simp⟩) hS67 ?_
    simp only [Act.put, List.setIfInBounds_toArray, List.set_cons_zero, List.set_cons_succ]
    refine takeD (i := 21) (v := .int .i64 (t : Int)) (some 85) rfl rfl (by kernel_rfl) (by kernel_rfl) (by kernel_rfl) (fun _ _ _ h => h) (Or.inl ⟨by rfl, by rintro w' -; go_simp⟩) hS67 ?_
    simp only [Act.put, List.setIfInBounds_toArray, List.set_cons_zero, List.set_cons_succ]
    refine takeD (i := 22) (v := .int .i64 (t : Int)) (some 86) rfl rfl (by kernel_rfl) (by kernel_rfl) (by kernel_rfl) (fun _ _ _ h => h) (Or.inl ⟨by rfl, by rintro w' -; go_simp⟩) hS67 ?_
    simp only [Act.put, List.setIfInBounds_toArray, List.set_cons_zero, List.set_cons_succ]
    refine takeD (i := 23) (v := .bool true) (some 87) rfl rfl (by kernel_rfl) (by kernel_rfl) (by kernel_rfl) (fun _ _ _ h => h) (Or.inl ⟨by rfl, by rintro w' -; go_simp⟩) hS67 ?_
    simp only [Act.put, List.setIfInBounds_toArray, List.set_cons_zero, List.set_cons_succ]
    refine takeD (i := 24) (v := .bool true) (some 88) rfl rfl (by kernel_rfl) (by kernel_rfl) (by kernel_rfl) (fun _ _ _ h => h) (Or.inl ⟨by rfl, by rintro w' -; go_simp⟩) hS67 ?_
    simp only [Act.put, List.setIfInBounds_toArray, List.set_cons_zero, List.set_cons_succ]
    refine takeD (i := 25) (v := .bool true) (some 6) rfl rfl (by kernel_rfl) (by kernel_rfl) (by kernel_rfl) (fun _ _ _ h => h) (Or.inl ⟨by rfl, by rintro w' -; go_simp⟩) hS67 ?_
    simp only [Act.put, List.setIfInBounds_toArray, List.set_cons_zero, List.set_cons_succ]
    refine wpAnyH_done (by kernel_rfl) ?_ _
    go_wp2_with fail
    go_ret
    exact ⟨rfl, HB_58.out⟩
set_option maxHeartbeats 4000000 in
set_option maxRecDepth 100000 in
theorem joinlaw_walk (n i k : Nat) (w : World) (hK : Kd w) (hn : n < 256) (hi : i < 256) (hk : k < 256) : Calls Tryd.prog 7 #[.int .u8 (n : Int), .int .u8 (i : Int), .int .u8 (k : Int)] w (lawPost w) := by
  have HK0 := Lib.hid hK
  have AW := Lib.hid (awake6 w hK)
  obtain ⟨q, hq⟩ : ∃ q, sz n = q := ⟨_, rfl⟩
  have qs : q ∈ szs := by rw [← hq]; exact sz_mem n
  have C0 := Lib.hid fun W => size6_any n W hn
  rw [hq] at C0
  have QS := Lib.hid qs
  have C1 := Lib.hid fun W (h : Kd W) => proj_ok q W h qs
  have q2 := (szs_ok qs).2.1
  have q7 := (szs_ok qs).2.2.1
  have N57 := (szs_ok qs).2.2.2.1
  obtain ⟨p, hp⟩ : ∃ p, q * q = p := ⟨_, rfl⟩
  have ep : (q : Int) * (q : Int) = (p : Int) := by rw [← hp]; rfl
  have HP := Lib.hid hp
  obtain ⟨N, hN⟩ : ∃ N, cN q = N := ⟨_, rfl⟩
  have eN : (p : Int) + (q : Int) + 1 = (N : Int) := by rw [← hN, ← hp]; unfold cN; omega
  have NN := Lib.hid hN
  have LL := Lib.hid (show ∀ k, k < cN q → ((List.range (cN q)).map (line q)).getD k [] = line q k from fun k hk => by simp [List.getD, hk])
  rw [hN] at C1 LL N57
  obtain ⟨L, hL⟩ : ∃ L, (List.range N).map (line q) = L := ⟨_, rfl⟩
  have LN : Hid (L.length = N) := Lib.hid (by rw [← hL]; simp)
  rw [hL] at C1 LL
  have N0 : 0 < N := by omega
  have C3 := Lib.hid fun a b (ha : a < N) (hb : b < N) (hne : a ≠ b) W (h : Kd W) => join_of _ _ _ _ _ W (com_ok q a b W h qs (by rw [hN]; exact ha) (by rw [hN]; exact hb) hne)
  have JO := Lib.hid (show ∀ a b, a < N → b < N → a ≠ b → thr q a b N = [meet q a b] from fun a b ha hb hne => by rw [← hN]; exact join_one qs (by rw [hN]; exact ha) (by rw [hN]; exact hb) hne)
  have JA := Lib.hid (show ∀ a, a < N → (thr q a a N).length = q + 1 from fun a ha => by rw [← hN]; exact join_all qs (by rw [hN]; exact ha))
  clear hK hq qs hp hN hL hn
  go_enter Tryd.func7, Tryd.ntmps7
  go_wp2_with fail
  refine AW.out.mono ?_
  rintro e x2 ⟨rfl, hb1⟩
  have hq3 : Below w.heap.size w x2 := hb1
  have K_4 := Lib.hid (Kd.below HK0.out hq3)
  have HB_5 : Hid (Below w.heap.size w x2) := Lib.hid (hq3)
  clear hq3
  clear hb1
  go_wp2_with fail
  refine (C0.out _).mono ?_
  rintro e x7 ⟨rfl, hb6⟩
  have hq8 : Below x2.heap.size x2 x7 := hb6
  have K_9 := Lib.hid (Kd.below K_4.out hq8)
  have HB_10 : Hid (Below w.heap.size w x7) := Lib.hid (HB_5.out.trans (hq8.mono HB_5.out.size))
  clear hq8
  clear hb6 C0
  go_wp2_with fail
  refine (C1.out _ K_9.out).mono ?_
  rintro e x12 ⟨v, rfl, hg13, hb11⟩
  obtain ⟨A1, k1, rfl⟩ := slform hg13
  rw [LN.out] at hg13 ⊢
  obtain ⟨b1, o1, rfl, -⟩ := hg13.cells.2.2.2 N0
  have hq14 : Below x7.heap.size x7 x12 := hb11
  have K_15 := Lib.hid (Kd.below K_9.out hq14)
  have HB_16 : Hid (Below w.heap.size w x12) := Lib.hid (HB_10.out.trans (hq14.mono HB_10.out.size))
  clear hq14
  have G1_ := Lib.hid hg13
  have hba : Below x12.heap.size x12 (x12.alloc (.cells #[.int .i64 (N : Int), .slice (some ⟨b1, o1, none⟩) N k1] 25)) := (Below.refl _ _).alloc (Nat.le_refl _) _
  have RW := Lib.hid (row_new' x12 #[.int .i64 (N : Int), .slice (some ⟨b1, o1, none⟩) N k1] 25)
  clear hb11 hg13 C1
  unfold dv
  go_wp2_with fail
  obtain ⟨D, hD⟩ : ∃ D, x12.heap.size = D := ⟨_, rfl⟩
  rw [hD] at RW ⊢
  obtain ⟨y1, hy⟩ : ∃ y, (x12.alloc (.cells #[.int .i64 (N : Int), .slice (some ⟨b1, o1, none⟩) N k1] 25)) = y := ⟨_, rfl⟩
  rw [hy] at RW hba ⊢
  have hq17 : Below x12.heap.size x12 y1 := hba
  have K_18 := Lib.hid (Kd.below K_15.out hq17)
  have G_19 := Lib.hid (Gs.to G1_.out hq17)
  have HB_20 : Hid (Below w.heap.size w y1) := Lib.hid (HB_16.out.trans (hq17.mono HB_16.out.size))
  clear hq17
  clear hy hba hD
  have d0 := RW.out.cell 0
  have d1 := RW.out.cell 1
  go_wp2_with fail
  obtain ⟨a, ha⟩ : ∃ a, i % N = a := ⟨_, rfl⟩
  obtain ⟨b, hb⟩ : ∃ b, k % N = b := ⟨_, rfl⟩
  have aN : a < N := by rw [← ha]; exact Nat.mod_lt _ (by omega)
  have bN : b < N := by rw [← hb]; exact Nat.mod_lt _ (by omega)
  have ra : (i : Int).tmod (N : Int) = (a : Int) := by rw [← ha]; exact (Int.ofNat_tmod i N).symm
  have rb : (k : Int).tmod (N : Int) = (b : Int) := by rw [← hb]; exact (Int.ofNat_tmod k N).symm
  have ra' : (i : Int) % (N : Int) = (a : Int) := by rw [← ha]; rfl
  have rb' : (k : Int) % (N : Int) = (b : Int) := by rw [← hb]; rfl
  have va : IntKind.i64.wrap (a : Int) = (a : Int) := wrapS (by omega)
  have vb : IntKind.i64.wrap (b : Int) = (b : Int) := wrapS (by omega)
  have NZ : ¬ ((N : Int) = 0) := by omega
  clear ha hb
  go_quiet (fail)
  clear d0 d1
  have hq21 : Below y1.heap.size y1 (y1.drewN nq) := (below_drewN (Below.refl y1.heap.size y1) nq)
  have K_22 := Lib.hid (Kd.below K_18.out hq21)
  have G_23 := Lib.hid (Gs.to G_19.out hq21)
  have R_24 := Lib.hid (Row.go RW.out hq21)
  have HB_25 : Hid (Below w.heap.size w (y1.drewN nq)) := Lib.hid (HB_20.out.trans (hq21.mono HB_20.out.size))
  clear hq21
  generalize y1.drewN nq = wz at K_22 G_23 R_24 HB_25 ⊢
  clear ra rb va vb ep eN
  try rw [ra']
  try rw [rb']
  clear ra' rb'
  have d0 := R_24.out.cell 0
  have d1 := R_24.out.cell 1
  go_wp2_with fail
  clear d0 d1
  go_loopw [12, 13] (fun v i wr => ∃ m : Nat, m ≤ N ∧ i = .int .i64 (m : Int) ∧ Hid (Below wz.heap.size wz wr ∧ OwnL Nv wr wz.heap.size 3 v (thr q a b m))) (fun _ i _ => N - (intOf i).toNat)
  case atStart => exact ⟨0, Nat.zero_le _, rfl, Lib.hid ⟨Below.refl _ _, OwnL.nil_ _ _ _⟩⟩
  case round =>
    obtain ⟨m, hm, rfl, H⟩ := hrel
    have d1 := (R_24.out.go H.out.1).cell 1
    obtain ⟨A6, c6, rfl⟩ := slform H.out.2.sl
    by_cases hlt : m < N
    · have mI : (m : Int) < (N : Int) := by omega
      obtain ⟨ur, xr, nr⟩ := (G_23.out.to H.out.1).at_ hlt
      rw [LL.out m hlt] at nr
      have SUC := Lib.hid (thr_succ q a b m)
      have LE := thr_len q a b m
      have HB1 := Lib.hid H.out.1
      have HO := Lib.hid H.out.2
      have HA := Lib.hid (hasn_any (line q m) a ur wr nr)
      have HB := Lib.hid (hasn_any (line q m) b ur wr nr)
      obtain ⟨l, hl⟩ : ∃ l, thr q a b m = l := ⟨_, rfl⟩
      rw [hl] at SUC LE HO ⊢
      obtain ⟨r, hr⟩ : ∃ r, l.length = r := ⟨_, rfl⟩
      rw [hr] at LE HO ⊢
      have LM := Lib.hid hr
      clear H nr hl hr
      by_cases ea : has (line q m) a = true
      · rw [ea] at HA
        by_cases eb : has (line q m) b = true
        · rw [eb] at HB
          have E := Lib.hid (show thr q a b (m + 1) = l ++ [m] by rw [SUC.out, if_pos (by rw [ea, eb]; rfl)])
          have LIT := Lib.hid (show (wr.alloc (.cells #[.int .i64 (m : Int)] 3)).cell? ⟨wr.heap.size, 0, none⟩ = some (.int .i64 (m : Int)) from (row_new' _ _ _).cell 0)
          have hbx : Below wr.heap.size wr (wr.alloc (.cells #[.int .i64 (m : Int)] 3)) := (Below.refl _ _).alloc (Nat.le_refl _) _
          have O2 := Lib.hid (HO.out.gto hbx)
          have B3 := Lib.hid (HB1.out.trans (hbx.mono HB1.out.size))
          clear hbx SUC ea eb
          go_wp2_with fail
          refine HA.out.mono ?_
          rintro e z1 ⟨rfl, hz1⟩
          obtain rfl := hz1.symm
          go_wp2_with fail
          refine HB.out.mono ?_
          rintro e z2 ⟨rfl, hz2⟩
          obtain rfl := hz2.symm
          go_wp2_with (first | (at_builtin; refine wpList_push_n rfl (.tmp 71) (.tmp 73) rfl wz.heap.size (.slice A6 r c6) l r m _ rfl O2.out LM.out rfl LIT.out (by omega) B3.out.size ?_; intro gs cq x9 ho hg hat hlt2; have ZO := Lib.hid ho; have ZB := Lib.hid (B3.out.grown hg B3.out.size (fun k e => (O2.out.own k e).1)); clear ho hg hat hlt2))
          go_roundw
          case rel => exact ⟨m + 1, by omega, by go_num, Lib.hid ⟨ZB.out, by rw [E.out]; exact ZO.out⟩⟩
          case measure => simp [intOf]; omega
        · have eb := Bool.eq_false_iff.2 eb
          rw [eb] at HB
          have E := Lib.hid (show thr q a b (m + 1) = l by rw [SUC.out, if_neg (by rw [ea, eb]; decide)])
          clear SUC ea eb
          go_wp2_with fail
          refine HA.out.mono ?_
          rintro e z1 ⟨rfl, hz1⟩
          obtain rfl := hz1.symm
          go_wp2_with fail
          refine HB.out.mono ?_
          rintro e z2 ⟨rfl, hz2⟩
          obtain rfl := hz2.symm
          go_wp2_with fail
          go_roundw
          case rel => exact ⟨m + 1, by omega, by go_num, Lib.hid ⟨HB1.out, by rw [E.out]; exact HO.out⟩⟩
          case measure => simp [intOf]; omega
      · have ea := Bool.eq_false_iff.2 ea
        rw [ea] at HA
        have E := Lib.hid (show thr q a b (m + 1) = l by rw [SUC.out, if_neg (by rw [ea]; simp)])
        clear SUC ea
        go_wp2_with fail
        refine HA.out.mono ?_
        rintro e z1 ⟨rfl, hz1⟩
        obtain rfl := hz1.symm
        go_wp2_with fail
        go_roundw
        case rel => exact ⟨m + 1, by omega, by go_num, Lib.hid ⟨HB1.out, by rw [E.out]; exact HO.out⟩⟩
        case measure => simp [intOf]; omega
    · have em : m = N := by omega
      rw [em] at H ⊢
      have mI : ¬ (N : Int) < (N : Int) := by omega
      have HB1 := Lib.hid (HB_25.out.trans (H.out.1.mono HB_25.out.size))
      have HK1 := Lib.hid (K_22.out.below H.out.1)
      have HS := Lib.hid H.out.2.sl
      clear H em hm hlt
      by_cases ab : a = b
      · subst ab
        rw [JA.out a aN] at HS ⊢
        have qI : ((q + 1 : Nat) : Int) = (q : Int) + 1 := by omega
        go_wp2_with fail
        go_ret
        exact ⟨rfl, HB1.out⟩
      · have abI : ¬ ((a : Int) = (b : Int)) := by omega
        have CJ := Lib.hid (C3.out a b aN bN ab)
        rw [JO.out a b aN bN ab] at HS ⊢
        obtain ⟨t, ht⟩ : ∃ t, meet q a b = t := ⟨_, rfl⟩
        rw [ht] at HS CJ ⊢
        rw [show [t].length = 1 from rfl] at HS ⊢
        clear ht ab C3 JO JA
        go_wp2_with fail
        refine (CJ.out _ HK1.out).mono ?_
        rintro e x9 ⟨rfl, hb9⟩
        have HB9 := Lib.hid (HB1.out.trans (hb9.mono HB1.out.size))
        obtain ⟨bc, oc, rfl, fc⟩ := (show Ns _ (.slice A6 1 c6) [t] from Ns.to HS.out hb9).cells.2.2.2 (by omega)
        have y0 := fc 0 (by omega)
        rw [Nat.add_zero] at y0
        have y1 : x9.cell? ⟨bc, oc, none⟩ = some (.int .i64 (t : Int)) := y0
        clear fc y0 hb9
        go_wp2_with fail
        go_ret
        exact ⟨rfl, HB9.out⟩
end Go.Proofs.YtjbgfpbidjhlkaaDoor
