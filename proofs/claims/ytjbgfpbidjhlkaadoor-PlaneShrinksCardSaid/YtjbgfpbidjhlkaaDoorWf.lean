/- Law walk: PlaneShrinks. WRITTEN BY gen_Wf.py. -/
import Derived.Test.YtjbgfpbidjhlkaaDoorWb
import Derived.Test.YtjbgfpbidjhlkaaDoorWg
namespace Go.Proofs.YtjbgfpbidjhlkaaDoor
open Go Go.RowKit Pl
set_option linter.unusedVariables false
set_option linter.unusedSimpArgs false

theorem getD_mem {l : List Nat} {j x : Nat} (hj : j < l.length) (hx : l.getD j 0 = x) : x ∈ l := by
  rw [← hx, getD_in hj]; exact List.getElem_mem hj

set_option maxHeartbeats 4000000 in
set_option maxRecDepth 100000 in
theorem shrinkslaw_walk (n i : Nat) (w : World) (hK : Kd w) (hn : n < 256) (hi : i < 256) : Calls Tryd.prog 10 #[.int .u8 (n : Int), .int .u8 (i : Int)] w (lawPost w) := by
  have HK0 := Lib.hid hK
  have AW := Lib.hid fun W (h : Kd W) => awake6 W h
  obtain ⟨q, hq⟩ : ∃ q, sz n = q := ⟨_, rfl⟩
  have qs : q ∈ szs := by rw [← hq]; exact sz_mem n
  have C0 := Lib.hid fun W => size6_any n W hn
  rw [hq] at C0
  have QS := Lib.hid qs
  have C1 := Lib.hid fun W (h : Kd W) => proj_ok q W h qs
  have q2 := (szs_ok qs).2.1
  have q7 := (szs_ok qs).2.2.1
  have N57 := (szs_ok qs).2.2.2.1
  obtain ⟨p, hp⟩ : ∃ p, q * q = p := ⟨_, rfl⟩
  have ep : (q : Int) * (q : Int) = (p : Int) := by rw [← hp]; rfl
  have HP := Lib.hid hp
  obtain ⟨N, hN⟩ : ∃ N, cN q = N := ⟨_, rfl⟩
  have eN : (p : Int) + (q : Int) + 1 = (N : Int) := by rw [← hN, ← hp]; unfold cN; omega
  have NN := Lib.hid hN
  have LL := Lib.hid (show ∀ k, k < cN q → ((List.range (cN q)).map (line q)).getD k [] = line q k from fun k hk => by simp [List.getD, hk])
  rw [hN] at C1 LL N57
  obtain ⟨L, hL⟩ : ∃ L, (List.range N).map (line q) = L := ⟨_, rfl⟩
  have LN : Hid (L.length = N) := Lib.hid (by rw [← hL]; simp)
  rw [hL] at C1 LL
  have N0 : 0 < N := by omega
  have hm2 := run_make_row' (P := Tryd.prog) 37 3 _ _ Tryd.underlying37 info_int rfl .i64 .i64 N (by omega) (by omega)
  have LEN := Lib.hid (show ∀ h, h < N → (line q h).length = q + 1 from fun h hh => line_len qs (by rw [hN]; exact hh))
  have LLT := Lib.hid (show ∀ h x, x ∈ line q h → x < N from fun h x hx => by rw [← hN]; exact line_lt hx)
  have LFE := Lib.hid (show ∀ g h, h < N → g < N → h ≠ g → lf q g h (q + 1) = q from fun g h hh hg hne => lf_end qs (by rw [hN]; exact hh) (by rw [hN]; exact hg) hne)
  have CFE := Lib.hid (show ∀ g h, h < N → h ≠ g → ∀ x, cfi q g h (q + 1) x = cf q g (h + 1) x from fun g h hh hne => cfi_end qs (by rw [hN]; exact hh) hne)
  have CFA := Lib.hid (show ∀ g x, g < N → x < N → cf q g N x = bif has (line q g) x then 0 else q + 1 from fun g x hg hx => by have := cf_all (p := x) qs (show g < cN q by rw [hN]; exact hg) (by rw [hN]; exact hx); rwa [hN] at this)
  clear hK hq qs hp hN hL hn
  go_enter Tryd.func10, Tryd.ntmps10
  go_wp2_with fail
  refine (AW.out _ HK0.out).mono ?_
  rintro e ux2 ⟨rfl, uhb1⟩
  have uhq3 : Below w.heap.size w ux2 := uhb1
  have uK_4 := Lib.hid (Kd.below HK0.out uhq3)
  have uHB_5 : Hid (Below w.heap.size w ux2) := Lib.hid (uhq3)
  clear uhq3
  clear uhb1
  go_wp2_with fail
  refine (C0.out _).mono ?_
  rintro e ux7 ⟨rfl, uhb6⟩
  have uhq8 : Below ux2.heap.size ux2 ux7 := uhb6
  have uK_9 := Lib.hid (Kd.below uK_4.out uhq8)
  have uHB_10 : Hid (Below w.heap.size w ux7) := Lib.hid (uHB_5.out.trans (uhq8.mono uHB_5.out.size))
  clear uhq8
  clear uhb6 C0
  go_wp2_with fail
  refine (C1.out _ uK_9.out).mono ?_
  rintro e ux12 ⟨v, rfl, uhg13, uhb11⟩
  obtain ⟨A1, k1, rfl⟩ := slform uhg13
  rw [LN.out] at uhg13 ⊢
  obtain ⟨b1, o1, rfl, -⟩ := uhg13.cells.2.2.2 N0
  have uhq14 : Below ux7.heap.size ux7 ux12 := uhb11
  have uK_15 := Lib.hid (Kd.below uK_9.out uhq14)
  have uHB_16 : Hid (Below w.heap.size w ux12) := Lib.hid (uHB_10.out.trans (uhq14.mono uHB_10.out.size))
  clear uhq14
  have G1_ := Lib.hid uhg13
  have hba : Below ux12.heap.size ux12 (ux12.alloc (.cells #[.int .i64 (N : Int), .slice (some ⟨b1, o1, none⟩) N k1] 25)) := (Below.refl _ _).alloc (Nat.le_refl _) _
  have RW := Lib.hid (row_new' ux12 #[.int .i64 (N : Int), .slice (some ⟨b1, o1, none⟩) N k1] 25)
  clear uhb11 uhg13 C1
  unfold dv
  go_wp2_with fail
  obtain ⟨D, hD⟩ : ∃ D, ux12.heap.size = D := ⟨_, rfl⟩
  rw [hD] at RW ⊢
  obtain ⟨y1, hy⟩ : ∃ y, (ux12.alloc (.cells #[.int .i64 (N : Int), .slice (some ⟨b1, o1, none⟩) N k1] 25)) = y := ⟨_, rfl⟩
  have SZY := Lib.hid (show y1.heap.size = D + 1 from by rw [← hy, World.size_alloc, hD])
  rw [hy] at RW hba ⊢
  have uhq17 : Below ux12.heap.size ux12 y1 := hba
  have uK_18 := Lib.hid (Kd.below uK_15.out uhq17)
  have uG_19 := Lib.hid (Gs.to G1_.out uhq17)
  have uHB_20 : Hid (Below w.heap.size w y1) := Lib.hid (uHB_16.out.trans (uhq17.mono uHB_16.out.size))
  clear uhq17
  clear hy hba hD
  have d0 := RW.out.cell 0
  have d1 := RW.out.cell 1
  obtain ⟨g, hg⟩ : ∃ g, i % N = g := ⟨_, rfl⟩
  have gN : g < N := by rw [← hg]; exact Nat.mod_lt _ (by omega)
  have rg' : (i : Int) % (N : Int) = (g : Int) := by rw [← hg]; rfl
  have gI : (g : Int) < (N : Int) := by omega
  clear hg
  have hbm : Below y1.heap.size y1 (y1.alloc (.cells (madeCells #[.int .i64 0] N) 3)) := (Below.refl _ _).alloc (Nat.le_refl _) _
  obtain ⟨bc, hbd⟩ : ∃ b, D + 1 = b := ⟨_, rfl⟩
  have hbc : y1.heap.size = bc := by rw [← hbd]; exact SZY.out
  have Q0 : Hid (World.rowIs (y1.alloc (.cells (madeCells #[.int .i64 0] N) 3)) bc 3 N (fun x => .int .i64 (cf q g 0 x : Nat))) := Lib.hid (by rw [← hbc]; exact (World.rowIs_made _ _ N _).congr fun x _ => by rw [cf_zero]; rfl)
  have HBC := Lib.hid hbc
  have BM := Lib.hid hbm
  clear hbm hbc SZY
  go_wp2_with fail
  rw [hbd]
  clear hbd
  try rw [rg']
  clear ep eN rg' hm2
  clear d0 d1
  go_loopw [10, 11, 12, 13] (fun i _ _ _ wr => ∃ h : Nat, h ≤ N ∧ i = .int .i64 (h : Int) ∧ Hid (Below y1.heap.size y1 wr ∧ wr.rowIs bc 3 N (fun x => .int .i64 (cf q g h x : Nat)))) (fun i _ _ _ _ => N - (intOf i).toNat)
  case atStart => exact ⟨0, Nat.zero_le _, rfl, Lib.hid ⟨BM.out, Q0.out⟩⟩
  case round =>
    obtain ⟨h, hh, rfl, H⟩ := hrel
    obtain ⟨wo, rfl⟩ : ∃ wo, wo = wr := ⟨_, rfl⟩
    have d1 := (RW.out.go H.out.1).cell 1
    by_cases hlt : h < N
    · have hI : (h : Int) < (N : Int) := by omega
      by_cases hg : h = g
      · have hgI : ((h : Int) == (g : Int)) = true := by rw [beq_iff_eq]; omega
        have HB1 := Lib.hid H.out.1
        have HQ : Hid (wo.rowIs bc 3 N (fun x => .int .i64 (cf q g (h + 1) x : Nat))) := Lib.hid (H.out.2.congr fun x _ => by rw [hg, cf_skip])
        clear H hg
        go_wp2_with fail
        go_roundw
        case rel => exact ⟨h + 1, by omega, by go_num, Lib.hid ⟨HB1.out, HQ.out⟩⟩
        case measure => simp [intOf]; omega
      · have hgI : ((h : Int) == (g : Int)) = false := by rw [beq_eq_false_iff_ne]; omega
        have LE := LEN.out h hlt
        have S0 := Lib.hid (lf_0 q g h)
        have F0 := Lib.hid fun x => cfi_0 q g h x
        have LS := Lib.hid (show ∀ j x, j < q + 1 → (line q h).getD j 0 = x → lf q g h (j + 1) = lf q g h j + (bif has (line q g) x then 0 else 1) from fun j x hj hx => lf_succ (by rw [LE]; exact hj) hx)
        have FI := Lib.hid (show ∀ j x, j < q + 1 → (line q h).getD j 0 = x → has (line q g) x = true → ∀ p, cfi q g h (j + 1) p = cfi q g h j p from fun j x hj hx => cfi_in (by rw [LE]; exact hj) hx)
        have FO := Lib.hid (show ∀ j x, j < q + 1 → (line q h).getD j 0 = x → has (line q g) x = false → ∀ p, cfi q g h (j + 1) p = if p = x then cfi q g h j x + 1 else cfi q g h j p from fun j x hj hx => cfi_out (by rw [LE]; exact hj) hx)
        have LX := Lib.hid (show ∀ j x, j < q + 1 → (line q h).getD j 0 = x → x < N from fun j x hj hx => LLT.out h x (getD_mem (by rw [LE]; exact hj) hx))
        have FE := Lib.hid (CFE.out g h hlt hg)
        have SE := Lib.hid (LFE.out g h hlt gN hg)
        have FB := Lib.hid fun j p => cfi_le q g h j p
        have SB := Lib.hid fun j => lf_le q g h j
        have LE' := Lib.hid LE
        have HB1 := Lib.hid H.out.1
        have HQ := Lib.hid H.out.2
        obtain ⟨s, hs⟩ : ∃ s, lf q g h = s := ⟨_, rfl⟩
        obtain ⟨f, hf⟩ : ∃ f, cfi q g h = f := ⟨_, rfl⟩
        rw [hs] at S0 LS SE SB
        rw [hf] at F0 FI FO FE FB
        clear LE H hs hf hg
        go_wp2_with fail
        go_loopw [11, 12, 13] (fun u i _ wr => ∃ j : Nat, j ≤ q + 1 ∧ i = .int .i64 (j : Int) ∧ u = .int .i64 (s j : Nat) ∧ Hid (Below y1.heap.size y1 wr ∧ wr.rowIs bc 3 N (fun x => .int .i64 (f j x : Nat)))) (fun _ i _ _ => q + 1 - (intOf i).toNat)
        case atStart => exact ⟨0, Nat.zero_le _, rfl, by rw [S0.out]; rfl, Lib.hid ⟨HB1.out, HQ.out.congr fun x _ => by rw [F0.out]⟩⟩
        case round =>
          obtain ⟨j, hj, rfl, rfl, J⟩ := hrel
          have d1 := (RW.out.go J.out.1).cell 1
          obtain ⟨uh, xh, nh⟩ := (uG_19.out.to J.out.1).at_ hlt
          rw [LL.out h hlt] at nh
          obtain ⟨Ah, ch, rfl⟩ := slform nh
          rw [LE'.out] at nh xh
          have sb := SB.out j
          by_cases hj2 : j < q + 1
          · have jI : (j : Int) < ((q + 1 : Nat) : Int) := by omega
            obtain ⟨bh, oh, rfl, fh⟩ := nh.cells.2.2.2 (by omega)
            have eh := fh j hj2
            obtain ⟨x, hx⟩ : ∃ x, (line q h).getD j 0 = x := ⟨_, rfl⟩
            have xN := LX.out j x hj2 hx
            have xI : (x : Int) < (N : Int) := by omega
            have LS1 := Lib.hid (LS.out j x hj2 hx)
            have FI1 := Lib.hid (FI.out j x hj2 hx)
            have FO1 := Lib.hid (FO.out j x hj2 hx)
            rw [hx] at eh
            obtain ⟨ug, xg, ng⟩ := (uG_19.out.to J.out.1).at_ gN
            rw [LL.out g gN] at ng
            obtain ⟨Ag, cg, rfl⟩ := slform ng
            obtain ⟨mg, hmg⟩ : ∃ zz, (line q g).length = zz := ⟨_, rfl⟩
            rw [hmg] at ng xg
            have HA := Lib.hid (hasn_any (line q g) x (.slice Ag mg cg) wr ng)
            have cx := J.out.2.cell xN
            have fx := J.out.2.frozen x
            have fb := FB.out j x
            have JB := Lib.hid J.out.1
            have JQ := Lib.hid J.out.2
            clear J fh hx nh ng hmg
            by_cases ex : has (line q g) x = true
            · rw [ex] at HA LS1
              have F1 := Lib.hid (FI1.out ex)
              have S1 : Hid (s (j + 1) = s j) := Lib.hid (by rw [LS1.out]; rfl)
              obtain ⟨sj, hsj⟩ : ∃ z, s j = z := ⟨_, rfl⟩
              rw [hsj] at sb S1 ⊢
              clear ex FI1 FO1 LS1 hsj cx fx
              go_wp2_with fail
              refine HA.out.mono ?_
              rintro e z1 ⟨rfl, hz1⟩
              obtain rfl := hz1.symm
              go_wp2_with fail
              go_roundw
              case rel => exact ⟨j + 1, by omega, by go_num, by rw [S1.out], Lib.hid ⟨JB.out, JQ.out.congr fun y _ => by rw [F1.out]⟩⟩
              case measure => simp [intOf]; omega
            · have ex := Bool.eq_false_iff.2 ex
              rw [ex] at HA LS1
              have F1 := Lib.hid (FO1.out ex)
              have S1 : Hid (s (j + 1) = s j + 1) := Lib.hid (by rw [LS1.out]; rfl)
              obtain ⟨sj, hsj⟩ : ∃ z, s j = z := ⟨_, rfl⟩
              rw [hsj] at sb S1 ⊢
              obtain ⟨fj, hfj⟩ : ∃ z, f j x = z := ⟨_, rfl⟩
              rw [hfj] at cx fb F1
              clear ex FI1 FO1 LS1 hsj hfj
              go_wp2_with fail
              refine HA.out.mono ?_
              rintro e z1 ⟨rfl, hz1⟩
              obtain rfl := hz1.symm
              go_wp2_with fail
              go_roundw
              case rel =>
                refine ⟨j + 1, by omega, by go_num, by rw [S1.out]; go_num, Lib.hid ⟨JB.out.setCell (p := ⟨bc, x, none⟩) (Nat.le_of_eq HBC.out) _, (JQ.out.set x _).congr fun y _ => ?_⟩⟩
                show _ = Value.int .i64 ((f (j + 1) y : Nat) : Int)
                rw [F1.out]
                by_cases e : y = x
                · rw [if_pos e, if_pos e]; go_num
                · rw [if_neg e, if_neg e]
              case measure => simp [intOf]; omega
          · have ej : j = q + 1 := by omega
            have jI : ¬ (j : Int) < ((q + 1 : Nat) : Int) := by omega
            have JB := Lib.hid J.out.1
            have JQ : Hid (wr.rowIs bc 3 N (fun x => .int .i64 (cf q g (h + 1) x : Nat))) := Lib.hid (J.out.2.congr fun y _ => by rw [ej, FE.out])
            have SJ : s j = q := by rw [ej]; exact SE.out
            rw [SJ]
            clear J ej SJ nh
            go_wp2_with fail
            go_roundw
            case rel => exact ⟨h + 1, by omega, by go_num, Lib.hid ⟨JB.out, JQ.out⟩⟩
            case measure => simp [intOf]; omega
    · have eh : h = N := by omega
      have hI : ¬ (h : Int) < (N : Int) := by omega
      have HB1 := Lib.hid H.out.1
      have HQ : Hid (wo.rowIs bc 3 N (fun x => .int .i64 (cf q g N x : Nat))) := Lib.hid (H.out.2.congr fun y _ => by rw [eh])
      clear H eh
      go_wp2_with fail
      go_loopw [14] (fun i wr => ∃ x : Nat, x ≤ N ∧ i = .int .i64 (x : Int) ∧ Hid (Below y1.heap.size y1 wr ∧ wr.rowIs bc 3 N (fun x => .int .i64 (cf q g N x : Nat)))) (fun i _ => N - (intOf i).toNat)
      case atStart => exact ⟨0, Nat.zero_le _, rfl, Lib.hid ⟨HB1.out, HQ.out⟩⟩
      case round =>
        obtain ⟨x, hx, rfl, J⟩ := hrel
        by_cases hx2 : x < N
        · have xI : (x : Int) < (N : Int) := by omega
          obtain ⟨ug, xg, ng⟩ := (uG_19.out.to J.out.1).at_ gN
          rw [LL.out g gN] at ng
          obtain ⟨Ag, cg, rfl⟩ := slform ng
          obtain ⟨mg, hmg⟩ : ∃ zz, (line q g).length = zz := ⟨_, rfl⟩
          rw [hmg] at ng xg
          have HA := Lib.hid fun W (h : Ns W (.slice Ag mg cg) (line q g)) => hasn_any (line q g) x (.slice Ag mg cg) W h
          have cx := J.out.2.cell hx2
          have CX := CFA.out g x gN hx2
          rw [CX] at cx
          have RD := Lib.hid (RW.out.go J.out.1)
          have XG := Lib.hid xg
          have NG := Lib.hid ng
          have JB := Lib.hid J.out.1
          have JQ := Lib.hid J.out.2
          have CF := Lib.hid CX
          clear J hmg xg ng CX
          have qI : ((q + 1 : Nat) : Int) = (q : Int) + 1 := by omega
          have q1 : ¬ ((q : Int) + 1 = 0) := by omega
          have wq : IntKind.i64.wrap ((q : Int) + 1) = (q : Int) + 1 := by rw [IntKind.wrap_i64]; omega
          by_cases ex : has (line q g) x = true
          · rw [ex] at HA cx
            simp only [cond_true] at cx
            have KX : Hid (wr.cell? ⟨bc, x, none⟩ = some (.int .i64 0)) := Lib.hid cx
            clear cx ex
            go_wp2_with fail
            refine wp_region_held (P := Tryd.prog) (S := (fun w' : World => w'.cell? ⟨D, 1, none⟩ = some (.slice (some ⟨b1, o1, none⟩) N k1) ∧ w'.cell? ⟨b1, o1 + g, none⟩ = some (.slice Ag mg cg) ∧ w'.cell? ⟨bc, x, none⟩ = some (.int .i64 0))) rfl ?_
            change wpAnyH _ _ _ _ _ _ _ _ wr.drew
            have yhz2 : Below wr.heap.size wr wr.drew := (Below.refl wr.heap.size wr).drew
            generalize wr.drew = ywz1 at yhz2 ⊢
            have yhq3 : Below wr.heap.size wr ywz1 := yhz2
            have yR_4 := Lib.hid (Row.go RD.out yhq3)
            have yX_5 := Lib.hid (cell_to XG.out yhq3)
            have yN_6 := Lib.hid (Ns.to NG.out yhq3)
            have yC_7 := Lib.hid (cell_to KX.out yhq3)
            have yQ_8 := Lib.hid (rowTo JQ.out yhq3)
            have yHB_9 : Hid (Below y1.heap.size y1 ywz1) := Lib.hid (JB.out.trans (yhq3.mono JB.out.size))
            clear yhq3
            clear yhz2
            have yhS10 : (fun w' : World => w'.cell? ⟨D, 1, none⟩ = some (.slice (some ⟨b1, o1, none⟩) N k1) ∧ w'.cell? ⟨b1, o1 + g, none⟩ = some (.slice Ag mg cg) ∧ w'.cell? ⟨bc, x, none⟩ = some (.int .i64 0)) ywz1 := ⟨yR_4.out.cell 1, yX_5.out, yC_7.out⟩
            refine takeD (i := 0) (v := .pointer (some ⟨D, 1, none⟩)) (some 108) rfl rfl (by kernel_rfl) (by kernel_rfl) (by kernel_rfl) (fun _ _ _ h => h) (Or.inl ⟨by rfl, by rintro w' -; go_simp⟩) yhS10 ?_
            simp only [Act.put, List.setIfInBounds_toArray, List.set_cons_zero, List.set_cons_succ]
            refine takeD (i := 1) (v := .slice (some ⟨b1, o1, none⟩) N k1) (some 109) rfl rfl (by kernel_rfl) (by kernel_rfl) (by kernel_rfl) (fun _ _ _ h => h) (Or.inl ⟨by rfl, by rintro w' h; have hc := h.1; go_simp⟩) yhS10 ?_
            simp only [Act.put, List.setIfInBounds_toArray, List.set_cons_zero, List.set_cons_succ]
            refine takeD (i := 2) (v := .int .i64 (g : Int)) (some 110) rfl rfl (by kernel_rfl) (by kernel_rfl) (by kernel_rfl) (fun _ _ _ h => h) (Or.inl ⟨by rfl, by rintro w' -; go_simp⟩) yhS10 ?_
            simp only [Act.put, List.setIfInBounds_toArray, List.set_cons_zero, List.set_cons_succ]
            refine takeD (i := 3) (v := .pointer (some ⟨b1, o1 + g * 1, none⟩)) (some 111) rfl rfl (by kernel_rfl) (by kernel_rfl) (by kernel_rfl) (fun _ _ _ h => h) (Or.inl ⟨by rfl, by rintro w' -; go_simp⟩) yhS10 ?_
            simp only [Act.put, List.setIfInBounds_toArray, List.set_cons_zero, List.set_cons_succ]
            refine takeD (i := 4) (v := .slice Ag mg cg) (some 112) rfl rfl (by kernel_rfl) (by kernel_rfl) (by kernel_rfl) (fun _ _ _ h => h) (Or.inl ⟨by rfl, by rintro w' h; have hc := h.2.1; go_simp⟩) yhS10 ?_
            simp only [Act.put, List.setIfInBounds_toArray, List.set_cons_zero, List.set_cons_succ]
            refine takeD (i := 5) (v := .int .i64 (x : Int)) (some 113) rfl rfl (by kernel_rfl) (by kernel_rfl) (by kernel_rfl) (fun _ _ _ h => h) (Or.inl ⟨by rfl, by rintro w' -; go_simp⟩) yhS10 ?_
            simp only [Act.put, List.setIfInBounds_toArray, List.set_cons_zero, List.set_cons_succ]
            refine takeD (i := 7) (v := .slice (some ⟨bc, 0, none⟩) N N) (some 115) rfl rfl (by kernel_rfl) (by kernel_rfl) (by kernel_rfl) (fun _ _ _ h => h) (Or.inl ⟨by rfl, by rintro w' -; go_simp⟩) yhS10 ?_
            simp only [Act.put, List.setIfInBounds_toArray, List.set_cons_zero, List.set_cons_succ]
            refine takeD (i := 8) (v := .int .i64 (x : Int)) (some 116) rfl rfl (by kernel_rfl) (by kernel_rfl) (by kernel_rfl) (fun _ _ _ h => h) (Or.inl ⟨by rfl, by rintro w' -; go_simp⟩) yhS10 ?_
            simp only [Act.put, List.setIfInBounds_toArray, List.set_cons_zero, List.set_cons_succ]
            refine takeD (i := 9) (v := .pointer (some ⟨bc, x * 1, none⟩)) (some 117) rfl rfl (by kernel_rfl) (by kernel_rfl) (by kernel_rfl) (fun _ _ _ h => h) (Or.inl ⟨by rfl, by rintro w' -; go_simp⟩) yhS10 ?_
            simp only [Act.put, List.setIfInBounds_toArray, List.set_cons_zero, List.set_cons_succ]
            refine takeD (i := 10) (v := .int .i64 0) (some 118) rfl rfl (by kernel_rfl) (by kernel_rfl) (by kernel_rfl) (fun _ _ _ h => h) (Or.inl ⟨by rfl, by rintro w' h; have hc := h.2.2; go_simp⟩) yhS10 ?_
            simp only [Act.put, List.setIfInBounds_toArray, List.set_cons_zero, List.set_cons_succ]
            refine takeD (i := 11) (v := .bool true) (some 119) rfl rfl (by kernel_rfl) (by kernel_rfl) (by kernel_rfl) (fun _ _ _ h => h) (Or.inl ⟨by rfl, by rintro w' -; go_simp⟩) yhS10 ?_
            simp only [Act.put, List.setIfInBounds_toArray, List.set_cons_zero, List.set_cons_succ]
            refine wpAnyH_ready (rs := [6]) (by kernel_rfl) (by simp) ?_
            refine AllReadyH.cons rfl (fun yK11 hyK11 => ?_) AllReadyH.nil
            have HyK11 := Lib.hid hyK11
            clear hyK11
            rw [if_pos (by rfl)]
            go_simp
            refine (HA.out _ yN_6.out).mono ?_
            rintro e yz12 ⟨rfl, yhz13⟩
            obtain rfl := yhz13.symm
            have yhS14 : (fun w' : World => w'.cell? ⟨D, 1, none⟩ = some (.slice (some ⟨b1, o1, none⟩) N k1) ∧ w'.cell? ⟨b1, o1 + g, none⟩ = some (.slice Ag mg cg) ∧ w'.cell? ⟨bc, x, none⟩ = some (.int .i64 0)) ywz1 := ⟨yR_4.out.cell 1, yX_5.out, yC_7.out⟩
            refine HyK11.out _ _ yhS14 fun _ => ?_
            try simp only [Act.put, List.setIfInBounds_toArray, List.set_cons_zero, List.set_cons_succ]
            refine takeD (i := 12) (v := .bool false) (some 120) rfl rfl (by kernel_rfl) (by kernel_rfl) (by kernel_rfl) (fun _ _ _ h => h) (Or.inl ⟨by rfl, by rintro w' -; go_simp⟩) yhS14 ?_
            simp only [Act.put, List.setIfInBounds_toArray, List.set_cons_zero, List.set_cons_succ]
            refine takeD (i := 13) (v := .bool false) (some 121) rfl rfl (by kernel_rfl) (by kernel_rfl) (by kernel_rfl) (fun _ _ _ h => h) (Or.inl ⟨by rfl, by rintro w' -; go_simp⟩) yhS14 ?_
            simp only [Act.put, List.setIfInBounds_toArray, List.set_cons_zero, List.set_cons_succ]
            refine takeD (i := 14) (v := .slice (some ⟨bc, 0, none⟩) N N) (some 122) rfl rfl (by kernel_rfl) (by kernel_rfl) (by kernel_rfl) (fun _ _ _ h => h) (Or.inl ⟨by rfl, by rintro w' -; go_simp⟩) yhS14 ?_
            simp only [Act.put, List.setIfInBounds_toArray, List.set_cons_zero, List.set_cons_succ]
            refine takeD (i := 15) (v := .int .i64 (x : Int)) (some 123) rfl rfl (by kernel_rfl) (by kernel_rfl) (by kernel_rfl) (fun _ _ _ h => h) (Or.inl ⟨by rfl, by rintro w' -; go_simp⟩) yhS14 ?_
            simp only [Act.put, List.setIfInBounds_toArray, List.set_cons_zero, List.set_cons_succ]
            refine takeD (i := 16) (v := .pointer (some ⟨bc, x * 1, none⟩)) (some 124) rfl rfl (by kernel_rfl) (by kernel_rfl) (by kernel_rfl) (fun _ _ _ h => h) (Or.inl ⟨by rfl, by rintro w' -; go_simp⟩) yhS14 ?_
            simp only [Act.put, List.setIfInBounds_toArray, List.set_cons_zero, List.set_cons_succ]
            refine takeD (i := 17) (v := .int .i64 0) (some 125) rfl rfl (by kernel_rfl) (by kernel_rfl) (by kernel_rfl) (fun _ _ _ h => h) (Or.inl ⟨by rfl, by rintro w' h; have hc := h.2.2; go_simp⟩) yhS14 ?_
            simp only [Act.put, List.setIfInBounds_toArray, List.set_cons_zero, List.set_cons_succ]
            refine takeD (i := 18) (v := .bool false) (some 126) rfl rfl (by kernel_rfl) (by kernel_rfl) (by kernel_rfl) (fun _ _ _ h => h) (Or.inl ⟨by rfl, by rintro w' -; go_simp⟩) yhS14 ?_
            simp only [Act.put, List.setIfInBounds_toArray, List.set_cons_zero, List.set_cons_succ]
            refine takeD (i := 19) (v := .bool false) (some 127) rfl rfl (by kernel_rfl) (by kernel_rfl) (by kernel_rfl) (fun _ _ _ h => h) (Or.inl ⟨by rfl, by rintro w' -; go_simp⟩) yhS14 ?_
            simp only [Act.put, List.setIfInBounds_toArray, List.set_cons_zero, List.set_cons_succ]
            refine takeD (i := 20) (v := undef) (some 128) rfl rfl (by kernel_rfl) (by kernel_rfl) (by kernel_rfl) (fun _ _ _ h => h) (Or.inr ⟨by rfl, rfl⟩) yhS14 ?_
            simp only [Act.put, List.setIfInBounds_toArray, List.set_cons_zero, List.set_cons_succ]
            refine takeD (i := 21) (v := undef) (some 129) rfl rfl (by kernel_rfl) (by kernel_rfl) (by kernel_rfl) (fun _ _ _ h => h) (Or.inr ⟨by rfl, rfl⟩) yhS14 ?_
            simp only [Act.put, List.setIfInBounds_toArray, List.set_cons_zero, List.set_cons_succ]
            refine takeD (i := 22) (v := undef) (some 130) rfl rfl (by kernel_rfl) (by kernel_rfl) (by kernel_rfl) (fun _ _ _ h => h) (Or.inr ⟨by rfl, rfl⟩) yhS14 ?_
            simp only [Act.put, List.setIfInBounds_toArray, List.set_cons_zero, List.set_cons_succ]
            refine takeD (i := 23) (v := undef) (some 131) rfl rfl (by kernel_rfl) (by kernel_rfl) (by kernel_rfl) (fun _ _ _ h => h) (Or.inr ⟨by rfl, rfl⟩) yhS14 ?_
            simp only [Act.put, List.setIfInBounds_toArray, List.set_cons_zero, List.set_cons_succ]
            refine takeD (i := 24) (v := undef) (some 132) rfl rfl (by kernel_rfl) (by kernel_rfl) (by kernel_rfl) (fun _ _ _ h => h) (Or.inr ⟨by rfl, rfl⟩) yhS14 ?_
            simp only [Act.put, List.setIfInBounds_toArray, List.set_cons_zero, List.set_cons_succ]
            refine takeD (i := 25) (v := undef) (some 133) rfl rfl (by kernel_rfl) (by kernel_rfl) (by kernel_rfl) (fun _ _ _ h => h) (Or.inr ⟨by rfl, rfl⟩) yhS14 ?_
            simp only [Act.put, List.setIfInBounds_toArray, List.set_cons_zero, List.set_cons_succ]
            refine takeD (i := 26) (v := undef) (some 134) rfl rfl (by kernel_rfl) (by kernel_rfl) (by kernel_rfl) (fun _ _ _ h => h) (Or.inr ⟨by rfl, rfl⟩) yhS14 ?_
            simp only [Act.put, List.setIfInBounds_toArray, List.set_cons_zero, List.set_cons_succ]
            refine takeD (i := 27) (v := .bool false) (some 135) rfl rfl (by kernel_rfl) (by kernel_rfl) (by kernel_rfl) (fun _ _ _ h => h) (Or.inl ⟨by rfl, by rintro w' -; go_simp⟩) yhS14 ?_
            simp only [Act.put, List.setIfInBounds_toArray, List.set_cons_zero, List.set_cons_succ]
            refine takeD (i := 28) (v := .bool false) (some 136) rfl rfl (by kernel_rfl) (by kernel_rfl) (by kernel_rfl) (fun _ _ _ h => h) (Or.inl ⟨by rfl, by rintro w' -; go_simp⟩) yhS14 ?_
            simp only [Act.put, List.setIfInBounds_toArray, List.set_cons_zero, List.set_cons_succ]
            refine wpAnyH_done (by kernel_rfl) ?_ _
            go_wp2_with fail
            go_roundw
            case rel => exact ⟨x + 1, by omega, by go_num, Lib.hid ⟨yHB_9.out, yQ_8.out⟩⟩
            case measure => simp [intOf]; omega
          · have ex := Bool.eq_false_iff.2 ex
            rw [ex] at HA cx
            simp only [cond_false] at cx
            rw [qI] at cx
            have KX : Hid (wr.cell? ⟨bc, x, none⟩ = some (.int .i64 ((q : Int) + 1))) := Lib.hid cx
            clear cx ex
            go_wp2_with fail
            refine wp_region_held (P := Tryd.prog) (S := (fun w' : World => w'.cell? ⟨D, 1, none⟩ = some (.slice (some ⟨b1, o1, none⟩) N k1) ∧ w'.cell? ⟨b1, o1 + g, none⟩ = some (.slice Ag mg cg) ∧ w'.cell? ⟨bc, x, none⟩ = some (.int .i64 ((q : Int) + 1)))) rfl ?_
            change wpAnyH _ _ _ _ _ _ _ _ wr.drew
            have yhz2 : Below wr.heap.size wr wr.drew := (Below.refl wr.heap.size wr).drew
            generalize wr.drew = ywz1 at yhz2 ⊢
            have yhq3 : Below wr.heap.size wr ywz1 := yhz2
            have yR_4 := Lib.hid (Row.go RD.out yhq3)
            have yX_5 := Lib.hid (cell_to XG.out yhq3)
            have yN_6 := Lib.hid (Ns.to NG.out yhq3)
            have yC_7 := Lib.hid (cell_to KX.out yhq3)
            have yQ_8 := Lib.hid (rowTo JQ.out yhq3)
            have yHB_9 : Hid (Below y1.heap.size y1 ywz1) := Lib.hid (JB.out.trans (yhq3.mono JB.out.size))
            clear yhq3
            clear yhz2
            have yhS10 : (fun w' : World => w'.cell? ⟨D, 1, none⟩ = some (.slice (some ⟨b1, o1, none⟩) N k1) ∧ w'.cell? ⟨b1, o1 + g, none⟩ = some (.slice Ag mg cg) ∧ w'.cell? ⟨bc, x, none⟩ = some (.int .i64 ((q : Int) + 1))) ywz1 := ⟨yR_4.out.cell 1, yX_5.out, yC_7.out⟩
            refine takeD (i := 0) (v := .pointer (some ⟨D, 1, none⟩)) (some 108) rfl rfl (by kernel_rfl) (by kernel_rfl) (by kernel_rfl) (fun _ _ _ h => h) (Or.inl ⟨by rfl, by rintro w' -; go_simp⟩) yhS10 ?_
            simp only [Act.put, List.setIfInBounds_toArray, List.set_cons_zero, List.set_cons_succ]
            refine takeD (i := 1) (v := .slice (some ⟨b1, o1, none⟩) N k1) (some 109) rfl rfl (by kernel_rfl) (by kernel_rfl) (by kernel_rfl) (fun _ _ _ h => h) (Or.inl ⟨by rfl, by rintro w' h; have hc := h.1; go_simp⟩) yhS10 ?_
            simp only [Act.put, List.setIfInBounds_toArray, List.set_cons_zero, List.set_cons_succ]
            refine takeD (i := 2) (v := .int .i64 (g : Int)) (some 110) rfl rfl (by kernel_rfl) (by kernel_rfl) (by kernel_rfl) (fun _ _ _ h => h) (Or.inl ⟨by rfl, by rintro w' -; go_simp⟩) yhS10 ?_
            simp only [Act.put, List.setIfInBounds_toArray, List.set_cons_zero, List.set_cons_succ]
            refine takeD (i := 3) (v := .pointer (some ⟨b1, o1 + g * 1, none⟩)) (some 111) rfl rfl (by kernel_rfl) (by kernel_rfl) (by kernel_rfl) (fun _ _ _ h => h) (Or.inl ⟨by rfl, by rintro w' -; go_simp⟩) yhS10 ?_
            simp only [Act.put, List.setIfInBounds_toArray, List.set_cons_zero, List.set_cons_succ]
            refine takeD (i := 4) (v := .slice Ag mg cg) (some 112) rfl rfl (by kernel_rfl) (by kernel_rfl) (by kernel_rfl) (fun _ _ _ h => h) (Or.inl ⟨by rfl, by rintro w' h; have hc := h.2.1; go_simp⟩) yhS10 ?_
            simp only [Act.put, List.setIfInBounds_toArray, List.set_cons_zero, List.set_cons_succ]
            refine takeD (i := 5) (v := .int .i64 (x : Int)) (some 113) rfl rfl (by kernel_rfl) (by kernel_rfl) (by kernel_rfl) (fun _ _ _ h => h) (Or.inl ⟨by rfl, by rintro w' -; go_simp⟩) yhS10 ?_
            simp only [Act.put, List.setIfInBounds_toArray, List.set_cons_zero, List.set_cons_succ]
            refine takeD (i := 7) (v := .slice (some ⟨bc, 0, none⟩) N N) (some 115) rfl rfl (by kernel_rfl) (by kernel_rfl) (by kernel_rfl) (fun _ _ _ h => h) (Or.inl ⟨by rfl, by rintro w' -; go_simp⟩) yhS10 ?_
            simp only [Act.put, List.setIfInBounds_toArray, List.set_cons_zero, List.set_cons_succ]
            refine takeD (i := 8) (v := .int .i64 (x : Int)) (some 116) rfl rfl (by kernel_rfl) (by kernel_rfl) (by kernel_rfl) (fun _ _ _ h => h) (Or.inl ⟨by rfl, by rintro w' -; go_simp⟩) yhS10 ?_
            simp only [Act.put, List.setIfInBounds_toArray, List.set_cons_zero, List.set_cons_succ]
            refine takeD (i := 9) (v := .pointer (some ⟨bc, x * 1, none⟩)) (some 117) rfl rfl (by kernel_rfl) (by kernel_rfl) (by kernel_rfl) (fun _ _ _ h => h) (Or.inl ⟨by rfl, by rintro w' -; go_simp⟩) yhS10 ?_
            simp only [Act.put, List.setIfInBounds_toArray, List.set_cons_zero, List.set_cons_succ]
            refine takeD (i := 10) (v := .int .i64 ((q : Int) + 1)) (some 118) rfl rfl (by kernel_rfl) (by kernel_rfl) (by kernel_rfl) (fun _ _ _ h => h) (Or.inl ⟨by rfl, by rintro w' h; have hc := h.2.2; go_simp⟩) yhS10 ?_
            simp only [Act.put, List.setIfInBounds_toArray, List.set_cons_zero, List.set_cons_succ]
            refine takeD (i := 11) (v := .bool false) (some 119) rfl rfl (by kernel_rfl) (by kernel_rfl) (by kernel_rfl) (fun _ _ _ h => h) (Or.inl ⟨by rfl, by rintro w' -; go_simp⟩) yhS10 ?_
            simp only [Act.put, List.setIfInBounds_toArray, List.set_cons_zero, List.set_cons_succ]
            refine wpAnyH_ready (rs := [6]) (by kernel_rfl) (by simp) ?_
            refine AllReadyH.cons rfl (fun yK11 hyK11 => ?_) AllReadyH.nil
            have HyK11 := Lib.hid hyK11
            clear hyK11
            rw [if_pos (by rfl)]
            go_simp
            refine (HA.out _ yN_6.out).mono ?_
            rintro e yz12 ⟨rfl, yhz13⟩
            obtain rfl := yhz13.symm
            have yhS14 : (fun w' : World => w'.cell? ⟨D, 1, none⟩ = some (.slice (some ⟨b1, o1, none⟩) N k1) ∧ w'.cell? ⟨b1, o1 + g, none⟩ = some (.slice Ag mg cg) ∧ w'.cell? ⟨bc, x, none⟩ = some (.int .i64 ((q : Int) + 1))) ywz1 := ⟨yR_4.out.cell 1, yX_5.out, yC_7.out⟩
            refine HyK11.out _ _ yhS14 fun _ => ?_
            try simp only [Act.put, List.setIfInBounds_toArray, List.set_cons_zero, List.set_cons_succ]
            refine takeD (i := 12) (v := .bool false) (some 120) rfl rfl (by kernel_rfl) (by kernel_rfl) (by kernel_rfl) (fun _ _ _ h => h) (Or.inl ⟨by rfl, by rintro w' -; go_simp⟩) yhS14 ?_
            simp only [Act.put, List.setIfInBounds_toArray, List.set_cons_zero, List.set_cons_succ]
            refine takeD (i := 13) (v := .bool false) (some 121) rfl rfl (by kernel_rfl) (by kernel_rfl) (by kernel_rfl) (fun _ _ _ h => h) (Or.inl ⟨by rfl, by rintro w' -; go_simp⟩) yhS14 ?_
            simp only [Act.put, List.setIfInBounds_toArray, List.set_cons_zero, List.set_cons_succ]
            refine takeD (i := 14) (v := .slice (some ⟨bc, 0, none⟩) N N) (some 122) rfl rfl (by kernel_rfl) (by kernel_rfl) (by kernel_rfl) (fun _ _ _ h => h) (Or.inl ⟨by rfl, by rintro w' -; go_simp⟩) yhS14 ?_
            simp only [Act.put, List.setIfInBounds_toArray, List.set_cons_zero, List.set_cons_succ]
            refine takeD (i := 15) (v := .int .i64 (x : Int)) (some 123) rfl rfl (by kernel_rfl) (by kernel_rfl) (by kernel_rfl) (fun _ _ _ h => h) (Or.inl ⟨by rfl, by rintro w' -; go_simp⟩) yhS14 ?_
            simp only [Act.put, List.setIfInBounds_toArray, List.set_cons_zero, List.set_cons_succ]
            refine takeD (i := 16) (v := .pointer (some ⟨bc, x * 1, none⟩)) (some 124) rfl rfl (by kernel_rfl) (by kernel_rfl) (by kernel_rfl) (fun _ _ _ h => h) (Or.inl ⟨by rfl, by rintro w' -; go_simp⟩) yhS14 ?_
            simp only [Act.put, List.setIfInBounds_toArray, List.set_cons_zero, List.set_cons_succ]
            refine takeD (i := 17) (v := .int .i64 ((q : Int) + 1)) (some 125) rfl rfl (by kernel_rfl) (by kernel_rfl) (by kernel_rfl) (fun _ _ _ h => h) (Or.inl ⟨by rfl, by rintro w' h; have hc := h.2.2; go_simp⟩) yhS14 ?_
            simp only [Act.put, List.setIfInBounds_toArray, List.set_cons_zero, List.set_cons_succ]
            refine takeD (i := 18) (v := .bool true) (some 126) rfl rfl (by kernel_rfl) (by kernel_rfl) (by kernel_rfl) (fun _ _ _ h => h) (Or.inl ⟨by rfl, by rintro w' -; go_simp⟩) yhS14 ?_
            simp only [Act.put, List.setIfInBounds_toArray, List.set_cons_zero, List.set_cons_succ]
            refine takeD (i := 19) (v := .bool true) (some 127) rfl rfl (by kernel_rfl) (by kernel_rfl) (by kernel_rfl) (fun _ _ _ h => h) (Or.inl ⟨by rfl, by rintro w' -; go_simp⟩) yhS14 ?_
            simp only [Act.put, List.setIfInBounds_toArray, List.set_cons_zero, List.set_cons_succ]
            refine takeD (i := 20) (v := .slice (some ⟨bc, 0, none⟩) N N) (some 128) rfl rfl (by kernel_rfl) (by kernel_rfl) (by kernel_rfl) (fun _ _ _ h => h) (Or.inl ⟨by rfl, by rintro w' -; go_simp⟩) yhS14 ?_
            simp only [Act.put, List.setIfInBounds_toArray, List.set_cons_zero, List.set_cons_succ]
            refine takeD (i := 21) (v := .int .i64 (x : Int)) (some 129) rfl rfl (by kernel_rfl) (by kernel_rfl) (by kernel_rfl) (fun _ _ _ h => h) (Or.inl ⟨by rfl, by rintro w' -; go_simp⟩) yhS14 ?_
            simp only [Act.put, List.setIfInBounds_toArray, List.set_cons_zero, List.set_cons_succ]
            refine takeD (i := 22) (v := .pointer (some ⟨bc, x * 1, none⟩)) (some 130) rfl rfl (by kernel_rfl) (by kernel_rfl) (by kernel_rfl) (fun _ _ _ h => h) (Or.inl ⟨by rfl, by rintro w' -; go_simp⟩) yhS14 ?_
            simp only [Act.put, List.setIfInBounds_toArray, List.set_cons_zero, List.set_cons_succ]
            refine takeD (i := 23) (v := .int .i64 ((q : Int) + 1)) (some 131) rfl rfl (by kernel_rfl) (by kernel_rfl) (by kernel_rfl) (fun _ _ _ h => h) (Or.inl ⟨by rfl, by rintro w' h; have hc := h.2.2; go_simp⟩) yhS14 ?_
            simp only [Act.put, List.setIfInBounds_toArray, List.set_cons_zero, List.set_cons_succ]
            refine takeD (i := 24) (v := .int .i64 (q : Int)) (some 132) rfl rfl (by kernel_rfl) (by kernel_rfl) (by kernel_rfl) (fun _ _ _ h => h) (Or.inl ⟨by rfl, by rintro w' -; go_simp⟩) yhS14 ?_
            simp only [Act.put, List.setIfInBounds_toArray, List.set_cons_zero, List.set_cons_succ]
            refine takeD (i := 25) (v := .int .i64 ((q : Int) + 1)) (some 133) rfl rfl (by kernel_rfl) (by kernel_rfl) (by kernel_rfl) (fun _ _ _ h => h) (Or.inl ⟨by rfl, by rintro w' -; go_simp⟩) yhS14 ?_
            simp only [Act.put, List.setIfInBounds_toArray, List.set_cons_zero, List.set_cons_succ]
            refine takeD (i := 26) (v := .bool false) (some 134) rfl rfl (by kernel_rfl) (by kernel_rfl) (by kernel_rfl) (fun _ _ _ h => h) (Or.inl ⟨by rfl, by rintro w' -; go_simp⟩) yhS14 ?_
            simp only [Act.put, List.setIfInBounds_toArray, List.set_cons_zero, List.set_cons_succ]
            refine takeD (i := 27) (v := .bool false) (some 135) rfl rfl (by kernel_rfl) (by kernel_rfl) (by kernel_rfl) (fun _ _ _ h => h) (Or.inl ⟨by rfl, by rintro w' -; go_simp⟩) yhS14 ?_
            simp only [Act.put, List.setIfInBounds_toArray, List.set_cons_zero, List.set_cons_succ]
            refine takeD (i := 28) (v := .bool false) (some 136) rfl rfl (by kernel_rfl) (by kernel_rfl) (by kernel_rfl) (fun _ _ _ h => h) (Or.inl ⟨by rfl, by rintro w' -; go_simp⟩) yhS14 ?_
            simp only [Act.put, List.setIfInBounds_toArray, List.set_cons_zero, List.set_cons_succ]
            refine wpAnyH_done (by kernel_rfl) ?_ _
            go_wp2_with fail
            go_roundw
            case rel => exact ⟨x + 1, by omega, by go_num, Lib.hid ⟨yHB_9.out, yQ_8.out⟩⟩
            case measure => simp [intOf]; omega
        · have xI : ¬ (x : Int) < (N : Int) := by omega
          have HB9 := Lib.hid (uHB_20.out.trans (J.out.1.mono uHB_20.out.size))
          clear J
          go_wp2_with fail
          go_ret
          exact ⟨rfl, HB9.out⟩
end Go.Proofs.YtjbgfpbidjhlkaaDoor
