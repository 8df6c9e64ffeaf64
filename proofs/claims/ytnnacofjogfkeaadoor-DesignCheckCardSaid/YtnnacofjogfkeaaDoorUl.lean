/- Contracts: the reference's Projective. WRITTEN BY gen_Ul.py. -/
import Derived.Test.YtnnacofjogfkeaaDoorUk
namespace Go.Proofs.YtnnacofjogfkeaaDoor
open Go Go.RowKit Pl
set_option linter.unusedVariables false
set_option linter.unusedSimpArgs false

/-- The lines below n. -/
def lnS (q n : Nat) : List (List Nat) := (List.range n).map (line q)
theorem lnS_len (q n : Nat) : (lnS q n).length = n := by simp [lnS]
theorem lnS_succ (q n : Nat) : lnS q (n + 1) = lnS q n ++ [line q n] := by unfold lnS; rw [List.range_succ, List.map_append]; rfl
theorem dotTo_lt' {q : Nat} {l p : C3} (hq : q ∈ szs) (hl : El q l) (hp : El q p) (k : Nat) (hk : k ≤ 3) : dotTo q l p k < q := dotTo_lt hq hl hp k hk

set_option maxHeartbeats 4000000 in
set_option maxRecDepth 100000 in
theorem rproj_fx (q : Nat) (w : World) (hq : q ∈ szs) : Calls Tryd.prog 31 #[.int .i64 (q : Int)] w (rdFx (cN q) ((List.range (cN q)).map (line q)) w) := by
  obtain ⟨B, hB⟩ : ∃ B, w.heap.size = B := ⟨_, rfl⟩
  obtain ⟨W, hW⟩ : ∃ W, w.alloc (.cells #[.int .i64 0, .slice none 0 0] 25) = W := ⟨_, rfl⟩
  have b0 : Below w.heap.size w W := by rw [← hW]; exact (Below.refl _ _).alloc (Nat.le_refl _) _
  have r0 : Row W B 25 #[.int .i64 0, .slice none 0 0] := by rw [← hW, ← hB]; exact row_new' _ _ _
  have CR := Lib.hid (coordinates_any q W hq)
  have B0 := Lib.hid b0
  have R0 := Lib.hid r0
  have HW := Lib.hid hW
  have HE := Lib.hid hB
  have QS := Lib.hid hq
  have QZ := Lib.hid (szs_ok hq).1
  have h57 := (szs_ok hq).2.2.2.1
  have q7 := (szs_ok hq).2.2.1
  have AL : Hid ((all q).length = cN q) := Lib.hid (by rw [all_pt hq]; simp)
  obtain ⟨N, hN⟩ : ∃ N, cN q = N := ⟨_, rfl⟩
  have HN := Lib.hid hN
  have n1 : 1 ≤ N := by rw [← hN]; unfold cN; omega
  rw [hN] at h57 AL ⊢
  clear hq b0 r0 hW hB hN
  go_enter Tryd.func31, Tryd.ntmps31
  go_wp2_with fail
  rw [HE.out, HW.out]
  refine CR.out.mono ?_
  rintro e w1 ⟨vc, rfl, hc, hb⟩
  have B1 := Lib.hid (B0.out.trans (hb.mono B0.out.size))
  have R1 := Lib.hid (R0.out.go hb)
  obtain ⟨g, cap, rfl, -, hcap, hcs⟩ := hc.cs (by rw [AL.out]; omega)
  rw [AL.out] at hcap hcs ⊢
  have CS := Lib.hid (show Cs w1 g N (pt q) from fun i hi => by
    have := hcs i hi
    have e := all_at QS.out (show i < cN q by rw [HN.out]; exact hi)
    simp only [e] at this
    exact this)
  clear hc hb hcs CR
  obtain ⟨bd, hbd⟩ : ∃ bd, w1.heap.size = bd := ⟨_, rfl⟩
  have hb2 : Below w1.heap.size w1 (w1.alloc (.cells #[.int .i64 (N : Int), .slice none 0 0] 25)) := (Below.refl _ _).alloc (Nat.le_refl _) _
  have RD := Lib.hid (row_new' w1 #[.int .i64 (N : Int), .slice none 0 0] 25)
  have B2 := Lib.hid hb2
  have SZ2 : Hid (bd < (w1.alloc (.cells #[.int .i64 (N : Int), .slice none 0 0] 25)).heap.size) := Lib.hid (by rw [World.size_alloc, hbd]; omega)
  rw [hbd] at RD
  have HD := Lib.hid hbd
  clear hb2 hbd
  go_wp2_with fail
  rw [HD.out]
  obtain ⟨w2, hw2⟩ : ∃ w2, w1.alloc (.cells #[.int .i64 (N : Int), .slice none 0 0] 25) = w2 := ⟨_, rfl⟩
  rw [hw2] at RD B2 SZ2 ⊢
  obtain ⟨K, hK⟩ : ∃ K, w2.heap.size = K := ⟨_, rfl⟩
  rw [hK] at SZ2
  have HK := Lib.hid hK
  clear hw2 hK
  have ROW0 : Hid (Below w1.heap.size w1 w2 ∧ Row w2 bd 25 #[.int .i64 (N : Int), .slice none 0 0] ∧ OwnR K w2 (.slice none 0 0) (lnS q 0) ∧ K ≤ w2.heap.size) := Lib.hid ⟨B2.out, RD.out, OwnR.nil_ _ _, Nat.le_of_eq HK.out.symm⟩
  clear RD B2
  go_loopw [5, 6, 7, 8, 9] (fun i _ _ _ _ wr => ∃ n : Nat, n ≤ N ∧ i = .int .i64 (n : Int) ∧ ∃ v, Hid (Below w1.heap.size w1 wr ∧ Row wr bd 25 #[.int .i64 (N : Int), v] ∧ OwnR K wr v (lnS q n) ∧ K ≤ wr.heap.size)) (fun i _ _ _ _ _ => N - (intOf i).toNat)
  case atStart => exact ⟨0, Nat.zero_le _, rfl, _, ROW0⟩
  case round =>
    obtain ⟨i, hi, rfl, v, H⟩ := hrel
    obtain ⟨wo, rfl⟩ : ∃ wo, wo = wr := ⟨_, rfl⟩
    by_cases hi2 : i < N
    · have iI : (i : Int) < (N : Int) := by omega
      have LN : Hid (line q i = lineTo q (pt q i) N) := Lib.hid (by unfold line; rw [HN.out])
      have EI := Lib.hid (pt_el QS.out (show i < cN q by rw [HN.out]; exact hi2)).1
      have SUCI := Lib.hid (lnS_succ q i)
      have HO := Lib.hid H.out.1
      have HR := Lib.hid H.out.2.1
      have HL := Lib.hid H.out.2.2.1
      have HKK := Lib.hid H.out.2.2.2
      clear H
      obtain ⟨ci, hci⟩ : ∃ c, pt q i = c := ⟨_, rfl⟩
      rw [hci] at LN EI
      have PI := Lib.hid hci
      clear hci
      go_wp2_with fail
      go_loopw [6, 7, 8, 9] (fun u k _ _ wr => ∃ n : Nat, n ≤ N ∧ k = .int .i64 (n : Int) ∧ Hid (Below wo.heap.size wo wr ∧ OwnL Nv wr wo.heap.size 3 u (lineTo q ci n))) (fun _ k _ _ _ => N - (intOf k).toNat)
      case atStart => exact ⟨0, Nat.zero_le _, rfl, Lib.hid ⟨Below.refl _ _, OwnL.nil_ _ _ _⟩⟩
      case round =>
        obtain ⟨k, hk, rfl, I⟩ := hrel
        obtain ⟨wp, rfl⟩ : ∃ wp, wp = wr := ⟨_, rfl⟩
        obtain ⟨A6, c6, rfl⟩ := slform I.out.2.sl
        by_cases hk2 : k < N
        · have kI : (k : Int) < (N : Int) := by omega
          have EK := Lib.hid (pt_el QS.out (show k < cN q by rw [HN.out]; exact hk2)).1
          have SUCK := Lib.hid (lineTo_succ q ci k)
          have LEK := lineTo_len q ci k
          have IB := Lib.hid I.out.1
          have IO := Lib.hid I.out.2
          obtain ⟨l, hl⟩ : ∃ l, lineTo q ci k = l := ⟨_, rfl⟩
          rw [hl] at SUCK IO LEK ⊢
          obtain ⟨m, hm⟩ : ∃ m, l.length = m := ⟨_, rfl⟩
          rw [hm] at IO LEK ⊢
          have LM := Lib.hid hm
          obtain ⟨ck, hck⟩ : ∃ c, pt q k = c := ⟨_, rfl⟩
          rw [hck] at EK SUCK
          have PK := Lib.hid hck
          have D3 : Hid (dotTo q ci ck 3 = dot q ci ck) := Lib.hid (dotTo_3 q ci ck)
          obtain ⟨x, hx⟩ : ∃ x, dot q ci ck = x := ⟨_, rfl⟩
          rw [hx] at SUCK D3
          clear I hl hm hck hx
          go_wp2_with fail
          go_loopw [8, 9] (fun s n wr => ∃ j : Nat, j ≤ 3 ∧ n = .int .i64 (j : Int) ∧ s = .int .i64 (dotTo q ci ck j : Nat) ∧ Hid (Below wp.heap.size wp wr)) (fun _ n _ => 3 - (intOf n).toNat)
          case atStart => exact ⟨0, by omega, rfl, rfl, Lib.hid (Below.refl _ _)⟩
          case round =>
            obtain ⟨j, hj, rfl, rfl, J⟩ := hrel
            by_cases hj3 : j < 3
            · have jI : (j : Int) < 3 := by omega
              have ALL := Lib.hid (HO.out.trans ((IB.out.trans (J.out.mono IB.out.size)).mono HO.out.size))
              have cA := Lib.hid ((CS.out.to ALL.out i hi2).at_ hj3)
              have cE := Lib.hid ((CS.out.to ALL.out k hk2).at_ hj3)
              rw [PI.out] at cA
              rw [PK.out] at cE
              have xl := g3_lt EI.out hj3
              have yl := g3_lt EK.out hj3
              have sl := dotTo_lt QS.out EI.out EK.out j (by omega)
              have DS : Hid (dotTo q ci ck (j + 1) = Sf.addF q (dotTo q ci ck j) (Sf.mulF q (g3 ci j) (g3 ck j))) := Lib.hid rfl
              have ml := Sf.mul_lt QZ.out xl yl
              have MM := Lib.hid fun W => rmul_any q (g3 ci j) (g3 ck j) W QZ.out xl yl
              have MA := Lib.hid fun W => radd_any q (dotTo q ci ck j) (Sf.mulF q (g3 ci j) (g3 ck j)) W QZ.out sl ml
              obtain ⟨a, ha⟩ : ∃ a, g3 ci j = a := ⟨_, rfl⟩
              obtain ⟨b, hb⟩ : ∃ b, g3 ck j = b := ⟨_, rfl⟩
              rw [ha] at cA
              rw [hb] at cE
              rw [ha, hb] at DS MM MA
              obtain ⟨t, ht⟩ : ∃ t, Sf.mulF q a b = t := ⟨_, rfl⟩
              rw [ht] at DS MM MA
              obtain ⟨s, hs⟩ : ∃ s, dotTo q ci ck j = s := ⟨_, rfl⟩
              rw [hs] at DS MA ⊢
              obtain ⟨r, hr⟩ : ∃ r, Sf.addF q s t = r := ⟨_, rfl⟩
              rw [hr] at DS MA
              have JB := Lib.hid J.out
              clear ha hb ht hs hr xl yl sl ml J ALL
              go_wp2_with fail
              refine wp_region_held (P := Tryd.prog) (S := (fun w' : World => w'.cell? ⟨g, i * 3 + j, none⟩ = some (.int .i64 (a : Int)) ∧ w'.cell? ⟨g, k * 3 + j, none⟩ = some (.int .i64 (b : Int)))) rfl ?_
              change wpAnyH _ _ _ _ _ _ _ _ wr.drew
              have zhz2 : Below wr.heap.size wr wr.drew := (Below.refl wr.heap.size wr).drew
              generalize wr.drew = zwz1 at zhz2 ⊢
              have zhq3 : Below wr.heap.size wr zwz1 := zhz2
              have zA_4 := Lib.hid (cell_to cA.out zhq3)
              have zE_5 := Lib.hid (cell_to cE.out zhq3)
              have zHB_6 : Hid (Below wp.heap.size wp zwz1) := Lib.hid (JB.out.trans (zhq3.mono JB.out.size))
              clear zhq3
              clear zhz2
              have zhS7 : (fun w' : World => w'.cell? ⟨g, i * 3 + j, none⟩ = some (.int .i64 (a : Int)) ∧ w'.cell? ⟨g, k * 3 + j, none⟩ = some (.int .i64 (b : Int))) zwz1 := ⟨zA_4.out, zE_5.out⟩
              refine takeD (i := 0) (v := .int .i64 (q : Int)) (some 31) rfl rfl (by kernel_rfl) (by kernel_rfl) (by kernel_rfl) (fun _ _ _ h => h) (Or.inl ⟨by rfl, by rintro w' -; go_simp⟩) zhS7 ?_
              simp only [Act.put, List.setIfInBounds_toArray, List.set_cons_zero, List.set_cons_succ]
              refine takeD (i := 1) (v := .int .i64 (s : Int)) (some 32) rfl rfl (by kernel_rfl) (by kernel_rfl) (by kernel_rfl) (fun _ _ _ h => h) (Or.inl ⟨by rfl, by rintro w' -; go_simp⟩) zhS7 ?_
              simp only [Act.put, List.setIfInBounds_toArray, List.set_cons_zero, List.set_cons_succ]
              refine takeD (i := 2) (v := .int .i64 (q : Int)) (some 33) rfl rfl (by kernel_rfl) (by kernel_rfl) (by kernel_rfl) (fun _ _ _ h => h) (Or.inl ⟨by rfl, by rintro w' -; go_simp⟩) zhS7 ?_
              simp only [Act.put, List.setIfInBounds_toArray, List.set_cons_zero, List.set_cons_succ]
              refine takeD (i := 3) (v := .slice (some ⟨g, 0, none⟩) N cap) (some 34) rfl rfl (by kernel_rfl) (by kernel_rfl) (by kernel_rfl) (fun _ _ _ h => h) (Or.inl ⟨by rfl, by rintro w' -; go_simp⟩) zhS7 ?_
              simp only [Act.put, List.setIfInBounds_toArray, List.set_cons_zero, List.set_cons_succ]
              refine takeD (i := 4) (v := .int .i64 (i : Int)) (some 35) rfl rfl (by kernel_rfl) (by kernel_rfl) (by kernel_rfl) (fun _ _ _ h => h) (Or.inl ⟨by rfl, by rintro w' -; go_simp⟩) zhS7 ?_
              simp only [Act.put, List.setIfInBounds_toArray, List.set_cons_zero, List.set_cons_succ]
              refine takeD (i := 5) (v := .int .i64 (j : Int)) (some 36) rfl rfl (by kernel_rfl) (by kernel_rfl) (by kernel_rfl) (fun _ _ _ h => h) (Or.inl ⟨by rfl, by rintro w' -; go_simp⟩) zhS7 ?_
              simp only [Act.put, List.setIfInBounds_toArray, List.set_cons_zero, List.set_cons_succ]
              refine takeD (i := 6) (v := .pointer (some ⟨g, i * 3, none⟩)) (some 37) rfl rfl (by kernel_rfl) (by kernel_rfl) (by kernel_rfl) (fun _ _ _ h => h) (Or.inl ⟨by rfl, by rintro w' -; go_simp⟩) zhS7 ?_
              simp only [Act.put, List.setIfInBounds_toArray, List.set_cons_zero, List.set_cons_succ]
              refine takeD (i := 7) (v := .pointer (some ⟨g, i * 3 + j * 1, none⟩)) (some 38) rfl rfl (by kernel_rfl) (by kernel_rfl) (by kernel_rfl) (fun _ _ _ h => h) (Or.inl ⟨by rfl, by rintro w' -; go_simp⟩) zhS7 ?_
              simp only [Act.put, List.setIfInBounds_toArray, List.set_cons_zero, List.set_cons_succ]
              refine takeD (i := 8) (v := .int .i64 (a : Int)) (some 39) rfl rfl (by kernel_rfl) (by kernel_rfl) (by kernel_rfl) (fun _ _ _ h => h) (Or.inl ⟨by rfl, by rintro w' h; have hc := h.1; go_simp⟩) zhS7 ?_
              simp only [Act.put, List.setIfInBounds_toArray, List.set_cons_zero, List.set_cons_succ]
              refine takeD (i := 9) (v := .slice (some ⟨g, 0, none⟩) N cap) (some 40) rfl rfl (by kernel_rfl) (by kernel_rfl) (by kernel_rfl) (fun _ _ _ h => h) (Or.inl ⟨by rfl, by rintro w' -; go_simp⟩) zhS7 ?_
              simp only [Act.put, List.setIfInBounds_toArray, List.set_cons_zero, List.set_cons_succ]
              refine takeD (i := 10) (v := .int .i64 (k : Int)) (some 41) rfl rfl (by kernel_rfl) (by kernel_rfl) (by kernel_rfl) (fun _ _ _ h => h) (Or.inl ⟨by rfl, by rintro w' -; go_simp⟩) zhS7 ?_
              simp only [Act.put, List.setIfInBounds_toArray, List.set_cons_zero, List.set_cons_succ]
              refine takeD (i := 11) (v := .int .i64 (j : Int)) (some 42) rfl rfl (by kernel_rfl) (by kernel_rfl) (by kernel_rfl) (fun _ _ _ h => h) (Or.inl ⟨by rfl, by rintro w' -; go_simp⟩) zhS7 ?_
              simp only [Act.put, List.setIfInBounds_toArray, List.set_cons_zero, List.set_cons_succ]
              refine takeD (i := 12) (v := .pointer (some ⟨g, k * 3, none⟩)) (some 43) rfl rfl (by kernel_rfl) (by kernel_rfl) (by kernel_rfl) (fun _ _ _ h => h) (Or.inl ⟨by rfl, by rintro w' -; go_simp⟩) zhS7 ?_
              simp only [Act.put, List.setIfInBounds_toArray, List.set_cons_zero, List.set_cons_succ]
              refine takeD (i := 13) (v := .pointer (some ⟨g, k * 3 + j * 1, none⟩)) (some 44) rfl rfl (by kernel_rfl) (by kernel_rfl) (by kernel_rfl) (fun _ _ _ h => h) (Or.inl ⟨by rfl, by rintro w' -; go_simp⟩) zhS7 ?_
              simp only [Act.put, List.setIfInBounds_toArray, List.set_cons_zero, List.set_cons_succ]
              refine takeD (i := 14) (v := .int .i64 (b : Int)) (some 45) rfl rfl (by kernel_rfl) (by kernel_rfl) (by kernel_rfl) (fun _ _ _ h => h) (Or.inl ⟨by rfl, by rintro w' h; have hc := h.2; go_simp⟩) zhS7 ?_
              simp only [Act.put, List.setIfInBounds_toArray, List.set_cons_zero, List.set_cons_succ]
              refine wpAnyH_ready (rs := [15]) (by kernel_rfl) (by simp) ?_
              refine AllReadyH.cons rfl (fun zK8 hzK8 => ?_) AllReadyH.nil
              have HzK8 := Lib.hid hzK8
              clear hzK8
              rw [if_pos (by rfl)]
              go_simp
              refine (MM.out _).mono ?_
              rintro e zx9 ⟨rfl, hb⟩
              have zhq10 : Below zwz1.heap.size zwz1 zx9 := hb
              have zA_11 := Lib.hid (cell_to zA_4.out zhq10)
              have zE_12 := Lib.hid (cell_to zE_5.out zhq10)
              have zHB_13 : Hid (Below wp.heap.size wp zx9) := Lib.hid (zHB_6.out.trans (zhq10.mono zHB_6.out.size))
              clear zhq10
              clear hb
              have zhS14 : (fun w' : World => w'.cell? ⟨g, i * 3 + j, none⟩ = some (.int .i64 (a : Int)) ∧ w'.cell? ⟨g, k * 3 + j, none⟩ = some (.int .i64 (b : Int))) zx9 := ⟨zA_11.out, zE_12.out⟩
              refine HzK8.out _ _ zhS14 fun _ => ?_
              try simp only [Act.put, List.setIfInBounds_toArray, List.set_cons_zero, List.set_cons_succ]
              refine wpAnyH_ready (rs := [16]) (by kernel_rfl) (by simp) ?_
              refine AllReadyH.cons rfl (fun zK15 hzK15 => ?_) AllReadyH.nil
              have HzK15 := Lib.hid hzK15
              clear hzK15
              rw [if_pos (by rfl)]
              go_simp
              refine (MA.out _).mono ?_
              rintro e zx16 ⟨rfl, hb⟩
              have zhq17 : Below zx9.heap.size zx9 zx16 := hb
              have zA_18 := Lib.hid (cell_to zA_11.out zhq17)
              have zE_19 := Lib.hid (cell_to zE_12.out zhq17)
              have zHB_20 : Hid (Below wp.heap.size wp zx16) := Lib.hid (zHB_13.out.trans (zhq17.mono zHB_13.out.size))
              clear zhq17
              clear hb
              have zhS21 : (fun w' : World => w'.cell? ⟨g, i * 3 + j, none⟩ = some (.int .i64 (a : Int)) ∧ w'.cell? ⟨g, k * 3 + j, none⟩ = some (.int .i64 (b : Int))) zx16 := ⟨zA_18.out, zE_19.out⟩
              refine HzK15.out _ _ zhS21 fun _ => ?_
              try simp only [Act.put, List.setIfInBounds_toArray, List.set_cons_zero, List.set_cons_succ]
              refine takeD (i := 17) (v := .int .i64 (r : Int)) (some 8) rfl rfl (by kernel_rfl) (by kernel_rfl) (by kernel_rfl) (fun _ _ _ h => h) (Or.inl ⟨by rfl, by rintro w' -; go_simp⟩) zhS21 ?_
              simp only [Act.put, List.setIfInBounds_toArray, List.set_cons_zero, List.set_cons_succ]
              refine wpAnyH_done (by kernel_rfl) ?_ _
              go_wp2_with fail
              go_roundw
              case rel => exact ⟨j + 1, by omega, by go_num, by rw [DS.out], zHB_20⟩
              case measure => simp [intOf]; omega
            · obtain rfl : j = 3 := by omega
              have JB := Lib.hid J.out
              have IO2 := Lib.hid (IO.out.gto JB.out)
              have IB2 := Lib.hid (IB.out.trans (JB.out.mono IB.out.size))
              rw [D3.out]
              clear J IO
              by_cases x0 : x = 0
              · subst x0
                have LIT := Lib.hid (show (wr.alloc (.cells #[.int .i64 (k : Int)] 3)).cell? ⟨wr.heap.size, 0, none⟩ = some (.int .i64 (k : Int)) from (row_new' _ _ _).cell 0)
                have hbx : Below wr.heap.size wr (wr.alloc (.cells #[.int .i64 (k : Int)] 3)) := (Below.refl _ _).alloc (Nat.le_refl _) _
                have O2 := Lib.hid (IO2.out.gto hbx)
                have B3 := Lib.hid (IB2.out.trans (hbx.mono IB2.out.size))
                clear hbx
                go_wp2_with (first | (at_builtin; refine wpList_push_n rfl (.tmp 50) (.tmp 52) rfl wo.heap.size (.slice A6 m c6) l m k wr.heap.size rfl O2.out LM.out rfl LIT.out (by omega) B3.out.size ?_; intro gs cq x9 ho hg hat hlt2; have ZO := Lib.hid ho; have ZB := Lib.hid (B3.out.grown hg B3.out.size (fun k e => (O2.out.own k e).1)); clear ho hg hat hlt2))
                go_roundw
                case rel => exact ⟨k + 1, by omega, by go_num, Lib.hid ⟨ZB.out, by rw [SUCK.out, if_pos rfl]; exact ZO.out⟩⟩
                case measure => simp [intOf]; omega
              · have x0I : ¬ ((x : Int) = 0) := by omega
                have E := Lib.hid (show lineTo q ci (k + 1) = l by rw [SUCK.out, if_neg x0])
                clear SUCK x0
                go_wp2_with fail
                go_roundw
                case rel => exact ⟨k + 1, by omega, by go_num, Lib.hid ⟨IB2.out, by rw [E.out]; exact IO2.out⟩⟩
                case measure => simp [intOf]; omega
        · have ek : k = N := by omega
          have kI : ¬ (k : Int) < (N : Int) := by omega
          have IB := Lib.hid I.out.1
          have IO : Hid (OwnL Nv wp wo.heap.size 3 (.slice A6 (lineTo q ci k).length c6) (line q i)) := Lib.hid (by rw [LN.out, ← ek]; exact I.out.2)
          obtain ⟨l, hl⟩ : ∃ l, line q i = l := ⟨_, rfl⟩
          rw [hl] at IO SUCI
          obtain ⟨m, hm⟩ : ∃ m, (lineTo q ci k).length = m := ⟨_, rfl⟩
          rw [hm] at IO ⊢
          have R3 := Lib.hid (HR.out.go IB.out)
          have HL3 := Lib.hid (HL.out.to IB.out)
          have c0 := R3.out.cell 1
          obtain ⟨A7, c7, rfl⟩ := HL3.out.form
          rw [lnS_len] at HL HL3 R3 c0
          have hbx : Below wp.heap.size wp (wp.alloc (.cells #[.slice A6 m c6] 40)) := (Below.refl _ _).alloc (Nat.le_refl _) _
          have LIT := Lib.hid (show (wp.alloc (.cells #[.slice A6 m c6] 40)).cell? ⟨wp.heap.size, 0, none⟩ = some (.slice A6 m c6) from (row_new' _ _ _).cell 0)
          have O2 := Lib.hid (IO.out.gto hbx)
          have L2 := Lib.hid (HL3.out.to hbx)
          have R4 := Lib.hid (R3.out.go hbx)
          have HO2 := Lib.hid (HO.out.trans ((IB.out.trans (hbx.mono IB.out.size)).mono HO.out.size))
          have OV := Lib.hid fun k e => (HL.out.own k e).2
          have KW : Hid (K ≤ (wp.alloc (.cells #[.slice A6 m c6] 40)).heap.size) := Lib.hid (by have := IB.out.size; have := hbx.size; have := HKK.out; omega)
          clear hbx hl hm I ek
          go_wp2_with (first | (at_builtin; refine wpList_push_R (K := K) rfl (.tmp 55) (.tmp 57) rfl (.slice A7 i c7) (lnS q i) i wp.heap.size (.slice A6 m c6) l wo.heap.size rfl L2.out (lnS_len _ _) rfl LIT.out O2.out HKK.out OV.out (by omega) KW.out ?_; intro gs cq x9 ho hg hat; have ZO := Lib.hid ho; have ZR := Lib.hid (R4.out.gr hg (fun e => by have := (L2.out.own _ e.symm).1; have := SZ2.out; omega)); have ZB := Lib.hid (HO2.out.grown hg HO2.out.size (fun k e => by have := (L2.out.own k e).1; have := SZ2.out; have := HD.out; omega)); have ZK : Hid (K ≤ x9.heap.size) := Lib.hid (by have := hg.size; have := KW.out; omega); have cc9 := ZR.out.cell 1; have ff9 := ZR.out.frozen 1; clear ho hg hat c0))
          go_roundw
          case rel =>
            refine ⟨i + 1, by omega, by go_num, _, Lib.hid ⟨ZB.out.setCell (p := ⟨bd, 1, none⟩) (Nat.le_of_eq HD.out) _, ZR.out.store 1 _, ?_, ?_⟩⟩
            · rw [SUCI.out]; exact ZO.out.set SZ2.out 1 _
            · have := ZK.out; simpa [World.setCell] using this
          case measure => simp [intOf]; omega
    · obtain rfl : i = N := by omega
      have iI : ¬ (i : Int) < (i : Int) := by omega
      obtain ⟨A7, c7, rfl⟩ := H.out.2.2.1.form
      rw [lnS_len] at H
      have d0 := H.out.2.1.cell 0
      have d1 := H.out.2.1.cell 1
      have R9 := Lib.hid (R1.out.go H.out.1)
      have e0 := R9.out.cell 0
      have e1 := R9.out.cell 1
      have f0 := R9.out.frozen 0
      have f1 := R9.out.frozen 1
      have BK : Hid (B < K) := Lib.hid (by have := R1.out.lt; have := HD.out; have := SZ2.out; omega)
      have R8 := Lib.hid ((R9.out.store 0 (.int .i64 (i : Int))).store 1 (.slice A7 i c7))
      have HB8 := Lib.hid (B1.out.trans (H.out.1.mono B1.out.size))
      have HB9 := Lib.hid ((HB8.out.setCell (p := ⟨B, 0, none⟩) (Nat.le_of_eq HE.out) (.int .i64 (i : Int))).setCell (p := ⟨B, 1, none⟩) (Nat.le_of_eq HE.out) (.slice A7 i c7))
      have GS := Lib.hid (((H.out.2.2.1.set BK.out 0 (.int .i64 (i : Int))).set BK.out 1 (.slice A7 i c7)).fx.low (K' := w.heap.size) (by have := BK.out; have := HE.out; omega))
      clear H
      go_wp2_with fail
      refine bodyPost_ret (results_cell_row (g := B) (t := 25) (fr := (0, 0)) rfl _ _ _ _ rfl R8.out Tryd.underlying25 rfl (by kernel_rfl)) rfl ?_
      exact ⟨_, rfl, GS.out, HB9.out⟩
theorem rproj_any (q : Nat) (w : World) (hq : q ∈ szs) : Calls Tryd.prog 31 #[.int .i64 (q : Int)] w (rdPost (cN q) ((List.range (cN q)).map (line q)) w) :=
  (rproj_fx q w hq).mono fun _ _ h => rd_of h
end Go.Proofs.YtnnacofjogfkeaaDoor
