/- Layer 12: the law's play. WRITTEN BY gen_Cco.py. -/
import Derived.Test.YtbaclcpnnompnaaCcn
namespace Go.Proofs.Ytbaclcpnnompnaa
open Go Go.RowKit Med
set_option linter.unusedVariables false
set_option linter.unusedSimpArgs false

/-- What stood below B in w stands in c. -/
def BB (B : Nat) (w c : World) : Prop := B ≤ w.heap.size ∧ Below B w c
theorem BB.size {B : Nat} {w c : World} (h : BB B w c) : B ≤ c.heap.size := Nat.le_trans h.1 h.2.size
theorem BB.fw {B : Nat} {w c x : World} (h : BB B w c) (hb : Below c.heap.size c x) : BB B w x := ⟨h.1, h.2.trans (hb.mono h.size)⟩
theorem BB.tch {B : Nat} {L : List TypeId} {w c x : World} (h : BB B w c) (ht : Tch B L c x) : BB B w x := ⟨h.1, h.2.trans (ht.below h.size)⟩
theorem Ce.size {A : Nat} {w : World} {K R Bn T S O : Nat} {l : List Sec} {ops : List Med.Op} (h : Ce A w K R Bn T S O l ops) : A ≤ w.heap.size := by
  obtain ⟨_, _, _, _, _, _, _, h⟩ := h
  have := h.low.1; have := h.row.lt; omega
/-- What the law's play returns: the two caches agree. -/
def pl12 (m B K' R Bn T S O : Nat) (w : World) (e : Ending) (w' : World) : Prop := ∃ K l ops, e = .returned (.pointer (some ⟨K, 0, none⟩)) ∧ Ce B w' K R Bn T S O l ops ∧ Re B w' K' R Bn T S O l ops ∧ ops.length ≤ m + 40 ∧ Below B w w'
set_option maxHeartbeats 4000000 in
set_option maxRecDepth 100000 in
theorem play12_any {B : Nat} {w W : World} {K K' R Bn T S O : Nat} {l0 : List Sec} {ops0 : List Med.Op} (v : Value) (L : List Stp) (h1 : Ce B w K R Bn T S O l0 ops0) (h2 : Re B w K' R Bn T S O l0 ops0) (hO : Sls W v L) (hW : Below W.heap.size W w) (hB : W.heap.size ≤ B) (hF : ∀ k (h : k < L.length), L[k].op.bytes.length ≤ 100) (hL : L.length ≤ 40) (hn : ops0.length ≤ 160) :
    Calls Try.prog 12 #[.pointer (some ⟨K, 0, none⟩), .pointer (some ⟨K', 0, none⟩), v] w (pl12 ops0.length B K' R Bn T S O w) := by
  obtain ⟨A, cc, rfl⟩ := hO.form
  have HO := Lib.hid hO
  have HW := Lib.hid hW
  have H1 := Lib.hid h1
  have H2 := Lib.hid h2
  have HB := Lib.hid hB
  have HF := Lib.hid hF
  have BS := Lib.hid h1.size
  have HN := Lib.hid hn
  obtain ⟨n, hn2⟩ : ∃ n, L.length = n := ⟨_, rfl⟩
  have EN := Lib.hid hn2
  rw [hn2] at HO hL ⊢
  have HL := Lib.hid hL
  clear h1 h2 hO hW hB hF hL hn hn2
  go_enter Try.func12, Try.ntmps12
  go_wp2_with fail
  go_loopw [0, 7, 25, 42, 48] (fun c i _ _ _ wr => ∃ (k K2 : Nat) (l : List Sec) (ops : List Med.Op), k ≤ n ∧ c = .pointer (some ⟨K2, 0, none⟩) ∧ i = .int .i64 (k : Int) ∧ Hid (Ce B wr K2 R Bn T S O l ops ∧ Re B wr K' R Bn T S O l ops ∧ BB B w wr ∧ ops.length ≤ ops0.length + k)) (fun _ i _ _ _ _ => n - (intOf i).toNat)
  case atStart => exact ⟨0, K, l0, ops0, Nat.zero_le _, rfl, rfl, Lib.hid ⟨H1.out, H2.out, ⟨BS.out, Below.refl _ _⟩, Nat.le_refl _⟩⟩
  case round =>
    obtain ⟨k, K2, l, ops, hk, rfl, rfl, V⟩ := hrel
    have nb := HL.out
    by_cases hlt : k < n
    · have kI : (k : Int) < (n : Int) := by omega
      have hbw : Below W.heap.size W wr := HW.out.trans (V.out.2.2.1.2.mono HB.out)
      obtain ⟨b, off, u, hk2, rfl, f0, f1, f2, f3, f4, f5⟩ := HO.out.nth hlt
      have FL := HF.out k hk2
      have RG := Lib.hid (st_rng f1 f2 f3)
      have HU := Lib.hid f4
      have KP := Lib.hid f5
      have c0 := ce_fw f0.2 hbw
      obtain ⟨kd, hkd⟩ : ∃ x, L[k].kind = x := ⟨_, rfl⟩
      obtain ⟨o, ho⟩ : ∃ x, L[k].op = x := ⟨_, rfl⟩
      obtain ⟨kp, hkp⟩ : ∃ x, L[k].keep = x := ⟨_, rfl⟩
      rw [hkd] at c0
      rw [ho] at RG HU FL
      rw [hkp] at KP
      have HFL := Lib.hid FL
      have C_0 := Lib.hid V.out.1
      have D_0 := Lib.hid V.out.2.1
      have B_0 := Lib.hid V.out.2.2.1
      have NB := Lib.hid V.out.2.2.2
      have TB := Lib.hid hbw
      clear V f0 f1 f2 f3 f4 f5 FL hkd ho hkp hbw
      by_cases k0 : kd = 0
      · have e0 : ((kd : Int) == 0) = true := by simp [k0]
        clear k0
        go_wp2_with fail
        obtain ⟨lk, hlk⟩ : ∃ x, Med.play R Bn T S O l ops = x := ⟨_, rfl⟩
        obtain ⟨z, hz⟩ : ∃ z, opE Bn (Med.play R Bn T S O l ops) o = z := ⟨_, rfl⟩
        have HZ := Lib.hid hz
        clear hlk hz lk c0
        refine wp_region_held (P := Try.prog) (S := (fun w' : World => Below W.heap.size W w')) rfl ?_
        change wpAnyH _ _ _ _ _ _ _ _ wr.drew
        have hz2 : Below wr.heap.size wr wr.drew := (Below.refl wr.heap.size wr).drew
        generalize wr.drew = wz1 at hz2 ⊢
        have hq3 : Below wr.heap.size wr wz1 := hz2
        have C_4 := Lib.hid (Ce.fw C_0.out hq3)
        have D_5 := Lib.hid (Re.fw D_0.out hq3)
        have B_6 := Lib.hid (BB.fw B_0.out hq3)
        have HB_7 : Hid (Below W.heap.size W wz1) := Lib.hid (TB.out.trans (hq3.mono TB.out.size))
        clear hq3
        clear hz2
        have hS8 : (fun w' : World => Below W.heap.size W w') wz1 := HB_7.out
        refine takeD (i := 0) (v := .pointer (some ⟨K2, 0, none⟩)) (some 27) rfl rfl (by kernel_rfl) (by kernel_rfl) (by kernel_rfl) (fun _ _ _ h => h) (Or.inl ⟨by rfl, by rintro w' -; go_simp⟩) hS8 ?_
        simp only [Act.put, List.setIfInBounds_toArray, List.set_cons_zero, List.set_cons_succ]
        refine takeD (i := 1) (v := .slice (some ⟨b, off, none⟩) n cc) (some 28) rfl rfl (by kernel_rfl) (by kernel_rfl) (by kernel_rfl) (fun _ _ _ h => h) (Or.inl ⟨by rfl, by rintro w' -; go_simp⟩) hS8 ?_
        simp only [Act.put, List.setIfInBounds_toArray, List.set_cons_zero, List.set_cons_succ]
        refine takeD (i := 2) (v := .int .i64 (k : Int)) (some 29) rfl rfl (by kernel_rfl) (by kernel_rfl) (by kernel_rfl) (fun _ _ _ h => h) (Or.inl ⟨by rfl, by rintro w' -; go_simp⟩) hS8 ?_
        simp only [Act.put, List.setIfInBounds_toArray, List.set_cons_zero, List.set_cons_succ]
        refine takeD (i := 3) (v := .pointer (some ⟨b, off + k * 5, none⟩)) (some 30) rfl rfl (by kernel_rfl) (by kernel_rfl) (by kernel_rfl) (fun _ _ _ h => h) (Or.inl ⟨by rfl, by rintro w' -; go_simp⟩) hS8 ?_
        simp only [Act.put, List.setIfInBounds_toArray, List.set_cons_zero, List.set_cons_succ]
        refine takeD (i := 4) (v := .pointer (some ⟨b, off + k * 5 + 1, none⟩)) (some 31) rfl rfl (by kernel_rfl) (by kernel_rfl) (by kernel_rfl) (fun _ _ _ h => h) (Or.inl ⟨by rfl, by rintro w' -; go_simp⟩) hS8 ?_
        simp only [Act.put, List.setIfInBounds_toArray, List.set_cons_zero, List.set_cons_succ]
        refine takeD (i := 5) (v := .agg #[.bool o.erase, .int .i64 o.pos, u]) (some 32) rfl rfl (by kernel_rfl) (by kernel_rfl) (by kernel_rfl) (fun _ _ _ h => h) (yieldsIf_load_mid (by rfl) _ _ rfl b (off + k * 5 + 1) rfl [.bool o.erase, .int .i64 o.pos, u] _ (fun w' h => rng_fw RG.out h) Try.underlying38 rfl (by kernel_rfl)) hS8 ?_
        simp only [Act.put, List.setIfInBounds_toArray, List.set_cons_zero, List.set_cons_succ]
        refine takeD (i := 7) (v := .pointer (some ⟨K', 0, none⟩)) (some 34) rfl rfl (by kernel_rfl) (by kernel_rfl) (by kernel_rfl) (fun _ _ _ h => h) (Or.inl ⟨by rfl, by rintro w' -; go_simp⟩) hS8 ?_
        simp only [Act.put, List.setIfInBounds_toArray, List.set_cons_zero, List.set_cons_succ]
        refine takeD (i := 8) (v := .slice (some ⟨b, off, none⟩) n cc) (some 35) rfl rfl (by kernel_rfl) (by kernel_rfl) (by kernel_rfl) (fun _ _ _ h => h) (Or.inl ⟨by rfl, by rintro w' -; go_simp⟩) hS8 ?_
        simp only [Act.put, List.setIfInBounds_toArray, List.set_cons_zero, List.set_cons_succ]
        refine takeD (i := 9) (v := .int .i64 (k : Int)) (some 36) rfl rfl (by kernel_rfl) (by kernel_rfl) (by kernel_rfl) (fun _ _ _ h => h) (Or.inl ⟨by rfl, by rintro w' -; go_simp⟩) hS8 ?_
        simp only [Act.put, List.setIfInBounds_toArray, List.set_cons_zero, List.set_cons_succ]
        refine takeD (i := 10) (v := .pointer (some ⟨b, off + k * 5, none⟩)) (some 37) rfl rfl (by kernel_rfl) (by kernel_rfl) (by kernel_rfl) (fun _ _ _ h => h) (Or.inl ⟨by rfl, by rintro w' -; go_simp⟩) hS8 ?_
        simp only [Act.put, List.setIfInBounds_toArray, List.set_cons_zero, List.set_cons_succ]
        refine takeD (i := 11) (v := .pointer (some ⟨b, off + k * 5 + 1, none⟩)) (some 38) rfl rfl (by kernel_rfl) (by kernel_rfl) (by kernel_rfl) (fun _ _ _ h => h) (Or.inl ⟨by rfl, by rintro w' -; go_simp⟩) hS8 ?_
        simp only [Act.put, List.setIfInBounds_toArray, List.set_cons_zero, List.set_cons_succ]
        refine takeD (i := 12) (v := .agg #[.bool o.erase, .int .i64 o.pos, u]) (some 39) rfl rfl (by kernel_rfl) (by kernel_rfl) (by kernel_rfl) (fun _ _ _ h => h) (yieldsIf_load_mid (by rfl) _ _ rfl b (off + k * 5 + 1) rfl [.bool o.erase, .int .i64 o.pos, u] _ (fun w' h => rng_fw RG.out h) Try.underlying38 rfl (by kernel_rfl)) hS8 ?_
        simp only [Act.put, List.setIfInBounds_toArray, List.set_cons_zero, List.set_cons_succ]
        refine wpAnyH_ready (rs := [6]) (by kernel_rfl) (by simp) ?_
        refine AllReadyH.cons rfl (fun K9 hK9 => ?_) AllReadyH.nil
        have HK9 := Lib.hid hK9
        clear hK9
        rw [if_pos (by rfl)]
        go_simp
        have Q := cdo_any C_4.out o u (HU.out.below HB_7.out) (Nat.le_trans HFL.out (by decide)) (by have := NB.out; have := HN.out; omega)
        unfold adPost at Q
        rw [HZ.out] at Q
        refine Q.mono ?_
        clear Q
        rintro e x10 ⟨rfl, hc, ht⟩
        have C11 := Lib.hid hc
        have D12 := Lib.hid (D_5.out.prog ht)
        have B13 := Lib.hid (B_6.out.tch ht)
        have HB_14 : Hid (Below W.heap.size W x10) := Lib.hid (HB_7.out.trans ((ht.below B_6.out.size).mono HB.out))
        clear hc ht
        have hS15 : (fun w' : World => Below W.heap.size W w') x10 := HB_14.out
        refine HK9.out _ _ hS15 fun _ => ?_
        try simp only [Act.put, List.setIfInBounds_toArray, List.set_cons_zero, List.set_cons_succ]
        refine wpAnyH_ready (rs := [13]) (by kernel_rfl) (by simp) ?_
        refine AllReadyH.cons rfl (fun K16 hK16 => ?_) AllReadyH.nil
        have HK16 := Lib.hid hK16
        clear hK16
        rw [if_pos (by rfl)]
        go_simp
        have Q := rdo12_any D12.out o u (HU.out.below HB_14.out) (Nat.le_trans HFL.out (by decide)) (by have := NB.out; have := HN.out; omega)
        unfold rdoPost at Q
        rw [HZ.out] at Q
        refine Q.mono ?_
        clear Q
        rintro e x17 ⟨rfl, hc, ht⟩
        have C18 := Lib.hid hc
        have D19 := Lib.hid (C11.out.ref ht)
        have B20 := Lib.hid (B13.out.tch ht)
        have HB_21 : Hid (Below W.heap.size W x17) := Lib.hid (HB_14.out.trans ((ht.below B13.out.size).mono HB.out))
        clear hc ht
        have hS22 : (fun w' : World => Below W.heap.size W w') x17 := HB_21.out
        refine HK16.out _ _ hS22 fun _ => ?_
        try simp only [Act.put, List.setIfInBounds_toArray, List.set_cons_zero, List.set_cons_succ]
        refine takeD (i := 14) (v := .bool false) (some 41) rfl rfl (by kernel_rfl) (by kernel_rfl) (by kernel_rfl) (fun _ _ _ h => h) (Or.inl ⟨by rfl, by rintro w' -; go_simp⟩) hS22 ?_
        simp only [Act.put, List.setIfInBounds_toArray, List.set_cons_zero, List.set_cons_succ]
        refine wpAnyH_done (by kernel_rfl) ?_ _
        go_wp2_with fail
        go_roundw
        case rel => exact ⟨k + 1, K2, l, app ops z o, by omega, rfl, by go_num, Lib.hid ⟨D19.out, C18.out, B20.out, (by have := app_len ops z o; have := NB.out; omega)⟩⟩
        case measure => simp [intOf]; omega
      · have e0 : ((kd : Int) == 0) = false := by simp; omega
        by_cases k1 : kd = 1
        · have e1 : ((kd : Int) == 1) = true := by simp [k1]
          clear k0 k1
          go_wp2_with fail
          clear c0
          refine (cfl_any C_0.out).mono ?_
          rintro e x1 ⟨⟨u1, rfl⟩, hc, ht⟩
          have C_1 := Lib.hid hc
          have D_1 := Lib.hid (D_0.out.prog ht)
          have B_1 := Lib.hid (B_0.out.tch ht)
          clear hc ht
          go_wp2_with fail
          refine (rfl_any D_1.out).mono ?_
          rintro e x2 ⟨⟨u2, rfl⟩, hc, ht⟩
          have D_2 := Lib.hid hc
          have C_2 := Lib.hid (C_1.out.ref ht)
          have B_2 := Lib.hid (B_1.out.tch ht)
          clear hc ht
          go_wp2_with fail
          go_roundw
          case rel => exact ⟨k + 1, K2, _, [], by omega, rfl, by go_num, Lib.hid ⟨C_2.out, D_2.out, B_2.out, Nat.zero_le _⟩⟩
          case measure => simp [intOf]; omega
        · have e1 : ((kd : Int) == 1) = false := by simp; omega
          by_cases k2 : kd = 2
          · have e2 : ((kd : Int) == 2) = true := by simp [k2]
            clear k0 k1 k2
            have d0 := ce_fw KP.out TB.out
            go_wp2_with fail
            clear c0 d0
            refine (ccu_any C_0.out kp).mono ?_
            rintro e x1 ⟨⟨u1, rfl⟩, hc, ht⟩
            have C_1 := Lib.hid hc
            have D_1 := Lib.hid (D_0.out.prog ht)
            have B_1 := Lib.hid (B_0.out.tch ht)
            have d0 := ce_fw KP.out (HW.out.trans (B_1.out.2.mono HB.out))
            clear hc ht
            go_wp2_with fail
            clear d0
            refine (rcu_any D_1.out kp).mono ?_
            rintro e x2 ⟨⟨u2, rfl⟩, hc, ht⟩
            have D_2 := Lib.hid hc
            have C_2 := Lib.hid (C_1.out.ref ht)
            have B_2 := Lib.hid (B_1.out.tch ht)
            clear hc ht
            go_wp2_with fail
            go_roundw
            case rel => exact ⟨k + 1, K2, _, [], by omega, rfl, by go_num, Lib.hid ⟨C_2.out, D_2.out, B_2.out, Nat.zero_le _⟩⟩
            case measure => simp [intOf]; omega
          · have e2 : ((kd : Int) == 2) = false := by simp; omega
            clear k0 k1 k2
            go_wp2_with fail
            clear c0
            refine (ccl_any C_0.out (by have := NB.out; have := HN.out; omega)).mono ?_
            rintro e x1 ⟨K3, rfl, hc, hb⟩
            have C_1 := Lib.hid (hc.low B_0.out.size)
            have D_1 := Lib.hid (D_0.out.fw hb)
            have B_1 := Lib.hid (B_0.out.fw hb)
            clear hc hb
            go_wp2_with fail
            go_roundw
            case rel => exact ⟨k + 1, K3, l, ops, by omega, rfl, by go_num, Lib.hid ⟨C_1.out, D_1.out, B_1.out, (by have := NB.out; omega)⟩⟩
            case measure => simp [intOf]; omega
    · obtain rfl : k = n := by omega
      have kI : ¬ (k : Int) < (k : Int) := by omega
      have dk : decide ((k : Int) < (k : Int)) = false := decide_eq_false kI
      go_wp2_with fail
      go_ret
      exact ⟨K2, l, ops, rfl, V.out.1, V.out.2.1, (by have := V.out.2.2.2; have := HN.out; omega), V.out.2.2.1.2⟩
end Go.Proofs.Ytbaclcpnnompnaa
