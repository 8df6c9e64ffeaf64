/- Layer 13: contracts of the program: text. WRITTEN BY gen_Frg.py. -/
import Derived.Test.YtffdmpicjhaniaaDoorFrf
namespace Go.Proofs.YtffdmpicjhaniaaDoor
open Go Go.RowKit Flt
set_option linter.unusedVariables false
set_option linter.unusedSimpArgs false
theorem wds_at {k : Nat} (h1 : 1 ≤ k) (h2 : k ≤ 7) : wds.getD k ByteArray.empty = strOf (word k) := by
  rcases (by omega : k = 1 ∨ k = 2 ∨ k = 3 ∨ k = 4 ∨ k = 5 ∨ k = 6 ∨ k = 7) with rfl | rfl | rfl | rfl | rfl | rfl | rfl <;> rfl
theorem sx_cadd {P : Program} {a b : List Nat} {c : ByteArray} (w : World) (hc : strOf a = c) (h : a.length + b.length ≤ 9223372036854775807) : (Op.stringOp .add c (strOf b)).run P w = .ok (.string (strOf (a ++ b))) w := by
  subst hc; exact sx_add w h
set_option maxHeartbeats 4000000 in
set_option maxRecDepth 100000 in
theorem pon_any (x y z : Int) (h : okF ⟨x, y, z⟩ = true) (hp : x < 9223372036854775808) (ht : z < 9223372036854775808) (w : World) (T : Tab w) : Calls Tryd.prog 24 #[.agg #[.int .i64 x, .int .i64 y, .int .i64 z]] w (mPost (.string (strOf (one ⟨x, y, z⟩))) w) := by
  have hk : (0 ≤ x ∧ 0 ≤ z) ∧ 1 ≤ y ∧ y ≤ 7 := by
    unfold okF at h
    simp only [Bool.and_eq_true, Bool.or_eq_true, decide_eq_true_eq] at h
    omega
  obtain ⟨m, rfl⟩ : ∃ m : Nat, x = m := ⟨x.toNat, by omega⟩
  obtain ⟨d, rfl⟩ : ∃ m : Nat, z = m := ⟨z.toNat, by omega⟩
  obtain ⟨y, rfl⟩ : ∃ m : Nat, y = m := ⟨y.toNat, by omega⟩
  have LM := Lib.hid (dig_le (n := m) (by omega))
  have LD := Lib.hid (dig_le (n := d) (by omega))
  have LW := Lib.hid (word_le y)
  have NM := Lib.hid fun w T => itoa_any m (by omega) w T
  have ND := Lib.hid fun w T => itoa_any d (by omega) w T
  have YI : (y : Int) < 8 := by omega
  have YN : y < 8 := by omega
  have WC : Hid (∀ w, Tab w → w.cell? ⟨0, y, none⟩ = some (.string (strOf (word y)))) := Lib.hid fun w T => by rw [T.wd y (by omega), wds_at (by omega) (by omega)]
  obtain ⟨B0, hB0⟩ : ∃ B, w.heap.size = B := ⟨_, rfl⟩
  obtain ⟨W0, hW0⟩ : ∃ W, w.alloc (.cells #[.int .i64 (m : Int), .int .i64 (y : Int), .int .i64 (d : Int)] 26) = W := ⟨_, rfl⟩
  have T0 : Hid (Below w.heap.size w W0) := Lib.hid (by subst hW0; exact (Below.refl _ _).alloc (Nat.le_refl _) _)
  have R0 : Hid (Row W0 B0 26 #[.int .i64 (m : Int), .int .i64 (y : Int), .int .i64 (d : Int)]) := Lib.hid (by subst hW0; exact new13 w _ _ hB0)
  have TT0 := Lib.hid (T.fw T0.out)
  have HB0 := Lib.hid hB0
  have HW0 := Lib.hid hW0
  obtain ⟨q0, hq0⟩ : ∃ l, word y = l := ⟨_, rfl⟩
  obtain ⟨s0, hs0⟩ : ∃ l, word y ++ [32] = l := ⟨_, rfl⟩
  obtain ⟨s1, hs1⟩ : ∃ l, s0 ++ dig m = l := ⟨_, rfl⟩
  obtain ⟨OL, hOL⟩ : ∃ l, one ⟨m, y, d⟩ = l := ⟨_, rfl⟩
  obtain ⟨s2, hs2⟩ : ∃ l, tos ++ dig d = l := ⟨_, rfl⟩
  have HY : Hid (aims y = true → s1 ++ s2 = OL) := Lib.hid fun e => by rw [← hOL, ← hs2, ← hs1, ← hs0]; unfold one; rw [if_pos e]; simp
  have HN : Hid (¬ aims y = true → s1 = OL) := Lib.hid fun e => by rw [← hOL, ← hs1, ← hs0]; unfold one; rw [if_neg e]; simp
  have A0 : Hid (∀ w, (Op.stringOp .add (strOf q0) ⟨#[32]⟩).run Tryd.prog w = .ok (.string (strOf s0)) w) := Lib.hid fun w => by rw [← hs0, ← hq0]; exact sx_addc w s_blank (by have := LW.out; simp; omega)
  have A1 : Hid (∀ w, (Op.stringOp .add (strOf s0) (strOf (dig m))).run Tryd.prog w = .ok (.string (strOf s1)) w) := Lib.hid fun w => by rw [← hs1]; exact sx_add w (by rw [← hs0]; have := LW.out; have := LM.out; simp; omega)
  have L1 := Lib.hid (show s1.length ≤ 30 by rw [← hs1, ← hs0]; have := LW.out; have := LM.out; simp; omega)
  have L2 := Lib.hid (show s2.length ≤ 30 by rw [← hs2]; have := LD.out; simp [tos]; omega)
  have A2 : Hid (∀ w, (Op.stringOp .add ⟨#[32, 116, 111, 32]⟩ (strOf (dig d))).run Tryd.prog w = .ok (.string (strOf s2)) w) := Lib.hid fun w => by rw [← hs2]; exact sx_cadd w s_tos (by have := LD.out; simp [tos]; omega)
  have LE := Lib.hid fun w => ple_any (y : Int) w
  obtain ⟨qm, hqm⟩ : ∃ l, dig m = l := ⟨_, rfl⟩
  obtain ⟨qd, hqd⟩ : ∃ l, dig d = l := ⟨_, rfl⟩
  rw [hq0] at WC
  rw [hqm] at NM A1
  rw [hqd] at ND A2 LD
  rw [hOL]
  clear hq0 hs0 hs1 hs2 hOL hqm hqd LM LW LD
  clear hB0 hW0 h hp ht hk T
  go_enter Tryd.func24, Tryd.ntmps24
  go_wp2_with (first | rw [HB0.out] | rw [HW0.out])
  refine wp_region_held (P := Tryd.prog) (S := (fun w' : World => Below W0.heap.size W0 w')) rfl ?_
  change wpAnyH _ _ _ _ _ _ _ _ W0.drew
  have hz2 : Below W0.heap.size W0 W0.drew := (Below.refl W0.heap.size W0).drew
  generalize W0.drew = wz1 at hz2 ⊢
  have R_3 := Lib.hid (rw13 R0.out (hz2))
  have T_4 := Lib.hid (Tab.fw TT0.out (hz2))
  have hl5 := hz2
  have HT_6 : Hid (Below w.heap.size w wz1) := Lib.hid (T0.out.trans ((hl5).mono T0.out.size))
  refine wpAnyH_up (S' := (fun w' : World => Below wz1.heap.size wz1 w')) (fun w' h => hz2.trans (h.mono hz2.size)) ?_
  have hS7 : (fun w' : World => Below wz1.heap.size wz1 w') wz1 := Below.refl _ _
  refine takeD (i := 0) (v := .pointer (some ⟨B0, 1, none⟩)) (some 4) rfl rfl (by kernel_rfl) (by kernel_rfl) (by kernel_rfl) (fun _ _ _ h => h) (Or.inl ⟨by rfl, by rintro w' -; go_simp⟩) hS7 ?_
  simp only [Act.put, List.setIfInBounds_toArray, List.set_cons_zero, List.set_cons_succ]
  refine takeD (i := 1) (v := .int .i64 (y : Int)) (some 5) rfl rfl (by kernel_rfl) (by kernel_rfl) (by kernel_rfl) (fun _ _ _ h => h) (Or.inl ⟨by rfl, by rintro w' h; have hc := ce13 (row3 R_3.out).2.1 h; go_simp⟩) hS7 ?_
  simp only [Act.put, List.setIfInBounds_toArray, List.set_cons_zero, List.set_cons_succ]
  refine takeD (i := 2) (v := .pointer (some ⟨0, y, none⟩)) (some 6) rfl rfl (by kernel_rfl) (by kernel_rfl) (by kernel_rfl) (fun _ _ _ h => h) (Or.inl ⟨by rfl, by rintro w' -; go_simp⟩) hS7 ?_
  simp only [Act.put, List.setIfInBounds_toArray, List.set_cons_zero, List.set_cons_succ]
  refine takeD (i := 3) (v := .string (strOf q0)) (some 7) rfl rfl (by kernel_rfl) (by kernel_rfl) (by kernel_rfl) (fun _ _ _ h => h) (Or.inl ⟨by rfl, by rintro w' h; have hc := WC.out _ (Tab.fw T_4.out h); go_simp⟩) hS7 ?_
  simp only [Act.put, List.setIfInBounds_toArray, List.set_cons_zero, List.set_cons_succ]
  refine takeD (i := 4) (v := .string (strOf s0)) (some 8) rfl rfl (by kernel_rfl) (by kernel_rfl) (by kernel_rfl) (fun _ _ _ h => h) (Or.inl ⟨by rfl, by rintro w' -; have hc := A0.out w'; go_simp⟩) hS7 ?_
  simp only [Act.put, List.setIfInBounds_toArray, List.set_cons_zero, List.set_cons_succ]
  refine takeD (i := 5) (v := .pointer (some ⟨B0, 0, none⟩)) (some 9) rfl rfl (by kernel_rfl) (by kernel_rfl) (by kernel_rfl) (fun _ _ _ h => h) (Or.inl ⟨by rfl, by rintro w' -; go_simp⟩) hS7 ?_
  simp only [Act.put, List.setIfInBounds_toArray, List.set_cons_zero, List.set_cons_succ]
  refine takeD (i := 6) (v := .int .i64 (m : Int)) (some 10) rfl rfl (by kernel_rfl) (by kernel_rfl) (by kernel_rfl) (fun _ _ _ h => h) (Or.inl ⟨by rfl, by rintro w' h; have hc := ce13 (row3 R_3.out).1 h; go_simp⟩) hS7 ?_
  simp only [Act.put, List.setIfInBounds_toArray, List.set_cons_zero, List.set_cons_succ]
  refine wpAnyH_ready (rs := [7]) (by kernel_rfl) (by simp) ?_
  refine AllReadyH.cons rfl (fun K8 hK8 => ?_) AllReadyH.nil
  have HK8 := Lib.hid hK8
  clear hK8
  rw [if_pos (by rfl)]
  go_simp
  refine (NM.out _ T_4.out).mono ?_
  rintro e x9 ⟨rfl, hb10⟩
  have R_11 := Lib.hid (rw13 R_3.out (hb10))
  have T_12 := Lib.hid (Tab.fw T_4.out (hb10))
  have hl13 := hb10
  have HT_14 : Hid (Below w.heap.size w x9) := Lib.hid (HT_6.out.trans ((hl13).mono HT_6.out.size))
  clear hb10 
  have hb16 : Below wz1.heap.size wz1 x9 := hl13
  have hS15 : (fun w' : World => Below wz1.heap.size wz1 w') x9 := hb16
  refine HK8.out _ _ hS15 fun _ => ?_
  try simp only [Act.put, List.setIfInBounds_toArray, List.set_cons_zero, List.set_cons_succ]
  refine wpAnyH_up (S' := (fun w' : World => Below x9.heap.size x9 w')) (fun w' h => hb16.trans (h.mono hb16.size)) ?_
  have hS17 : (fun w' : World => Below x9.heap.size x9 w') x9 := Below.refl _ _
  refine takeD (i := 8) (v := .string (strOf s1)) (some 12) rfl rfl (by kernel_rfl) (by kernel_rfl) (by kernel_rfl) (fun _ _ _ h => h) (Or.inl ⟨by rfl, by rintro w' -; have hc := A1.out w'; go_simp⟩) hS17 ?_
  simp only [Act.put, List.setIfInBounds_toArray, List.set_cons_zero, List.set_cons_succ]
  refine takeD (i := 9) (v := .string (strOf s1)) (some 3) rfl rfl (by kernel_rfl) (by kernel_rfl) (by kernel_rfl) (fun _ _ _ h => h) (Or.inl ⟨by rfl, by rintro w' -; go_simp⟩) hS17 ?_
  simp only [Act.put, List.setIfInBounds_toArray, List.set_cons_zero, List.set_cons_succ]
  refine wpAnyH_done (by kernel_rfl) ?_ _
  have RR := R_11.out
  obtain ⟨c0, c1, c2⟩ := row3 RR
  have TT := Lib.hid HT_14.out
  have TA := T_12.out
  go_wp2_with fail
  refine (LE.out _).mono ?_
  rintro e w4 ⟨rfl, rfl⟩
  cases ha : aims (y : Int) with
  | true =>
    have OE := Lib.hid (HY.out ha)
    have a3 := fun w => sx_add (P := Tryd.prog) w (a := s1) (b := s2) (by have := L1.out; have := L2.out; omega)
    rw [OE.out] at a3
    have ND1 := Lib.hid (ND.out x9 TA)
    have a2 := A2.out
    obtain ⟨t0, ht0⟩ : ∃ s, strOf s1 = s := ⟨_, rfl⟩
    obtain ⟨t1, ht1⟩ : ∃ s, strOf s2 = s := ⟨_, rfl⟩
    obtain ⟨t2, ht2⟩ : ∃ s, strOf OL = s := ⟨_, rfl⟩
    obtain ⟨t3, ht3⟩ : ∃ s, strOf qd = s := ⟨_, rfl⟩
    have HT2 := Lib.hid ht2
    rw [ht0, ht1, ht2] at a3
    rw [ht3, ht1] at a2
    rw [ht3] at ND1
    rw [ht0]
    clear ht0 ht1 ht2 ht3 ND A2 ha TA
    go_wp2_with fail
    refine ND1.out.mono ?_
    rintro e w5 ⟨rfl, hb⟩
    have T5 := Lib.hid (TT.out.trans (hb.mono TT.out.size))
    clear hb RR
    go_wp2_with fail
    go_ret
    exact ⟨by rw [HT2.out]; rfl, T5.out⟩
  | false =>
    have OE := Lib.hid (HN.out (by rw [ha]; decide))
    clear ha
    go_wp2_with fail
    go_ret
    exact ⟨by rw [← OE.out]; rfl, TT.out⟩
end Go.Proofs.YtffdmpicjhaniaaDoor
