/- Layer 13: contracts of the reference: one, Text. WRITTEN BY gen_Fh.py. -/
import Derived.Test.YtffdmpicjhaniaaDoorFg
namespace Go.Proofs.YtffdmpicjhaniaaDoor
open Go Go.RowKit Flt
set_option linter.unusedVariables false
set_option linter.unusedSimpArgs false
/-- A sum of strings, the second one a constant. -/
theorem sx_addc {P : Program} {a b : List Nat} {c : ByteArray} (w : World) (hc : strOf b = c) (h : a.length + b.length ≤ 9223372036854775807) : (Op.stringOp .add (strOf a) c).run P w = .ok (.string (strOf (a ++ b))) w := by
  subst hc; exact sx_add w h
theorem s_blank : strOf [32] = ⟨#[32]⟩ := word_str (by decide)
theorem s_tos : strOf tos = ⟨#[32, 116, 111, 32]⟩ := word_str (by decide)
theorem s_sep : strOf sep = ⟨#[59, 32]⟩ := word_str (by decide)
theorem s_nil : strOf [] = ⟨#[]⟩ := word_str (by decide)
theorem one_le {f : F} (h : okF f = true) (hp : f.pos < 9223372036854775808) (ht : f.to < 9223372036854775808) : (one f).length ≤ 48 := by
  unfold one
  have a := word_le f.kind
  unfold okF at h
  simp only [Bool.and_eq_true, Bool.or_eq_true, decide_eq_true_eq] at h
  have b := dig_le (n := f.pos.toNat) (by omega)
  have c := dig_le (n := f.to.toNat) (by omega)
  split <;> simp [tos] <;> omega
set_option maxHeartbeats 4000000 in
set_option maxRecDepth 100000 in
theorem ron_any (x y z : Int) (h : okF ⟨x, y, z⟩ = true) (hp : x < 9223372036854775808) (ht : z < 9223372036854775808) (w : World) : Calls Tryd.prog 26 #[.agg #[.int .i64 x, .int .i64 y, .int .i64 z]] w (mPost (.string (strOf (one ⟨x, y, z⟩))) w) := by
  have hk : (0 ≤ x ∧ 0 ≤ z) ∧ 1 ≤ y ∧ y ≤ 7 := by
    unfold okF at h
    simp only [Bool.and_eq_true, Bool.or_eq_true, decide_eq_true_eq] at h
    omega
  obtain ⟨m, rfl⟩ : ∃ m : Nat, x = m := ⟨x.toNat, by omega⟩
  obtain ⟨d, rfl⟩ : ∃ m : Nat, z = m := ⟨z.toNat, by omega⟩
  have LM := Lib.hid (dig_le (n := m) (by omega))
  have LD := Lib.hid (dig_le (n := d) (by omega))
  have LW := Lib.hid (word_le y)
  have NM := Lib.hid fun w => rNu_any m (by omega) w
  have ND := Lib.hid fun w => rNu_any d (by omega) w
  have WD := Lib.hid fun w => rwo_any y hk.2.1 hk.2.2 w
  obtain ⟨B0, hB0⟩ : ∃ B, w.heap.size = B := ⟨_, rfl⟩
  obtain ⟨W0, hW0⟩ : ∃ W, w.alloc (.cells #[.int .i64 (m : Int), .int .i64 y, .int .i64 (d : Int)] 26) = W := ⟨_, rfl⟩
  have T0 : Hid (Below w.heap.size w W0) := Lib.hid (by subst hW0; exact (Below.refl _ _).alloc (Nat.le_refl _) _)
  have R0 : Hid (Row W0 B0 26 #[.int .i64 (m : Int), .int .i64 y, .int .i64 (d : Int)]) := Lib.hid (by subst hW0; exact new13 w _ _ hB0)
  have HB0 := Lib.hid hB0
  have HW0 := Lib.hid hW0
  obtain ⟨q0, hq0⟩ : ∃ l, word y = l := ⟨_, rfl⟩
  obtain ⟨s0, hs0⟩ : ∃ l, word y ++ [32] = l := ⟨_, rfl⟩
  obtain ⟨s1, hs1⟩ : ∃ l, s0 ++ dig m = l := ⟨_, rfl⟩
  obtain ⟨OL, hOL⟩ : ∃ l, one ⟨m, y, d⟩ = l := ⟨_, rfl⟩
  have HY : Hid (aims y = true → s1 ++ tos ++ dig d = OL) := Lib.hid fun e => by rw [← hOL, ← hs1, ← hs0]; unfold one; rw [if_pos e]; simp
  have HN : Hid (¬ aims y = true → s1 = OL) := Lib.hid fun e => by rw [← hOL, ← hs1, ← hs0]; unfold one; rw [if_neg e]; simp
  have A0 : Hid (∀ w, (Op.stringOp .add (strOf q0) ⟨#[32]⟩).run Tryd.prog w = .ok (.string (strOf s0)) w) := Lib.hid fun w => by rw [← hs0, ← hq0]; exact sx_addc w s_blank (by have := LW.out; simp; omega)
  have A1 : Hid (∀ w, (Op.stringOp .add (strOf s0) (strOf (dig m))).run Tryd.prog w = .ok (.string (strOf s1)) w) := Lib.hid fun w => by rw [← hs1]; exact sx_add w (by rw [← hs0]; have := LW.out; have := LM.out; simp; omega)
  have L1 := Lib.hid (show s1.length ≤ 30 by rw [← hs1, ← hs0]; have := LW.out; have := LM.out; simp; omega)
  obtain ⟨qm, hqm⟩ : ∃ l, dig m = l := ⟨_, rfl⟩
  obtain ⟨qd, hqd⟩ : ∃ l, dig d = l := ⟨_, rfl⟩
  rw [hq0] at WD
  rw [hqm] at NM A1
  rw [hqd] at ND HY LD
  rw [hOL]
  clear hq0 hs0 hs1 hOL hqm hqd LM LW
  clear hB0 hW0 h hp ht hk
  go_enter Tryd.func26, Tryd.ntmps26
  go_wp2_with (first | rw [HB0.out] | rw [HW0.out])
  refine wp_region_held (P := Tryd.prog) (S := (fun w' : World => Below W0.heap.size W0 w')) rfl ?_
  change wpAnyH _ _ _ _ _ _ _ _ W0.drew
  have hz2 : Below W0.heap.size W0 W0.drew := (Below.refl W0.heap.size W0).drew
  generalize W0.drew = wz1 at hz2 ⊢
  have R_3 := Lib.hid (rw13 R0.out (hz2))
  have hl4 := hz2
  have HT_5 : Hid (Below w.heap.size w wz1) := Lib.hid (T0.out.trans ((hl4).mono T0.out.size))
  refine wpAnyH_up (S' := (fun w' : World => Below wz1.heap.size wz1 w')) (fun w' h => hz2.trans (h.mono hz2.size)) ?_
  have hS6 : (fun w' : World => Below wz1.heap.size wz1 w') wz1 := Below.refl _ _
  refine takeD (i := 0) (v := .pointer (some ⟨B0, 1, none⟩)) (some 4) rfl rfl (by kernel_rfl) (by kernel_rfl) (by kernel_rfl) (fun _ _ _ h => h) (Or.inl ⟨by rfl, by rintro w' -; go_simp⟩) hS6 ?_
  simp only [Act.put, List.setIfInBounds_toArray, List.set_cons_zero, List.set_cons_succ]
  refine takeD (i := 1) (v := .int .i64 y) (some 5) rfl rfl (by kernel_rfl) (by kernel_rfl) (by kernel_rfl) (fun _ _ _ h => h) (Or.inl ⟨by rfl, by rintro w' h; have hc := ce13 (row3 R_3.out).2.1 h; go_simp⟩) hS6 ?_
  simp only [Act.put, List.setIfInBounds_toArray, List.set_cons_zero, List.set_cons_succ]
  refine takeD (i := 4) (v := .pointer (some ⟨B0, 0, none⟩)) (some 8) rfl rfl (by kernel_rfl) (by kernel_rfl) (by kernel_rfl) (fun _ _ _ h => h) (Or.inl ⟨by rfl, by rintro w' -; go_simp⟩) hS6 ?_
  simp only [Act.put, List.setIfInBounds_toArray, List.set_cons_zero, List.set_cons_succ]
  refine takeD (i := 5) (v := .int .i64 (m : Int)) (some 9) rfl rfl (by kernel_rfl) (by kernel_rfl) (by kernel_rfl) (fun _ _ _ h => h) (Or.inl ⟨by rfl, by rintro w' h; have hc := ce13 (row3 R_3.out).1 h; go_simp⟩) hS6 ?_
  simp only [Act.put, List.setIfInBounds_toArray, List.set_cons_zero, List.set_cons_succ]
  refine wpAnyH_ready (rs := [2]) (by kernel_rfl) (by simp) ?_
  refine AllReadyH.cons rfl (fun K7 hK7 => ?_) AllReadyH.nil
  have HK7 := Lib.hid hK7
  clear hK7
  rw [if_pos (by rfl)]
  go_simp
  refine (WD.out _).mono ?_
  rintro e x8 ⟨rfl, hw⟩
  have hb : Below wz1.heap.size wz1 x8 := hw ▸ Below.refl _ _
  have R_9 := Lib.hid (rw13 R_3.out (hb))
  have hl10 := hb
  have HT_11 : Hid (Below w.heap.size w x8) := Lib.hid (HT_5.out.trans ((hl10).mono HT_5.out.size))
  clear hb hw
  have hb13 : Below wz1.heap.size wz1 x8 := hl10
  have hS12 : (fun w' : World => Below wz1.heap.size wz1 w') x8 := hb13
  refine HK7.out _ _ hS12 fun _ => ?_
  try simp only [Act.put, List.setIfInBounds_toArray, List.set_cons_zero, List.set_cons_succ]
  refine wpAnyH_up (S' := (fun w' : World => Below x8.heap.size x8 w')) (fun w' h => hb13.trans (h.mono hb13.size)) ?_
  have hS14 : (fun w' : World => Below x8.heap.size x8 w') x8 := Below.refl _ _
  refine takeD (i := 3) (v := .string (strOf s0)) (some 7) rfl rfl (by kernel_rfl) (by kernel_rfl) (by kernel_rfl) (fun _ _ _ h => h) (Or.inl ⟨by rfl, by rintro w' -; have hc := A0.out w'; go_simp⟩) hS14 ?_
  simp only [Act.put, List.setIfInBounds_toArray, List.set_cons_zero, List.set_cons_succ]
  refine wpAnyH_ready (rs := [6]) (by kernel_rfl) (by simp) ?_
  refine AllReadyH.cons rfl (fun K15 hK15 => ?_) AllReadyH.nil
  have HK15 := Lib.hid hK15
  clear hK15
  rw [if_pos (by rfl)]
  go_simp
  refine (NM.out _).mono ?_
  rintro e x16 ⟨rfl, hb17⟩
  have R_18 := Lib.hid (rw13 R_9.out (hb17))
  have hl19 := hb17
  have HT_20 : Hid (Below w.heap.size w x16) := Lib.hid (HT_11.out.trans ((hl19).mono HT_11.out.size))
  clear hb17 
  have hb22 : Below x8.heap.size x8 x16 := hl19
  have hS21 : (fun w' : World => Below x8.heap.size x8 w') x16 := hb22
  refine HK15.out _ _ hS21 fun _ => ?_
  try simp only [Act.put, List.setIfInBounds_toArray, List.set_cons_zero, List.set_cons_succ]
  refine wpAnyH_up (S' := (fun w' : World => Below x16.heap.size x16 w')) (fun w' h => hb22.trans (h.mono hb22.size)) ?_
  have hS23 : (fun w' : World => Below x16.heap.size x16 w') x16 := Below.refl _ _
  refine takeD (i := 7) (v := .string (strOf s1)) (some 11) rfl rfl (by kernel_rfl) (by kernel_rfl) (by kernel_rfl) (fun _ _ _ h => h) (Or.inl ⟨by rfl, by rintro w' -; have hc := A1.out w'; go_simp⟩) hS23 ?_
  simp only [Act.put, List.setIfInBounds_toArray, List.set_cons_zero, List.set_cons_succ]
  refine takeD (i := 8) (v := .string (strOf s1)) (some 3) rfl rfl (by kernel_rfl) (by kernel_rfl) (by kernel_rfl) (fun _ _ _ h => h) (Or.inl ⟨by rfl, by rintro w' -; go_simp⟩) hS23 ?_
  simp only [Act.put, List.setIfInBounds_toArray, List.set_cons_zero, List.set_cons_succ]
  refine wpAnyH_done (by kernel_rfl) ?_ _
  obtain ⟨c0, c1, c2⟩ := row3 R_18.out
  have TT := Lib.hid HT_20.out
  by_cases y3 : y = 3
  · have e : aims y = true := by simp [aims, y3]
    have d3 : (y == 3) = true := by simp [y3]
    have OE := Lib.hid (HY.out e)
    clear e y3
    have a1 := fun w => sx_addc (P := Tryd.prog) (a := s1) w s_tos (by have := L1.out; simp [tos]; omega)
    obtain ⟨t1, ht1⟩ : ∃ s, strOf (s1 ++ tos) = s := ⟨_, rfl⟩
    have a2 := fun w => sx_add (P := Tryd.prog) w (a := s1 ++ tos) (b := qd) (by have := L1.out; have := LD.out; simp [tos]; omega)
    rw [OE.out] at a2
    obtain ⟨t2, ht2⟩ : ∃ s, strOf OL = s := ⟨_, rfl⟩
    rw [ht1] at a1 a2
    have HT2 := Lib.hid ht2
    rw [ht2] at a2
    have ND1 := Lib.hid (ND.out x16)
    obtain ⟨t3, ht3⟩ : ∃ s, strOf qd = s := ⟨_, rfl⟩
    rw [ht3] at a2 ND1
    clear ht1 ht2 ht3 ND
    obtain ⟨t0, ht0⟩ : ∃ s, strOf s1 = s := ⟨_, rfl⟩
    rw [ht0] at a1 ⊢
    clear ht0
    go_wp2_with fail
    refine ND1.out.mono ?_
    rintro e w5 ⟨rfl, hb⟩
    have T5 := Lib.hid (TT.out.trans (hb.mono TT.out.size))
    clear hb
    go_wp2_with fail
    go_ret
    exact ⟨by rw [HT2.out]; rfl, T5.out⟩
  · have d3 : (y == 3) = false := by simp [y3]
    by_cases y5 : y = 5
    · have e : aims y = true := by simp [aims, y5]
      have d5 : (y == 5) = true := by simp [y5]
      have OE := Lib.hid (HY.out e)
      clear e y3 y5
      have a1 := fun w => sx_addc (P := Tryd.prog) (a := s1) w s_tos (by have := L1.out; simp [tos]; omega)
      obtain ⟨t1, ht1⟩ : ∃ s, strOf (s1 ++ tos) = s := ⟨_, rfl⟩
      have a2 := fun w => sx_add (P := Tryd.prog) w (a := s1 ++ tos) (b := qd) (by have := L1.out; have := LD.out; simp [tos]; omega)
      rw [OE.out] at a2
      obtain ⟨t2, ht2⟩ : ∃ s, strOf OL = s := ⟨_, rfl⟩
      rw [ht1] at a1 a2
      have HT2 := Lib.hid ht2
      rw [ht2] at a2
      have ND1 := Lib.hid (ND.out x16)
      obtain ⟨t3, ht3⟩ : ∃ s, strOf qd = s := ⟨_, rfl⟩
      rw [ht3] at a2 ND1
      clear ht1 ht2 ht3 ND
      obtain ⟨t0, ht0⟩ : ∃ s, strOf s1 = s := ⟨_, rfl⟩
      rw [ht0] at a1 ⊢
      clear ht0
      go_wp2_with fail
      refine ND1.out.mono ?_
      rintro e w5 ⟨rfl, hb⟩
      have T5 := Lib.hid (TT.out.trans (hb.mono TT.out.size))
      clear hb
      go_wp2_with fail
      go_ret
      exact ⟨by rw [HT2.out]; rfl, T5.out⟩
    · have e : ¬ aims y = true := by simp [aims, y3, y5]
      have d5 : (y == 5) = false := by simp [y5]
      have OE := Lib.hid (HN.out e)
      clear e y3 y5
      go_wp2_with fail
      go_ret
      exact ⟨by rw [← OE.out]; rfl, TT.out⟩
end Go.Proofs.YtffdmpicjhaniaaDoor
