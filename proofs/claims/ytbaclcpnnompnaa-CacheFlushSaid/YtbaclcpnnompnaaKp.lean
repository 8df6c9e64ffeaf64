/- The program's Shadow. WRITTEN BY gen_Kp.py. -/
import Derived.Test.YtbaclcpnnompnaaKpc
namespace Go.Proofs.Ytbaclcpnnompnaa
open Go Go.RowKit
set_option linter.unusedVariables false
set_option linter.unusedSimpArgs false

set_option maxHeartbeats 4000000 in
set_option maxRecDepth 100000 in
theorem pshadow_no (r b t s o a : Int) (w : World) (q : Int × Int × Int × Int) (hq : Geo.loc r b t s o a = q) (hne : q.2.2.2 ≠ 0) : Calls Try.prog 51 #[.agg #[.int .i64 r, .int .i64 b, .int .i64 t, .int .i64 s, .int .i64 o], .int .i64 a] w (shPostN [] w) := by
  have L := Lib.hid fun w => ploc_any r b t s o a w
  rw [hq] at L
  have d : (q.2.2.2 == 0) = false := by simpa using hne
  obtain ⟨q1, q2, q3, q4⟩ := q
  have d' : (q4 == 0) = false := d
  have d2 : ¬ q4 = 0 := hne
  unfold locV at L
  clear hq hne d
  obtain ⟨B0, hB0⟩ : ∃ B, w.heap.size = B := ⟨_, rfl⟩
  obtain ⟨W0, hW0⟩ : ∃ W, w.alloc (.cells #[.int .i64 r, .int .i64 b, .int .i64 t, .int .i64 s, .int .i64 o] 23) = W := ⟨_, rfl⟩
  have BW : Hid (Below w.heap.size w W0) := Lib.hid (by subst hW0; exact (Below.refl _ _).alloc (Nat.le_refl _) _)
  have R0 : Hid (Row W0 B0 23 #[.int .i64 r, .int .i64 b, .int .i64 t, .int .i64 s, .int .i64 o]) := Lib.hid (by subst hW0; exact gr_new w _ _ hB0)
  have c0 := R0.out.cell 0
  have c1 := R0.out.cell 1
  have c2 := R0.out.cell 2
  have c3 := R0.out.cell 3
  have c4 := R0.out.cell 4
  simp only [List.getElem?_toArray, List.getElem?_cons_zero, List.getElem?_cons_succ] at c0 c1 c2 c3 c4
  have HB0 := Lib.hid hB0
  have HW0 := Lib.hid hW0
  clear hB0 hW0
  go_enter Try.func51, Try.ntmps51
  go_wp2_with (first | rw [HB0.out] | rw [HW0.out])
  refine (L.out _).mono ?_
  rintro e w1 ⟨rfl, hb⟩
  have B1 := Lib.hid (BW.out.trans (hb.mono BW.out.size))
  clear hb
  go_wp2_with fail
  go_ret
  exact ⟨_, rfl, ⟨Sl.nil_ _, fun g hg => (by cases hg)⟩, B1.out⟩
set_option maxHeartbeats 4000000 in
set_option maxRecDepth 100000 in
theorem pshadow_in1 (R B T S O n : Nat) (w : World) (h : Geo.GV (R : Int) B T S O) (hn : n < B * (T * S)) (hc : (O : Int) ≤ (T : Int) - 1 - ((n / S % T : Nat) : Int)) : Calls Try.prog 51 #[.agg #[.int .i64 (R : Int), .int .i64 (B : Int), .int .i64 (T : Int), .int .i64 (S : Int), .int .i64 (O : Int)], .int .i64 ((R + n : Nat) : Int)] w (shPostN (Geo.shd S ((R + n : Nat) : Int) (min O (T - 1 - n / S % T))) w) := by
  have L := Lib.hid fun w => ploc_any R B T S O ((R + n : Nat) : Int) w
  rw [Geo.loc_in h hn] at L
  unfold locV at L
  have hg := Geo.gv_nat h
  have yT := Nat.mod_lt (n / S) (show T > 0 by omega)
  have sz := Geo.bts_le hg.2.2.1 hg.2.2.2.2.1 hg.2.2.2.2.2.2.1
  obtain ⟨x, hx⟩ : ∃ x, n / (T * S) = x := ⟨_, rfl⟩
  obtain ⟨y, hy⟩ : ∃ y, n / S % T = y := ⟨_, rfl⟩
  obtain ⟨z, hz⟩ : ∃ z, n % S = z := ⟨_, rfl⟩
  obtain ⟨a, ha⟩ : ∃ a, R + n = a := ⟨_, rfl⟩
  rw [hx, hy, hz, ha] at L
  rw [hy] at yT ⊢
  rw [ha]
  have yB : y ≤ 15 ∧ O ≤ 3 ∧ T ≤ 16 ∧ S ≤ 64 ∧ a ≤ 100000 := by omega
  rw [hy] at hc
  clear hx hy hz ha h hn hg sz
  obtain ⟨i0, hi, hz0, hz1, hz2⟩ := info_pt info_i8
  have I0 := Lib.hid (And.intro hi (And.intro hz0 (And.intro hz1 hz2)))
  clear hi hz0 hz1 hz2
  obtain ⟨m, hm⟩ : ∃ m, min O (T - 1 - y) = m := ⟨_, rfl⟩
  have mO : m ≤ 3 := by omega
  rw [hm]
  obtain rfl : O = m := by omega
  clear hm
  obtain ⟨B0, hB0⟩ : ∃ B, w.heap.size = B := ⟨_, rfl⟩
  obtain ⟨W0, hW0⟩ : ∃ W, w.alloc (.cells #[.int .i64 (R : Int), .int .i64 (B : Int), .int .i64 (T : Int), .int .i64 (S : Int), .int .i64 (O : Int)] 23) = W := ⟨_, rfl⟩
  have BW : Hid (Below w.heap.size w W0) := Lib.hid (by subst hW0; exact (Below.refl _ _).alloc (Nat.le_refl _) _)
  have R0 : Hid (Row W0 B0 23 #[.int .i64 (R : Int), .int .i64 (B : Int), .int .i64 (T : Int), .int .i64 (S : Int), .int .i64 (O : Int)]) := Lib.hid (by subst hW0; exact gr_new w _ _ hB0)
  have c0 := R0.out.cell 0
  have c1 := R0.out.cell 1
  have c2 := R0.out.cell 2
  have c3 := R0.out.cell 3
  have c4 := R0.out.cell 4
  simp only [List.getElem?_toArray, List.getElem?_cons_zero, List.getElem?_cons_succ] at c0 c1 c2 c3 c4
  have HB0 := Lib.hid hB0
  have HW0 := Lib.hid hW0
  clear hB0 hW0
  go_enter Try.func51, Try.ntmps51
  go_wp2_with (first | rw [HB0.out] | rw [HW0.out])
  refine (L.out _).mono ?_
  rintro e w1 ⟨rfl, hb⟩
  have B1 := Lib.hid (BW.out.trans (hb.mono BW.out.size))
  have R1 := Lib.hid (rw_fw R0.out hb)
  replace c0 := ce_fw c0 hb
  replace c1 := ce_fw c1 hb
  replace c2 := ce_fw c2 hb
  replace c3 := ce_fw c3 hb
  replace c4 := ce_fw c4 hb
  clear hb L
  go_wp2_with fail
  clear c0 c1 c2 c3 c4
  go_loopw [9, 1, 28] (fun v p i wr => ∃ k : Nat, k ≤ O ∧ i = .int .i64 (k : Int) ∧ p = .int .i64 ((a + k * S : Nat) : Int) ∧ Hid (OwnL Iv wr w1.heap.size 3 v (Geo.shd S a k) ∧ Below w1.heap.size w1 wr)) (fun _ _ i _ => O - (intOf i).toNat)
  case atStart => exact ⟨0, Nat.zero_le _, rfl, by rw [Nat.zero_mul, Nat.add_zero], Lib.hid ⟨OwnL.nil_ _ _ _, Below.refl _ _⟩⟩
  case round =>
    obtain ⟨k, hk, rfl, rfl, V⟩ := hrel
    have R2 := Lib.hid (rw_fw R1.out V.out.2)
    have c0 := R2.out.cell 0
    have c1 := R2.out.cell 1
    have c2 := R2.out.cell 2
    have c3 := R2.out.cell 3
    have c4 := R2.out.cell 4
    simp only [List.getElem?_toArray, List.getElem?_cons_zero, List.getElem?_cons_succ] at c0 c1 c2 c3 c4
    by_cases hlt : k < O
    · have kI : (k : Int) < (O : Int) := by omega
      have kS := Nat.mul_le_mul (show k + 1 ≤ 3 by omega) yB.2.2.2.1
      obtain ⟨p, hp⟩ : ∃ p, a + k * S + S = p := ⟨_, rfl⟩
      have hp2 : a + (k + 1) * S = p := by rw [← hp, Nat.add_mul, Nat.one_mul, Nat.add_assoc]
      have pB : p ≤ 200000 := by omega
      have CN := Lib.hid (show Geo.shd S (a : Int) (k + 1) = Geo.shd S a k ++ [(p : Int)] by rw [Geo.shd_succ]; congr 2; rw [← hp2]; push_cast; rfl)
      have PW := Lib.hid (show wrap64 (((a + k * S : Nat) : Int) + (S : Int)) = (p : Int) by rw [← hp]; exact gw (x := _) (by omega) (by omega))
      have P2 := Lib.hid hp2
      have OW := Lib.hid V.out.1
      have BV := Lib.hid V.out.2
      have LN := Lib.hid (Geo.shd_len S a k)
      have CL := Lib.hid (show (wr.alloc (.cells #[.int .i64 (p : Int)] 3)).cell? ⟨wr.heap.size, 0, none⟩ = some (.int .i64 (p : Int)) by rw [(gr_new wr _ _ rfl).cell]; rfl)
      have O3 := Lib.hid (OW.out.alloc (.cells #[.int .i64 (p : Int)] 3))
      have B3 := Lib.hid (BV.out.alloc BV.out.size (.cells #[.int .i64 (p : Int)] 3))
      generalize a + k * S = pr at PW hp ⊢
      clear V hp hp2 kS
      go_wp2_with (first | rw [PW.out] | (at_builtin; refine wpList_push rfl (.tmp 34) (.tmp 36) 85 rfl w1.heap.size 3 i0 (.int .i64 0) 8 Try.underlying85 I0.out.1 I0.out.2.1 I0.out.2.2.1 I0.out.2.2.2 rfl Iv.keeps u9 _ rfl O3.out k LN.out wr.heap.size (.int .i64 (p : Int)) (p : Int) rfl CL.out rfl rfl (fun _ _ => fun _ _ => rfl) (by unfold maxLen; omega) (by omega) (by have := BV.out.size; simp; omega) ?_; intro g cap w3 ho hg; have HO := Lib.hid ho; have HG := Lib.hid (B3.out.grown hg B3.out.size (fun j hj => (O3.out.own j hj).1)); clear ho hg))
      go_roundw
      case rel => exact ⟨k + 1, by omega, by go_num, by rw [P2.out], Lib.hid ⟨by rw [CN.out]; exact HO.out, HG.out⟩⟩
      case measure => simp [intOf]; omega
    · obtain rfl : k = O := by omega
      have kI : ¬ (k : Int) < (k : Int) := by omega
      have dk : decide ((k : Int) < (k : Int)) = false := decide_eq_false kI
      have OW := Lib.hid (And.intro V.out.1.sl fun g hg => Nat.le_trans B1.out.size (V.out.1.own g hg).1)
      have BV := Lib.hid (B1.out.trans (V.out.2.mono B1.out.size))
      clear V
      go_wp2_with fail
      go_ret
      exact ⟨_, rfl, OW.out, BV.out⟩
set_option maxHeartbeats 4000000 in
set_option maxRecDepth 100000 in
theorem pshadow_in2 (R B T S O n : Nat) (w : World) (h : Geo.GV (R : Int) B T S O) (hn : n < B * (T * S)) (hc : ¬ (O : Int) ≤ (T : Int) - 1 - ((n / S % T : Nat) : Int)) : Calls Try.prog 51 #[.agg #[.int .i64 (R : Int), .int .i64 (B : Int), .int .i64 (T : Int), .int .i64 (S : Int), .int .i64 (O : Int)], .int .i64 ((R + n : Nat) : Int)] w (shPostN (Geo.shd S ((R + n : Nat) : Int) (min O (T - 1 - n / S % T))) w) := by
  have L := Lib.hid fun w => ploc_any R B T S O ((R + n : Nat) : Int) w
  rw [Geo.loc_in h hn] at L
  unfold locV at L
  have hg := Geo.gv_nat h
  have yT := Nat.mod_lt (n / S) (show T > 0 by omega)
  have sz := Geo.bts_le hg.2.2.1 hg.2.2.2.2.1 hg.2.2.2.2.2.2.1
  obtain ⟨x, hx⟩ : ∃ x, n / (T * S) = x := ⟨_, rfl⟩
  obtain ⟨y, hy⟩ : ∃ y, n / S % T = y := ⟨_, rfl⟩
  obtain ⟨z, hz⟩ : ∃ z, n % S = z := ⟨_, rfl⟩
  obtain ⟨a, ha⟩ : ∃ a, R + n = a := ⟨_, rfl⟩
  rw [hx, hy, hz, ha] at L
  rw [hy] at yT ⊢
  rw [ha]
  have yB : y ≤ 15 ∧ O ≤ 3 ∧ T ≤ 16 ∧ S ≤ 64 ∧ a ≤ 100000 := by omega
  rw [hy] at hc
  clear hx hy hz ha h hn hg sz
  obtain ⟨i0, hi, hz0, hz1, hz2⟩ := info_pt info_i8
  have I0 := Lib.hid (And.intro hi (And.intro hz0 (And.intro hz1 hz2)))
  clear hi hz0 hz1 hz2
  obtain ⟨m, hm⟩ : ∃ m, min O (T - 1 - y) = m := ⟨_, rfl⟩
  have mO : m ≤ 3 := by omega
  rw [hm]
  have hc2 : (m : Int) < (O : Int) := by omega
  have MN := Lib.hid (show (T : Int) - 1 - (y : Int) = (m : Int) by omega)
  clear hm hc
  obtain ⟨B0, hB0⟩ : ∃ B, w.heap.size = B := ⟨_, rfl⟩
  obtain ⟨W0, hW0⟩ : ∃ W, w.alloc (.cells #[.int .i64 (R : Int), .int .i64 (B : Int), .int .i64 (T : Int), .int .i64 (S : Int), .int .i64 (O : Int)] 23) = W := ⟨_, rfl⟩
  have BW : Hid (Below w.heap.size w W0) := Lib.hid (by subst hW0; exact (Below.refl _ _).alloc (Nat.le_refl _) _)
  have R0 : Hid (Row W0 B0 23 #[.int .i64 (R : Int), .int .i64 (B : Int), .int .i64 (T : Int), .int .i64 (S : Int), .int .i64 (O : Int)]) := Lib.hid (by subst hW0; exact gr_new w _ _ hB0)
  have c0 := R0.out.cell 0
  have c1 := R0.out.cell 1
  have c2 := R0.out.cell 2
  have c3 := R0.out.cell 3
  have c4 := R0.out.cell 4
  simp only [List.getElem?_toArray, List.getElem?_cons_zero, List.getElem?_cons_succ] at c0 c1 c2 c3 c4
  have HB0 := Lib.hid hB0
  have HW0 := Lib.hid hW0
  clear hB0 hW0
  go_enter Try.func51, Try.ntmps51
  go_wp2_with (first | rw [HB0.out] | rw [HW0.out])
  refine (L.out _).mono ?_
  rintro e w1 ⟨rfl, hb⟩
  have B1 := Lib.hid (BW.out.trans (hb.mono BW.out.size))
  have R1 := Lib.hid (rw_fw R0.out hb)
  replace c0 := ce_fw c0 hb
  replace c1 := ce_fw c1 hb
  replace c2 := ce_fw c2 hb
  replace c3 := ce_fw c3 hb
  replace c4 := ce_fw c4 hb
  clear hb L
  go_wp2_with (first | rw [MN.out])
  clear c0 c1 c2 c3 c4
  go_loopw [9, 1, 28] (fun v p i wr => ∃ k : Nat, k ≤ m ∧ i = .int .i64 (k : Int) ∧ p = .int .i64 ((a + k * S : Nat) : Int) ∧ Hid (OwnL Iv wr w1.heap.size 3 v (Geo.shd S a k) ∧ Below w1.heap.size w1 wr)) (fun _ _ i _ => m - (intOf i).toNat)
  case atStart => exact ⟨0, Nat.zero_le _, rfl, by rw [Nat.zero_mul, Nat.add_zero], Lib.hid ⟨OwnL.nil_ _ _ _, Below.refl _ _⟩⟩
  case round =>
    obtain ⟨k, hk, rfl, rfl, V⟩ := hrel
    have R2 := Lib.hid (rw_fw R1.out V.out.2)
    have c0 := R2.out.cell 0
    have c1 := R2.out.cell 1
    have c2 := R2.out.cell 2
    have c3 := R2.out.cell 3
    have c4 := R2.out.cell 4
    simp only [List.getElem?_toArray, List.getElem?_cons_zero, List.getElem?_cons_succ] at c0 c1 c2 c3 c4
    by_cases hlt : k < m
    · have kI : (k : Int) < (m : Int) := by omega
      have kS := Nat.mul_le_mul (show k + 1 ≤ 3 by omega) yB.2.2.2.1
      obtain ⟨p, hp⟩ : ∃ p, a + k * S + S = p := ⟨_, rfl⟩
      have hp2 : a + (k + 1) * S = p := by rw [← hp, Nat.add_mul, Nat.one_mul, Nat.add_assoc]
      have pB : p ≤ 200000 := by omega
      have CN := Lib.hid (show Geo.shd S (a : Int) (k + 1) = Geo.shd S a k ++ [(p : Int)] by rw [Geo.shd_succ]; congr 2; rw [← hp2]; push_cast; rfl)
      have PW := Lib.hid (show wrap64 (((a + k * S : Nat) : Int) + (S : Int)) = (p : Int) by rw [← hp]; exact gw (x := _) (by omega) (by omega))
      have P2 := Lib.hid hp2
      have OW := Lib.hid V.out.1
      have BV := Lib.hid V.out.2
      have LN := Lib.hid (Geo.shd_len S a k)
      have CL := Lib.hid (show (wr.alloc (.cells #[.int .i64 (p : Int)] 3)).cell? ⟨wr.heap.size, 0, none⟩ = some (.int .i64 (p : Int)) by rw [(gr_new wr _ _ rfl).cell]; rfl)
      have O3 := Lib.hid (OW.out.alloc (.cells #[.int .i64 (p : Int)] 3))
      have B3 := Lib.hid (BV.out.alloc BV.out.size (.cells #[.int .i64 (p : Int)] 3))
      generalize a + k * S = pr at PW hp ⊢
      clear V hp hp2 kS
      go_wp2_with (first | rw [PW.out] | (at_builtin; refine wpList_push rfl (.tmp 34) (.tmp 36) 85 rfl w1.heap.size 3 i0 (.int .i64 0) 8 Try.underlying85 I0.out.1 I0.out.2.1 I0.out.2.2.1 I0.out.2.2.2 rfl Iv.keeps u9 _ rfl O3.out k LN.out wr.heap.size (.int .i64 (p : Int)) (p : Int) rfl CL.out rfl rfl (fun _ _ => fun _ _ => rfl) (by unfold maxLen; omega) (by omega) (by have := BV.out.size; simp; omega) ?_; intro g cap w3 ho hg; have HO := Lib.hid ho; have HG := Lib.hid (B3.out.grown hg B3.out.size (fun j hj => (O3.out.own j hj).1)); clear ho hg))
      go_roundw
      case rel => exact ⟨k + 1, by omega, by go_num, by rw [P2.out], Lib.hid ⟨by rw [CN.out]; exact HO.out, HG.out⟩⟩
      case measure => simp [intOf]; omega
    · obtain rfl : k = m := by omega
      have kI : ¬ (k : Int) < (k : Int) := by omega
      have dk : decide ((k : Int) < (k : Int)) = false := decide_eq_false kI
      have OW := Lib.hid (And.intro V.out.1.sl fun g hg => Nat.le_trans B1.out.size (V.out.1.own g hg).1)
      have BV := Lib.hid (B1.out.trans (V.out.2.mono B1.out.size))
      clear V
      go_wp2_with fail
      go_ret
      exact ⟨_, rfl, OW.out, BV.out⟩
theorem pshadow_in (R B T S O n : Nat) (w : World) (h : Geo.GV (R : Int) B T S O) (hn : n < B * (T * S)) : Calls Try.prog 51 #[.agg #[.int .i64 (R : Int), .int .i64 (B : Int), .int .i64 (T : Int), .int .i64 (S : Int), .int .i64 (O : Int)], .int .i64 ((R + n : Nat) : Int)] w (shPostN (Geo.shd S ((R + n : Nat) : Int) (min O (T - 1 - n / S % T))) w) := by
  by_cases hc : (O : Int) ≤ (T : Int) - 1 - ((n / S % T : Nat) : Int)
  · exact pshadow_in1 R B T S O n w h hn hc
  · exact pshadow_in2 R B T S O n w h hn hc
theorem pshadow_new (r b t s o a : Int) (w : World) : Calls Try.prog 51 #[.agg #[.int .i64 r, .int .i64 b, .int .i64 t, .int .i64 s, .int .i64 o], .int .i64 a] w (shPostN (Geo.shadow r b t s o a) w) := by
  by_cases hne : (Geo.loc r b t s o a).2.2.2 = 0
  · have h : Geo.GV r b t s o := by
      by_cases h : Geo.GV r b t s o
      · exact h
      · rw [Geo.loc_bad h] at hne; cases hne
    have h' := h
    unfold Geo.GV at h'
    obtain ⟨R, rfl⟩ : ∃ n : Nat, r = n := ⟨r.toNat, by omega⟩
    obtain ⟨B, rfl⟩ : ∃ n : Nat, b = n := ⟨b.toNat, by omega⟩
    obtain ⟨T, rfl⟩ : ∃ n : Nat, t = n := ⟨t.toNat, by omega⟩
    obtain ⟨S, rfl⟩ : ∃ n : Nat, s = n := ⟨s.toNat, by omega⟩
    obtain ⟨O, rfl⟩ : ∃ n : Nat, o = n := ⟨o.toNat, by omega⟩
    clear h'
    by_cases ha : a < R ∨ ((R + B * (T * S) : Nat) : Int) ≤ a
    · rw [Geo.loc_out h ha] at hne; cases hne
    · obtain ⟨n, rfl⟩ : ∃ n : Nat, a = ((R + n : Nat) : Int) := ⟨(a - R).toNat, by omega⟩
      have hn : n < B * (T * S) := by omega
      unfold Geo.shadow
      rw [Geo.shn_in h hn]
      exact pshadow_in R B T S O n w h hn
  · have e : Geo.shadow r b t s o a = [] := by unfold Geo.shadow; rw [Geo.shn_out hne]; rfl
    rw [e]
    exact pshadow_no r b t s o a w _ rfl hne
theorem pshadow_any (r b t s o a : Int) (w : World) : Calls Try.prog 51 #[.agg #[.int .i64 r, .int .i64 b, .int .i64 t, .int .i64 s, .int .i64 o], .int .i64 a] w (shPost (Geo.shadow r b t s o a) w) :=
  (pshadow_new r b t s o a w).mono fun e w1 ⟨v, h1, h2, h3⟩ => ⟨v, h1, h2.1, h3⟩
end Go.Proofs.Ytbaclcpnnompnaa
