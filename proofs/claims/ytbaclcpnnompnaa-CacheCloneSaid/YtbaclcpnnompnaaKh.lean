/- The reference's Shadow. WRITTEN BY gen_Kh.py. -/
import Derived.Test.YtbaclcpnnompnaaKg
namespace Go.Proofs.Ytbaclcpnnompnaa
open Go Go.RowKit
set_option linter.unusedVariables false
set_option linter.unusedSimpArgs false
def shPost (l : List Int) (w : World) (e : Ending) (w' : World) : Prop := ∃ v, e = .returned v ∧ Is w' v l ∧ Below w.heap.size w w'
/-- The list lies in new memory. -/
def shPostN (l : List Int) (w : World) (e : Ending) (w' : World) : Prop := ∃ v, e = .returned v ∧ (Is w' v l ∧ ∀ g, v.ownBlock = some g → w.heap.size ≤ g) ∧ Below w.heap.size w w'
theorem info_i8 : (Try.prog.info? 3).map (fun i => (i.zero, i.size, i.bytes)) = some (some (.int .i64 0), 1, 8) := by kernel_rfl
theorem info_pt {P : Program} {t : TypeId} {z : Value} {s b : Nat} (h : (P.info? t).map (fun i => (i.zero, i.size, i.bytes)) = some (some z, s, b)) : ∃ i, P.info? t = some i ∧ i.zero = some z ∧ i.size = s ∧ i.bytes = b := by
  obtain ⟨i, hi, e⟩ := Option.map_eq_some_iff.1 h
  simp only [Prod.mk.injEq] at e
  exact ⟨i, hi, e.1, e.2.1, e.2.2⟩

set_option maxHeartbeats 4000000 in
set_option maxRecDepth 100000 in
theorem rshadow_no (r b t s o a : Int) (w : World) (q : Int × Int × Int × Int) (hq : Geo.loc r b t s o a = q) (hne : q.2.2.2 ≠ 0) : Calls Try.prog 63 #[.agg #[.int .i64 r, .int .i64 b, .int .i64 t, .int .i64 s, .int .i64 o], .int .i64 a] w (shPostN [] w) := by
  have L := Lib.hid fun w => rloc_any r b t s o a w
  rw [hq] at L
  have d : (q.2.2.2 == 0) = false := by simpa using hne
  obtain ⟨q1, q2, q3, q4⟩ := q
  have d' : (q4 == 0) = false := d
  unfold locV at L
  clear hq hne d
  obtain ⟨B0, hB0⟩ : ∃ B, w.heap.size = B := ⟨_, rfl⟩
  obtain ⟨W0, hW0⟩ : ∃ W, w.alloc (.cells #[.int .i64 r, .int .i64 b, .int .i64 t, .int .i64 s, .int .i64 o] 23) = W := ⟨_, rfl⟩
  have BW : Hid (Below w.heap.size w W0) := Lib.hid (by subst hW0; exact (Below.refl _ _).alloc (Nat.le_refl _) _)
  have R0 : Hid (Row W0 B0 23 #[.int .i64 r, .int .i64 b, .int .i64 t, .int .i64 s, .int .i64 o]) := Lib.hid (by subst hW0; exact gr_new w _ _ hB0)
  have c0 := R0.out.cell 0
  have c1 := R0.out.cell 1
  have c2 := R0.out.cell 2
  have c3 := R0.out.cell 3
  have c4 := R0.out.cell 4
  simp only [List.getElem?_toArray, List.getElem?_cons_zero, List.getElem?_cons_succ] at c0 c1 c2 c3 c4
  have HB0 := Lib.hid hB0
  have HW0 := Lib.hid hW0
  clear hB0 hW0
  go_enter Try.func63, Try.ntmps63
  go_wp2_with (first | rw [HB0.out] | rw [HW0.out])
  refine (L.out _).mono ?_
  rintro e w1 ⟨rfl, hb⟩
  have B1 := Lib.hid (BW.out.trans (hb.mono BW.out.size))
  clear hb
  go_wp2_with fail
  go_loopw [9, 10] (fun v i wr => v = .slice none 0 0 ∧ i = .int .i64 1 ∧ wr = w1) (fun _ _ _ => 0)
  case atStart => exact ⟨rfl, rfl, rfl⟩
  case round =>
    obtain ⟨rfl, rfl, rfl⟩ := hrel
    go_wp2_with fail
    go_ret
    exact ⟨_, rfl, ⟨Sl.nil_ _, fun g hg => (by cases hg)⟩, B1.out⟩
set_option maxHeartbeats 4000000 in
set_option maxRecDepth 100000 in
theorem rshadow_in (R B T S O n : Nat) (w : World) (h : Geo.GV (R : Int) B T S O) (hn : n < B * (T * S)) : Calls Try.prog 63 #[.agg #[.int .i64 (R : Int), .int .i64 (B : Int), .int .i64 (T : Int), .int .i64 (S : Int), .int .i64 (O : Int)], .int .i64 ((R + n : Nat) : Int)] w (shPostN (Geo.shd S ((R + n : Nat) : Int) (min O (T - 1 - n / S % T))) w) := by
  have L := Lib.hid fun w => rloc_any R B T S O ((R + n : Nat) : Int) w
  rw [Geo.loc_in h hn] at L
  unfold locV at L
  have hg := Geo.gv_nat h
  have AD := Lib.hid fun k (x y z w) => raddr_any R B T S O x (y + k) z w
  have AI := Lib.hid fun k (hk : n / S % T + k < T) => (show Geo.addr R B T S O ((n / (T * S) : Nat) : Int) (((n / S % T : Nat) : Int) + (k : Nat)) ((n % S : Nat) : Int) = (((R + n : Nat) : Int) + ((k : Nat) : Int) * S, 0) by
    have e := Geo.addr_in h (Geo.div_lt hn) hk (Nat.mod_lt n (show S > 0 by omega))
    have e2 := Geo.shd_num (S := S) (T := T) n k
    rw [← e2] at e
    rw [show (((n / S % T : Nat) : Int) + (k : Nat)) = ((n / S % T + k : Nat) : Int) by push_cast; rfl, e]
    congr 1
    push_cast; rw [Int.add_assoc])
  have AO := Lib.hid fun k (hk : ¬ n / S % T + k < T) => (show Geo.addr R B T S O ((n / (T * S) : Nat) : Int) (((n / S % T : Nat) : Int) + (k : Nat)) ((n % S : Nat) : Int) = (0, 2) from Geo.addr_out h (by omega))
  have yT := Nat.mod_lt (n / S) (show T > 0 by omega)
  obtain ⟨x, hx⟩ : ∃ x, n / (T * S) = x := ⟨_, rfl⟩
  obtain ⟨y, hy⟩ : ∃ y, n / S % T = y := ⟨_, rfl⟩
  obtain ⟨z, hz⟩ : ∃ z, n % S = z := ⟨_, rfl⟩
  obtain ⟨a, ha⟩ : ∃ a, ((R + n : Nat) : Int) = a := ⟨_, rfl⟩
  rw [hx, hy, hz, ha] at L
  rw [hx, hy, hz, ha] at AI
  rw [hx, hy, hz] at AO
  rw [hy] at yT ⊢
  rw [ha]
  have yB : y ≤ 15 ∧ O ≤ 3 ∧ T ≤ 16 := by omega
  clear hx hy hz ha h hn hg
  obtain ⟨i0, hi, hz0, hz1, hz2⟩ := info_pt info_i8
  have I0 := Lib.hid (And.intro hi (And.intro hz0 (And.intro hz1 hz2)))
  clear hi hz0 hz1 hz2
  obtain ⟨B0, hB0⟩ : ∃ B, w.heap.size = B := ⟨_, rfl⟩
  obtain ⟨W0, hW0⟩ : ∃ W, w.alloc (.cells #[.int .i64 (R : Int), .int .i64 (B : Int), .int .i64 (T : Int), .int .i64 (S : Int), .int .i64 (O : Int)] 23) = W := ⟨_, rfl⟩
  have BW : Hid (Below w.heap.size w W0) := Lib.hid (by subst hW0; exact (Below.refl _ _).alloc (Nat.le_refl _) _)
  have R0 : Hid (Row W0 B0 23 #[.int .i64 (R : Int), .int .i64 (B : Int), .int .i64 (T : Int), .int .i64 (S : Int), .int .i64 (O : Int)]) := Lib.hid (by subst hW0; exact gr_new w _ _ hB0)
  have c0 := R0.out.cell 0
  have c1 := R0.out.cell 1
  have c2 := R0.out.cell 2
  have c3 := R0.out.cell 3
  have c4 := R0.out.cell 4
  simp only [List.getElem?_toArray, List.getElem?_cons_zero, List.getElem?_cons_succ] at c0 c1 c2 c3 c4
  have HB0 := Lib.hid hB0
  have HW0 := Lib.hid hW0
  clear hB0 hW0
  go_enter Try.func63, Try.ntmps63
  go_wp2_with (first | rw [HB0.out] | rw [HW0.out])
  refine (L.out _).mono ?_
  rintro e w1 ⟨rfl, hb⟩
  have B1 := Lib.hid (BW.out.trans (hb.mono BW.out.size))
  have R1 := Lib.hid (rw_fw R0.out hb)
  clear hb L c0 c1 c2 c3 c4
  go_wp2_with fail
  go_loopw [9, 10] (fun v i wr => ∃ k : Nat, k ≤ O ∧ i = .int .i64 ((k : Int) + 1) ∧ Hid (OwnL Iv wr w1.heap.size 3 v (Geo.shd S a (min k (T - 1 - y))) ∧ Below w1.heap.size w1 wr)) (fun _ i _ => O + 1 - (intOf i).toNat)
  case atStart => exact ⟨0, Nat.zero_le _, rfl, Lib.hid ⟨by rw [Nat.zero_min]; exact OwnL.nil_ _ _ _, Below.refl _ _⟩⟩
  case round =>
    obtain ⟨k, hk, rfl, V⟩ := hrel
    have R2 := Lib.hid (rw_fw R1.out V.out.2)
    have c0 := R2.out.cell 0
    have c1 := R2.out.cell 1
    have c2 := R2.out.cell 2
    have c3 := R2.out.cell 3
    have c4 := R2.out.cell 4
    simp only [List.getElem?_toArray, List.getElem?_cons_zero, List.getElem?_cons_succ] at c0 c1 c2 c3 c4
    by_cases hlt : k < O
    · have kI : (k : Int) + 1 ≤ (O : Int) := by omega
      have AD2 := Lib.hid (AD.out ((k : Int) + 1) (x : Int) (y : Int) (z : Int) wr)
      by_cases hin : y + (k + 1) < T
      · have e := AI.out (k + 1) hin
        rw [show (((k + 1 : Nat)) : Int) = (k : Int) + 1 by push_cast; rfl] at e
        rw [e] at AD2
        have CN := Lib.hid (show Geo.shd S a (min (k + 1) (T - 1 - y)) = Geo.shd S a k ++ [a + ((k : Int) + 1) * S] by rw [Nat.min_eq_left (by omega)]; exact Geo.shd_succ _ _ _)
        have OW := Lib.hid (show OwnL Iv wr w1.heap.size 3 u9 (Geo.shd S a k) by have := V.out.1; rw [Nat.min_eq_left (by omega)] at this; exact this)
        have BV := Lib.hid V.out.2
        have LN := Lib.hid (Geo.shd_len S a k)
        obtain ⟨p, hp⟩ : ∃ p, a + ((k : Int) + 1) * S = p := ⟨_, rfl⟩
        rw [hp] at AD2 CN
        clear V e hp
        go_wp2_with fail
        refine AD2.out.mono ?_
        rintro e w2 ⟨rfl, hb⟩
        have B2 := Lib.hid (BV.out.trans (hb.mono BV.out.size))
        have O2 := Lib.hid (OW.out.below hb (Nat.le_refl _))
        have CL := Lib.hid (show (w2.alloc (.cells #[.int .i64 p] 3)).cell? ⟨w2.heap.size, 0, none⟩ = some (.int .i64 p) by rw [(gr_new w2 _ _ rfl).cell]; rfl)
        have O3 := Lib.hid (O2.out.alloc (.cells #[.int .i64 p] 3))
        have B3 := Lib.hid (B2.out.alloc B2.out.size (.cells #[.int .i64 p] 3))
        clear hb
        go_wp2_with (at_builtin; refine wpList_push rfl (.tmp 43) (.tmp 45) 85 rfl w1.heap.size 3 i0 (.int .i64 0) 8 Try.underlying85 I0.out.1 I0.out.2.1 I0.out.2.2.1 I0.out.2.2.2 rfl Iv.keeps u9 _ rfl O3.out k LN.out w2.heap.size (.int .i64 p) p rfl CL.out rfl rfl (fun _ _ => fun _ _ => rfl) (by unfold maxLen; omega) (by omega) (by have := B2.out.size; simp; omega) ?_; intro g cap w3 ho hg; have HO := Lib.hid ho; have HG := Lib.hid (B3.out.grown hg B3.out.size (fun j hj => (O3.out.own j hj).1)); clear ho hg)
        go_roundw
        case rel => exact ⟨k + 1, by omega, by go_num, Lib.hid ⟨by rw [CN.out]; exact HO.out, HG.out⟩⟩
        case measure => simp [intOf]; omega
      · have e := AO.out (k + 1) hin
        rw [show (((k + 1 : Nat)) : Int) = (k : Int) + 1 by push_cast; rfl] at e
        rw [e] at AD2
        have OW := Lib.hid (show OwnL Iv wr w1.heap.size 3 u9 (Geo.shd S a (min (k + 1) (T - 1 - y))) by have := V.out.1; rw [show min k (T - 1 - y) = min (k + 1) (T - 1 - y) by omega] at this; exact this)
        have BV := Lib.hid V.out.2
        clear V e
        go_wp2_with fail
        refine AD2.out.mono ?_
        rintro e w2 ⟨rfl, hb⟩
        have B2 := Lib.hid (BV.out.trans (hb.mono BV.out.size))
        have O2 := Lib.hid (OW.out.below hb (Nat.le_refl _))
        clear hb
        go_wp2_with fail
        go_roundw
        case rel => exact ⟨k + 1, by omega, by go_num, Lib.hid ⟨O2.out, B2.out⟩⟩
        case measure => simp [intOf]; omega
    · obtain rfl : k = O := by omega
      have kI : ¬ (k : Int) + 1 ≤ (k : Int) := by omega
      have dk : decide ((k : Int) + 1 ≤ (k : Int)) = false := decide_eq_false kI
      have OW := Lib.hid (And.intro V.out.1.sl fun g hg => Nat.le_trans B1.out.size (V.out.1.own g hg).1)
      have BV := Lib.hid (B1.out.trans (V.out.2.mono B1.out.size))
      clear V
      go_wp2_with fail
      go_ret
      exact ⟨_, rfl, OW.out, BV.out⟩
theorem rshadow_new (r b t s o a : Int) (w : World) : Calls Try.prog 63 #[.agg #[.int .i64 r, .int .i64 b, .int .i64 t, .int .i64 s, .int .i64 o], .int .i64 a] w (shPostN (Geo.shadow r b t s o a) w) := by
  by_cases hne : (Geo.loc r b t s o a).2.2.2 = 0
  · have h : Geo.GV r b t s o := by
      by_cases h : Geo.GV r b t s o
      · exact h
      · rw [Geo.loc_bad h] at hne; cases hne
    have h' := h
    unfold Geo.GV at h'
    obtain ⟨R, rfl⟩ : ∃ n : Nat, r = n := ⟨r.toNat, by omega⟩
    obtain ⟨B, rfl⟩ : ∃ n : Nat, b = n := ⟨b.toNat, by omega⟩
    obtain ⟨T, rfl⟩ : ∃ n : Nat, t = n := ⟨t.toNat, by omega⟩
    obtain ⟨S, rfl⟩ : ∃ n : Nat, s = n := ⟨s.toNat, by omega⟩
    obtain ⟨O, rfl⟩ : ∃ n : Nat, o = n := ⟨o.toNat, by omega⟩
    clear h'
    by_cases ha : a < R ∨ ((R + B * (T * S) : Nat) : Int) ≤ a
    · rw [Geo.loc_out h ha] at hne; cases hne
    · obtain ⟨n, rfl⟩ : ∃ n : Nat, a = ((R + n : Nat) : Int) := ⟨(a - R).toNat, by omega⟩
      have hn : n < B * (T * S) := by omega
      unfold Geo.shadow
      rw [Geo.shn_in h hn]
      exact rshadow_in R B T S O n w h hn
  · have e : Geo.shadow r b t s o a = [] := by unfold Geo.shadow; rw [Geo.shn_out hne]; rfl
    rw [e]
    exact rshadow_no r b t s o a w _ rfl hne
theorem rshadow_any (r b t s o a : Int) (w : World) : Calls Try.prog 63 #[.agg #[.int .i64 r, .int .i64 b, .int .i64 t, .int .i64 s, .int .i64 o], .int .i64 a] w (shPost (Geo.shadow r b t s o a) w) :=
  (rshadow_new r b t s o a w).mono fun e w1 ⟨v, h1, h2, h3⟩ => ⟨v, h1, h2.1, h3⟩
end Go.Proofs.Ytbaclcpnnompnaa
