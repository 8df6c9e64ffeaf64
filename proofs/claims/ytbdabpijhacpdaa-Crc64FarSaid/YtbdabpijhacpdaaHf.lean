/- Layer 8: the walks of the laws on sums and their continuation. -/
import Derived.Test.YtbdabpijhacpdaaHe
namespace Go.Proofs.Ytbdabpijhacpdaa
open Go Go.RowKit
set_option linter.unusedVariables false
set_option linter.unusedSimpArgs false
theorem Crc.sts_lt' {n x : Nat} (h : x < 2 ^ 64) : Crc.sts n x < 2 ^ 64 := Crc.sts_lt n h
theorem padv_any (a : Nat) (n : Int) (w : World) (ha : a < 2 ^ 64) (hn : n < 2 ^ 42) (hn0 : -(2 ^ 63) ≤ n) : Calls Try.prog 17 #[.int .u64 (a : Int), .int .u64 0, .int .i64 n] w (u64Post (Crc.sts (8 * n.toNat) a) w) :=
  (pcomb_any a 0 n w ha (by decide) hn hn0).mono fun _ _ ⟨h1, h2⟩ => ⟨by rw [h1, Nat.xor_zero], h2⟩
set_option maxHeartbeats 1000000 in
set_option maxRecDepth 100000 in
theorem sumlaw_walk (v : Value) (b : List Nat) (s : Nat) (w : World) (hb : Bs w v b) (hs : s < 2 ^ 64) :
    Calls Try.prog 3 #[v, .int .u64 (s : Int)] w (lawPost w) := by
  have H0 := Lib.hid hb
  obtain ⟨A, c, e0⟩ := hb.form
  have E0 := Lib.hid e0
  obtain ⟨n, en⟩ : ∃ n, b.length = n := ⟨_, rfl⟩
  rw [en] at E0
  rw [e0, en]
  have S := Lib.hid hs
  clear hb e0 en hs
  by_cases hlt : 300 < n
  · have hI : (300 : Int) < (n : Int) := by omega
    go_enter Try.func3, Try.ntmps3
    go_wp2_with fail
    refine (awake_any w).mono ?_
    rintro e w1 ⟨rfl, hb⟩
    have B1 := Lib.hid hb
    clear hb
    go_wp2_with fail
    go_ret
    exact ⟨rfl, B1.out⟩
  have hI : ¬ (300 : Int) < (n : Int) := by omega
  go_enter Try.func3, Try.ntmps3
  go_wp2_with fail
  refine (awake_any w).mono ?_
  rintro e w1 ⟨rfl, hb⟩
  have Bw1 := Lib.hid hb
  have H1 := Lib.hid (show Bs w1 (.slice A n c) b by rw [← E0.out]; exact H0.out.below hb)
  clear hb
  go_wp2_with fail
  refine (pcrcsum_any _ b w1 H1.out).mono ?_
  rintro e w2 ⟨rfl, hb⟩
  have Bw2 := Lib.hid (Bw1.out.trans (hb.mono Bw1.out.size))
  have H2 := Lib.hid (H1.out.below hb)
  clear hb
  go_wp2_with fail
  refine (rcrcsum_any _ b w2 H2.out).mono ?_
  rintro e w' ⟨rfl, rfl⟩
  go_wp2_with fail
  refine (pcrcupd_any s _ b w2 S.out H2.out).mono ?_
  rintro e w3 ⟨rfl, hb⟩
  have Bw3 := Lib.hid (Bw2.out.trans (hb.mono Bw2.out.size))
  have H3 := Lib.hid (H2.out.below hb)
  clear hb
  go_wp2_with fail
  refine (rcrcupd_any s _ b w3 S.out H3.out).mono ?_
  rintro e w' ⟨rfl, rfl⟩
  go_wp2_with fail
  go_ret
  exact ⟨rfl, Bw3.out⟩
def updlawP (v1 v2 : Value) (w : World) : Prop := Calls Try.prog 4 #[v1, v2] w (lawPost w)
set_option maxHeartbeats 1000000 in
set_option maxRecDepth 100000 in
theorem updlaw_long (v1 v2 : Value) (a b : List Nat) (w : World) (h1 : Bs w v1 a) (h2 : Bs w v2 b) (hl : 300 < a.length ∨ 300 < b.length) :
    Calls Try.prog 4 #[v1, v2] w (lawPost w) := by
  obtain ⟨A1, c1, rfl⟩ := h1.form
  obtain ⟨A2, c2, rfl⟩ := h2.form
  clear h1 h2
  generalize a.length = n at *
  generalize b.length = m at *
  by_cases hlt : 300 < n
  · have hI : (300 : Int) < (n : Int) := by omega
    clear hl
    go_enter Try.func4, Try.ntmps4
    go_wp2_with fail
    refine (awake_any w).mono ?_
    rintro e w1 ⟨rfl, hb⟩
    have B1 := Lib.hid hb
    clear hb
    go_wp2_with fail
    go_ret
    exact ⟨rfl, B1.out⟩
  · have hI : ¬ (300 : Int) < (n : Int) := by omega
    have hJ : (300 : Int) < (m : Int) := by omega
    clear hl
    go_enter Try.func4, Try.ntmps4
    go_wp2_with fail
    refine (awake_any w).mono ?_
    rintro e w1 ⟨rfl, hb⟩
    have B1 := Lib.hid hb
    clear hb
    go_wp2_with fail
    go_ret
    exact ⟨rfl, B1.out⟩
set_option maxHeartbeats 1000000 in
set_option maxRecDepth 100000 in
theorem updlaw_walk (v1 v2 : Value) (a b : List Nat) (w : World) (h1 : Bs w v1 a) (h2 : Bs w v2 b) :
    Calls Try.prog 4 #[v1, v2] w (lawPost w) := by
  by_cases hl : 300 < a.length ∨ 300 < b.length
  · exact updlaw_long v1 v2 a b w h1 h2 hl
  have ha : a.length ≤ 300 := by omega
  have hb : b.length ≤ 300 := by omega
  clear hl
  have LA := Lib.hid ha
  have LB := Lib.hid hb
  have H1 := Lib.hid h1
  have H2 := Lib.hid h2
  obtain ⟨A1, c1, e1⟩ := h1.form
  obtain ⟨A2, c2, e2⟩ := h2.form
  obtain ⟨n, en⟩ : ∃ n, a.length = n := ⟨_, rfl⟩
  obtain ⟨m, em⟩ : ∃ m, b.length = m := ⟨_, rfl⟩
  have EM := Lib.hid em
  rw [en] at e1 ha
  rw [em] at e2 hb
  have E1 := Lib.hid e1
  have E2 := Lib.hid e2
  rw [e1, e2]
  clear h1 h2 e1 e2 en em
  have hI : ¬ (300 : Int) < (n : Int) := by omega
  have hJ : ¬ (300 : Int) < (m : Int) := by omega
  go_enter Try.func4, Try.ntmps4
  go_wp2_with fail
  refine (awake_any w).mono ?_
  rintro e w1 ⟨rfl, hb⟩
  have Bw1 := Lib.hid hb
  have P1 := Lib.hid (show Bs w1 (.slice A1 n c1) a by rw [← E1.out]; exact H1.out.below hb)
  have Q1 := Lib.hid (show Bs w1 (.slice A2 m c2) b by rw [← E2.out]; exact H2.out.below hb)
  clear hb
  go_wp2_with fail
  refine (pcrcsum_any _ a w1 P1.out).mono ?_
  rintro e w2 ⟨rfl, hb⟩
  have Bw2 := Lib.hid (Bw1.out.trans (hb.mono Bw1.out.size))
  have P2 := Lib.hid (P1.out.below hb)
  have Q2 := Lib.hid (Q1.out.below hb)
  clear hb
  have CA := Lib.hid (Crc.crc_lt H1.out.lt)
  go_wp2_with fail
  refine (pcrcupd_any (Crc.crc a) _ b w2 CA.out Q2.out).mono ?_
  rintro e w4 ⟨rfl, hb⟩
  have Bw4 := Lib.hid (Bw2.out.trans (hb.mono Bw2.out.size))
  have P4 := Lib.hid (P2.out.below hb)
  have Q4 := Lib.hid (Q2.out.below hb)
  clear hb
  rw [Crc.upd_crc a b]
  go_wp2_with fail
  refine (joined_any _ _ a b w4 P4.out Q4.out LA.out LB.out).mono ?_
  rintro e w5 ⟨vj, rfl, hj, -, hb⟩
  have Bw5 := Lib.hid (Bw4.out.trans (hb.mono Bw4.out.size))
  have J5 := Lib.hid hj
  clear hb hj
  go_wp2_with fail
  refine (pcrcsum_any _ _ w5 J5.out).mono ?_
  rintro e w6 ⟨rfl, hb⟩
  have Bw6 := Lib.hid (Bw5.out.trans (hb.mono Bw5.out.size))
  clear hb
  go_wp2_with fail
  go_ret
  exact ⟨rfl, Bw6.out⟩
def comblawP (v1 v2 : Value) (w : World) : Prop := Calls Try.prog 5 #[v1, v2] w (lawPost w)
set_option maxHeartbeats 1000000 in
set_option maxRecDepth 100000 in
theorem comblaw_long (v1 v2 : Value) (a b : List Nat) (w : World) (h1 : Bs w v1 a) (h2 : Bs w v2 b) (hl : 300 < a.length ∨ 300 < b.length) :
    Calls Try.prog 5 #[v1, v2] w (lawPost w) := by
  obtain ⟨A1, c1, rfl⟩ := h1.form
  obtain ⟨A2, c2, rfl⟩ := h2.form
  clear h1 h2
  generalize a.length = n at *
  generalize b.length = m at *
  by_cases hlt : 300 < n
  · have hI : (300 : Int) < (n : Int) := by omega
    clear hl
    go_enter Try.func5, Try.ntmps5
    go_wp2_with fail
    refine (awake_any w).mono ?_
    rintro e w1 ⟨rfl, hb⟩
    have B1 := Lib.hid hb
    clear hb
    go_wp2_with fail
    go_ret
    exact ⟨rfl, B1.out⟩
  · have hI : ¬ (300 : Int) < (n : Int) := by omega
    have hJ : (300 : Int) < (m : Int) := by omega
    clear hl
    go_enter Try.func5, Try.ntmps5
    go_wp2_with fail
    refine (awake_any w).mono ?_
    rintro e w1 ⟨rfl, hb⟩
    have B1 := Lib.hid hb
    clear hb
    go_wp2_with fail
    go_ret
    exact ⟨rfl, B1.out⟩
set_option maxHeartbeats 1000000 in
set_option maxRecDepth 100000 in
theorem comblaw_walk (v1 v2 : Value) (a b : List Nat) (w : World) (h1 : Bs w v1 a) (h2 : Bs w v2 b) :
    Calls Try.prog 5 #[v1, v2] w (lawPost w) := by
  by_cases hl : 300 < a.length ∨ 300 < b.length
  · exact comblaw_long v1 v2 a b w h1 h2 hl
  have ha : a.length ≤ 300 := by omega
  have hb : b.length ≤ 300 := by omega
  clear hl
  have LA := Lib.hid ha
  have LB := Lib.hid hb
  have H1 := Lib.hid h1
  have H2 := Lib.hid h2
  obtain ⟨A1, c1, e1⟩ := h1.form
  obtain ⟨A2, c2, e2⟩ := h2.form
  obtain ⟨n, en⟩ : ∃ n, a.length = n := ⟨_, rfl⟩
  obtain ⟨m, em⟩ : ∃ m, b.length = m := ⟨_, rfl⟩
  have EM := Lib.hid em
  rw [en] at e1 ha
  rw [em] at e2 hb
  have E1 := Lib.hid e1
  have E2 := Lib.hid e2
  rw [e1, e2]
  clear h1 h2 e1 e2 en em
  have hI : ¬ (300 : Int) < (n : Int) := by omega
  have hJ : ¬ (300 : Int) < (m : Int) := by omega
  go_enter Try.func5, Try.ntmps5
  go_wp2_with fail
  refine (awake_any w).mono ?_
  rintro e w1 ⟨rfl, hb⟩
  have Bw1 := Lib.hid hb
  have P1 := Lib.hid (show Bs w1 (.slice A1 n c1) a by rw [← E1.out]; exact H1.out.below hb)
  have Q1 := Lib.hid (show Bs w1 (.slice A2 m c2) b by rw [← E2.out]; exact H2.out.below hb)
  clear hb
  go_wp2_with fail
  refine (pcrcsum_any _ a w1 P1.out).mono ?_
  rintro e w2 ⟨rfl, hb⟩
  have Bw2 := Lib.hid (Bw1.out.trans (hb.mono Bw1.out.size))
  have P2 := Lib.hid (P1.out.below hb)
  have Q2 := Lib.hid (Q1.out.below hb)
  clear hb
  go_wp2_with fail
  refine (pcrcsum_any _ b w2 Q2.out).mono ?_
  rintro e w3 ⟨rfl, hb⟩
  have Bw3 := Lib.hid (Bw2.out.trans (hb.mono Bw2.out.size))
  have P3 := Lib.hid (P2.out.below hb)
  have Q3 := Lib.hid (Q2.out.below hb)
  clear hb
  have CA := Lib.hid (Crc.crc_lt H1.out.lt)
  have CB := Lib.hid (Crc.crc_lt H2.out.lt)
  have M42 : (m : Int) < 2 ^ 42 ∧ -(2 ^ 63) ≤ (m : Int) := by omega
  have MM := Lib.hid M42
  clear M42
  go_wp2_with fail
  refine (pcomb_any (Crc.crc a) (Crc.crc b) (m : Int) w3 CA.out CB.out MM.out.1 MM.out.2).mono ?_
  rintro e w4 ⟨rfl, hb⟩
  have Bw4 := Lib.hid (Bw3.out.trans (hb.mono Bw3.out.size))
  have P4 := Lib.hid (P3.out.below hb)
  have Q4 := Lib.hid (Q3.out.below hb)
  clear hb
  rw [Int.toNat_natCast, ← EM.out, Crc.combine_crc a b, EM.out]
  go_wp2_with fail
  refine (joined_any _ _ a b w4 P4.out Q4.out LA.out LB.out).mono ?_
  rintro e w5 ⟨vj, rfl, hj, -, hb⟩
  have Bw5 := Lib.hid (Bw4.out.trans (hb.mono Bw4.out.size))
  have J5 := Lib.hid hj
  clear hb hj
  go_wp2_with fail
  refine (pcrcsum_any _ _ w5 J5.out).mono ?_
  rintro e w6 ⟨rfl, hb⟩
  have Bw6 := Lib.hid (Bw5.out.trans (hb.mono Bw5.out.size))
  clear hb
  go_wp2_with fail
  go_ret
  exact ⟨rfl, Bw6.out⟩
set_option maxHeartbeats 1000000 in
set_option maxRecDepth 100000 in
theorem stepslaw_walk (a b : Nat) (n : Int) (w : World) (ha : a < 2 ^ 64) (hb : b < 2 ^ 64) (hn : (Lit.int .i64 n).wf = true) :
    Calls Try.prog 6 #[.int .u64 (a : Int), .int .u64 (b : Int), .int .i64 n] w (lawPost w) := by
  have hr := bounds_i64 hn
  have A := Lib.hid ha
  have B := Lib.hid hb
  clear hn ha hb
  by_cases hlt : 1000 < n
  · go_enter Try.func6, Try.ntmps6
    go_wp2_with fail
    refine (awake_any w).mono ?_
    rintro e w1 ⟨rfl, hb⟩
    have B1 := Lib.hid hb
    clear hb
    go_wp2_with fail
    go_ret
    exact ⟨rfl, B1.out⟩
  by_cases h0 : n < 0
  · have M := Lib.hid (show n < 2 ^ 42 ∧ -(2 ^ 63) ≤ n by omega)
    have Z := Lib.hid (show n.toNat = 0 by omega)
    clear hr
    go_enter Try.func6, Try.ntmps6
    go_wp2_with fail
    refine (awake_any w).mono ?_
    rintro e w1 ⟨rfl, hb⟩
    have Bw1 := Lib.hid hb
    clear hb
    have C := pcomb_any a b n w1 A.out B.out M.out.1 M.out.2
    rw [Z.out] at C
    have CC := Lib.hid C
    clear C
    have R := Lib.hid (fun w => rcomb_any a b 0 w A.out B.out (by decide))
    generalize Crc.sts (8 * 0) a ^^^ b = t at CC R
    go_wp2_with fail
    refine CC.out.mono ?_
    rintro e w2 ⟨rfl, hb⟩
    have Bw2 := Lib.hid (Bw1.out.trans (hb.mono Bw1.out.size))
    clear hb CC
    go_wp2_with fail
    refine (R.out w2).mono ?_
    rintro e w' ⟨rfl, rfl⟩
    go_wp2_with fail
    go_ret
    exact ⟨rfl, Bw2.out⟩
  obtain ⟨k, rfl⟩ : ∃ k : Nat, n = (k : Int) := ⟨n.toNat, by omega⟩
  have M := Lib.hid (show (k : Int) < 2 ^ 42 ∧ -(2 ^ 63) ≤ (k : Int) by omega)
  have N := Lib.hid (show k ≤ 1000000 by omega)
  clear hr
  go_enter Try.func6, Try.ntmps6
  go_wp2_with fail
  refine (awake_any w).mono ?_
  rintro e w1 ⟨rfl, hb⟩
  have Bw1 := Lib.hid hb
  clear hb
  have C := pcomb_any a b (k : Int) w1 A.out B.out M.out.1 M.out.2
  rw [Int.toNat_natCast] at C
  have CC := Lib.hid C
  clear C
  have R := Lib.hid (fun w => rcomb_any a b k w A.out B.out N.out)
  generalize Crc.sts (8 * k) a ^^^ b = t at CC R
  go_wp2_with fail
  refine CC.out.mono ?_
  rintro e w2 ⟨rfl, hb⟩
  have Bw2 := Lib.hid (Bw1.out.trans (hb.mono Bw1.out.size))
  clear hb CC
  go_wp2_with fail
  refine (R.out w2).mono ?_
  rintro e w' ⟨rfl, rfl⟩
  go_wp2_with fail
  go_ret
  exact ⟨rfl, Bw2.out⟩
set_option maxHeartbeats 1000000 in
set_option maxRecDepth 100000 in
theorem farlaw_walk (a m n : Nat) (w : World) (ha : a < 2 ^ 64) (hm : m < 2 ^ 64) (hn : n < 2 ^ 64) :
    Calls Try.prog 7 #[.int .u64 (a : Int), .int .u64 (m : Int), .int .u64 (n : Int)] w (lawPost w) := by
  have A := Lib.hid ha
  obtain ⟨x, hx⟩ : ∃ x, m % 1099511627776 = x := ⟨_, rfl⟩
  obtain ⟨y, hy⟩ : ∃ y, n % 1099511627776 = y := ⟨_, rfl⟩
  have x40 : x < 1099511627776 := by rw [← hx]; exact Nat.mod_lt _ (by decide)
  have y40 : y < 1099511627776 := by rw [← hy]; exact Nat.mod_lt _ (by decide)
  have ex : (m : Int).tmod 1099511627776 = (x : Int) := by rw [← hx]; exact (Int.ofNat_tmod m 1099511627776).symm
  have ey : (n : Int).tmod 1099511627776 = (y : Int) := by rw [← hy]; exact (Int.ofNat_tmod n 1099511627776).symm
  have ex2 : (m : Int) % 1099511627776 = (x : Int) := by rw [← hx]; rfl
  have ey2 : (n : Int) % 1099511627776 = (y : Int) := by rw [← hy]; rfl
  have X := Lib.hid (show (x : Int) < 2 ^ 42 ∧ -(2 ^ 63) ≤ (x : Int) by omega)
  have Y := Lib.hid (show (y : Int) < 2 ^ 42 ∧ -(2 ^ 63) ≤ (y : Int) by omega)
  have XY := Lib.hid (show ((x : Int) + (y : Int)) < 2 ^ 42 ∧ -(2 ^ 63) ≤ ((x : Int) + (y : Int)) by omega)
  have T := Lib.hid (show ((x : Int) + (y : Int)).toNat = x + y by omega)
  clear hx hy ha hm hn
  go_enter Try.func7, Try.ntmps7
  go_wp2_with fail
  refine (awake_any w).mono ?_
  rintro e w1 ⟨rfl, hb⟩
  have Bw1 := Lib.hid hb
  clear hb
  have C1 := Lib.hid (fun w => padv_any a (x : Int) w A.out X.out.1 X.out.2)
  have C2 := Lib.hid (fun w => padv_any (Crc.sts (8 * x) a) (y : Int) w (Crc.sts_lt _ A.out) Y.out.1 Y.out.2)
  have C3 := Lib.hid (fun w => padv_any a ((x : Int) + (y : Int)) w A.out XY.out.1 XY.out.2)
  rw [Int.toNat_natCast] at C1 C2
  rw [T.out, Nat.mul_add, Crc.sts_add] at C3
  generalize Crc.sts (8 * x) a = s at C1 C2 C3
  generalize Crc.sts (8 * y) s = t at C2 C3
  go_wp2_with fail
  refine (C1.out w1).mono ?_
  rintro e w2 ⟨rfl, hb⟩
  have Bw2 := Lib.hid (Bw1.out.trans (hb.mono Bw1.out.size))
  clear hb
  go_wp2_with fail
  refine (C2.out w2).mono ?_
  rintro e w3 ⟨rfl, hb⟩
  have Bw3 := Lib.hid (Bw2.out.trans (hb.mono Bw2.out.size))
  clear hb
  go_wp2_with fail
  refine (C3.out w3).mono ?_
  rintro e w4 ⟨rfl, hb⟩
  have Bw4 := Lib.hid (Bw3.out.trans (hb.mono Bw3.out.size))
  clear hb
  go_wp2_with fail
  go_ret
  exact ⟨rfl, Bw4.out⟩
end Go.Proofs.Ytbdabpijhacpdaa
