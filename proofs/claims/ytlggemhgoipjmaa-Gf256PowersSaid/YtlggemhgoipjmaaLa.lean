/- The walks of the laws of layer 1 over bytes and numbers: each answers true, and only makes new memory. -/
import Derived.Test.YtlggemhgoipjmaaGaw
import Derived.Test.YtlggemhgoipjmaaOpen
import Derived.Test.YtlggemhgoipjmaaGfs
namespace Go.Proofs.Ytlggemhgoipjmaa
open Go Go.RowKit

theorem add_v (a b v : Nat) (ha : a < 256) (hb : b < 256) (h : a ^^^ b = v) (w : World) :
    Calls Try.prog 10 #[.int .u8 (a : Int), .int .u8 (b : Int)] w fun e w' => e = .returned (.int .u8 (v : Int)) ∧ w = w' := h ▸ add_any a b ha hb w
theorem mul_v (a b v : Nat) (ha : a < 256) (hb : b < 256) (h : Gf.mul a b = v) (w : World) :
    Calls Try.prog 11 #[.int .u8 (a : Int), .int .u8 (b : Int)] w fun e w' => e = .returned (.int .u8 (v : Int)) ∧ w = w' := h ▸ mul_any a b ha hb w
theorem rmul_v (a b v : Nat) (ha : a < 256) (hb : b < 256) (h : Gf.mul a b = v) (w : World) :
    Calls Try.prog 12 #[.int .u8 (a : Int), .int .u8 (b : Int)] w fun e w' => e = .returned (.int .u8 (v : Int)) ∧ w = w' := h ▸ rmul_any a b ha hb w


set_option maxHeartbeats 400000 in
set_option maxRecDepth 100000 in
theorem products_walk (a b : Nat) (ha : a < 256) (hb : b < 256) (w : World) :
    Calls Try.prog 3 #[.int .u8 (a : Int), .int .u8 (b : Int)] w (lawPost w) := by
  obtain ⟨s, hs⟩ : ∃ s, a ^^^ b = s := ⟨_, rfl⟩
  obtain ⟨m, hm⟩ : ∃ m, Gf.mul a b = m := ⟨_, rfl⟩
  have hx : bits BinOp.xor IntKind.u8 (a : Int) (b : Int) = (s : Int) := by rw [u8_xor_nat a b ha hb, hs]
  have HS := Lib.hid hs
  have HM := Lib.hid hm
  clear hs hm
  go_enter Try.func3, Try.ntmps3
  go_wp2_with (go_at_call 9; refine (awake_any _).mono ?_; rintro e w1 ⟨rfl, hbel⟩)
  have HB := Lib.hid hbel
  clear hbel
  go_wp2_with (first | (go_at_call 10; ((with_reducible refine (add_v a b s ha hb HS.out _).mono ?_); rintro e w' ⟨rfl, rfl⟩)) | (go_at_call 11; ((with_reducible refine (mul_v a b m ha hb HM.out _).mono ?_); rintro e w' ⟨rfl, rfl⟩)) | (go_at_call 12; ((with_reducible refine (rmul_v a b m ha hb HM.out _).mono ?_); rintro e w' ⟨rfl, rfl⟩)))
  go_ret
  exact ⟨rfl, HB.out⟩

theorem add_0 (a : Nat) (ha : a < 256) (w : World) :
    Calls Try.prog 10 #[.int .u8 (a : Int), .int .u8 0] w fun e w' => e = .returned (.int .u8 (a : Int)) ∧ w = w' := add_v a 0 a ha (by decide) (Nat.xor_zero a) w
theorem add_self (a : Nat) (ha : a < 256) (w : World) :
    Calls Try.prog 10 #[.int .u8 (a : Int), .int .u8 (a : Int)] w fun e w' => e = .returned (.int .u8 0) ∧ w = w' := add_v a a 0 ha ha (Nat.xor_self a) w
theorem mul_0 (a : Nat) (ha : a < 256) (w : World) :
    Calls Try.prog 11 #[.int .u8 (a : Int), .int .u8 0] w fun e w' => e = .returned (.int .u8 0) ∧ w = w' := mul_v a 0 0 ha (by decide) (Gf.mul_zero a) w
theorem mul_1 (a : Nat) (ha : a < 256) (w : World) :
    Calls Try.prog 11 #[.int .u8 (a : Int), .int .u8 1] w fun e w' => e = .returned (.int .u8 (a : Int)) ∧ w = w' := mul_v a 1 a ha (by decide) (Gf.mul_one a ha) w

set_option maxHeartbeats 1000000 in
set_option maxRecDepth 100000 in
theorem axioms_walk (a b c : Nat) (ha : a < 256) (hb : b < 256) (hc : c < 256) (w : World) :
    Calls Try.prog 4 #[.int .u8 (a : Int), .int .u8 (b : Int), .int .u8 (c : Int)] w (lawPost w) := by
  obtain ⟨s, hs⟩ : ∃ s, a ^^^ b = s := ⟨_, rfl⟩
  obtain ⟨t, ht⟩ : ∃ t, b ^^^ c = t := ⟨_, rfl⟩
  obtain ⟨u, hu⟩ : ∃ u, s ^^^ c = u := ⟨_, rfl⟩
  obtain ⟨m, hm⟩ : ∃ m, Gf.mul a b = m := ⟨_, rfl⟩
  obtain ⟨n, hn⟩ : ∃ n, Gf.mul b c = n := ⟨_, rfl⟩
  obtain ⟨p, hp⟩ : ∃ p, Gf.mul m c = p := ⟨_, rfl⟩
  obtain ⟨q, hq⟩ : ∃ q, Gf.mul a c = q := ⟨_, rfl⟩
  obtain ⟨r, hr⟩ : ∃ r, m ^^^ q = r := ⟨_, rfl⟩
  have ls : s < 256 := hs ▸ Gf.xor_lt _ _ ha hb
  have lt : t < 256 := ht ▸ Gf.xor_lt _ _ hb hc
  have lm : m < 256 := hm ▸ Gf.mul_lt _ _ ha
  have ln : n < 256 := hn ▸ Gf.mul_lt _ _ hb
  have lq : q < 256 := hq ▸ Gf.mul_lt _ _ ha
  have A1 := Lib.hid hs
  have A2 : Hid (b ^^^ a = s) := Lib.hid (by rw [Nat.xor_comm, hs])
  have A3 := Lib.hid hu
  have A4 := Lib.hid ht
  have A5 : Hid (a ^^^ t = u) := Lib.hid (by rw [← hu, ← hs, ← ht, Nat.xor_assoc])
  have A6 := Lib.hid hr
  have M1 := Lib.hid hm
  have M2 : Hid (Gf.mul b a = m) := Lib.hid (by rw [← hm, Gf.mul_comm b a hb ha])
  have M3 := Lib.hid hp
  have M4 := Lib.hid hn
  have M5 : Hid (Gf.mul a n = p) := Lib.hid (by rw [← hp, ← hm, ← hn, Gf.mul_assoc a b c ha hb hc])
  have M6 : Hid (Gf.mul a t = r) := Lib.hid (by rw [← ht, Gf.mul_xor_right, hm, hq, hr])
  have M7 := Lib.hid hq
  clear hs ht hu hm hn hp hq hr
  go_enter Try.func4, Try.ntmps4
  go_wp2_with (go_at_call 9; refine (awake_any _).mono ?_; rintro e w1 ⟨rfl, hbel⟩)
  have HB := Lib.hid hbel
  clear hbel
  go_wp2_with (first | (go_at_call 10; ((with_reducible first | refine (add_v a b s ha hb A1.out _).mono ?_ | refine (add_v b a s hb ha A2.out _).mono ?_ | refine (add_v s c u ls hc A3.out _).mono ?_ | refine (add_v b c t hb hc A4.out _).mono ?_ | refine (add_v a t u ha lt A5.out _).mono ?_ | refine (add_v m q r lm lq A6.out _).mono ?_ | refine (add_self a ha _).mono ?_ | refine (add_0 a ha _).mono ?_); rintro e w' ⟨rfl, rfl⟩)) | (go_at_call 11; ((with_reducible first | refine (mul_v a b m ha hb M1.out _).mono ?_ | refine (mul_v b a m hb ha M2.out _).mono ?_ | refine (mul_v m c p lm hc M3.out _).mono ?_ | refine (mul_v b c n hb hc M4.out _).mono ?_ | refine (mul_v a n p ha ln M5.out _).mono ?_ | refine (mul_v a t r ha lt M6.out _).mono ?_ | refine (mul_v a c q ha hc M7.out _).mono ?_ | refine (mul_0 a ha _).mono ?_ | refine (mul_1 a ha _).mono ?_); rintro e w' ⟨rfl, rfl⟩)))
  go_ret
  exact ⟨rfl, HB.out⟩

theorem rinv_nz (a i : Nat) (ha : a < 256) (h0 : a ≠ 0) (hi : Gf.inv a = i) (w : World) :
    Calls Try.prog 14 #[.int .u8 (a : Int)] w fun e w' => e = .returned (.tuple #[.int .u8 (i : Int), .bool true]) ∧ w = w' :=
  (rinv_any a ha w).mono fun _ _ h => ⟨by rw [h.1 h0, hi], h.2.2⟩
theorem rinv_z (w : World) : Calls Try.prog 14 #[.int .u8 0] w fun e w' => e = .returned (.tuple #[.int .u8 0, .bool false]) ∧ w = w' :=
  (rinv_any 0 (by decide) w).mono fun _ _ h => ⟨h.2.1 rfl, h.2.2⟩
theorem inv_v (a i : Nat) (ha : a < 256) (h0 : a ≠ 0) (hi : Gf.inv a = i) (w : World) :
    Calls Try.prog 13 #[.int .u8 (a : Int)] w fun e w' => e = .returned (.tuple #[.int .u8 (i : Int), .int .i64 0]) ∧ w = w' := hi ▸ inv_nz a ha h0 w
theorem div_v (a b v : Nat) (ha : a < 256) (hb : b < 256) (h0 : b ≠ 0) (h : Gf.mul a (Gf.inv b) = v) (w : World) :
    Calls Try.prog 15 #[.int .u8 (a : Int), .int .u8 (b : Int)] w fun e w' => e = .returned (.tuple #[.int .u8 (v : Int), .int .i64 0]) ∧ w = w' := h ▸ div_nz a b ha hb h0 w
theorem div_0z (w : World) : Calls Try.prog 15 #[.int .u8 0, .int .u8 0] w fun e w' => e = .returned (.tuple #[.int .u8 0, .int .i64 3]) ∧ w = w' := div_z 0 w
theorem div_0 (b : Nat) (hb : b < 256) (h0 : b ≠ 0) (w : World) : Calls Try.prog 15 #[.int .u8 0, .int .u8 (b : Int)] w fun e w' => e = .returned (.tuple #[.int .u8 0, .int .i64 0]) ∧ w = w' := div_v 0 b 0 (by decide) hb h0 (Gf.zero_mul _) w
theorem mul_0l (b : Nat) (hb : b < 256) (w : World) :
    Calls Try.prog 11 #[.int .u8 0, .int .u8 (b : Int)] w fun e w' => e = .returned (.int .u8 0) ∧ w = w' := mul_v 0 b 0 (by decide) hb (Gf.zero_mul b) w
theorem mul_00 (w : World) :
    Calls Try.prog 11 #[.int .u8 0, .int .u8 0] w fun e w' => e = .returned (.int .u8 0) ∧ w = w' := mul_0 0 (by decide) w
theorem mul_inv1 (a i : Nat) (ha : a < 256) (h0 : a ≠ 0) (hi : Gf.inv a = i) (w : World) :
    Calls Try.prog 11 #[.int .u8 (a : Int), .int .u8 (i : Int)] w fun e w' => e = .returned (.int .u8 1) ∧ w = w' :=
  mul_v a i 1 ha (hi ▸ Gf.gpow_lt _ _ ha) (hi ▸ Gf.mul_inv a ha h0) w

set_option maxHeartbeats 1000000 in
set_option maxRecDepth 100000 in
theorem inverses_zz (w : World) : Calls Try.prog 5 #[.int .u8 0, .int .u8 0] w (lawPost w) := by
  go_enter Try.func5, Try.ntmps5
  go_wp2_with (go_at_call 9; refine (awake_any _).mono ?_; rintro e w1 ⟨rfl, hbel⟩)
  have HB := Lib.hid hbel
  clear hbel
  go_wp2_with (first | (go_at_call 13; ((with_reducible refine (inv_z _).mono ?_); rintro e w' ⟨rfl, rfl⟩)) | (go_at_call 14; ((with_reducible refine (rinv_z _).mono ?_); rintro e w' ⟨rfl, rfl⟩)) | (go_at_call 11; ((with_reducible refine (mul_00 _).mono ?_); rintro e w' ⟨rfl, rfl⟩)) | (go_at_call 15; ((with_reducible refine (div_0z _).mono ?_); rintro e w' ⟨rfl, rfl⟩)))
  go_ret
  exact ⟨rfl, HB.out⟩
set_option maxHeartbeats 1000000 in
set_option maxRecDepth 100000 in
theorem inverses_zb (b : Nat) (hb : b < 256) (b0 : b ≠ 0) (w : World) : Calls Try.prog 5 #[.int .u8 0, .int .u8 (b : Int)] w (lawPost w) := by
  have g0 : ((b : Int) == 0) = false := by simp; omega
  have B0 := Lib.hid b0
  clear b0
  go_enter Try.func5, Try.ntmps5
  go_wp2_with (go_at_call 9; refine (awake_any _).mono ?_; rintro e w1 ⟨rfl, hbel⟩)
  have HB := Lib.hid hbel
  clear hbel
  go_wp2_with (first | (go_at_call 13; ((with_reducible refine (inv_z _).mono ?_); rintro e w' ⟨rfl, rfl⟩)) | (go_at_call 14; ((with_reducible refine (rinv_z _).mono ?_); rintro e w' ⟨rfl, rfl⟩)) | (go_at_call 11; ((with_reducible refine (mul_0l b hb _).mono ?_); rintro e w' ⟨rfl, rfl⟩)) | (go_at_call 15; ((with_reducible refine (div_0 b hb B0.out _).mono ?_); rintro e w' ⟨rfl, rfl⟩)))
  go_ret
  exact ⟨rfl, HB.out⟩
set_option maxHeartbeats 1000000 in
set_option maxRecDepth 100000 in
theorem inverses_az (a : Nat) (ha : a < 256) (a0 : a ≠ 0) (w : World) : Calls Try.prog 5 #[.int .u8 (a : Int), .int .u8 0] w (lawPost w) := by
  obtain ⟨i, hi⟩ : ∃ i, Gf.inv a = i := ⟨_, rfl⟩
  have HI := Lib.hid hi
  have A0 := Lib.hid a0
  clear a0 hi
  go_enter Try.func5, Try.ntmps5
  go_wp2_with (go_at_call 9; refine (awake_any _).mono ?_; rintro e w1 ⟨rfl, hbel⟩)
  have HB := Lib.hid hbel
  clear hbel
  go_wp2_with (first | (go_at_call 13; ((with_reducible refine (inv_v a i ha A0.out HI.out _).mono ?_); rintro e w' ⟨rfl, rfl⟩)) | (go_at_call 14; ((with_reducible refine (rinv_nz a i ha A0.out HI.out _).mono ?_); rintro e w' ⟨rfl, rfl⟩)) | (go_at_call 11; ((with_reducible refine (mul_0 a ha _).mono ?_); rintro e w' ⟨rfl, rfl⟩)) | (go_at_call 15; ((with_reducible refine (div_0z _).mono ?_); rintro e w' ⟨rfl, rfl⟩)))
  go_ret
  exact ⟨rfl, HB.out⟩
set_option maxHeartbeats 1000000 in
set_option maxRecDepth 100000 in
theorem inverses_ab (a b : Nat) (ha : a < 256) (hb : b < 256) (a0 : a ≠ 0) (b0 : b ≠ 0) (w : World) : Calls Try.prog 5 #[.int .u8 (a : Int), .int .u8 (b : Int)] w (lawPost w) := by
  obtain ⟨i, hi⟩ : ∃ i, Gf.inv a = i := ⟨_, rfl⟩
  obtain ⟨m, hm⟩ : ∃ m, Gf.mul a b = m := ⟨_, rfl⟩
  have lm : m < 256 := hm ▸ Gf.mul_lt _ _ ha
  have hd : Gf.mul m (Gf.inv b) = a := by
    rw [← hm, Gf.mul_assoc a b (Gf.inv b) ha hb (Gf.gpow_lt _ _ hb), Gf.mul_inv b hb b0, Gf.mul_one a ha]
  have g0 : ((b : Int) == 0) = false := by simp; omega
  have g1 : ((a : Int) == 0) = false := by simp; omega
  have HI := Lib.hid hi
  have HM := Lib.hid hm
  have HD := Lib.hid hd
  have A0 := Lib.hid a0
  have B0 := Lib.hid b0
  clear a0 b0 hi hm hd
  go_enter Try.func5, Try.ntmps5
  go_wp2_with (go_at_call 9; refine (awake_any _).mono ?_; rintro e w1 ⟨rfl, hbel⟩)
  have HB := Lib.hid hbel
  clear hbel
  go_wp2_with (first | (go_at_call 13; ((with_reducible refine (inv_v a i ha A0.out HI.out _).mono ?_); rintro e w' ⟨rfl, rfl⟩)) | (go_at_call 14; ((with_reducible refine (rinv_nz a i ha A0.out HI.out _).mono ?_); rintro e w' ⟨rfl, rfl⟩)) | (go_at_call 11; ((with_reducible first | refine (mul_v a b m ha hb HM.out _).mono ?_ | refine (mul_inv1 a i ha A0.out HI.out _).mono ?_); rintro e w' ⟨rfl, rfl⟩)) | (go_at_call 15; ((with_reducible refine (div_v m b a lm hb B0.out HD.out _).mono ?_); rintro e w' ⟨rfl, rfl⟩)))
  go_ret
  exact ⟨rfl, HB.out⟩
theorem inverses_walk (a b : Nat) (ha : a < 256) (hb : b < 256) (w : World) : Calls Try.prog 5 #[.int .u8 (a : Int), .int .u8 (b : Int)] w (lawPost w) := by
  by_cases a0 : a = 0
  · by_cases b0 : b = 0
    · subst a0 b0; exact inverses_zz w
    · subst a0; exact inverses_zb b hb b0 w
  · by_cases b0 : b = 0
    · subst b0; exact inverses_az a ha a0 w
    · exact inverses_ab a b ha hb a0 b0 w

theorem exp_v (n : Int) (x : Nat) (h : Gf.gpow 2 (red n) = x) (w : World) :
    Calls Try.prog 18 #[.int .i64 n] w fun e w' => e = .returned (.int .u8 (x : Int)) ∧ w = w' := h ▸ exp_any n w
theorem rexp_v (n : Int) (x : Nat) (h : Gf.gpow 2 (red n) = x) (w : World) :
    Calls Try.prog 19 #[.int .i64 n] w fun e w' => e = .returned (.int .u8 (x : Int)) ∧ w = w' := h ▸ rexp_any n w
theorem red_nat (k : Nat) (hk : k < 255) : red (k : Int) = k := by unfold red; omega
theorem log_v (x k : Nat) (hx : x < 256) (hk : k < 255) (h : Gf.gpow 2 k = x) (w : World) :
    Calls Try.prog 20 #[.int .u8 (x : Int)] w fun e w' => e = .returned (.tuple #[.int .i64 (k : Int), .int .i64 0]) ∧ w = w' :=
  (log_any x hx w).mono fun _ _ hp => by
    obtain ⟨j, hj, hg, he⟩ := hp.1 (by rw [← h]; exact Gf.gpow_ne 2 k (by decide) (by decide))
    obtain rfl := Gf.log_inj j k hj hk (by rw [hg, h])
    exact ⟨he, hp.2.2⟩
theorem log_z (w : World) : Calls Try.prog 20 #[.int .u8 0] w fun e w' => e = .returned (.tuple #[.int .i64 0, .int .i64 9]) ∧ w = w' :=
  (log_any 0 (by decide) w).mono fun _ _ h => ⟨h.2.1 rfl, h.2.2⟩
theorem red_tmod (n : Int) : n.tmod 255 = (red n : Nat) ∨ n.tmod 255 = (red n : Nat) - 255 := by
  rw [tmod255]; unfold red
  by_cases h : 0 ≤ n
  · rw [if_pos h]; omega
  · rw [if_neg h]; omega

set_option maxHeartbeats 1000000 in
set_option maxRecDepth 100000 in
theorem logarithms_z (n : Int) (w : World) : Calls Try.prog 8 #[.int .u8 0, .int .i64 n] w (lawPost w) := by
  obtain ⟨x, hx⟩ : ∃ x, Gf.gpow 2 (red n) = x := ⟨_, rfl⟩
  have HX := Lib.hid hx
  clear hx
  go_enter Try.func8, Try.ntmps8
  go_wp2_with (go_at_call 9; refine (awake_any _).mono ?_; rintro e w1 ⟨rfl, hbel⟩)
  have HB := Lib.hid hbel
  clear hbel
  go_wp2_with (first | (go_at_call 18; ((with_reducible refine (exp_v n x HX.out _).mono ?_); rintro e w' ⟨rfl, rfl⟩)) | (go_at_call 19; ((with_reducible refine (rexp_v n x HX.out _).mono ?_); rintro e w' ⟨rfl, rfl⟩)) | (go_at_call 20; ((with_reducible refine (log_z _).mono ?_); rintro e w' ⟨rfl, rfl⟩)))
  go_ret
  exact ⟨rfl, HB.out⟩
set_option maxHeartbeats 1000000 in
set_option maxRecDepth 100000 in
theorem logarithms_a (a : Nat) (n : Int) (ha : a < 256) (a0 : a ≠ 0) (w : World) : Calls Try.prog 8 #[.int .u8 (a : Int), .int .i64 n] w (lawPost w) := by
  obtain ⟨x, hx⟩ : ∃ x, Gf.gpow 2 (red n) = x := ⟨_, rfl⟩
  obtain ⟨k, hk, hka⟩ := Gf.has_log a a0 ha
  have lx : x < 256 := hx ▸ Gf.gpow_lt 2 _ (by decide)
  have hm : red n < 255 := by unfold red; omega
  have ht := red_tmod n
  obtain ⟨m, em⟩ : ∃ m, red n = m := ⟨_, rfl⟩
  have HX := Lib.hid hx
  rw [em] at hx hm ht
  obtain ⟨t, et⟩ : ∃ t, n.tmod 255 = t := ⟨_, rfl⟩
  have g1 : ((a : Int) == 0) = false := by simp; omega
  have g2 : (Int.tmod (t - (m : Int)) 255 == 0) = true := by
    rw [et] at ht
    rcases ht with h | h
    · rw [h, Int.sub_self]; rfl
    · rw [h, show (m : Int) - 255 - m = -255 by omega]; rfl
  have bt1 : -255 ≤ t := by omega
  have bt2 : t ≤ 255 := by omega
  have HX2 := Lib.hid hx
  have HK := Lib.hid hka
  have HK2 : Hid (Gf.gpow 2 (red (k : Int)) = a) := Lib.hid (by rw [red_nat k hk, hka])
  clear hx hka a0 ht em
  go_enter Try.func8, Try.ntmps8
  go_wp2_with (go_at_call 9; refine (awake_any _).mono ?_; rintro e w1 ⟨rfl, hbel⟩)
  have HB := Lib.hid hbel
  clear hbel
  go_wp2_with (first | (go_at_call 18; ((with_reducible first | refine (exp_v n x HX.out _).mono ?_ | refine (exp_v (k : Int) a HK2.out _).mono ?_); rintro e w' ⟨rfl, rfl⟩)) | (go_at_call 19; ((with_reducible refine (rexp_v n x HX.out _).mono ?_); rintro e w' ⟨rfl, rfl⟩)) | (go_at_call 20; ((with_reducible first | refine (log_v a k ha hk HK.out _).mono ?_ | refine (log_v x m lx hm HX2.out _).mono ?_); rintro e w' ⟨rfl, rfl⟩)))
  go_ret
  exact ⟨rfl, HB.out⟩
theorem logarithms_walk (a : Nat) (n : Int) (ha : a < 256) (w : World) : Calls Try.prog 8 #[.int .u8 (a : Int), .int .i64 n] w (lawPost w) := by
  by_cases a0 : a = 0
  · subst a0; exact logarithms_z n w
  · exact logarithms_a a n ha a0 w
end Go.Proofs.Ytlggemhgoipjmaa
