/- The contracts of package gf256's functions on bytes: each call returns what the plain functions of Gf say. -/
import Derived.Test.YtfhgalfdlkdliaaProg
import Derived.Test.YtfhgalfdlkdliaaGf
import Derived.WalkKit
import Derived.WalkSpells
import Derived.WalkLawsBesides
import Derived.Lib.Hide
namespace Go.Proofs.Ytfhgalfdlkdliaa
open Go Go.RowKit

theorem and128 (a : Nat) (ha : a < 256) : bits BinOp.and IntKind.u8 (a : Int) 128 = ((a &&& 128 : Nat) : Int) := u8_and_nat a 128 ha (by decide)
theorem and128_val : ∀ a, a < 256 → (a &&& 128) = 128 * (a / 128) := by decide +kernel
theorem and1 (a : Nat) (ha : a < 256) : bits BinOp.and IntKind.u8 (a : Int) 1 = ((a % 2 : Nat) : Int) := by
  have := u8_and_nat a 1 ha (by decide)
  rw [Nat.and_one_is_mod] at this
  exact this
theorem ret_u8 {a b : Int} (h : a = b) : Ending.returned (.int .u8 a) = .returned (.int .u8 b) := by rw [h]
theorem ret_i64 {a b : Int} (h : a = b) : Ending.returned (.int .i64 a) = .returned (.int .i64 b) := by rw [h]

set_option maxHeartbeats 400000 in
theorem timesX_any (a : Nat) (ha : a < 256) (w : World) :
    Calls Try.prog 57 #[.int .u8 (a : Int)] w fun e w' => e = .returned (.int .u8 (Gf.tx a : Nat)) ∧ w = w' := by
  have h2 := and128_val a ha
  by_cases h : 128 ≤ a
  · have h1 : (bits BinOp.and IntKind.u8 (a : Int) 128 != 0) = true := by
      rw [and128 a ha, h2]; simp; omega
    have h3 : bits BinOp.xor IntKind.u8 ((a : Int) * 2 % 256) 29 = (Gf.tx a : Nat) := by
      have e : (a : Int) * 2 % 256 = ((2 * a % 256 : Nat) : Int) := by omega
      have := u8_xor_nat (2 * a % 256) 29 (by omega) (by decide)
      have d : a / 128 = 1 := by omega
      rw [e]; unfold Gf.tx; rw [d]; exact this
    have H3 := Lib.hid h3
    clear h2 h3
    go_enter Try.func57, Try.ntmps57
    go_wp2
    go_ret
    exact ⟨ret_u8 H3.out, rfl⟩
  · have h1 : (bits BinOp.and IntKind.u8 (a : Int) 128 != 0) = false := by
      rw [and128 a ha, h2]; simp; omega
    have h3 : (a : Int) * 2 = (Gf.tx a : Nat) := by
      have d : a / 128 = 0 := by omega
      unfold Gf.tx; rw [d]; simp; omega
    have H3 := Lib.hid h3
    clear h2 h3
    go_enter Try.func57, Try.ntmps57
    go_wp2
    go_ret
    exact ⟨ret_u8 H3.out, rfl⟩

set_option maxHeartbeats 400000 in
theorem mul_any (a b : Nat) (ha : a < 256) (hb : b < 256) (w : World) :
    Calls Try.prog 51 #[.int .u8 (a : Int), .int .u8 (b : Int)] w fun e w' => e = .returned (.int .u8 (Gf.mul a b : Nat)) ∧ w = w' := by
  go_enter Try.func51, Try.ntmps51
  go_wp2
  go_loop [0, 1, 5] (fun x y s => ∃ f x' y' s' : Nat, x' < 256 ∧ y' < 256 ∧ s' < 256 ∧ y' < 2 ^ f ∧ x = .int .u8 (x' : Int) ∧ y = .int .u8 (y' : Int) ∧ s = .int .u8 (s' : Int) ∧ Hid (Gf.mulF f x' y' s' = Gf.mul a b)) (fun _ y _ => (intOf y).toNat)
  case atStart => exact ⟨8, a, b, 0, ha, hb, by decide, hb, rfl, rfl, rfl, Lib.hid rfl⟩
  case round =>
    obtain ⟨f, x', y', s', hx, hy, hs, hf, rfl, rfl, rfl, H⟩ := hrel
    by_cases h0 : y' = 0
    · have g0 : ((y' : Int) != 0) = false := by simp [h0]
      have e : ((s' : Nat) : Int) = (Gf.mul a b : Nat) := by rw [← H.out, h0, Gf.mulF_zero_b]
      have E := Lib.hid e
      clear e h0
      go_wp2
      go_ret
      exact ⟨ret_u8 E.out, rfl⟩
    · have g0 : ((y' : Int) != 0) = true := by simp [h0]
      have F : Hid (∃ g, f = g + 1) := Lib.hid (by
        cases f with
        | zero => exact absurd (by simpa using hf) h0
        | succ g => exact ⟨g, rfl⟩)
      have D : ((y' : Int) / 2).toNat < (y' : Int).toNat := by omega
      by_cases h1 : y' % 2 = 1
      · have g1 : (bits BinOp.and IntKind.u8 (y' : Int) 1 != 0) = true := by rw [and1 y' hy, h1]; rfl
        have X := Lib.hid (u8_xor_nat s' x' hs hx)
        have H1 := Lib.hid h1
        have H0 := Lib.hid h0
        clear h1 h0
        go_wp2_with (go_at_call 57; refine (timesX_any _ hx _).mono ?_; rintro e w' ⟨rfl, rfl⟩)
        go_round
        case rel =>
          obtain ⟨g, rfl⟩ := F.out
          refine ⟨g, Gf.tx x', y' / 2, s' ^^^ x', Gf.tx_lt _ hx, by omega, Gf.xor_lt _ _ hs hx, by rw [Nat.pow_succ] at hf; omega, rfl, ?_, ?_, ?_⟩
          · go_num
          · rw [X.out]
          · have h := H.out; simp only [Gf.mulF] at h; rw [H1.out, Nat.mul_one] at h; exact h
        case measure => simp [intOf]; omega
      · have g1 : (bits BinOp.and IntKind.u8 (y' : Int) 1 != 0) = false := by rw [and1 y' hy, show y' % 2 = 0 by omega]; rfl
        have H1 := Lib.hid (show y' % 2 = 0 by omega)
        have H0 := Lib.hid h0
        clear h1 h0
        go_wp2_with (go_at_call 57; refine (timesX_any _ hx _).mono ?_; rintro e w' ⟨rfl, rfl⟩)
        go_round
        case rel =>
          obtain ⟨g, rfl⟩ := F.out
          refine ⟨g, Gf.tx x', y' / 2, s', Gf.tx_lt _ hx, by omega, hs, by rw [Nat.pow_succ] at hf; omega, rfl, by go_num, rfl, ?_⟩
          have h := H.out; simp only [Gf.mulF] at h; rw [H1.out, Nat.mul_zero, Nat.xor_zero] at h; exact h
        case measure => simp [intOf]; omega

theorem and1_i64 (a : Nat) : bits BinOp.and IntKind.i64 (a : Int) 1 = ((a % 2 : Nat) : Int) := by
  have key : (BitVec.ofInt 64 (a : Int) &&& BitVec.ofInt 64 1).toNat = a % 2 := by
    rw [BitVec.toNat_and, BitVec.toNat_ofInt, show (BitVec.ofInt 64 1).toNat = 2 ^ 1 - 1 by decide, Nat.and_two_pow_sub_one_eq_mod]
    omega
  show IntKind.i64.wrap ((BitVec.ofInt 64 (a : Int) &&& BitVec.ofInt 64 1).toNat : Nat) = _
  rw [key, IntKind.wrap_i64]
  omega

set_option maxHeartbeats 400000 in
theorem power_any (a n : Nat) (ha : a < 256) (hn : n < 256) (w : World) :
    Calls Try.prog 54 #[.int .u8 (a : Int), .int .i64 (n : Int)] w fun e w' => e = .returned (.int .u8 (Gf.gpow a n : Nat)) ∧ w = w' := by
  go_enter Try.func54, Try.ntmps54
  go_wp2
  go_loop [0, 1, 5] (fun x y s => ∃ f x' y' s' : Nat, x' < 256 ∧ y' < 256 ∧ s' < 256 ∧ y' < 2 ^ f ∧ x = .int .u8 (x' : Int) ∧ y = .int .i64 (y' : Int) ∧ s = .int .u8 (s' : Int) ∧ Hid (Gf.powF f x' y' s' = Gf.gpow a n)) (fun _ y _ => (intOf y).toNat)
  case atStart => exact ⟨8, a, n, 1, ha, hn, by decide, hn, rfl, rfl, rfl, Lib.hid (by rw [Gf.powF_eq _ _ _ _ ha (by decide) hn, Gf.one_mul _ (Gf.gpow_lt _ _ ha)])⟩
  case round =>
    obtain ⟨f, x', y', s', hx, hy, hs, hf, rfl, rfl, rfl, H⟩ := hrel
    by_cases h0 : y' = 0
    · have g0 : ¬ 0 < (y' : Int) := by simp [h0]
      have e : ((s' : Nat) : Int) = (Gf.gpow a n : Nat) := by rw [← H.out, h0, Gf.powF_eq _ _ _ _ hx hs (Nat.two_pow_pos f)]; exact congrArg Nat.cast (Gf.mul_one s' hs).symm
      have E := Lib.hid e
      clear e h0
      go_wp2
      go_ret
      exact ⟨ret_u8 E.out, rfl⟩
    · have g0 : 0 < y' := by omega
      have F : Hid (∃ g, f = g + 1) := Lib.hid (by
        cases f with
        | zero => exact absurd (by simpa using hf) h0
        | succ g => exact ⟨g, rfl⟩)
      have D : ((y' : Int) / 2).toNat < (y' : Int).toNat := by omega
      have hm := Gf.mul_lt x' x' hx
      by_cases h1 : y' % 2 = 1
      · have g1 : (bits BinOp.and IntKind.i64 (y' : Int) 1 != 0) = true := by rw [and1_i64 y', h1]; rfl
        have H1 := Lib.hid h1
        have H0 := Lib.hid h0
        clear h1 h0
        go_wp2_with (go_at_call 51; refine (mul_any _ _ (by assumption) (by assumption) _).mono ?_; rintro e w' ⟨rfl, rfl⟩)
        go_round
        case rel =>
          obtain ⟨g, rfl⟩ := F.out
          refine ⟨g, Gf.mul x' x', y' / 2, Gf.mul s' x', hm, by omega, Gf.mul_lt _ _ hs, by rw [Nat.pow_succ] at hf; omega, rfl, by go_num, rfl, ?_⟩
          have h := H.out; simp only [Gf.powF] at h; rw [if_pos H1.out] at h; exact h
        case measure => simp [intOf]; omega
      · have g1 : (bits BinOp.and IntKind.i64 (y' : Int) 1 != 0) = false := by rw [and1_i64 y', show y' % 2 = 0 by omega]; rfl
        have H1 := Lib.hid h1
        have H0 := Lib.hid h0
        clear h1 h0
        go_wp2_with (go_at_call 51; refine (mul_any _ _ (by assumption) (by assumption) _).mono ?_; rintro e w' ⟨rfl, rfl⟩)
        go_round
        case rel =>
          obtain ⟨g, rfl⟩ := F.out
          refine ⟨g, Gf.mul x' x', y' / 2, s', hm, by omega, hs, by rw [Nat.pow_succ] at hf; omega, rfl, by go_num, rfl, ?_⟩
          have h := H.out; simp only [Gf.powF] at h; rw [if_neg H1.out] at h; exact h
        case measure => simp [intOf]; omega

theorem tmod255 (n : Int) : n.tmod 255 = if 0 ≤ n then n % 255 else -((-n) % 255) := by
  by_cases h : 0 ≤ n
  · rw [if_pos h, Int.tmod_eq_emod_of_nonneg h]
  · rw [if_neg h]
    have := Int.neg_tmod (-n) 255
    rw [Int.neg_neg] at this
    rw [this, Int.tmod_eq_emod_of_nonneg (by omega)]
theorem red_neg (n : Int) (h : n.tmod 255 < 0) : wrap64 (n.tmod 255 + 255) = n % 255 := by
  rw [tmod255] at h ⊢
  by_cases hn : 0 ≤ n
  · rw [if_pos hn] at h; omega
  · rw [if_neg hn] at h ⊢
    rw [IntWalk.wrap64_in _ ⟨by omega, by omega⟩]; omega
theorem red_pos (n : Int) (h : 0 ≤ n.tmod 255) : n.tmod 255 = n % 255 := by
  rw [tmod255] at h ⊢
  by_cases hn : 0 ≤ n
  · rw [if_pos hn]
  · rw [if_neg hn] at h ⊢; omega

set_option maxHeartbeats 400000 in
theorem reduced_any (n : Int) (w : World) :
    Calls Try.prog 55 #[.int .i64 n] w fun e w' => e = .returned (.int .i64 (n % 255)) ∧ w = w' := by
  go_enter Try.func55, Try.ntmps55
  go_wp2
  · go_ret
    exact ⟨ret_i64 (red_neg n ‹_›), rfl⟩
  · go_ret
    exact ⟨ret_i64 (red_pos n ‹_›), rfl⟩
/-- The exponent that stands for n. -/
def red (n : Int) : Nat := (n % 255).toNat
theorem red_lt (n : Int) : red n < 256 := by unfold red; omega

theorem reduced_nat (n : Int) (w : World) :
    Calls Try.prog 55 #[.int .i64 n] w fun e w' => e = .returned (.int .i64 ((red n : Nat) : Int)) ∧ w = w' :=
  (reduced_any n w).mono fun _ _ ⟨h1, h2⟩ => ⟨h1.trans (ret_i64 (by unfold red; omega)), h2⟩


set_option maxHeartbeats 400000 in
theorem exp_any (n : Int) (w : World) :
    Calls Try.prog 48 #[.int .i64 n] w fun e w' => e = .returned (.int .u8 (Gf.gpow 2 (red n) : Nat)) ∧ w = w' := by
  go_enter Try.func48, Try.ntmps48
  go_wp2_with (first | (go_at_call 55; refine (reduced_nat _ _).mono ?_; rintro e w' ⟨rfl, rfl⟩) | (go_at_call 54; refine (power_any 2 (red n) (by decide) (red_lt n) _).mono ?_; rintro e w' ⟨rfl, rfl⟩))
  go_ret
  exact ⟨rfl, rfl⟩
set_option maxHeartbeats 400000 in
theorem pow_nz (a : Nat) (n : Int) (ha : a < 256) (h0 : a ≠ 0) (w : World) :
    Calls Try.prog 59 #[.int .u8 (a : Int), .int .i64 n] w fun e w' => e = .returned (.tuple #[.int .u8 (Gf.gpow a (red n) : Nat), .int .i64 0]) ∧ w = w' := by
  have g0 : ((a : Int) != 0) = true := by simp [h0]
  clear h0
  go_enter Try.func59, Try.ntmps59
  go_wp2_with (first | (go_at_call 55; refine (reduced_nat _ _).mono ?_; rintro e w' ⟨rfl, rfl⟩) | (go_at_call 54; refine (power_any a (red n) ha (red_lt n) _).mono ?_; rintro e w' ⟨rfl, rfl⟩))
  go_ret2
  exact ⟨rfl, rfl⟩
set_option maxHeartbeats 400000 in
theorem pow_z_neg (n : Int) (h : n < 0) (w : World) :
    Calls Try.prog 59 #[.int .u8 0, .int .i64 n] w fun e w' => e = .returned (.tuple #[.int .u8 0, .int .i64 3]) ∧ w = w' := by
  go_enter Try.func59, Try.ntmps59
  go_wp2
  go_ret2
  exact ⟨rfl, rfl⟩
set_option maxHeartbeats 400000 in
theorem pow_z_zero (w : World) :
    Calls Try.prog 59 #[.int .u8 0, .int .i64 0] w fun e w' => e = .returned (.tuple #[.int .u8 1, .int .i64 0]) ∧ w = w' := by
  go_enter Try.func59, Try.ntmps59
  go_wp2
  go_ret2
  exact ⟨rfl, rfl⟩
set_option maxHeartbeats 400000 in
theorem pow_z_pos (n : Int) (h : 0 < n) (w : World) :
    Calls Try.prog 59 #[.int .u8 0, .int .i64 n] w fun e w' => e = .returned (.tuple #[.int .u8 0, .int .i64 0]) ∧ w = w' := by
  go_enter Try.func59, Try.ntmps59
  go_wp2
  go_ret2
  exact ⟨rfl, rfl⟩

set_option maxHeartbeats 400000 in
theorem inv_nz (a : Nat) (ha : a < 256) (h0 : a ≠ 0) (w : World) :
    Calls Try.prog 58 #[.int .u8 (a : Int)] w fun e w' => e = .returned (.tuple #[.int .u8 (Gf.inv a : Nat), .int .i64 0]) ∧ w = w' := by
  have H0 := Lib.hid h0
  clear h0
  go_enter Try.func58, Try.ntmps58
  go_wp2_with (go_at_call 59; refine (pow_nz a (-1) ha H0.out _).mono ?_; rintro e w' ⟨rfl, rfl⟩)
  go_ret2
  exact ⟨rfl, rfl⟩
set_option maxHeartbeats 400000 in
theorem inv_z (w : World) :
    Calls Try.prog 58 #[.int .u8 0] w fun e w' => e = .returned (.tuple #[.int .u8 0, .int .i64 3]) ∧ w = w' := by
  go_enter Try.func58, Try.ntmps58
  go_wp2_with (go_at_call 59; refine (pow_z_neg (-1) (by decide) _).mono ?_; rintro e w' ⟨rfl, rfl⟩)
  go_ret2
  exact ⟨rfl, rfl⟩

end Go.Proofs.Ytfhgalfdlkdliaa
