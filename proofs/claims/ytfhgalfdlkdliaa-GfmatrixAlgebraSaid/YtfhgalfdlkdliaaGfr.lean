/- The contract of the reference's product of bytes. -/
import Derived.Test.YtfhgalfdlkdliaaGfc
namespace Go.Proofs.Ytfhgalfdlkdliaa
open Go Go.RowKit

/-! ### The reference -/
theorem xor_i64 (a b : Nat) (ha : a < 2 ^ 62) (hb : b < 2 ^ 62) : bits BinOp.xor IntKind.i64 (a : Int) (b : Int) = ((a ^^^ b : Nat) : Int) := by
  have hx : a ^^^ b < 2 ^ 62 := Nat.xor_lt_two_pow ha hb
  have e1 : (BitVec.ofInt 64 (a : Int)).toNat = a := by rw [BitVec.ofInt_natCast, BitVec.toNat_ofNat]; exact Nat.mod_eq_of_lt (by omega)
  have e2 : (BitVec.ofInt 64 (b : Int)).toNat = b := by rw [BitVec.ofInt_natCast, BitVec.toNat_ofNat]; exact Nat.mod_eq_of_lt (by omega)
  show IntKind.i64.wrap ((BitVec.ofInt 64 (a : Int) ^^^ BitVec.ofInt 64 (b : Int)).toNat : Int) = _
  rw [BitVec.toNat_xor, e1, e2, IntKind.wrap_i64]
  omega
theorem shr_and1 (b k : Nat) (hb : b < 256) : bits BinOp.and IntKind.u8 ((b : Int) / 2 ^ k) 1 = ((b / 2 ^ k % 2 : Nat) : Int) := by
  have h : b / 2 ^ k ≤ b := Nat.div_le_self _ _
  have := and1 (b / 2 ^ k) (by omega)
  rw [← this]; congr 1
theorem shl_xor (a p k : Nat) (ha : a < 256) (hk : k < 8) (hp : p < 2 ^ 16) : bits BinOp.xor IntKind.i64 (p : Int) (wrap64 ((a : Int) * 2 ^ k)) = ((p ^^^ (2 ^ k * a) : Nat) : Int) := by
  have h1 : 2 ^ k ≤ 2 ^ 7 := Nat.pow_le_pow_right (by decide) (by omega)
  have h2 : 2 ^ k * a ≤ 2 ^ 7 * 255 := Nat.mul_le_mul h1 (by omega)
  have e : (a : Int) * 2 ^ k = ((2 ^ k * a : Nat) : Int) := by push_cast; rw [Int.mul_comm]
  rw [e, IntWalk.wrap64_in _ ⟨by omega, by omega⟩, xor_i64 _ _ (by omega) (by omega)]
theorem cl_step (a b k p : Nat) (hk : k < 8) : Gf.clF (8 - k) (2 ^ k * a) (b / 2 ^ k) p = Gf.clF (8 - (k + 1)) (2 ^ (k + 1) * a) (b / 2 ^ (k + 1)) (p ^^^ (2 ^ k * a) * (b / 2 ^ k % 2)) := by
  obtain ⟨d, e⟩ : ∃ d, 8 - k = d + 1 := ⟨7 - k, by omega⟩
  have e2 : 8 - (k + 1) = d := by omega
  rw [e, e2, Gf.clF, Nat.div_div_eq_div_mul, Nat.pow_succ, ← Nat.mul_assoc, Nat.mul_comm 2]
theorem shr_and1_i64 (p k : Nat) : bits BinOp.and IntKind.i64 ((p : Int) / 2 ^ k) 1 = ((p / 2 ^ k % 2 : Nat) : Int) := by
  rw [← and1_i64 (p / 2 ^ k)]; congr 1
theorem red_step (k p : Nat) (h : 8 ≤ k) : Gf.redF (k - 7) p = Gf.redF (k - 1 - 7) (p ^^^ (285 * 2 ^ (k - 8)) * (p / 2 ^ k % 2)) := by
  obtain ⟨d, rfl⟩ : ∃ d, k = d + 8 := ⟨k - 8, by omega⟩
  rw [show d + 8 - 7 = d + 1 by omega, show d + 8 - 1 - 7 = d by omega, show d + 8 - 8 = d by omega, Gf.redF]
theorem red_pow (k : Nat) (h2 : k ≤ 14) : 285 * 2 ^ (k - 8) ≤ 285 * 64 := by
  have h1 : 2 ^ (k - 8) ≤ 2 ^ 6 := Nat.pow_le_pow_right (by decide) (by omega)
  omega
theorem red_bound (k p : Nat) (_h : 8 ≤ k) (h2 : k ≤ 14) (hp : p < 65536) : p ^^^ (285 * 2 ^ (k - 8)) < 65536 := by
  have := red_pow k h2
  exact Nat.xor_lt_two_pow (n := 16) hp (by omega)
theorem red_xor (k p : Nat) (_h : 8 ≤ k) (h2 : k ≤ 14) (hp : p < 65536) : bits BinOp.xor IntKind.i64 (p : Int) (wrap64 (285 * 2 ^ (k - 8))) = ((p ^^^ (285 * 2 ^ (k - 8)) : Nat) : Int) := by
  have := red_pow k h2
  have e : (285 : Int) * 2 ^ (k - 8) = ((285 * 2 ^ (k - 8) : Nat) : Int) := by rw [Int.natCast_mul, Int.natCast_pow]; rfl
  rw [e, IntWalk.wrap64_in _ ⟨by omega, by omega⟩, xor_i64 _ _ (by omega) (by omega)]
set_option maxHeartbeats 400000 in
set_option maxRecDepth 100000 in
theorem rmul_any (a b : Nat) (ha : a < 256) (hb : b < 256) (w : World) :
    Calls Try.prog 39 #[.int .u8 (a : Int), .int .u8 (b : Int)] w fun e w' => e = .returned (.int .u8 (Gf.mul a b : Nat)) ∧ w = w' := by
  go_enter Try.func39, Try.ntmps39
  go_wp2
  go_loop [5, 6] (fun p i => ∃ k p' : Nat, k ≤ 8 ∧ p' < 65536 ∧ i = .int .i64 (k : Int) ∧ p = .int .i64 (p' : Int) ∧ Hid (Gf.clF (8 - k) (2 ^ k * a) (b / 2 ^ k) p' = Gf.clF 8 a b 0)) (fun _ i => 8 - (intOf i).toNat)
  case atStart => exact ⟨0, 0, by decide, by decide, rfl, rfl, Lib.hid (by simp)⟩
  case round =>
    obtain ⟨k, p', hk, hp, rfl, rfl, H⟩ := hrel
    by_cases hlt : k < 8
    · have S := Lib.hid (cl_step a b k p' hlt)
      have A := Lib.hid (shr_and1 b k hb)
      have hbnd : p' ^^^ 2 ^ k * a < 65536 := by
        have h1 : 2 ^ k ≤ 2 ^ 7 := Nat.pow_le_pow_right (by decide) (by omega)
        have h2 : 2 ^ k * a ≤ 2 ^ 7 * 255 := Nat.mul_le_mul h1 (by omega)
        exact Nat.xor_lt_two_pow (n := 16) hp (by omega)
      have B := Lib.hid hbnd
      have X := Lib.hid (shl_xor a p' k ha hlt hp)
      clear hbnd
      by_cases h1 : b / 2 ^ k % 2 = 1
      · have g1 : (bits BinOp.and IntKind.u8 ((b : Int) / 2 ^ k) 1 == 1) = true := by rw [A.out, h1]; rfl
        have H1 := Lib.hid h1
        clear h1
        go_wp2
        go_round
        case rel => exact ⟨k + 1, p' ^^^ (2 ^ k * a), by omega, B.out, by go_num, by rw [X.out], Lib.hid (by rw [← H.out, S.out, H1.out, Nat.mul_one])⟩
        case measure => simp [intOf]; omega
      · have g1 : (bits BinOp.and IntKind.u8 ((b : Int) / 2 ^ k) 1 == 1) = false := by rw [A.out, show b / 2 ^ k % 2 = 0 by omega]; rfl
        have H1 := Lib.hid (show b / 2 ^ k % 2 = 0 by omega)
        clear h1
        go_wp2
        go_round
        case rel => exact ⟨k + 1, p', by omega, hp, by go_num, rfl, Lib.hid (by rw [← H.out, S.out, H1.out, Nat.mul_zero, Nat.xor_zero])⟩
        case measure => simp [intOf]; omega
    · have E : Hid (p' = Gf.clF 8 a b 0) := Lib.hid (by rw [← H.out, show 8 - k = 0 by omega]; rfl)
      go_wp2
      go_loop [5, 7] (fun p i => ∃ k p' : Nat, k ≤ 14 ∧ 7 ≤ k ∧ p' < 65536 ∧ i = .int .i64 (k : Int) ∧ p = .int .i64 (p' : Int) ∧ Hid (Gf.redF (k - 7) p' = Gf.mul a b)) (fun _ i => (intOf i).toNat)
      case atStart => exact ⟨14, p', by decide, by decide, hp, rfl, rfl, Lib.hid (by rw [Gf.mul_eq_rmul a b ha hb, E.out]; rfl)⟩
      case round =>
        obtain ⟨k, p', hk, hk7, hp, rfl, rfl, H⟩ := hrel
        by_cases hlt : 8 ≤ k
        · have S := Lib.hid (red_step k p' hlt)
          have A := Lib.hid (shr_and1_i64 p' k)
          have B := Lib.hid (red_bound k p' hlt hk hp)
          have X := Lib.hid (red_xor k p' hlt hk hp)
          by_cases h1 : p' / 2 ^ k % 2 = 1
          · have g1 : (bits BinOp.and IntKind.i64 ((p' : Int) / 2 ^ k) 1 == 1) = true := by rw [A.out, h1]; rfl
            have H1 := Lib.hid h1
            clear h1
            go_wp2
            go_round
            case rel => exact ⟨k - 1, p' ^^^ (285 * 2 ^ (k - 8)), by omega, by omega, B.out, by go_num, by rw [X.out], Lib.hid (by rw [← H.out, S.out, H1.out, Nat.mul_one])⟩
            case measure => simp [intOf]; omega
          · have g1 : (bits BinOp.and IntKind.i64 ((p' : Int) / 2 ^ k) 1 == 1) = false := by rw [A.out, show p' / 2 ^ k % 2 = 0 by omega]; rfl
            have H1 := Lib.hid (show p' / 2 ^ k % 2 = 0 by omega)
            clear h1
            go_wp2
            go_round
            case rel => exact ⟨k - 1, p', by omega, by omega, hp, by go_num, rfl, Lib.hid (by rw [← H.out, S.out, H1.out, Nat.mul_zero, Nat.xor_zero])⟩
            case measure => simp [intOf]; omega
        · have E2 : Hid (p' = Gf.mul a b) := Lib.hid (by rw [← H.out, show k - 7 = 0 by omega]; rfl)
          go_wp2
          go_ret
          have hl := Gf.mul_lt a b ha
          exact ⟨ret_u8 (by rw [E2.out]; omega), rfl⟩
end Go.Proofs.Ytfhgalfdlkdliaa
