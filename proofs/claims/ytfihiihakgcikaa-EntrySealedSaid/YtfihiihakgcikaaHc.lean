/- Contracts: the reference of layer 8. -/
import Derived.Test.YtfihiihakgcikaaHb
import Derived.Test.YtfihiihakgcikaaGA
namespace Go.Proofs.Ytfihiihakgcikaa
open Go Go.RowKit
set_option linter.unusedVariables false
set_option linter.unusedSimpArgs false
theorem ret_u64 {a b : Int} (h : a = b) : Ending.returned (.int .u64 a) = .returned (.int .u64 b) := by rw [h]
theorem poly_xor {a : Nat} (ha : a < 2 ^ 64) : bits BinOp.xor IntKind.u64 (a : Int) 14514072000185962306 = ((a ^^^ Crc.poly : Nat) : Int) := xor_u64 ha (by decide)
set_option maxHeartbeats 400000 in
set_option maxRecDepth 100000 in
theorem rsteps_any (x n : Nat) (w : World) (hx : x < 2 ^ 64) (hn : n < 2 ^ 62) :
    Calls Try.prog 26 #[.int .u64 (x : Int), .int .i64 (n : Int)] w fun e w' => e = .returned (.int .u64 (Crc.sts n x : Nat)) ∧ w = w' := by
  have X64 := Lib.hid hx
  go_enter Try.func26, Try.ntmps26
  go_wp2
  go_loop [0, 5] (fun v i => ∃ k y : Nat, k ≤ n ∧ y < 2 ^ 64 ∧ i = .int .i64 (k : Int) ∧ v = .int .u64 (y : Int) ∧ Hid (y = Crc.sts k x)) (fun _ i => n - (intOf i).toNat)
  case atStart => exact ⟨0, x, Nat.zero_le _, X64.out, rfl, rfl, Lib.hid rfl⟩
  case round =>
    obtain ⟨k, y, hk, hy, rfl, rfl, H⟩ := hrel
    by_cases hlt : k < n
    · have kI : (k : Int) < (n : Int) := by omega
      have A := Lib.hid (and1_u64 hy)
      have Y := Lib.hid hy
      have y2 : y / 2 < 2 ^ 64 := by omega
      have XP := Lib.hid (show bits BinOp.xor IntKind.u64 ((y : Int) / 2) 14514072000185962306 = ((y / 2 ^^^ Crc.poly : Nat) : Int) from poly_xor y2)
      rcases (by omega : y % 2 = 1 ∨ y % 2 = 0) with h1 | h1
      · have g1 : (bits BinOp.and IntKind.u64 (y : Int) 1 == 1) = true := by rw [A.out, h1]; rfl
        have E := Lib.hid (show y / 2 ^^^ Crc.poly = Crc.sts (k + 1) x by rw [Crc.sts_succ, ← H.out, (Crc.st_bit y).1 h1])
        have Z := Lib.hid (show y / 2 ^^^ Crc.poly < 2 ^ 64 by rw [← (Crc.st_bit y).1 h1]; exact Crc.st_lt hy)
        clear h1 hy H
        go_wp2
        go_round
        case rel => exact ⟨k + 1, y / 2 ^^^ Crc.poly, by omega, Z.out, by go_num, by rw [XP.out], E⟩
        case measure => simp [intOf]; omega
      · have g1 : (bits BinOp.and IntKind.u64 (y : Int) 1 == 1) = false := by rw [A.out, h1]; rfl
        have E := Lib.hid (show y / 2 = Crc.sts (k + 1) x by rw [Crc.sts_succ, ← H.out, (Crc.st_bit y).2 h1])
        clear h1 hy H
        go_wp2
        go_round
        case rel => exact ⟨k + 1, y / 2, by omega, by omega, by go_num, rfl, E⟩
        case measure => simp [intOf]; omega
    · have ek : k = n := by omega
      have kI : ¬ (k : Int) < (n : Int) := by omega
      go_wp2
      go_ret
      exact ⟨ret_u64 (by rw [H.out, ek]), rfl⟩
theorem not_u64 {a : Nat} (ha : a < 2 ^ 64) : bits BinOp.xor IntKind.u64 IntKind.u64.max (a : Int) = ((Crc.ones ^^^ a : Nat) : Int) := xor_u64 (a := Crc.ones) (by decide) ha
namespace Crc
theorem upd_eq (s : Nat) (b : List Nat) : upd s b = ones ^^^ rg (ones ^^^ s) b := rfl
theorem ones_lt {s : Nat} (h : s < 2 ^ 64) : ones ^^^ s < 2 ^ 64 := Nat.xor_lt_two_pow (by decide) h
theorem upd_lt {s : Nat} {b : List Nat} (hs : s < 2 ^ 64) (hb : ∀ x ∈ b, x < 256) : upd s b < 2 ^ 64 := ones_lt (rg_lt b hb (ones_lt hs))
theorem rg_take (b : List Nat) (k x : Nat) (h : k < b.length) : rg x (b.take (k + 1)) = sts 8 (rg x (b.take k) ^^^ b.getD k 0) := by
  rw [List.take_succ_eq_append_getElem h, rg_append, getD_in h]; rfl
end Crc
set_option maxHeartbeats 400000 in
set_option maxRecDepth 100000 in
theorem rcrcupd_any (s : Nat) (v : Value) (b : List Nat) (w : World) (hs : s < 2 ^ 64) (hb : Bs w v b) :
    Calls Try.prog 24 #[.int .u64 (s : Int), v] w fun e w' => e = .returned (.int .u64 (Crc.upd s b : Nat)) ∧ w = w' := by
  have HB := Lib.hid hb
  obtain ⟨A1, c1, rfl, hm, -, -, hc1⟩ := hb
  obtain ⟨n, hn⟩ : ∃ n, b.length = n := ⟨_, rfl⟩
  have N1 := Lib.hid hn
  rw [hn] at hc1 hm ⊢
  have HC1 := Lib.hid hc1
  have LT := Lib.hid HB.out.lt
  have n63 : n ≤ 9223372036854775807 := by have := hm.1; have := hm.2; unfold maxLen at *; omega
  have NU := Lib.hid (not_u64 hs)
  have S := Lib.hid hs
  clear hc1 hm hn HB hs
  go_enter Try.func24, Try.ntmps24
  go_wp2
  rw [NU.out]
  go_loop [5, 6] (fun v i => ∃ k y : Nat, k ≤ n ∧ y < 2 ^ 64 ∧ i = .int .i64 (k : Int) ∧ v = .int .u64 (y : Int) ∧ Hid (y = Crc.rg (Crc.ones ^^^ s) (b.take k))) (fun _ i => n - (intOf i).toNat)
  case atStart => exact ⟨0, _, Nat.zero_le _, Crc.ones_lt S.out, rfl, rfl, Lib.hid (by rw [List.take_zero]; rfl)⟩
  case round =>
    obtain ⟨k, y, hk, hy, rfl, rfl, H⟩ := hrel
    by_cases hlt : k < n
    · have kI : (k : Int) < (n : Int) := by omega
      obtain ⟨b1, off1, rfl, q1⟩ := HC1.out (by omega)
      have hx := q1 k hlt
      have c256 : b.getD k 0 < 256 := by rw [getD_in (by rw [N1.out]; exact hlt)]; exact LT.out _ (List.getElem_mem _)
      have R := Lib.hid (Crc.rg_take b k (Crc.ones ^^^ s) (by rw [N1.out]; exact hlt))
      generalize b.getD k 0 = c at hx c256 R
      have XO := Lib.hid (xor_u64 hy (show c < 2 ^ 64 by omega))
      have hz : y ^^^ c < 2 ^ 64 := Nat.xor_lt_two_pow hy (by omega)
      have Z := Lib.hid hz
      obtain ⟨z, ez⟩ : ∃ z, y ^^^ c = z := ⟨_, rfl⟩
      rw [ez] at XO Z
      have R2 := Lib.hid (show Crc.sts 8 z = Crc.rg (Crc.ones ^^^ s) (b.take (k + 1)) by rw [R.out, ← H.out, ez])
      have RL := Lib.hid (Crc.sts_lt 8 Z.out)
      have Y := Lib.hid hy
      clear q1 hy hz ez R H
      have ST := Lib.hid (fun w => rsteps_any z 8 w Z.out (by decide))
      generalize Crc.sts 8 z = t at ST R2 RL
      go_wp2_with (first | rw [XO.out] | (go_at_call 26; refine (ST.out _).mono ?_; rintro e w' ⟨rfl, rfl⟩))
      go_round
      case rel => exact ⟨k + 1, t, by omega, RL.out, by go_num, rfl, R2⟩
      case measure => simp [intOf]; omega
    · have ek : k = n := by omega
      have kI : ¬ (k : Int) < (n : Int) := by omega
      have NY := Lib.hid (not_u64 hy)
      have E := Lib.hid (show Crc.ones ^^^ y = Crc.upd s b by rw [H.out, ek, List.take_of_length_le (by rw [N1.out]; exact Nat.le_refl _)]; rfl)
      go_wp2
      go_ret
      exact ⟨ret_u64 (by rw [NY.out, E.out]), rfl⟩
end Go.Proofs.Ytfihiihakgcikaa
