/- Contracts: crc64's step, Update, Sum: they only read. -/
import Derived.Test.YtfihiihakgcikaaHx
namespace Go.Proofs.Ytfihiihakgcikaa
open Go Go.RowKit
set_option linter.unusedVariables false
set_option linter.unusedSimpArgs false
theorem and_all_u64 {a : Nat} (ha : a < 2 ^ 64) : bits BinOp.and IntKind.u64 (a : Int) 18446744073709551615 = (a : Int) := by
  have e2 : (BitVec.ofInt 64 (18446744073709551615 : Int)).toNat = 2 ^ 64 - 1 := by decide
  show IntKind.u64.wrap ((BitVec.ofInt 64 (a : Int) &&& BitVec.ofInt 64 (18446744073709551615 : Int)).toNat : Int) = _
  rw [BitVec.toNat_and, bv64 ha, e2, Nat.and_two_pow_sub_one_eq_mod, IntKind.wrap_u64]
  omega
theorem and_none_u64 {a : Nat} (ha : a < 2 ^ 64) : bits BinOp.and IntKind.u64 (a : Int) 0 = 0 := by
  have e2 : (BitVec.ofInt 64 (0 : Int)).toNat = 0 := by decide
  show IntKind.u64.wrap ((BitVec.ofInt 64 (a : Int) &&& BitVec.ofInt 64 (0 : Int)).toNat : Int) = _
  rw [BitVec.toNat_and, e2, Nat.and_zero]; rfl
theorem xor_0_u64 {a : Nat} (ha : a < 2 ^ 64) : bits BinOp.xor IntKind.u64 (a : Int) 0 = (a : Int) := by
  have := xor_u64 ha (show 0 < 2 ^ 64 by decide)
  rw [Nat.xor_zero] at this; exact this
/-- One step of the register, as the program has it. -/
theorem step_bits {x : Nat} (hx : x < 2 ^ 64) : bits BinOp.xor IntKind.u64 ((x : Int) / 2) (bits BinOp.and IntKind.u64 14514072000185962306 (IntKind.u64.wrap (-(bits BinOp.and IntKind.u64 (x : Int) 1)))) = ((Crc.st x : Nat) : Int) := by
  have y2 : x / 2 < 2 ^ 64 := by omega
  rw [and1_u64 hx]
  rcases (by omega : x % 2 = 1 ∨ x % 2 = 0) with h | h
  · rw [h, show IntKind.u64.wrap (-(((1 : Nat)) : Int)) = 18446744073709551615 by decide, show bits BinOp.and IntKind.u64 14514072000185962306 18446744073709551615 = 14514072000185962306 from and_all_u64 (a := 14514072000185962306) (by decide), (Crc.st_bit x).1 h]
    exact poly_xor y2
  · rw [h, show IntKind.u64.wrap (-(((0 : Nat)) : Int)) = 0 by decide, show bits BinOp.and IntKind.u64 14514072000185962306 0 = 0 from and_none_u64 (a := 14514072000185962306) (by decide), (Crc.st_bit x).2 h]
    exact xor_0_u64 y2
set_option maxRecDepth 100000 in
theorem step_any (x : Nat) (w : World) (hx : x < 2 ^ 64) :
    Calls Try.prog 25 #[.int .u64 (x : Int)] w fun e w' => e = .returned (.int .u64 ((Crc.st x : Nat) : Int)) ∧ w = w' := by
  have S := Lib.hid (step_bits hx)
  go_enter Try.func25, Try.ntmps25
  go_wp2
  go_ret
  exact ⟨ret_u64 S.out, rfl⟩
set_option maxHeartbeats 400000 in
set_option maxRecDepth 100000 in
theorem pcrcupd_eq (s : Nat) (v : Value) (b : List Nat) (w : World) (hs : s < 2 ^ 64) (hb : Bs w v b) :
    Calls Try.prog 23 #[.int .u64 (s : Int), v] w fun e w' => e = .returned (.int .u64 (Crc.upd s b : Nat)) ∧ w = w' := by
  have HB := Lib.hid hb
  obtain ⟨A1, c1, rfl, hm, -, -, hc1⟩ := hb
  obtain ⟨n, hn⟩ : ∃ n, b.length = n := ⟨_, rfl⟩
  have N1 := Lib.hid hn
  rw [hn] at hc1 hm ⊢
  have HC1 := Lib.hid hc1
  have LT := Lib.hid HB.out.lt
  have n63 : n ≤ 9223372036854775807 := by have := hm.1; have := hm.2; unfold maxLen at *; omega
  have NU := Lib.hid (not_u64 hs)
  have S := Lib.hid hs
  clear hc1 hm hn HB hs
  go_enter Try.func23, Try.ntmps23
  go_wp2
  rw [NU.out]
  go_loop [5, 12] (fun v i => ∃ k y : Nat, k ≤ n ∧ y < 2 ^ 64 ∧ i = .int .i64 (k : Int) ∧ v = .int .u64 (y : Int) ∧ Hid (y = Crc.rg (Crc.ones ^^^ s) (b.take k))) (fun _ i => n - (intOf i).toNat)
  case atStart => exact ⟨0, _, Nat.zero_le _, Crc.ones_lt S.out, rfl, rfl, Lib.hid (by rw [List.take_zero]; rfl)⟩
  case round =>
    obtain ⟨k, y, hk, hy, rfl, rfl, H⟩ := hrel
    by_cases hlt : k < n
    · have kI : (k : Int) < (n : Int) := by omega
      obtain ⟨b1, off1, rfl, q1⟩ := HC1.out (by omega)
      have hx := q1 k hlt
      have c256 : b.getD k 0 < 256 := by rw [getD_in (by rw [N1.out]; exact hlt)]; exact LT.out _ (List.getElem_mem _)
      have R := Lib.hid (Crc.rg_take b k (Crc.ones ^^^ s) (by rw [N1.out]; exact hlt))
      generalize b.getD k 0 = c at hx c256 R
      have XO := Lib.hid (xor_u64 hy (show c < 2 ^ 64 by omega))
      have hz : y ^^^ c < 2 ^ 64 := Nat.xor_lt_two_pow hy (by omega)
      have Z := Lib.hid hz
      obtain ⟨z, ez⟩ : ∃ z, y ^^^ c = z := ⟨_, rfl⟩
      rw [ez] at XO Z
      have R2 := Lib.hid (show Crc.sts 8 z = Crc.rg (Crc.ones ^^^ s) (b.take (k + 1)) by rw [R.out, ← H.out, ez])
      have Y := Lib.hid hy
      clear q1 hy hz ez R H
      go_wp2_with (rw [XO.out])
      go_loop [5, 20] (fun v i => ∃ j u : Nat, j ≤ 8 ∧ u < 2 ^ 64 ∧ i = .int .i64 (j : Int) ∧ v = .int .u64 (u : Int) ∧ Hid (u = Crc.sts j z)) (fun _ i => 8 - (intOf i).toNat)
      case atStart => exact ⟨0, z, by omega, Z.out, rfl, rfl, Lib.hid rfl⟩
      case round =>
        obtain ⟨j, u, hj, hu, rfl, rfl, H⟩ := hrel
        by_cases hj8 : j < 8
        · have jI : (j : Int) < 8 := by omega
          have ST := Lib.hid (fun w => step_any u w hu)
          have E := Lib.hid (show Crc.st u = Crc.sts (j + 1) z by rw [Crc.sts_succ, ← H.out])
          have UL := Lib.hid (Crc.st_lt hu)
          clear H
          generalize Crc.st u = t at ST E UL
          go_wp2_with (go_at_call 25; refine (ST.out _).mono ?_; rintro e w' ⟨rfl, rfl⟩)
          go_round
          case rel => exact ⟨j + 1, t, by omega, UL.out, by go_num, rfl, E⟩
          case measure => simp [intOf]; omega
        · obtain rfl : j = 8 := by omega
          have R3 := Lib.hid (H.out.trans R2.out)
          have UL := Lib.hid hu
          clear H R2
          go_wp2
          go_round
          case rel => exact ⟨k + 1, u, by omega, UL.out, by go_num, rfl, R3⟩
          case measure => simp [intOf]; omega
    · have ek : k = n := by omega
      have kI : ¬ (k : Int) < (n : Int) := by omega
      have NY := Lib.hid (not_u64 hy)
      have E := Lib.hid (show Crc.ones ^^^ y = Crc.upd s b by rw [H.out, ek, List.take_of_length_le (by rw [N1.out]; exact Nat.le_refl _)]; rfl)
      go_wp2
      go_ret
      exact ⟨ret_u64 (by rw [NY.out, E.out]), rfl⟩
set_option maxRecDepth 100000 in
theorem pcrcsum_eq (v : Value) (b : List Nat) (w : World) (hb : Bs w v b) :
    Calls Try.prog 18 #[v] w fun e w' => e = .returned (.int .u64 (Crc.crc b : Nat)) ∧ w = w' := by
  have U := Lib.hid (pcrcupd_eq 0 v b w (by decide) hb)
  obtain ⟨A1, c1, rfl⟩ := hb.form
  clear hb
  generalize b.length = n at *
  go_enter Try.func18, Try.ntmps18
  go_wp2_with (go_at_call 23; refine U.out.mono ?_; rintro e w' ⟨rfl, rfl⟩)
  go_ret
  exact ⟨rfl, rfl⟩
theorem pcrcupd_any (s : Nat) (v : Value) (b : List Nat) (w : World) (hs : s < 2 ^ 64) (hb : Bs w v b) : Calls Try.prog 23 #[.int .u64 (s : Int), v] w (u64Post (Crc.upd s b) w) :=
  (pcrcupd_eq s v b w hs hb).mono fun _ _ ⟨h1, h2⟩ => ⟨h1, h2 ▸ Below.refl _ _⟩
theorem pcrcsum_any (v : Value) (b : List Nat) (w : World) (hb : Bs w v b) : Calls Try.prog 18 #[v] w (u64Post (Crc.crc b) w) :=
  (pcrcsum_eq v b w hb).mono fun _ _ ⟨h1, h2⟩ => ⟨h1, h2 ▸ Below.refl _ _⟩
end Go.Proofs.Ytfihiihakgcikaa
