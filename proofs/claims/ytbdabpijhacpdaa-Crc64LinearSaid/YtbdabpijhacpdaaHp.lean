/- Contracts: crc64's Combine. -/
import Derived.Test.YtbdabpijhacpdaaHt
namespace Go.Proofs.Ytbdabpijhacpdaa
open Go Go.RowKit
set_option linter.unusedVariables false
set_option linter.unusedSimpArgs false
def CbSt (w wr : World) (B1 x m k T a : Nat) : Prop := x < 2 ^ 64 ∧ Mt wr B1 k ∧ Crc.sts (k * m) x = Crc.sts T a ∧ Below w.heap.size w wr
theorem CbSt.odd {w wr : World} {B1 x m k T a : Nat} (h : CbSt w wr B1 x m k T a) (hm : m % 2 = 1) : Crc.sts (2 * k * (m / 2)) (Crc.sts k x) = Crc.sts T a := by
  rw [← Crc.sts_add, ← h.2.2.1]
  obtain ⟨q, hq⟩ : ∃ q, m = 2 * q + 1 := ⟨m / 2, by omega⟩
  subst hq
  rw [show (2 * q + 1) / 2 = q by omega, Nat.mul_add, Nat.mul_one, Nat.mul_comm 2 k, Nat.mul_assoc, Nat.add_comm]
theorem CbSt.even {w wr : World} {B1 x m k T a : Nat} (h : CbSt w wr B1 x m k T a) (hm : m % 2 = 0) : Crc.sts (2 * k * (m / 2)) x = Crc.sts T a := by
  rw [← h.2.2.1]
  obtain ⟨q, hq⟩ : ∃ q, m = 2 * q := ⟨m / 2, by omega⟩
  subst hq
  rw [show (2 * q) / 2 = q by omega, Nat.mul_comm 2 k, Nat.mul_assoc]
set_option maxHeartbeats 1000000 in
set_option maxRecDepth 100000 in
theorem comb_pos (a b n : Nat) (w : World) (ha : a < 2 ^ 64) (hb : b < 2 ^ 64) (hn : n < 2 ^ 63) (h1 : 1 ≤ n) :
    Calls Try.prog 17 #[.int .u64 (a : Int), .int .u64 (b : Int), .int .i64 (n : Int)] w (u64Post (Crc.sts (8 * n) a ^^^ b) w) := by
  have A64 := Lib.hid ha
  have XB := Lib.hid fun y (hy : y < 2 ^ 64) => xor_u64 hy hb
  obtain ⟨T, hT⟩ : ∃ T, 8 * n = T := ⟨_, rfl⟩
  have HT := Lib.hid hT
  rw [hT]
  have n0 : ¬ (n : Int) ≤ 0 := by omega
  clear ha hb hT
  go_enter Try.func17, Try.ntmps17
  go_wp2_with fail
  refine (steps_any w).mono ?_
  rintro e w1 ⟨cs, rfl, hM, hbel⟩
  obtain ⟨B1, hB1⟩ : ∃ B1, w1.heap.size = B1 := ⟨_, rfl⟩
  have HB1 := Lib.hid hB1
  have GB := Lib.hid (show w.heap.size ≤ B1 by rw [← hB1]; exact hbel.size)
  have MCs := Lib.hid hM
  have RW := Lib.hid fun (Z : Array Value) => mx_new w1 Z 41 hB1
  have TH := Lib.hid fun (Z : Array Value) (hz : Z.size = 64) => mx_there (RW.out Z) (n := cs.size) (by rw [hM.1, hz]; exact Nat.le_refl _)
  have BEL := Lib.hid fun (Z : Array Value) => mx_below (hbel.alloc hbel.size (.cells Z 41)) cs.toList B1 0 GB.out
  have MT := Lib.hid fun (Z : Array Value) (hz : Z.size = 64) => (show Mt ((w1.alloc (.cells Z 41)).setCells B1 0 cs.toList) B1 8 from ⟨cs, mx_put (RW.out Z) (by rw [hz, hM.1]), hM⟩)
  clear hM hbel hB1
  go_wp2_with (first | rw [HB1.out] | (refine wpList_store_mid rfl _ _ _ rfl _ 0 _ rfl rfl (TH.out _ rfl) MCs.out.info MCs.out.one ?_))
  have KEY := Lib.hid fun (Z : Array Value) (hz : Z.size = 64) => (show CbSt w ((w1.alloc (.cells Z 41)).setCells B1 0 cs.toList) B1 a n 8 T a from ⟨A64.out, MT.out Z hz, by rw [HT.out], BEL.out Z⟩)
  generalize hW : World.setCells (World.alloc w1 _) B1 0 cs.toList = W
  have ST : Hid (CbSt w W B1 a n 8 T a) := Lib.hid (by rw [← hW]; exact KEY.out _ rfl)
  clear hW KEY MT BEL TH RW MCs HT A64
  simp only [Act.put]
  go_loopw [0, 2] (fun v i wr => ∃ x m k : Nat, 1 ≤ m ∧ m < 2 ^ 63 ∧ v = .int .u64 (x : Int) ∧ i = .int .i64 (m : Int) ∧ Hid (CbSt w wr B1 x m k T a)) (fun _ i _ => (intOf i).toNat)
  case atStart => exact ⟨a, n, 8, h1, hn, rfl, rfl, ST⟩
  case round =>
    obtain ⟨x, m, k, hm1, hm, rfl, rfl, H⟩ := hrel
    have IM := Lib.hid (image_any B1 k x wr H.out.2.1 H.out.1)
    by_cases hgt : 1 < m
    · have mI : (1 : Int) < (m : Int) := by omega
      have SQ := Lib.hid (square_any B1 k wr H.out.2.1)
      have AN := Lib.hid (and1_i64 m)
      rcases (by omega : m % 2 = 1 ∨ m % 2 = 0) with h2 | h2
      · have g1 : (bits BinOp.and IntKind.i64 (m : Int) 1 == 1) = true := by rw [AN.out, h2]; rfl
        have E := Lib.hid (H.out.odd h2)
        have L := Lib.hid (Crc.sts_lt k H.out.1)
        obtain ⟨y, hy⟩ : ∃ y, Crc.sts k x = y := ⟨_, rfl⟩
        rw [hy] at E L IM
        clear hy h2
        go_wp2_with (go_at_call 22; refine IM.out.mono ?_; rintro e w' ⟨rfl, rfl⟩)
        refine (SQ.out).mono ?_
        rintro e w2 ⟨rfl, hb2, hm2⟩
        have NX := Lib.hid (show CbSt w w2 B1 y (m / 2) (2 * k) T a from ⟨L.out, hm2, E.out, H.out.2.2.2.trans (hb2.mono GB.out)⟩)
        clear hb2 hm2 H
        go_wp2_with fail
        go_roundw
        case rel => exact ⟨y, m / 2, 2 * k, by omega, by omega, rfl, by go_num, NX⟩
        case measure => simp [intOf]; omega
      · have g1 : (bits BinOp.and IntKind.i64 (m : Int) 1 == 1) = false := by rw [AN.out, h2]; rfl
        have E := Lib.hid (H.out.even h2)
        clear h2
        go_wp2_with fail
        refine (SQ.out).mono ?_
        rintro e w2 ⟨rfl, hb2, hm2⟩
        have NX := Lib.hid (show CbSt w w2 B1 x (m / 2) (2 * k) T a from ⟨H.out.1, hm2, E.out, H.out.2.2.2.trans (hb2.mono GB.out)⟩)
        clear hb2 hm2 H
        go_wp2_with fail
        go_roundw
        case rel => exact ⟨x, m / 2, 2 * k, by omega, by omega, rfl, by go_num, NX⟩
        case measure => simp [intOf]; omega
    · obtain rfl : m = 1 := by omega
      have L := Lib.hid (Crc.sts_lt k H.out.1)
      have E := Lib.hid (show Crc.sts k x = Crc.sts T a by rw [← H.out.2.2.1, Nat.mul_one])
      have BL := Lib.hid H.out.2.2.2
      obtain ⟨y, hy⟩ : ∃ y, Crc.sts k x = y := ⟨_, rfl⟩
      rw [hy] at E L IM
      have X := Lib.hid (XB.out y L.out)
      clear hy H
      go_wp2_with (go_at_call 22; refine IM.out.mono ?_; rintro e w' ⟨rfl, rfl⟩)
      go_ret
      exact ⟨ret_u64 (by rw [X.out, E.out]), BL.out⟩
set_option maxHeartbeats 400000 in
set_option maxRecDepth 100000 in
theorem comb_neg (a b : Nat) (n : Int) (w : World) (ha : a < 2 ^ 64) (hb : b < 2 ^ 64) (h0 : n ≤ 0) :
    Calls Try.prog 17 #[.int .u64 (a : Int), .int .u64 (b : Int), .int .i64 n] w (u64Post (a ^^^ b) w) := by
  have X := Lib.hid (xor_u64 ha hb)
  go_enter Try.func17, Try.ntmps17
  go_wp2_with fail
  go_ret
  exact ⟨ret_u64 X.out, Below.refl _ _⟩
theorem pcomb_any (a b : Nat) (n : Int) (w : World) (ha : a < 2 ^ 64) (hb : b < 2 ^ 64) (hn : n < 2 ^ 42) (hn0 : -(2 ^ 63) ≤ n) :
    Calls Try.prog 17 #[.int .u64 (a : Int), .int .u64 (b : Int), .int .i64 n] w (u64Post (Crc.sts (8 * n.toNat) a ^^^ b) w) := by
  by_cases h : n ≤ 0
  · rw [Int.toNat_of_nonpos h]; exact comb_neg a b n w ha hb h
  · obtain ⟨m, rfl⟩ : ∃ m : Nat, n = (m : Int) := ⟨n.toNat, by omega⟩
    rw [Int.toNat_natCast]
    exact comb_pos a b m w ha hb (by omega) (by omega)
end Go.Proofs.Ytbdabpijhacpdaa
