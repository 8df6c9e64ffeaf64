/- Contracts: the closures that add and multiply. -/
import Derived.Test.YtjbgfpbidjhlkaaDoorProg
import Derived.Test.YtjbgfpbidjhlkaaDoorSm
import Derived.Test.YtjbgfpbidjhlkaaDoorGA
namespace Go.Proofs.YtjbgfpbidjhlkaaDoor
open Go Go.RowKit

/-- A call that answers the number n, and leaves the world. -/
def num (n : Nat) (w : World) (e : Ending) (w' : World) : Prop := e = .returned (.int .i64 (n : Int)) ∧ w' = w

theorem modf_any (a b p B : Nat) (w : World) (hc : w.cell? ⟨B, 0, none⟩ = some (.int .i64 (p : Int))) (ha : a ≤ 8) (hb : b ≤ 8) (hp : 2 ≤ p) :
    Calls Tryd.prog 52 #[.int .i64 (a : Int), .int .i64 (b : Int), .pointer (some ⟨B, 0, none⟩)] w (num (a * b % p) w) := by
  have hab : a * b ≤ 64 := Nat.mul_le_mul ha hb
  have e1 : IntKind.i64.wrap ((a : Int) * (b : Int)) = ((a * b : Nat) : Int) := by
    rw [IntKind.wrap_i64, ← Int.natCast_mul]; omega
  go_enter Tryd.func52, Tryd.ntmps52
  go_wp2
  go_ret
  exact ⟨rfl, rfl⟩

/-- What is left to add is not less than a digit. -/
theorem dig_step (p f a b R s pl : Nat) (h : s + pl * Sf.dig p (f + 1) a b = R) : s + pl * ((a + b) % p) + pl * p * Sf.dig p f (a / p) (b / p) = R := by
  rw [← h, Sf.dig, Nat.mul_add, Nat.mul_assoc, Nat.add_assoc]
set_option maxHeartbeats 1000000 in
set_option maxRecDepth 100000 in
theorem digit_any (a b p B : Nat) (w : World) (hc : w.cell? ⟨B, 0, none⟩ = some (.int .i64 (p : Int))) (ha : a ≤ 8) (hb : b ≤ 8) (hp : 2 ≤ p) (hp9 : p ≤ 9) (hR : Sf.dig p 4 a b ≤ 8) :
    Calls Tryd.prog 51 #[.int .i64 (a : Int), .int .i64 (b : Int), .pointer (some ⟨B, 0, none⟩)] w (num (Sf.dig p 4 a b) w) := by
  obtain ⟨R, hRe⟩ : ∃ R, Sf.dig p 4 a b = R := ⟨_, rfl⟩
  rw [hRe] at hR ⊢
  have A0 : Hid (0 + 1 * Sf.dig p 4 a b = R) := Lib.hid (by rw [hRe]; omega)
  clear hRe
  go_enter Tryd.func51, Tryd.ntmps51
  go_wp2
  go_loopw [0, 1, 6, 7] (fun x y s pl wr => wr = w ∧ ∃ f a' b' s' pl' : Nat, f ≤ 4 ∧ x = .int .i64 (a' : Int) ∧ y = .int .i64 (b' : Int) ∧ s = .int .i64 (s' : Int) ∧ pl = .int .i64 (pl' : Int) ∧ Hid (a' < 2 ^ f ∧ b' < 2 ^ f ∧ pl' ≤ 9 ^ (4 - f) ∧ 1 ≤ pl' ∧ s' + pl' * Sf.dig p f a' b' = R)) (fun x y _ _ _ => (intOf x).toNat + (intOf y).toNat)
  case atStart => exact ⟨rfl, 4, a, b, 0, 1, by omega, rfl, rfl, rfl, rfl, Lib.hid ⟨by omega, by omega, by omega, by omega, A0.out⟩⟩
  case round =>
    obtain ⟨rfl, f, a', b', s', pl', hf, rfl, rfl, rfl, rfl, H⟩ := hrel
    by_cases h0 : a' = 0 ∧ b' = 0
    · obtain ⟨rfl, rfl⟩ := h0
      obtain rfl : s' = R := by have := H.out.2.2.2.2; rw [Sf.dig_zero] at this; omega
      go_wp2
      go_ret
      exact ⟨rfl, rfl⟩
    · obtain ⟨g, rfl⟩ : ∃ g, f = g + 1 := by
        rcases f with _ | g
        · have := H.out.1; have := H.out.2.1; omega
        · exact ⟨g, rfl⟩
      have hs := dig_step _ _ _ _ _ _ _ H.out.2.2.2.2
      have hpl : pl' ≤ 729 := Nat.le_trans H.out.2.2.1 (Nat.le_trans (Nat.pow_le_pow_right (by omega) (show 4 - (g + 1) ≤ 3 by omega)) (by decide))
      have hab : a' < 16 ∧ b' < 16 := ⟨Nat.lt_of_lt_of_le H.out.1 (Nat.le_trans (Nat.pow_le_pow_right (by omega) hf) (by decide)), Nat.lt_of_lt_of_le H.out.2.1 (Nat.le_trans (Nat.pow_le_pow_right (by omega) hf) (by decide))⟩
      have hpp : pl' * p ≤ 9 ^ (4 - g) := by
        rw [show 4 - g = (4 - (g + 1)) + 1 by omega, Nat.pow_succ]; exact Nat.mul_le_mul H.out.2.2.1 hp9
      have hq1 : a' / p < 2 ^ g := Nat.div_lt_of_lt_mul (Nat.lt_of_lt_of_le H.out.1 (by rw [Nat.pow_succ, Nat.mul_comm]; exact Nat.mul_le_mul_right _ hp))
      have hq2 : b' / p < 2 ^ g := Nat.div_lt_of_lt_mul (Nat.lt_of_lt_of_le H.out.2.1 (by rw [Nat.pow_succ, Nat.mul_comm]; exact Nat.mul_le_mul_right _ hp))
      have hpp2 : pl' * p ≤ 6561 := Nat.le_trans hpp (Nat.le_trans (Nat.pow_le_pow_right (by omega) (show 4 - g ≤ 4 by omega)) (by decide))
      have hm8 : s' + pl' * ((a' + b') % p) ≤ 8 := by omega
      have hpos : 1 ≤ pl' * p := Nat.mul_le_mul H.out.2.2.2.1 (show 1 ≤ p by omega)
      have F := Lib.hid (And.intro hq1 (And.intro hq2 (And.intro hpp (And.intro hpos hs))))
      obtain ⟨m, hm⟩ : ∃ m, pl' * ((a' + b') % p) = m := ⟨_, rfl⟩
      obtain ⟨n, hn⟩ : ∃ n, pl' * p = n := ⟨_, rfl⟩
      have em : (pl' : Int) * (((a' : Int) + (b' : Int)) % (p : Int)) = (m : Int) := by rw [← hm, Int.natCast_mul, Int.natCast_emod, Int.natCast_add]
      have en : (pl' : Int) * (p : Int) = (n : Int) := by rw [← hn, Int.natCast_mul]
      rw [hm] at hm8
      rw [hn] at hpp2
      have M := Lib.hid hm
      have NN := Lib.hid hn
      have h0' : 0 < a' ∨ 0 < b' := by omega
      have hd1 : a' / p ≤ a' := Nat.div_le_self _ _
      have hd2 : b' / p ≤ b' := Nat.div_le_self _ _
      have hd3 : 0 < a' → a' / p < a' := fun h => Nat.div_lt_self h hp
      have hd4 : 0 < b' → b' / p < b' := fun h => Nat.div_lt_self h hp
      have hx8 : a' / p ≤ 15 := by omega
      have hy8 : b' / p ≤ 15 := by omega
      have D := Lib.hid (And.intro hd1 (And.intro hd2 (And.intro hd3 (And.intro hd4 h0'))))
      obtain ⟨x, hx⟩ : ∃ x, a' / p = x := ⟨_, rfl⟩
      obtain ⟨y, hy⟩ : ∃ y, b' / p = y := ⟨_, rfl⟩
      have ex : (a' : Int) / (p : Int) = (x : Int) := by rw [← hx, Int.natCast_ediv]
      have ey : (b' : Int) / (p : Int) = (y : Int) := by rw [← hy, Int.natCast_ediv]
      rw [hx] at F D hx8
      rw [hy] at F D hy8
      clear hx hy hs hpl hpp hq1 hq2 hm hn h0 hpos hd1 hd2 hd3 hd4 h0'
      by_cases h1 : 0 < a'
      · go_wp2
        go_roundw
        case rel => exact ⟨trivial, g, x, y, s' + m, n, by omega, rfl, rfl, by rw [Int.natCast_add], rfl, Lib.hid (by rw [← M.out, ← NN.out]; exact F.out)⟩
        case measure => simp [intOf]; have := D.out; omega
      · have h2 : 0 < b' := by have := D.out.2.2.2.2; omega
        go_wp2
        go_roundw
        case rel => exact ⟨trivial, g, x, y, s' + m, n, by omega, rfl, rfl, by rw [Int.natCast_add], rfl, Lib.hid (by rw [← M.out, ← NN.out]; exact F.out)⟩
        case measure => simp [intOf]; have := D.out; omega
end Go.Proofs.YtjbgfpbidjhlkaaDoor
