/- The reference's sum. -/
import Derived.Test.YtjbgfpbidjhlkaaDoorSw
namespace Go.Proofs.YtjbgfpbidjhlkaaDoor
open Go Go.RowKit
set_option linter.unusedVariables false

theorem digs_ok {q : Nat} (hq : q ∈ Sf.sizes) : 1 ≤ digs q ∧ digs q ≤ 3 := (show ∀ q ∈ Sf.sizes, 1 ≤ digs q ∧ digs q ≤ 3 by decide) q hq
/-- The digits of a sum. -/
def sumD (p a b i : Nat) : Nat := (a / p ^ i % p + b / p ^ i % p) % p
theorem add_digits {q a b : Nat} (hq : q ∈ Sf.sizes) (ha : a < q) (hb : b < q) : nmb (Sf.prm q) (sumD (Sf.prm q) a b) (digs q) 0 = Sf.addF q a b :=
  (show ∀ q ∈ Sf.sizes, ∀ a, a < q → ∀ b, b < q → nmb (Sf.prm q) (sumD (Sf.prm q) a b) (digs q) 0 = Sf.addF q a b by decide +kernel) q hq a ha b hb
def newN (n : Nat) (w : World) (e : Ending) (w' : World) : Prop := e = .returned (.int .i64 (n : Int)) ∧ Below w.heap.size w w'
set_option maxHeartbeats 1000000 in
set_option maxRecDepth 100000 in
theorem radd_any (q a b : Nat) (w : World) (hq : q ∈ Sf.sizes) (ha : a < q) (hb : b < q) : Calls Tryd.prog 27 #[.int .i64 (q : Int), .int .i64 (a : Int), .int .i64 (b : Int)] w (newN (Sf.addF q a b) w) := by
  have A := add_digits hq ha hb
  obtain ⟨p2, -, q9, -, p7⟩ := Sf.prm_ok hq
  obtain ⟨n1, n3⟩ := digs_ok hq
  have M0 := rprime_any q w hq
  obtain ⟨R, hR⟩ : ∃ R, Sf.addF q a b = R := ⟨_, rfl⟩
  obtain ⟨p, hp⟩ : ∃ p, Sf.prm q = p := ⟨_, rfl⟩
  obtain ⟨n, hn⟩ : ∃ n, digs q = n := ⟨_, rfl⟩
  rw [hR, hp, hn] at A
  rw [hp] at p2 p7 M0
  rw [hn] at n1 n3 M0
  rw [hR]
  have M0 := Lib.hid M0
  have A := Lib.hid A
  have D := Lib.hid fun x W (hx : x ≤ 9) => digits_any x p n W p2 (by omega) n1 (by omega) hx
  have a9 : a ≤ 9 := by omega
  have b9 : b ≤ 9 := by omega
  clear hR hp hn hq
  go_enter Tryd.func27, Tryd.ntmps27
  go_wp2_with fail
  refine M0.out.mono ?_
  rintro e z1 ⟨rfl, hzz⟩
  obtain rfl := hzz.symm
  go_wp2_with fail
  refine (D.out a _ a9).mono ?_
  rintro e w1 ⟨g1, c1, rfl, hg1, hr1, hb1, hc1⟩
  have R1 := Lib.hid hr1
  have B1 := Lib.hid hb1
  have G1 := Lib.hid hg1
  have C1 := Lib.hid hc1
  clear hg1 hr1 hb1 hc1
  go_wp2_with fail
  refine (D.out b _ b9).mono ?_
  rintro e w2 ⟨g2, c2, rfl, hg2, hr2, hb2, hc2⟩
  have R1' := Lib.hid (R1.out.below hb2 (Nat.le_refl _))
  have R2 := Lib.hid hr2
  have B2 := Lib.hid (B1.out.trans (hb2.mono B1.out.size))
  have NE := Lib.hid (show g1 ≠ g2 by have := R1.out.lt; omega)
  clear hg2 hr2 hb2 hc2 R1 B1 D M0
  go_wp2_with fail
  go_loopw [11] (fun i wr => ∃ k : Nat, k ≤ n ∧ i = .int .i64 (k : Int) ∧ Hid (Below w.heap.size w wr ∧ Nr wr g1 n (fun i => if i < k then sumD p a b i else a / p ^ i % p) ∧ Nr wr g2 n (fun i => b / p ^ i % p))) (fun i _ => n - (intOf i).toNat)
  case atStart => exact ⟨0, Nat.zero_le _, rfl, Lib.hid ⟨B2.out, R1'.out, R2.out⟩⟩
  case round =>
    obtain ⟨k, hk, rfl, H⟩ := hrel
    by_cases hlt : k < n
    · have hkI : (k : Int) < (n : Int) := by omega
      have c1' := H.out.2.1.cell hlt
      have c2' := H.out.2.2.cell hlt
      have f1 := H.out.2.1.frozen k
      rw [if_neg (Nat.lt_irrefl k)] at c1'
      obtain ⟨x, hx⟩ : ∃ x, a / p ^ k % p = x := ⟨_, rfl⟩
      obtain ⟨y, hy⟩ : ∃ y, b / p ^ k % p = y := ⟨_, rfl⟩
      obtain ⟨s, hs⟩ : ∃ s, (x + y) % p = s := ⟨_, rfl⟩
      have x9 : x ≤ 9 := by have := Nat.mod_lt (a / p ^ k) (show p > 0 by omega); omega
      have y9 : y ≤ 9 := by have := Nat.mod_lt (b / p ^ k) (show p > 0 by omega); omega
      obtain ⟨t, ht⟩ : ∃ t, x + y = t := ⟨_, rfl⟩
      rw [ht] at hs
      have ew : IntKind.i64.wrap ((x : Int) + (y : Int)) = (t : Int) := by rw [IntKind.wrap_i64, ← ht]; omega
      have es : (t : Int) % (p : Int) = (s : Int) := by rw [← hs, Int.natCast_emod]
      have es2 : (t : Int).tmod (p : Int) = (s : Int) := by rw [Int.tmod_eq_emod_of_nonneg (by omega)]; exact es
      have sI : IntKind.i64.wrap (s : Int) = (s : Int) := by have := Nat.mod_lt t (show p > 0 by omega); rw [IntKind.wrap_i64]; omega
      have p0 : ¬ p = 0 := by omega
      have S := Lib.hid (show sumD p a b k = s by unfold sumD; rw [hx, hy, ht, hs])
      rw [hx] at c1'
      rw [hy] at c2'
      clear hx hy hs ht
      go_wp2_with fail
      refine wp_region_still_tail 13 (by kernel_rfl) (by kernel_rfl) ?_
      simp only [List.take_succ_cons, List.take_zero, List.drop_succ_cons, List.drop_zero]
      repeat (first | still_step)
      refine wpStill_nil ?_
      change wpList _ _ _ _ _ wr.drew
      go_wp2
      go_roundw
      case rel =>
        refine ⟨k + 1, by omega, by go_num, Lib.hid ⟨(H.out.1.drew).setCell G1.out _, ((H.out.2.1.drew).set k _).congr fun i hi => ?_, (H.out.2.2.drew).other (Ne.symm NE.out) _⟩⟩
        unfold up
        by_cases e : i = k
        · rw [if_pos e, if_pos (by omega), e, S.out]
        · rw [if_neg e]
          dsimp only
          by_cases e2 : i < k
          · rw [if_pos e2, if_pos (by omega)]
          · rw [if_neg e2, if_neg (by omega)]
      case measure => simp [intOf]; omega
    · obtain rfl : k = n := by omega
      have N := Lib.hid (number_any g1 k c1 p (fun i => sumD p a b i % p) wr (H.out.2.1.congr fun i hi => by rw [if_pos hi]; unfold sumD; rw [Nat.mod_mod]) (by omega) (by omega) (fun i => by have := Nat.mod_lt (sumD p a b i) (show p > 0 by omega); omega))
      have E : nmb p (fun i => sumD p a b i % p) k 0 = R := by rw [show (fun i => sumD p a b i % p) = sumD p a b by funext i; unfold sumD; rw [Nat.mod_mod]]; exact A.out
      rw [E] at N
      clear E
      go_wp2_with fail
      refine N.out.mono ?_
      rintro e z1 ⟨rfl, hzz⟩
      obtain rfl := hzz.symm
      go_wp2_with fail
      go_ret
      exact ⟨rfl, H.out.1⟩
end Go.Proofs.YtjbgfpbidjhlkaaDoor
