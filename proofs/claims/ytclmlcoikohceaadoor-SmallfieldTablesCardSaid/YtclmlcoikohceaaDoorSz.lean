/- The reference's product, negated element, inverse. -/
import Derived.Test.YtclmlcoikohceaaDoorSy
namespace Go.Proofs.YtclmlcoikohceaaDoor
open Go Go.RowKit
set_option linter.unusedVariables false

theorem rmul_prime (q a b : Nat) (w : World) (hq : q ∈ Sf.sizes) (hp : Sf.prm q = q) (ha : a < q) (hb : b < q) : Calls Tryd.prog 18 #[.int .i64 (q : Int), .int .i64 (a : Int), .int .i64 (b : Int)] w (newN (Sf.mulF q a b) w) := by
  have M0 := rprime_any q w hq
  obtain ⟨p2, -, q9, -, -⟩ := Sf.prm_ok hq
  rw [hp, show digs q = 1 from (show ∀ q ∈ Sf.sizes, Sf.prm q = q → digs q = 1 by decide) q hq hp] at M0
  rw [show Sf.mulF q a b = a * b % q by rw [Sf.mulF, if_pos hp]]
  have M0 := Lib.hid M0
  rw [hp] at p2
  have hab : a * b ≤ 8 * 8 := Nat.mul_le_mul (by omega) (by omega)
  obtain ⟨u, hu⟩ : ∃ u, a * b = u := ⟨_, rfl⟩
  rw [hu] at hab ⊢
  obtain ⟨s, hs⟩ : ∃ s, u % q = s := ⟨_, rfl⟩
  rw [hs]
  have em : (a : Int) * (b : Int) = (u : Int) := by rw [← hu, Int.natCast_mul]
  have es : (u : Int) % (q : Int) = (s : Int) := by rw [← hs, Int.natCast_emod]
  have qI : (2 : Int) ≤ (q : Int) := by omega
  clear hu hs hp hq
  go_enter Tryd.func18, Tryd.ntmps18
  go_wp2_with fail
  refine M0.out.mono ?_
  rintro e z1 ⟨rfl, hzz⟩
  obtain rfl := hzz.symm
  go_wp2_with fail
  go_ret
  exact ⟨by rw [← es]; rfl, Below.refl _ _⟩
theorem rmul_any (q a b : Nat) (w : World) (hq : q ∈ Sf.sizes) (ha : a < q) (hb : b < q) : Calls Tryd.prog 18 #[.int .i64 (q : Int), .int .i64 (a : Int), .int .i64 (b : Int)] w (newN (Sf.mulF q a b) w) := by
  by_cases hp : Sf.prm q = q
  · exact rmul_prime q a b w hq hp ha hb
  · exact rmul_big q a b w ((show ∀ q ∈ Sf.sizes, Sf.prm q ≠ q → q = 4 ∨ q = 8 ∨ q = 9 by decide) q hq hp) ha hb
set_option maxHeartbeats 1000000 in
set_option maxRecDepth 100000 in
theorem rneg_any (q a : Nat) (w : World) (hq : q ∈ Sf.sizes) (ha : a < q) : Calls Tryd.prog 19 #[.int .i64 (q : Int), .int .i64 (a : Int)] w (newN (Sf.negF q a) w) := by
  have CA := Lib.hid fun b W hb => radd_any q a b W hq ha hb
  have NO := Sf.neg_ok hq ha
  have q9 := (Sf.prm_ok hq).2.2.1
  obtain ⟨R, hR⟩ : ∃ R, Sf.negF q a = R := ⟨_, rfl⟩
  rw [hR] at NO ⊢
  obtain ⟨Rq, R0, R1⟩ := NO
  have RN := Lib.hid (And.intro R0 R1)
  clear hR R0 R1 hq ha
  go_enter Tryd.func19, Tryd.ntmps19
  go_wp2_with fail
  go_loopw [5] (fun i wr => ∃ k : Nat, k ≤ R ∧ i = .int .i64 (k : Int) ∧ Hid (Below w.heap.size w wr)) (fun i _ => R + 1 - (intOf i).toNat)
  case atStart => exact ⟨0, Nat.zero_le _, rfl, Lib.hid (Below.refl _ _)⟩
  case round =>
    obtain ⟨k, hk, rfl, H⟩ := hrel
    have hkI : (k : Int) < (q : Int) := by omega
    have C := Lib.hid (CA.out k wr (by omega))
    by_cases h : k = R
    · have e : Sf.addF q a k = 0 := by rw [h]; exact RN.out.1
      rw [e] at C
      obtain rfl := h
      clear e CA
      go_wp2_with fail
      refine C.out.mono ?_
      rintro e w1 ⟨rfl, hb⟩
      have B1 := Lib.hid (H.out.trans (hb.mono H.out.size))
      clear hb
      go_wp2_with fail
      go_ret
      exact ⟨rfl, B1.out⟩
    · obtain ⟨s, hs⟩ : ∃ s, Sf.addF q a k = s := ⟨_, rfl⟩
      have s0 : ¬ s = 0 := fun e => h (RN.out.2 k (by omega) (hs.trans e))
      rw [hs] at C
      clear hs CA
      go_wp2_with fail
      refine C.out.mono ?_
      rintro e w1 ⟨rfl, hb⟩
      have B1 := Lib.hid (H.out.trans (hb.mono H.out.size))
      clear hb
      go_wp2_with fail
      go_roundw
      case rel => exact ⟨k + 1, by omega, by go_num, B1⟩
      case measure => simp [intOf]; omega
def invI (q a : Nat) : Int := if a = 0 then -1 else (Sf.invF q a : Int)
set_option maxHeartbeats 1000000 in
set_option maxRecDepth 100000 in
theorem rinv_any (q a : Nat) (w : World) (hq : q ∈ Sf.sizes) (ha : a < q) : Calls Tryd.prog 20 #[.int .i64 (q : Int), .int .i64 (a : Int)] w fun e w' => e = .returned (.int .i64 (invI q a)) ∧ Below w.heap.size w w' := by
  have CA := Lib.hid fun b W hb => rmul_any q a b W hq ha hb
  have q9 := (Sf.prm_ok hq).2.2.1
  obtain ⟨R, hRq, R1, R2, hI⟩ : ∃ R, R ≤ q ∧ (R < q → Sf.mulF q a R = 1) ∧ (∀ b, b < q → Sf.mulF q a b = 1 → b = R) ∧ invI q a = if R < q then (R : Int) else -1 := by
    by_cases h0 : a = 0
    · subst h0
      exact ⟨q, Nat.le_refl q, fun h => absurd h (Nat.lt_irrefl q), fun b hb e => absurd e (Sf.inv_zero hq hb), by rw [invI, if_pos rfl, if_neg (Nat.lt_irrefl q)]⟩
    · obtain ⟨h1, h2, h3, h4⟩ := Sf.inv_ok hq ha h0
      exact ⟨_, Nat.le_of_lt h1, fun _ => h3, h4, by rw [invI, if_neg h0, if_pos h1]⟩
  rw [hI]
  obtain ⟨res, hres⟩ : ∃ res : Int, (if R < q then (R : Int) else -1) = res := ⟨_, rfl⟩
  rw [hres]
  have RN := Lib.hid (And.intro R1 (And.intro R2 hres))
  clear hI R1 R2 hq ha hres
  go_enter Tryd.func20, Tryd.ntmps20
  go_wp2_with fail
  go_loopw [5] (fun i wr => ∃ k : Nat, k ≤ R ∧ i = .int .i64 (k : Int) ∧ Hid (Below w.heap.size w wr)) (fun i _ => R + 1 - (intOf i).toNat)
  case atStart => exact ⟨0, Nat.zero_le _, rfl, Lib.hid (Below.refl _ _)⟩
  case round =>
    obtain ⟨k, hk, rfl, H⟩ := hrel
    by_cases hlt : k < q
    · have hkI : (k : Int) < (q : Int) := by omega
      have C := Lib.hid (CA.out k wr hlt)
      by_cases h : k = R
      · have e : Sf.mulF q a k = 1 := by rw [h]; exact RN.out.1 (by omega)
        rw [e] at C
        obtain rfl := h
        have ER : Hid ((k : Int) = res) := Lib.hid (by rw [← RN.out.2.2, if_pos hlt])
        clear e CA RN
        go_wp2_with fail
        refine C.out.mono ?_
        rintro e w1 ⟨rfl, hb⟩
        have B1 := Lib.hid (H.out.trans (hb.mono H.out.size))
        clear hb
        go_wp2_with fail
        go_ret
        exact ⟨by rw [← ER.out]; rfl, B1.out⟩
      · obtain ⟨s, hs⟩ : ∃ s, Sf.mulF q a k = s := ⟨_, rfl⟩
        have s0 : ¬ s = 1 := fun e => h (RN.out.2.1 k hlt (hs.trans e))
        have s0I : ¬ (s : Int) = 1 := by omega
        rw [hs] at C
        clear hs CA
        go_wp2_with fail
        refine C.out.mono ?_
        rintro e w1 ⟨rfl, hb⟩
        have B1 := Lib.hid (H.out.trans (hb.mono H.out.size))
        clear hb
        go_wp2_with fail
        go_roundw
        case rel => exact ⟨k + 1, by omega, by go_num, B1⟩
        case measure => simp [intOf]; omega
    · have hkI : ¬ (k : Int) < (q : Int) := by omega
      have ER : Hid (-1 = res) := Lib.hid (by rw [← RN.out.2.2, if_neg (by omega)])
      clear RN CA
      go_wp2_with fail
      go_ret
      exact ⟨by rw [← ER.out]; rfl, H.out⟩
end Go.Proofs.YtclmlcoikohceaaDoor
