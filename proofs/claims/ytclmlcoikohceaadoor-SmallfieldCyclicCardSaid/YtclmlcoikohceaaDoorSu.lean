/- Law walk: SmallfieldCyclic. WRITTEN BY gen_Su.py. -/
import Derived.Test.YtclmlcoikohceaaDoorSn
import Derived.Test.YtclmlcoikohceaaDoorGK
namespace Go.Proofs.YtclmlcoikohceaaDoor
open Go Go.RowKit
set_option linter.unusedVariables false

/-- An element whose powers are all others but 0; the k-th power behind an element. -/
def gen (q : Nat) : Nat := [0, 0, 1, 2, 2, 2, 0, 3, 2, 4].getD q 0
def pwr (q a k : Nat) : Nat := Sf.rep (fun s => Sf.mulF q s a) k a
theorem gen_ok {q : Nat} (hq : q ∈ Sf.sizes) : 1 ≤ gen q ∧ gen q < q ∧ (∀ j, j < q - 2 → pwr q (gen q) j ≠ 1) ∧ pwr q (gen q) (q - 2) = 1 :=
  (show ∀ q ∈ Sf.sizes, 1 ≤ gen q ∧ gen q < q ∧ (∀ j, j < q - 2 → pwr q (gen q) j ≠ 1) ∧ pwr q (gen q) (q - 2) = 1 by decide +kernel) q hq

set_option maxHeartbeats 2000000 in
set_option maxRecDepth 100000 in
theorem cycliclaw_walk (n : Nat) (w : World) (hK : Kd w) (hn : n < 256) : Calls Tryd.prog 9 #[.int .u8 (n : Int)] w (lawPost w) := by
  obtain ⟨q, hq⟩ : ∃ q, kS (n % 7) = q := ⟨_, rfl⟩
  have qs : q ∈ Sf.sizes := hq ▸ (kS_ok _ (Nat.mod_lt _ (by decide))).1
  have q9 := (Sf.prm_ok qs).2.2.1
  have q2 := (Sf.prm_ok qs).2.2.2.1
  have QS := Lib.hid qs
  have CF := fun W hb => Lib.hid (field_any n q W (hK.below hb) hn hq)
  have CF' := Lib.hid CF
  have CA := fun W hb => Lib.hid (awake_any W (hK.below hb))
  have CA' := Lib.hid CA
  clear CF CA hq qs hK
  go_enter Tryd.func9, Tryd.ntmps9
  go_wp2_with fail
  refine ((CA'.out _ (Below.refl w.heap.size w)).out).mono ?_
  rintro e w1 ⟨rfl, hb1⟩
  have B1 := Lib.hid ((Below.refl w.heap.size w).trans (hb1.mono ((Below.refl w.heap.size w)).size))
  clear hb1
  go_wp2_with fail
  refine ((CF'.out _ B1.out).out).mono ?_
  rintro e w2 ⟨u, rfl, hf, hb2⟩
  have HF := Lib.hid hf
  have HB := Lib.hid (B1.out.trans (hb2.mono (B1.out).size))
  clear hf hb2
  go_wp2_with fail
  obtain ⟨g, hg⟩ : ∃ g, gen q = g := ⟨_, rfl⟩
  have G := gen_ok QS.out
  rw [hg] at G
  obtain ⟨g1, gq, G3, G4⟩ := G
  have GO := Lib.hid (And.intro G3 G4)
  clear hg G3 G4 CA' CF' B1
  go_loopw [6] (fun a wr => wr = w2 ∧ ∃ k : Nat, 1 ≤ k ∧ k ≤ g ∧ a = .int .i64 (k : Int)) (fun a _ => g + 1 - (intOf a).toNat)
  case atStart => exact ⟨rfl, 1, by omega, by omega, rfl⟩
  case round =>
    obtain ⟨rfl, a, a1, ag, rfl⟩ := hrel
    have aqI : (a : Int) < (q : Int) := by omega
    have AQ := Lib.hid (show a < q by omega)
    obtain ⟨wo, ho⟩ : ∃ wo, wo = wr := ⟨_, rfl⟩
    obtain rfl := ho
    go_wp2_with fail
    go_loopw [7, 8] (fun c x wr => wr = wo ∧ ∃ k y : Nat, k ≤ q ∧ c = .int .i64 ((k : Int) + 1) ∧ x = .int .i64 (y : Int) ∧ Hid (y < q ∧ y = pwr q a k ∧ ∀ j, j < k → pwr q a j ≠ 1)) (fun c _ _ => q + 1 - (intOf c).toNat)
    case atStart => exact ⟨rfl, 0, a, Nat.zero_le _, rfl, rfl, Lib.hid ⟨AQ.out, rfl, fun j hj => absurd hj (Nat.not_lt_zero _)⟩⟩
    case round =>
      obtain ⟨rfl, k, y, hk, rfl, rfl, H⟩ := hrel
      by_cases y1 : y = 1
      · subst y1
        have E : Hid (a = g → k + 1 = q - 1) := Lib.hid (fun e => by
          obtain ⟨-, h2, h3⟩ := H.out
          obtain ⟨g3, g4⟩ := GO.out
          subst e
          rcases Nat.lt_trichotomy k (q - 2) with h | h | h
          · exact absurd h2.symm (g3 k h)
          · omega
          · exact absurd g4 (h3 _ h))
        clear H
        by_cases hs : k + 1 = q - 1
        · have hsI : (k : Int) + 1 = (q : Int) - 1 := by omega
          clear hs
          go_wp2_with fail
          go_ret
          exact ⟨rfl, HB.out⟩
        · have hsI : ¬ (k : Int) + 1 = (q : Int) - 1 := by omega
          have ang : a < g := (Nat.lt_or_eq_of_le ag).elim id fun h => absurd (E.out h) hs
          clear hs E
          go_wp2_with fail
          go_roundw
          case rel => exact ⟨trivial, a + 1, by omega, by omega, by go_num⟩
          case measure => simp [intOf]; omega
      · have y1I : ¬ ((y : Int) = 1) := by omega
        by_cases hlt : k + 1 < q
        · have hkI : (k : Int) + 1 < (q : Int) := by omega
          have cM := Lib.hid (mul_ok q y a u wr QS.out HF.out H.out.1 AQ.out)
          have Y : Hid (Sf.mulF q y a < q ∧ Sf.mulF q y a = pwr q a (k + 1) ∧ ∀ j, j < k + 1 → pwr q a j ≠ 1) := Lib.hid ⟨Sf.mul_lt QS.out H.out.1 AQ.out, by unfold pwr; rw [Sf.rep_succ]; exact congrArg (fun z => Sf.mulF q z a) H.out.2.1, fun j hj => by
            rcases Nat.lt_or_eq_of_le (Nat.le_of_lt_succ hj) with h | h
            · exact H.out.2.2 j h
            · rw [h, ← H.out.2.1]; exact y1⟩
          generalize Sf.mulF q y a = z at cM Y
          clear H y1
          go_wp2_with (go_at_call 22; refine cM.out.mono ?_; rintro e w' ⟨rfl, rfl⟩)
          go_roundw
          case rel => exact ⟨trivial, k + 1, z, by omega, by go_num, rfl, Y⟩
          case measure => simp [intOf]; omega
        · have hkI : ¬ (k : Int) + 1 < (q : Int) := by omega
          have E : Hid (a = g → k + 1 = q - 1) := Lib.hid (fun e => by
            obtain ⟨-, h2, h3⟩ := H.out
            obtain ⟨g3, g4⟩ := GO.out
            subst e
            exact absurd g4 (h3 _ (by omega)))
          clear H y1
          have hs : ¬ k + 1 = q - 1 := by omega
          have hsI : ¬ (k : Int) + 1 = (q : Int) - 1 := by omega
          have ang : a < g := (Nat.lt_or_eq_of_le ag).elim id fun h => absurd (E.out h) hs
          clear hs E
          go_wp2_with fail
          go_roundw
          case rel => exact ⟨trivial, a + 1, by omega, by omega, by go_num⟩
          case measure => simp [intOf]; omega
end Go.Proofs.YtclmlcoikohceaaDoor
