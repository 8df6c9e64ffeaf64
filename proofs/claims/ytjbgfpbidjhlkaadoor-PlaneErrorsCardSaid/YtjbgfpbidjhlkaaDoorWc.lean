/- Law walk: PlaneErrors. WRITTEN BY gen_Wc.py. -/
import Derived.Test.YtjbgfpbidjhlkaaDoorWa
namespace Go.Proofs.YtjbgfpbidjhlkaaDoor
open Go Go.RowKit Pl
set_option linter.unusedVariables false
set_option linter.unusedSimpArgs false

set_option maxHeartbeats 4000000 in
set_option maxRecDepth 100000 in
theorem errlaw_arg (q a b : Int) (w : World) (hK : Kd w) (hq : ∀ k, k < 7 → (kS k : Int) ≠ q) : Calls Tryd.prog 5 #[.int .i64 q, .int .i64 a, .int .i64 b] w (lawPost w) := by
  have KK := Lib.hid fun W (hb : Below w.heap.size w W) => hK.below hb
  have AW := Lib.hid (awake6 w hK)
  have CM := Lib.hid fun W (h : Kd W) => meet_of _ _ _ _ _ W (com_arg q a b W h hq)
  have CJ := Lib.hid fun W (h : Kd W) => join_of _ _ _ _ _ W (com_arg q a b W h hq)
  have CW := Lib.hid fun W => wrong_arg q W hq
  clear hK hq
  go_enter Tryd.func5, Tryd.ntmps5
  go_wp2_with fail
  refine AW.out.mono ?_
  rintro e w1 ⟨rfl, hb1⟩
  have B1 := Lib.hid hb1
  clear hb1
  go_wp2_with fail
  refine (CM.out _ (KK.out _ B1.out)).mono ?_
  rintro e w2 ⟨rfl, hb2⟩
  have B2 := Lib.hid (B1.out.trans (hb2.mono B1.out.size))
  clear hb2
  go_wp2_with fail
  refine (CJ.out _ (KK.out _ B2.out)).mono ?_
  rintro e w3 ⟨rfl, hb3⟩
  have B3 := Lib.hid (B2.out.trans (hb3.mono B2.out.size))
  clear hb3
  go_wp2_with fail
  refine (CW.out _).mono ?_
  rintro e z1 ⟨rfl, hzz⟩
  obtain rfl := hzz.symm
  go_wp2_with fail
  go_ret
  exact ⟨rfl, B3.out⟩
set_option maxHeartbeats 4000000 in
set_option maxRecDepth 100000 in
theorem errlaw_limit (q : Nat) (a b : Int) (w : World) (hK : Kd w) (hq : q ∈ Sf.sizes) (h8 : q ∉ szs) : Calls Tryd.prog 5 #[.int .i64 (q : Int), .int .i64 a, .int .i64 b] w (lawPost w) := by
  have KK := Lib.hid fun W (hb : Below w.heap.size w W) => hK.below hb
  have AW := Lib.hid (awake6 w hK)
  have CM := Lib.hid fun W (h : Kd W) => meet_of _ _ _ _ _ W (com_limit q a b W h hq h8)
  have CJ := Lib.hid fun W (h : Kd W) => join_of _ _ _ _ _ W (com_limit q a b W h hq h8)
  have CW := Lib.hid fun W => wrong_limit q W hq h8
  clear hK hq h8
  go_enter Tryd.func5, Tryd.ntmps5
  go_wp2_with fail
  refine AW.out.mono ?_
  rintro e w1 ⟨rfl, hb1⟩
  have B1 := Lib.hid hb1
  clear hb1
  go_wp2_with fail
  refine (CM.out _ (KK.out _ B1.out)).mono ?_
  rintro e w2 ⟨rfl, hb2⟩
  have B2 := Lib.hid (B1.out.trans (hb2.mono B1.out.size))
  clear hb2
  go_wp2_with fail
  refine (CJ.out _ (KK.out _ B2.out)).mono ?_
  rintro e w3 ⟨rfl, hb3⟩
  have B3 := Lib.hid (B2.out.trans (hb3.mono B2.out.size))
  clear hb3
  go_wp2_with fail
  refine (CW.out _).mono ?_
  rintro e z1 ⟨rfl, hzz⟩
  obtain rfl := hzz.symm
  go_wp2_with fail
  go_ret
  exact ⟨rfl, B3.out⟩
set_option maxHeartbeats 4000000 in
set_option maxRecDepth 100000 in
theorem errlaw_r1 (q : Nat) (a b : Int) (w : World) (hK : Kd w) (hq : q ∈ szs) (h1 : a < 0) : Calls Tryd.prog 5 #[.int .i64 (q : Int), .int .i64 a, .int .i64 b] w (lawPost w) := by
  have KK := Lib.hid fun W (hb : Below w.heap.size w W) => hK.below hb
  have AW := Lib.hid (awake6 w hK)
  have CM := Lib.hid fun W (h : Kd W) => meet_of _ _ _ _ _ W (com_range q a b W h hq (.inl (.inl h1)))
  have CJ := Lib.hid fun W (h : Kd W) => join_of _ _ _ _ _ W (com_range q a b W h hq (.inl (.inl h1)))
  have CW := Lib.hid fun W => wrong_ok q W hq
  have so := szs_ok hq
  have q2 := so.2.1
  have q7 := so.2.2.1
  have N57 := so.2.2.2.1
  obtain ⟨p, hp⟩ : ∃ p, q * q = p := ⟨_, rfl⟩
  have ep : (q : Int) * (q : Int) = (p : Int) := by rw [← hp]; rfl
  have eN : cN q = p + q + 1 := by unfold cN; rw [hp]
  rw [eN] at N57
  clear hK hq so hp eN
  go_enter Tryd.func5, Tryd.ntmps5
  go_wp2_with fail
  refine AW.out.mono ?_
  rintro e w1 ⟨rfl, hb1⟩
  have B1 := Lib.hid hb1
  clear hb1
  go_wp2_with fail
  refine (CM.out _ (KK.out _ B1.out)).mono ?_
  rintro e w2 ⟨rfl, hb2⟩
  have B2 := Lib.hid (B1.out.trans (hb2.mono B1.out.size))
  clear hb2
  go_wp2_with fail
  refine (CJ.out _ (KK.out _ B2.out)).mono ?_
  rintro e w3 ⟨rfl, hb3⟩
  have B3 := Lib.hid (B2.out.trans (hb3.mono B2.out.size))
  clear hb3
  go_wp2_with fail
  refine (CW.out _).mono ?_
  rintro e z1 ⟨rfl, hzz⟩
  obtain rfl := hzz.symm
  go_wp2_with fail
  go_ret
  exact ⟨rfl, B3.out⟩
set_option maxHeartbeats 4000000 in
set_option maxRecDepth 100000 in
theorem errlaw_r2 (q : Nat) (a b : Int) (w : World) (hK : Kd w) (hq : q ∈ szs) (h0 : 0 ≤ a) (h1 : (cN q : Int) ≤ a) : Calls Tryd.prog 5 #[.int .i64 (q : Int), .int .i64 a, .int .i64 b] w (lawPost w) := by
  have KK := Lib.hid fun W (hb : Below w.heap.size w W) => hK.below hb
  have AW := Lib.hid (awake6 w hK)
  have CM := Lib.hid fun W (h : Kd W) => meet_of _ _ _ _ _ W (com_range q a b W h hq (.inl (.inr h1)))
  have CJ := Lib.hid fun W (h : Kd W) => join_of _ _ _ _ _ W (com_range q a b W h hq (.inl (.inr h1)))
  have CW := Lib.hid fun W => wrong_ok q W hq
  have so := szs_ok hq
  have q2 := so.2.1
  have q7 := so.2.2.1
  have N57 := so.2.2.2.1
  obtain ⟨p, hp⟩ : ∃ p, q * q = p := ⟨_, rfl⟩
  have ep : (q : Int) * (q : Int) = (p : Int) := by rw [← hp]; rfl
  have eN : cN q = p + q + 1 := by unfold cN; rw [hp]
  rw [eN] at N57
  rw [eN] at h1
  have g1 : (p : Int) + (q : Int) < a := by omega
  have g0 : ¬ a < 0 := by omega
  clear hK hq so hp eN h1
  go_enter Tryd.func5, Tryd.ntmps5
  go_wp2_with fail
  refine AW.out.mono ?_
  rintro e w1 ⟨rfl, hb1⟩
  have B1 := Lib.hid hb1
  clear hb1
  go_wp2_with fail
  refine (CM.out _ (KK.out _ B1.out)).mono ?_
  rintro e w2 ⟨rfl, hb2⟩
  have B2 := Lib.hid (B1.out.trans (hb2.mono B1.out.size))
  clear hb2
  go_wp2_with fail
  refine (CJ.out _ (KK.out _ B2.out)).mono ?_
  rintro e w3 ⟨rfl, hb3⟩
  have B3 := Lib.hid (B2.out.trans (hb3.mono B2.out.size))
  clear hb3
  go_wp2_with fail
  refine (CW.out _).mono ?_
  rintro e z1 ⟨rfl, hzz⟩
  obtain rfl := hzz.symm
  go_wp2_with fail
  go_ret
  exact ⟨rfl, B3.out⟩
set_option maxHeartbeats 4000000 in
set_option maxRecDepth 100000 in
theorem errlaw_r3 (q : Nat) (a b : Int) (w : World) (hK : Kd w) (hq : q ∈ szs) (h0 : 0 ≤ a) (h1 : a < (cN q : Int)) (h2 : b < 0) : Calls Tryd.prog 5 #[.int .i64 (q : Int), .int .i64 a, .int .i64 b] w (lawPost w) := by
  have KK := Lib.hid fun W (hb : Below w.heap.size w W) => hK.below hb
  have AW := Lib.hid (awake6 w hK)
  have CM := Lib.hid fun W (h : Kd W) => meet_of _ _ _ _ _ W (com_range q a b W h hq (.inr (.inl h2)))
  have CJ := Lib.hid fun W (h : Kd W) => join_of _ _ _ _ _ W (com_range q a b W h hq (.inr (.inl h2)))
  have CW := Lib.hid fun W => wrong_ok q W hq
  have so := szs_ok hq
  have q2 := so.2.1
  have q7 := so.2.2.1
  have N57 := so.2.2.2.1
  obtain ⟨p, hp⟩ : ∃ p, q * q = p := ⟨_, rfl⟩
  have ep : (q : Int) * (q : Int) = (p : Int) := by rw [← hp]; rfl
  have eN : cN q = p + q + 1 := by unfold cN; rw [hp]
  rw [eN] at N57
  rw [eN] at h1
  have g1 : ¬ (p : Int) + (q : Int) < a := by omega
  have g0 : ¬ a < 0 := by omega
  clear hK hq so hp eN h1
  go_enter Tryd.func5, Tryd.ntmps5
  go_wp2_with fail
  refine AW.out.mono ?_
  rintro e w1 ⟨rfl, hb1⟩
  have B1 := Lib.hid hb1
  clear hb1
  go_wp2_with fail
  refine (CM.out _ (KK.out _ B1.out)).mono ?_
  rintro e w2 ⟨rfl, hb2⟩
  have B2 := Lib.hid (B1.out.trans (hb2.mono B1.out.size))
  clear hb2
  go_wp2_with fail
  refine (CJ.out _ (KK.out _ B2.out)).mono ?_
  rintro e w3 ⟨rfl, hb3⟩
  have B3 := Lib.hid (B2.out.trans (hb3.mono B2.out.size))
  clear hb3
  go_wp2_with fail
  refine (CW.out _).mono ?_
  rintro e z1 ⟨rfl, hzz⟩
  obtain rfl := hzz.symm
  go_wp2_with fail
  go_ret
  exact ⟨rfl, B3.out⟩
set_option maxHeartbeats 4000000 in
set_option maxRecDepth 100000 in
theorem errlaw_r4 (q : Nat) (a b : Int) (w : World) (hK : Kd w) (hq : q ∈ szs) (h0 : 0 ≤ a) (h1 : a < (cN q : Int)) (h2 : 0 ≤ b) (h3 : (cN q : Int) ≤ b) : Calls Tryd.prog 5 #[.int .i64 (q : Int), .int .i64 a, .int .i64 b] w (lawPost w) := by
  have KK := Lib.hid fun W (hb : Below w.heap.size w W) => hK.below hb
  have AW := Lib.hid (awake6 w hK)
  have CM := Lib.hid fun W (h : Kd W) => meet_of _ _ _ _ _ W (com_range q a b W h hq (.inr (.inr h3)))
  have CJ := Lib.hid fun W (h : Kd W) => join_of _ _ _ _ _ W (com_range q a b W h hq (.inr (.inr h3)))
  have CW := Lib.hid fun W => wrong_ok q W hq
  have so := szs_ok hq
  have q2 := so.2.1
  have q7 := so.2.2.1
  have N57 := so.2.2.2.1
  obtain ⟨p, hp⟩ : ∃ p, q * q = p := ⟨_, rfl⟩
  have ep : (q : Int) * (q : Int) = (p : Int) := by rw [← hp]; rfl
  have eN : cN q = p + q + 1 := by unfold cN; rw [hp]
  rw [eN] at N57
  rw [eN] at h1 h3
  have g1 : ¬ (p : Int) + (q : Int) < a := by omega
  have g0 : ¬ a < 0 := by omega
  have g3 : (p : Int) + (q : Int) < b := by omega
  have g2 : ¬ b < 0 := by omega
  clear hK hq so hp eN h1 h3
  go_enter Tryd.func5, Tryd.ntmps5
  go_wp2_with fail
  refine AW.out.mono ?_
  rintro e w1 ⟨rfl, hb1⟩
  have B1 := Lib.hid hb1
  clear hb1
  go_wp2_with fail
  refine (CM.out _ (KK.out _ B1.out)).mono ?_
  rintro e w2 ⟨rfl, hb2⟩
  have B2 := Lib.hid (B1.out.trans (hb2.mono B1.out.size))
  clear hb2
  go_wp2_with fail
  refine (CJ.out _ (KK.out _ B2.out)).mono ?_
  rintro e w3 ⟨rfl, hb3⟩
  have B3 := Lib.hid (B2.out.trans (hb3.mono B2.out.size))
  clear hb3
  go_wp2_with fail
  refine (CW.out _).mono ?_
  rintro e z1 ⟨rfl, hzz⟩
  obtain rfl := hzz.symm
  go_wp2_with fail
  go_ret
  exact ⟨rfl, B3.out⟩
set_option maxHeartbeats 4000000 in
set_option maxRecDepth 100000 in
theorem errlaw_none (q a : Nat) (w : World) (hK : Kd w) (hq : q ∈ szs) (ha : a < cN q) : Calls Tryd.prog 5 #[.int .i64 (q : Int), .int .i64 (a : Int), .int .i64 (a : Int)] w (lawPost w) := by
  have KK := Lib.hid fun W (hb : Below w.heap.size w W) => hK.below hb
  have AW := Lib.hid (awake6 w hK)
  have CM := Lib.hid fun W (h : Kd W) => meet_of _ _ _ _ _ W (com_none q a W h hq ha)
  have CJ := Lib.hid fun W (h : Kd W) => join_of _ _ _ _ _ W (com_none q a W h hq ha)
  have CW := Lib.hid fun W => wrong_ok q W hq
  have so := szs_ok hq
  have q2 := so.2.1
  have q7 := so.2.2.1
  have N57 := so.2.2.2.1
  obtain ⟨p, hp⟩ : ∃ p, q * q = p := ⟨_, rfl⟩
  have ep : (q : Int) * (q : Int) = (p : Int) := by rw [← hp]; rfl
  have eN : cN q = p + q + 1 := by unfold cN; rw [hp]
  rw [eN] at N57
  rw [eN] at ha
  have g1 : ¬ (p : Int) + (q : Int) < (a : Int) := by omega
  clear hK hq so hp eN ha
  go_enter Tryd.func5, Tryd.ntmps5
  go_wp2_with fail
  refine AW.out.mono ?_
  rintro e w1 ⟨rfl, hb1⟩
  have B1 := Lib.hid hb1
  clear hb1
  go_wp2_with fail
  refine (CM.out _ (KK.out _ B1.out)).mono ?_
  rintro e w2 ⟨rfl, hb2⟩
  have B2 := Lib.hid (B1.out.trans (hb2.mono B1.out.size))
  clear hb2
  go_wp2_with fail
  refine (CJ.out _ (KK.out _ B2.out)).mono ?_
  rintro e w3 ⟨rfl, hb3⟩
  have B3 := Lib.hid (B2.out.trans (hb3.mono B2.out.size))
  clear hb3
  go_wp2_with fail
  refine (CW.out _).mono ?_
  rintro e z1 ⟨rfl, hzz⟩
  obtain rfl := hzz.symm
  go_wp2_with fail
  go_ret
  exact ⟨rfl, B3.out⟩
set_option maxHeartbeats 4000000 in
set_option maxRecDepth 100000 in
theorem errlaw_ok (q a b : Nat) (w : World) (hK : Kd w) (hq : q ∈ szs) (ha : a < cN q) (hb : b < cN q) (hne : a ≠ b) : Calls Tryd.prog 5 #[.int .i64 (q : Int), .int .i64 (a : Int), .int .i64 (b : Int)] w (lawPost w) := by
  have KK := Lib.hid fun W (hb : Below w.heap.size w W) => hK.below hb
  have AW := Lib.hid (awake6 w hK)
  have CM := Lib.hid fun W (h : Kd W) => meet_of _ _ _ _ _ W (com_ok q a b W h hq ha hb hne)
  have CJ := Lib.hid fun W (h : Kd W) => join_of _ _ _ _ _ W (com_ok q a b W h hq ha hb hne)
  have CW := Lib.hid fun W => wrong_ok q W hq
  have so := szs_ok hq
  have q2 := so.2.1
  have q7 := so.2.2.1
  have N57 := so.2.2.2.1
  obtain ⟨p, hp⟩ : ∃ p, q * q = p := ⟨_, rfl⟩
  have ep : (q : Int) * (q : Int) = (p : Int) := by rw [← hp]; rfl
  have eN : cN q = p + q + 1 := by unfold cN; rw [hp]
  rw [eN] at N57
  have k2 := (cross_ok hq ha hb hne).2.1
  rw [eN] at ha hb k2
  have g1 : ¬ (p : Int) + (q : Int) < (a : Int) := by omega
  have g3 : ¬ (p : Int) + (q : Int) < (b : Int) := by omega
  have g4 : ¬ ((a : Int) = (b : Int)) := by omega
  obtain ⟨t, ht⟩ : ∃ t, meet q a b = t := ⟨_, rfl⟩
  rw [ht] at CM CJ k2
  have g5 : (t : Int) ≤ (p : Int) + (q : Int) := by omega
  clear hK hq so hp eN ha hb hne ht k2
  go_enter Tryd.func5, Tryd.ntmps5
  go_wp2_with fail
  refine AW.out.mono ?_
  rintro e w1 ⟨rfl, hb1⟩
  have B1 := Lib.hid hb1
  clear hb1
  go_wp2_with fail
  refine (CM.out _ (KK.out _ B1.out)).mono ?_
  rintro e w2 ⟨rfl, hb2⟩
  have B2 := Lib.hid (B1.out.trans (hb2.mono B1.out.size))
  clear hb2
  go_wp2_with fail
  refine (CJ.out _ (KK.out _ B2.out)).mono ?_
  rintro e w3 ⟨rfl, hb3⟩
  have B3 := Lib.hid (B2.out.trans (hb3.mono B2.out.size))
  clear hb3
  go_wp2_with fail
  refine (CW.out _).mono ?_
  rintro e z1 ⟨rfl, hzz⟩
  obtain rfl := hzz.symm
  go_wp2_with fail
  go_ret
  exact ⟨rfl, B3.out⟩
theorem errlaw_walk (q a b : Int) (w : World) (hK : Kd w) : Calls Tryd.prog 5 #[.int .i64 q, .int .i64 a, .int .i64 b] w (lawPost w) := by
  by_cases hq : ∃ k, k < 7 ∧ (kS k : Int) = q
  · obtain ⟨k, hk, rfl⟩ := hq
    have qs := (kS_ok k hk).1
    obtain ⟨s, hs⟩ : ∃ s, kS k = s := ⟨_, rfl⟩
    rw [hs] at qs ⊢
    by_cases h8 : s ∈ szs
    · by_cases h1 : a < 0
      · exact errlaw_r1 s a b w hK h8 h1
      · by_cases h2 : (cN s : Int) ≤ a
        · exact errlaw_r2 s a b w hK h8 (by omega) h2
        · by_cases h3 : b < 0
          · exact errlaw_r3 s a b w hK h8 (by omega) (by omega) h3
          · by_cases h4 : (cN s : Int) ≤ b
            · exact errlaw_r4 s a b w hK h8 (by omega) (by omega) (by omega) h4
            · obtain ⟨x, rfl⟩ : ∃ x : Nat, a = (x : Int) := ⟨a.toNat, by omega⟩
              obtain ⟨y, rfl⟩ : ∃ y : Nat, b = (y : Int) := ⟨b.toNat, by omega⟩
              by_cases e : x = y
              · subst e; exact errlaw_none s x w hK h8 (by omega)
              · exact errlaw_ok s x y w hK h8 (by omega) (by omega) e
    · exact errlaw_limit _ a b w hK qs h8
  · exact errlaw_arg q a b w hK fun k hk e => hq ⟨k, hk, e⟩
end Go.Proofs.YtjbgfpbidjhlkaaDoor
