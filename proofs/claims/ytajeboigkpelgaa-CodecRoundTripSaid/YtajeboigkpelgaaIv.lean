/- Layer 9: the walk of CodecAppends, with what is too long. -/
import Derived.Test.YtajeboigkpelgaaIu
namespace Go.Proofs.Ytajeboigkpelgaa
open Go Go.RowKit
set_option linter.unusedVariables false
set_option linter.unusedSimpArgs false
set_option maxHeartbeats 4000000 in
set_option maxRecDepth 100000 in
theorem applaw_early (v s : Value) (b l k : List Nat) (n : Nat) (x : Int) (w : World) (hb : Bs w v b) (hs : Bs w s l) (hno : 50 < b.length ∨ 100 < l.length) :
    Calls Try.prog 3 #[v, .agg (vcs n x s k)] w (lawPost w) := by
  have m0 := hb.len
  have m1 := hs.len
  obtain ⟨A0, c0, rfl⟩ := hb.form
  obtain ⟨A1, c1, rfl⟩ := hs.form
  clear hb hs
  unfold maxLen at m0 m1
  generalize b.length = n0 at *
  generalize l.length = n1 at *
  obtain ⟨B0, hB0⟩ : ∃ B, w.heap.size = B := ⟨_, rfl⟩
  obtain ⟨W0, hW0⟩ : ∃ W, w.alloc (.cells (vcs n x (.slice A1 n1 c1) k) 27) = W := ⟨_, rfl⟩
  have BW : Hid (Below w.heap.size w W0) := Lib.hid (by subst hW0; exact (Below.refl _ _).alloc (Nat.le_refl _) _)
  have RW0 : Hid (Row W0 B0 27 (vcs n x (.slice A1 n1 c1) k)) := Lib.hid (by subst hW0; exact rw_new w _ _ hB0)
  have HB0 := Lib.hid hB0
  have HW0 := Lib.hid hW0
  clear hB0 hW0
  by_cases hb : 50 < n0
  · have g0 : (50 : Int) < (n0 : Int) := by omega
    have g0' : decide ((50 : Int) < (n0 : Int)) = true := decide_eq_true g0
    clear hno hb
    go_enter Try.func3, Try.ntmps3
    go_wp2_with (first | rw [HB0.out] | rw [HW0.out])
    refine (awake9 W0).mono ?_
    rintro e w1 ⟨rfl, hbel⟩
    have B1 := Lib.hid (BW.out.trans (hbel.mono BW.out.size))
    clear hbel
    go_wp2_with fail
    go_ret
    exact ⟨rfl, B1.out⟩
  · have g0 : decide ((50 : Int) < (n0 : Int)) = false := decide_eq_false (by omega)
    have g1 : (100 : Int) < (n1 : Int) := by omega
    have g1' : decide ((100 : Int) < (n1 : Int)) = true := decide_eq_true g1
    clear hno hb
    go_enter Try.func3, Try.ntmps3
    go_wp2_with (first | rw [HB0.out] | rw [HW0.out])
    refine (awake9 W0).mono ?_
    rintro e w1 ⟨rfl, hbel⟩
    have B1 := Lib.hid (BW.out.trans (hbel.mono BW.out.size))
    have hcv := (rw_fw RW0.out hbel).cell 2
    rw [vcs_2] at hcv
    clear hbel
    go_wp2_with fail
    go_ret
    exact ⟨rfl, B1.out⟩
theorem applaw_walk (v s : Value) (b l k : List Nat) (n : Nat) (x : Int) (w : World) (hb : Bs w v b) (hs : Bs w s l) (hn : n < 2 ^ 64) (hx : -(2 ^ 63) ≤ x ∧ x < 2 ^ 63) (hk : E8 k) :
    Calls Try.prog 3 #[v, .agg (vcs n x s k)] w (lawPost w) := by
  by_cases h : 50 < b.length ∨ 100 < l.length
  · exact applaw_early v s b l k n x w hb hs h
  · exact applaw_main v s b l k n x w hb hs hn hx hk (by omega) (by omega)
end Go.Proofs.Ytajeboigkpelgaa
