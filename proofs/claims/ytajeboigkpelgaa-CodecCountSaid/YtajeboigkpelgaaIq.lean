/- Layer 9: the walk of CodecReads. -/
import Derived.Test.YtajeboigkpelgaaIn
namespace Go.Proofs.Ytajeboigkpelgaa
open Go Go.RowKit
set_option linter.unusedVariables false
set_option linter.unusedSimpArgs false
def RsSt (w wr : World) (S T : Nat) (o p : Nat → Prop) : Prop := ∃ l bad, RdP wr S l bad o ∧ RdR wr T l bad p ∧ l.length ≤ 200 ∧ Below w.heap.size w wr
set_option maxHeartbeats 4000000 in
set_option maxRecDepth 100000 in
theorem readslaw_main (v0 v1 : Value) (b q : List Nat) (w : World) (h0 : Bs w v0 b) (h1 : Bs w v1 q) (hb : b.length ≤ 200) (hq : q.length ≤ 20) :
    Calls Try.prog 4 #[v0, v1] w (lawPost w) := by
  have H0 := Lib.hid h0
  have H1 := Lib.hid h1
  obtain ⟨A0, c0, e0⟩ := h0.form
  obtain ⟨A1, c1, e1⟩ := h1.form
  obtain ⟨n0, en0⟩ : ∃ n, b.length = n := ⟨_, rfl⟩
  obtain ⟨n1, en1⟩ : ∃ n, q.length = n := ⟨_, rfl⟩
  rw [en0] at e0 hb
  rw [en1] at e1 hq
  have E0 := Lib.hid e0
  have E1 := Lib.hid e1
  have EN := Lib.hid (And.intro en0 en1)
  rw [e0, e1]
  have g0 : decide ((200 : Int) < (n0 : Int)) = false := decide_eq_false (by omega)
  have g1 : decide ((20 : Int) < (n1 : Int)) = false := decide_eq_false (by omega)
  clear h0 h1 e0 e1 en0 en1
  go_enter Try.func4, Try.ntmps4
  go_wp2_with fail
  refine (awake9 w).mono ?_
  rintro e w1 ⟨rfl, hbel⟩
  have B1 := Lib.hid hbel
  have X1 := Lib.hid (show Bs w1 (.slice A0 n0 c0) b by rw [← E0.out]; exact H0.out.below hbel)
  clear hbel
  go_wp2_with fail
  refine (pnew_any _ b w1 X1.out (by have := EN.out; omega)).mono ?_
  rintro e w2 ⟨S, o, rfl, hr, ho, hbel⟩
  have B2 := Lib.hid (B1.out.trans (hbel.mono B1.out.size))
  have P2 := Lib.hid hr
  have O2 := Lib.hid (show ∀ k, o k → w.heap.size ≤ k from fun k hk => Nat.le_trans B1.out.size (ho k hk))
  have X2 := Lib.hid (X1.out.below hbel)
  clear hr ho hbel
  go_wp2_with fail
  refine (rnew_any _ b w2 X2.out (by have := EN.out; omega)).mono ?_
  rintro e w3 ⟨T, p, rfl, hr, hp, hbel⟩
  have B3 := Lib.hid (B2.out.trans (hbel.mono B2.out.size))
  have D := Lib.hid (show ∀ k, o k → ¬ p k from fun k hk h2 => by have := P2.out.lt k hk; have := hp k h2; omega)
  have Q2 := Lib.hid (show ∀ k, p k → w.heap.size ≤ k from fun k hk => Nat.le_trans B2.out.size (hp k hk))
  have ST := Lib.hid (show RsSt w w3 S T o p from ⟨b, false, P2.out.below hbel, hr, by have := EN.out; omega, B3.out⟩)
  clear hr hp hbel P2 X1 X2 B1 B2 B3
  go_wp2_with fail
  go_loopw [7] (fun i wr => ∃ k : Nat, k ≤ n1 ∧ i = .int .i64 (k : Int) ∧ Hid (RsSt w wr S T o p)) (fun i _ => n1 - (intOf i).toNat)
  case atStart => exact ⟨0, Nat.zero_le _, rfl, ST⟩
  case round =>
    obtain ⟨k, hk, rfl, V⟩ := hrel
    obtain ⟨l, bad, hP, hR, hlen, hB⟩ := V.out
    by_cases hlt : k < n1
    · have kI : (k : Int) < (n1 : Int) := by omega
      obtain ⟨b1, o1, rfl, hx⟩ := Bs.nth (H1.out.below hB) E1.out hlt
      have z256 := H1.out.getD_lt k
      generalize q.getD k 0 = z at hx z256
      have RD := Lib.hid (read_any S T z l bad o p wr hP hR D.out (by omega) z256)
      have LN := Lib.hid (Nat.le_trans (Cod.rN_len z l bad hP.byt) hlen)
      have BR := Lib.hid hB
      clear hP hR hlen hB V
      unfold rdPost at RD
      generalize Cod.rN z l bad = t at RD LN
      obtain ⟨t1, t2⟩ := t
      go_wp2_with fail
      refine RD.out.mono ?_
      rintro e w4 ⟨rfl, hP, hR, hC⟩
      have P4 := Lib.hid hP
      have R4 := Lib.hid hR
      have B4 := Lib.hid (BR.out.trans (hC.below BR.out.size fun k hk => by rcases hk with hk | hk; exact O2.out k hk; exact Q2.out k hk))
      clear hP hR hC
      go_wp2_with fail
      refine (pleft_any S t1 t2 o w4 P4.out (Nat.le_trans LN.out (by decide))).mono ?_
      rintro e w5 ⟨rfl, hbel⟩
      have P5 := Lib.hid (P4.out.below hbel)
      have R5 := Lib.hid (R4.out.below hbel)
      have B5 := Lib.hid (B4.out.trans (hbel.mono B4.out.size))
      clear hbel
      go_wp2_with fail
      refine (rleft_any T t1 t2 p w5 R5.out).mono ?_
      rintro e w6 ⟨rfl, rfl⟩
      go_wp2_with fail
      refine (pdone_any S t1 t2 o w5 P5.out (Nat.le_trans LN.out (by decide))).mono ?_
      rintro e w7 ⟨rfl, hbel⟩
      have P7 := Lib.hid (P5.out.below hbel)
      have R7 := Lib.hid (R5.out.below hbel)
      have B7 := Lib.hid (B5.out.trans (hbel.mono B5.out.size))
      clear hbel
      go_wp2_with fail
      refine (rdone_any T t1 t2 p w7 R7.out).mono ?_
      rintro e w8 ⟨rfl, rfl⟩
      go_wp2_with fail
      go_roundw
      case rel => exact ⟨k + 1, by omega, by go_num, Lib.hid ⟨t1, t2, P7.out, R7.out, LN.out, B7.out⟩⟩
      case measure => simp [intOf]; omega
    · obtain rfl : k = n1 := by omega
      have P4 := Lib.hid hP
      have R4 := Lib.hid hR
      have B4 := Lib.hid hB
      have LN := Lib.hid hlen
      clear hP hR hB V hlen
      go_wp2_with fail
      refine (pleft_any S l bad o wr P4.out (by have := LN.out; omega)).mono ?_
      rintro e w5 ⟨rfl, hbel⟩
      have P5 := Lib.hid (P4.out.below hbel)
      have R5 := Lib.hid (R4.out.below hbel)
      have B5 := Lib.hid (B4.out.trans (hbel.mono B4.out.size))
      clear hbel
      go_wp2_with fail
      refine (rleft_any T l bad p w5 R5.out).mono ?_
      rintro e w6 ⟨rfl, rfl⟩
      go_wp2_with fail
      refine (pdone_any S l bad o w5 P5.out (by have := LN.out; omega)).mono ?_
      rintro e w7 ⟨rfl, hbel⟩
      have R7 := Lib.hid (R5.out.below hbel)
      have B7 := Lib.hid (B5.out.trans (hbel.mono B5.out.size))
      clear hbel
      go_wp2_with fail
      refine (rdone_any T l bad p w7 R7.out).mono ?_
      rintro e w8 ⟨rfl, rfl⟩
      go_wp2_with fail
      go_ret
      exact ⟨congrArg (fun t => Ending.returned (.bool t)) (by simp), B7.out⟩
set_option maxHeartbeats 1000000 in
set_option maxRecDepth 100000 in
theorem readslaw_early (v0 v1 : Value) (b q : List Nat) (w : World) (h0 : Bs w v0 b) (h1 : Bs w v1 q) (hno : 200 < b.length ∨ 20 < q.length) :
    Calls Try.prog 4 #[v0, v1] w (lawPost w) := by
  have m0 := h0.len
  have m1 := h1.len
  obtain ⟨A0, c0, rfl⟩ := h0.form
  obtain ⟨A1, c1, rfl⟩ := h1.form
  clear h0 h1
  unfold maxLen at m0 m1
  generalize b.length = n0 at *
  generalize q.length = n1 at *
  by_cases hb : 200 < n0
  · have g0 : (200 : Int) < (n0 : Int) := by omega
    have g0' : decide ((200 : Int) < (n0 : Int)) = true := decide_eq_true g0
    clear hno hb
    go_enter Try.func4, Try.ntmps4
    go_wp2_with fail
    refine (awake9 w).mono ?_
    rintro e w1 ⟨rfl, hbel⟩
    have B1 := Lib.hid hbel
    clear hbel
    go_wp2_with fail
    go_ret
    exact ⟨rfl, B1.out⟩
  · have g0 : decide ((200 : Int) < (n0 : Int)) = false := decide_eq_false (by omega)
    have g1 : (20 : Int) < (n1 : Int) := by omega
    have g1' : decide ((20 : Int) < (n1 : Int)) = true := decide_eq_true g1
    clear hno hb
    go_enter Try.func4, Try.ntmps4
    go_wp2_with fail
    refine (awake9 w).mono ?_
    rintro e w1 ⟨rfl, hbel⟩
    have B1 := Lib.hid hbel
    clear hbel
    go_wp2_with fail
    go_ret
    exact ⟨rfl, B1.out⟩
theorem readslaw_walk (v0 v1 : Value) (b q : List Nat) (w : World) (h0 : Bs w v0 b) (h1 : Bs w v1 q) :
    Calls Try.prog 4 #[v0, v1] w (lawPost w) := by
  by_cases h : 200 < b.length ∨ 20 < q.length
  · exact readslaw_early v0 v1 b q w h0 h1 h
  · exact readslaw_main v0 v1 b q w h0 h1 (by omega) (by omega)
end Go.Proofs.Ytajeboigkpelgaa
