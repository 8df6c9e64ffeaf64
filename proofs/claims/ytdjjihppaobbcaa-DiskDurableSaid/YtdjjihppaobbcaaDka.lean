/- Layer 14: the reference's power supply and disks in memory; contracts: NewPower, Arm, On, call, Ready, has. -/
import Derived.Test.YtdjjihppaobbcaaGW
import Derived.Test.YtdjjihppaobbcaaFg
import Derived.Test.YtdjjihppaobbcaaAb
namespace Go.Proofs.Ytdjjihppaobbcaa
open Go Go.RowKit Med Flt
set_option linter.unusedVariables false
set_option linter.unusedSimpArgs false
/-- The cells of a power supply. -/
def pwc (p : Dsk.Pw) : Array Value := #[.bool p.off, .bool p.armed, .int .i64 p.left, .int .i64 (p.fails : Int)]
def RPw (w : World) (P : Nat) (p : Dsk.Pw) : Prop := Row w P 118 (pwc p)
/-- Its numbers fit, with n failures at most. -/
def Dsk.Pw.fit (p : Dsk.Pw) (n : Nat) : Prop := p.fails ≤ n ∧ (-9223372036854775808 ≤ p.left ∧ p.left < 9223372036854775808) ∧ (p.armed = true → 0 ≤ p.left)
theorem Dsk.fit_call {p : Dsk.Pw} {n : Nat} (h : p.fit n) : p.call.fit (n + 1) := by
  obtain ⟨a, b, c⟩ := h
  unfold Dsk.Pw.call
  split
  · rename_i ha
    have := c ha
    split
    · exact ⟨by show p.fails + 1 ≤ _; omega, b, fun e => by cases e⟩
    · exact ⟨by show p.fails ≤ _; omega, ⟨by show _ ≤ p.left - 1; omega, by show p.left - 1 < _; omega⟩, fun _ => by show 0 ≤ p.left - 1; omega⟩
  · exact ⟨by omega, b, c⟩
theorem RPw.cells {w : World} {P : Nat} {p : Dsk.Pw} (h : RPw w P p) : w.cell? ⟨P, 0, none⟩ = some (.bool p.off) ∧ w.cell? ⟨P, 1, none⟩ = some (.bool p.armed) ∧ w.cell? ⟨P, 2, none⟩ = some (.int .i64 p.left) ∧ w.cell? ⟨P, 3, none⟩ = some (.int .i64 (p.fails : Int)) := by
  have h' : Row w P 118 (pwc p) := h
  refine ⟨?_, ?_, ?_, ?_⟩ <;> (rw [h'.cell]; rfl)
theorem RPw.frz {w : World} {P : Nat} {p : Dsk.Pw} (h : RPw w P p) (i : Nat) : w.frozen? ⟨P, i, none⟩ = false := Row.frozen (t := 118) (cs := pwc p) h i
theorem RPw.fw {w w' : World} {P : Nat} {p : Dsk.Pw} (h : RPw w P p) (hb : Below w.heap.size w w') : RPw w' P p := Row.go (t := 118) (cs := pwc p) h hb
theorem RPw.ty {w : World} {P : Nat} {p : Dsk.Pw} (h : RPw w P p) : Ty w P 118 := Row.ty (cs := pwc p) h
theorem RPw.tch {B : Zn} {L : List TypeId} {w w' : World} {P : Nat} {p : Dsk.Pw} (h : RPw w P p) (hc : Tch B L w w') (hL : 118 ∉ L) : RPw w' P p := Row.tch (t := 118) (cs := pwc p) hc h hL
/-- A method of the power supply: only its block changes. -/
def pwPost (P : Nat) (p : Dsk.Pw) (w : World) (e : Ending) (w' : World) : Prop := (∃ u, e = .returned u) ∧ RPw w' P p ∧ Chg (fun j => j = P) w w'
set_option maxHeartbeats 2000000 in
set_option maxRecDepth 100000 in
theorem rnp_any (w : World) : Calls Try.prog 45 #[] w (fun e w' => ∃ P, e = .returned (.pointer (some ⟨P, 0, none⟩)) ∧ w.heap.size ≤ P ∧ RPw w' P Dsk.Pw.new ∧ Below w.heap.size w w') := by
  have R := Lib.hid (gr_new w (pwc Dsk.Pw.new) 118 rfl)
  have B := Lib.hid ((Below.refl w.heap.size w).alloc (Nat.le_refl _) (.cells (pwc Dsk.Pw.new) 118))
  go_enter Try.func45, Try.ntmps45
  go_wp2_with fail
  go_ret
  exact ⟨_, rfl, Nat.le_refl _, R.out, B.out⟩
set_option maxHeartbeats 2000000 in
set_option maxRecDepth 100000 in
theorem rarm_any {w : World} {P : Nat} {p : Dsk.Pw} (h : RPw w P p) (n : Int) : Calls Try.prog 53 #[.pointer (some ⟨P, 0, none⟩), .int .i64 n] w (pwPost P (p.arm n) w) := by
  obtain ⟨c0, c1, c2, c3⟩ := h.cells
  have f1 := h.frz 1
  have f2 := h.frz 2
  have H := Lib.hid h
  obtain ⟨off, armed, left, fails⟩ := p
  clear h c3
  cases off with
  | true =>
    go_enter Try.func53, Try.ntmps53
    go_wp2_with fail
    go_end0
    exact ⟨⟨_, rfl⟩, H.out, Chg.refl _ _⟩
  | false =>
    have R1 : Hid (RPw ((w.setCell ⟨P, 1, none⟩ (.bool (decide (0 ≤ n)))).setCell ⟨P, 2, none⟩ (.int .i64 n)) P (Dsk.Pw.arm ⟨false, armed, left, fails⟩ n)) := Lib.hid ((Row.store (t := 118) (cs := pwc ⟨false, armed, left, fails⟩) H.out 1 (.bool (decide (0 ≤ n)))).store 2 (.int .i64 n))
    have C1 := Lib.hid (((Chg.refl (fun j => j = P) w).setCell (p := ⟨P, 1, none⟩) rfl (.bool (decide (0 ≤ n)))).setCell (p := ⟨P, 2, none⟩) rfl (.int .i64 n))
    go_enter Try.func53, Try.ntmps53
    go_wp2_with fail
    go_end0
    exact ⟨⟨_, rfl⟩, R1.out, C1.out⟩
set_option maxHeartbeats 2000000 in
set_option maxRecDepth 100000 in
theorem ron14_any {w : World} {P : Nat} {p : Dsk.Pw} (h : RPw w P p) : Calls Try.prog 54 #[.pointer (some ⟨P, 0, none⟩)] w (pwPost P p.on w) := by
  obtain ⟨c0, c1, c2, c3⟩ := h.cells
  have f0 := h.frz 0
  have R1 : Hid (RPw (w.setCell ⟨P, 0, none⟩ (.bool false)) P p.on) := Lib.hid (Row.store (t := 118) (cs := pwc p) h 0 (.bool false))
  have C1 := Lib.hid ((Chg.refl (fun j => j = P) w).setCell (p := ⟨P, 0, none⟩) rfl (.bool false))
  clear h c1 c2 c3
  go_enter Try.func54, Try.ntmps54
  go_wp2_with fail
  go_end0
  exact ⟨⟨_, rfl⟩, R1.out, C1.out⟩
/-- A call of an operation. -/
def pcPost (P : Nat) (p : Dsk.Pw) (w : World) (e : Ending) (w' : World) : Prop := e = .returned (.bool p.ok) ∧ RPw w' P p.call ∧ Chg (fun j => j = P) w w'
set_option maxHeartbeats 2000000 in
set_option maxRecDepth 100000 in
theorem rcall_any {w : World} {P : Nat} {p : Dsk.Pw} (h : RPw w P p) {n : Nat} (hf : p.fit n) (hn : n < 4611686018427387904) : Calls Try.prog 100 #[.pointer (some ⟨P, 0, none⟩)] w (pcPost P p w) := by
  obtain ⟨c0, c1, c2, c3⟩ := h.cells
  have f0 := h.frz 0
  have f1 := h.frz 1
  have f2 := h.frz 2
  have f3 := h.frz 3
  have H := Lib.hid h
  obtain ⟨off, armed, left, fails⟩ := p
  obtain ⟨hf1, hf2, hf3⟩ := hf
  simp only at hf1 hf2 hf3
  cases armed with
  | false =>
    clear h hf1 hf2 hf3
    go_enter Try.func100, Try.ntmps100
    go_wp2_with fail
    go_ret
    exact ⟨rfl, H.out, Chg.refl _ _⟩
  | true =>
    by_cases l0 : left = 0
    · subst l0
      have R1 : Hid (RPw (((w.setCell ⟨P, 0, none⟩ (.bool true)).setCell ⟨P, 1, none⟩ (.bool false)).setCell ⟨P, 3, none⟩ (.int .i64 ((fails : Int) + 1))) P (Dsk.Pw.call ⟨off, true, 0, fails⟩)) := Lib.hid (by
        have := ((Row.store (t := 118) (cs := pwc ⟨off, true, 0, fails⟩) H.out 0 (.bool true)).store 1 (.bool false)).store 3 (.int .i64 ((fails : Int) + 1))
        exact this)
      have C1 := Lib.hid ((((Chg.refl (fun j => j = P) w).setCell (p := ⟨P, 0, none⟩) rfl (.bool true)).setCell (p := ⟨P, 1, none⟩) rfl (.bool false)).setCell (p := ⟨P, 3, none⟩) rfl (.int .i64 ((fails : Int) + 1)))
      have fI : (fails : Int) ≤ 4611686018427387904 := by omega
      clear h hf1 hf2 hf3
      go_enter Try.func100, Try.ntmps100
      go_wp2_with fail
      go_ret
      exact ⟨rfl, R1.out, C1.out⟩
    · have lp : 0 < left := by have := hf3 rfl; omega
      have l1 : left < 9223372036854775808 := hf2.2
      have d0 : (left == 0) = false := by simp [l0]
      have OK : Hid (Dsk.Pw.ok ⟨off, true, left, fails⟩ = true) := Lib.hid (by unfold Dsk.Pw.ok; simp [l0])
      have CL : Hid (Dsk.Pw.call ⟨off, true, left, fails⟩ = ⟨off, true, left - 1, fails⟩) := Lib.hid (by unfold Dsk.Pw.call; rw [if_pos rfl, if_neg l0])
      have R1 : Hid (RPw (w.setCell ⟨P, 2, none⟩ (.int .i64 (left - 1))) P ⟨off, true, left - 1, fails⟩) := Lib.hid (Row.store (t := 118) (cs := pwc ⟨off, true, left, fails⟩) H.out 2 (.int .i64 (left - 1)))
      have C1 := Lib.hid ((Chg.refl (fun j => j = P) w).setCell (p := ⟨P, 2, none⟩) rfl (.int .i64 (left - 1)))
      unfold pcPost
      rw [OK.out, CL.out]
      clear h hf1 hf2 hf3 l0
      go_enter Try.func100, Try.ntmps100
      go_wp2_with fail
      go_ret
      exact ⟨rfl, R1.out, C1.out⟩
end Go.Proofs.Ytdjjihppaobbcaa
