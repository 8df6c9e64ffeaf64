/- Layer 14: contracts of the program's power supply. WRITTEN BY gen_Dpc.py (the reference's walks renamed, where they are the same). -/
import Derived.Test.YtdjjihppaobbcaaDpb
namespace Go.Proofs.Ytdjjihppaobbcaa
open Go Go.RowKit Med Flt
set_option linter.unusedVariables false
set_option linter.unusedSimpArgs false
set_option maxHeartbeats 2000000 in
set_option maxRecDepth 100000 in
theorem pnp_any (w : World) : Calls Try.prog 11 #[] w (fun e w' => ∃ P, e = .returned (.pointer (some ⟨P, 0, none⟩)) ∧ w.heap.size ≤ P ∧ PPw w' P Dsk.Pw.new ∧ Below w.heap.size w w') := by
  have R := Lib.hid (gr_new w (pwc Dsk.Pw.new) 82 rfl)
  have B := Lib.hid ((Below.refl w.heap.size w).alloc (Nat.le_refl _) (.cells (pwc Dsk.Pw.new) 82))
  go_enter Try.func11, Try.ntmps11
  go_wp2_with fail
  go_ret
  exact ⟨_, rfl, Nat.le_refl _, R.out, B.out⟩
set_option maxHeartbeats 2000000 in
set_option maxRecDepth 100000 in
theorem parm_any {w : World} {P : Nat} {p : Dsk.Pw} (h : PPw w P p) (n : Int) : Calls Try.prog 23 #[.pointer (some ⟨P, 0, none⟩), .int .i64 n] w (ppPost P (p.arm n) w) := by
  obtain ⟨c0, c1, c2, c3⟩ := h.cells
  have f1 := h.frz 1
  have f2 := h.frz 2
  have H := Lib.hid h
  obtain ⟨off, armed, left, fails⟩ := p
  clear h c3
  cases off with
  | true =>
    go_enter Try.func23, Try.ntmps23
    go_wp2_with fail
    go_end0
    exact ⟨⟨_, rfl⟩, H.out, Chg.refl _ _⟩
  | false =>
    have R1 : Hid (PPw ((w.setCell ⟨P, 1, none⟩ (.bool (decide (0 ≤ n)))).setCell ⟨P, 2, none⟩ (.int .i64 n)) P (Dsk.Pw.arm ⟨false, armed, left, fails⟩ n)) := Lib.hid ((Row.store (t := 82) (cs := pwc ⟨false, armed, left, fails⟩) H.out 1 (.bool (decide (0 ≤ n)))).store 2 (.int .i64 n))
    have C1 := Lib.hid (((Chg.refl (fun j => j = P) w).setCell (p := ⟨P, 1, none⟩) rfl (.bool (decide (0 ≤ n)))).setCell (p := ⟨P, 2, none⟩) rfl (.int .i64 n))
    go_enter Try.func23, Try.ntmps23
    go_wp2_with fail
    go_end0
    exact ⟨⟨_, rfl⟩, R1.out, C1.out⟩
set_option maxHeartbeats 2000000 in
set_option maxRecDepth 100000 in
theorem pon14_any {w : World} {P : Nat} {p : Dsk.Pw} (h : PPw w P p) : Calls Try.prog 29 #[.pointer (some ⟨P, 0, none⟩)] w (ppPost P p.on w) := by
  obtain ⟨c0, c1, c2, c3⟩ := h.cells
  have f0 := h.frz 0
  have R1 : Hid (PPw (w.setCell ⟨P, 0, none⟩ (.bool false)) P p.on) := Lib.hid (Row.store (t := 82) (cs := pwc p) h 0 (.bool false))
  have C1 := Lib.hid ((Chg.refl (fun j => j = P) w).setCell (p := ⟨P, 0, none⟩) rfl (.bool false))
  clear h c1 c2 c3
  go_enter Try.func29, Try.ntmps29
  go_wp2_with fail
  go_end0
  exact ⟨⟨_, rfl⟩, R1.out, C1.out⟩
set_option maxHeartbeats 2000000 in
set_option maxRecDepth 100000 in
theorem pcall14_any {w : World} {P : Nat} {p : Dsk.Pw} (h : PPw w P p) {n : Nat} (hf : p.fit n) (hn : n < 4611686018427387904) : Calls Try.prog 85 #[.pointer (some ⟨P, 0, none⟩)] w (pqPost P p w) := by
  obtain ⟨c0, c1, c2, c3⟩ := h.cells
  have f0 := h.frz 0
  have f1 := h.frz 1
  have f2 := h.frz 2
  have f3 := h.frz 3
  have H := Lib.hid h
  obtain ⟨off, armed, left, fails⟩ := p
  obtain ⟨hf1, hf2, hf3⟩ := hf
  simp only at hf1 hf2 hf3
  cases armed with
  | false =>
    clear h hf1 hf2 hf3
    go_enter Try.func85, Try.ntmps85
    go_wp2_with fail
    go_ret
    exact ⟨rfl, H.out, Chg.refl _ _⟩
  | true =>
    by_cases l0 : left = 0
    · subst l0
      have R1 : Hid (PPw (((w.setCell ⟨P, 0, none⟩ (.bool true)).setCell ⟨P, 1, none⟩ (.bool false)).setCell ⟨P, 3, none⟩ (.int .i64 ((fails : Int) + 1))) P (Dsk.Pw.call ⟨off, true, 0, fails⟩)) := Lib.hid (by
        have := ((Row.store (t := 82) (cs := pwc ⟨off, true, 0, fails⟩) H.out 0 (.bool true)).store 1 (.bool false)).store 3 (.int .i64 ((fails : Int) + 1))
        exact this)
      have C1 := Lib.hid ((((Chg.refl (fun j => j = P) w).setCell (p := ⟨P, 0, none⟩) rfl (.bool true)).setCell (p := ⟨P, 1, none⟩) rfl (.bool false)).setCell (p := ⟨P, 3, none⟩) rfl (.int .i64 ((fails : Int) + 1)))
      have fI : (fails : Int) ≤ 4611686018427387904 := by omega
      clear h hf1 hf2 hf3
      go_enter Try.func85, Try.ntmps85
      go_wp2_with fail
      go_ret
      exact ⟨rfl, R1.out, C1.out⟩
    · have lp : 0 < left := by have := hf3 rfl; omega
      have l1 : left < 9223372036854775808 := hf2.2
      have OK : Hid (Dsk.Pw.ok ⟨off, true, left, fails⟩ = true) := Lib.hid (by unfold Dsk.Pw.ok; simp [l0])
      have CL : Hid (Dsk.Pw.call ⟨off, true, left, fails⟩ = ⟨off, true, left - 1, fails⟩) := Lib.hid (by unfold Dsk.Pw.call; rw [if_pos rfl, if_neg l0])
      have R1 : Hid (PPw (w.setCell ⟨P, 2, none⟩ (.int .i64 (left - 1))) P ⟨off, true, left - 1, fails⟩) := Lib.hid (Row.store (t := 82) (cs := pwc ⟨off, true, left, fails⟩) H.out 2 (.int .i64 (left - 1)))
      have C1 := Lib.hid ((Chg.refl (fun j => j = P) w).setCell (p := ⟨P, 2, none⟩) rfl (.int .i64 (left - 1)))
      unfold pqPost
      rw [OK.out, CL.out]
      clear h hf1 hf2 hf3
      go_enter Try.func85, Try.ntmps85
      go_wp2_with fail
      go_ret
      exact ⟨rfl, R1.out, C1.out⟩
set_option maxHeartbeats 2000000 in
set_option maxRecDepth 100000 in
theorem poff_any {w : World} {P : Nat} {p : Dsk.Pw} (h : PPw w P p) : Calls Try.prog 27 #[.pointer (some ⟨P, 0, none⟩)] w (qPost (.bool p.off) w) := by
  obtain ⟨c0, -, -, -⟩ := h.cells
  obtain ⟨o, ho⟩ : ∃ o, p.off = o := ⟨_, rfl⟩
  rw [ho] at c0 ⊢
  clear h ho
  go_enter Try.func27, Try.ntmps27
  go_wp2_with fail
  go_ret
  exact ⟨rfl, rfl⟩
set_option maxHeartbeats 2000000 in
set_option maxRecDepth 100000 in
theorem poff_nil (w : World) : Calls Try.prog 27 #[.pointer none] w (qPost (.bool false) w) := by
  go_enter Try.func27, Try.ntmps27
  go_wp2_with fail
  go_ret
  exact ⟨rfl, rfl⟩
set_option maxHeartbeats 2000000 in
set_option maxRecDepth 100000 in
theorem parm_nil (n : Int) (w : World) : Calls Try.prog 23 #[.pointer none, .int .i64 n] w (q0Post w) := by
  go_enter Try.func23, Try.ntmps23
  go_wp2_with fail
  go_end0
  exact ⟨⟨_, rfl⟩, rfl⟩
set_option maxHeartbeats 2000000 in
set_option maxRecDepth 100000 in
theorem pon14_nil (w : World) : Calls Try.prog 29 #[.pointer none] w (q0Post w) := by
  go_enter Try.func29, Try.ntmps29
  go_wp2_with fail
  go_end0
  exact ⟨⟨_, rfl⟩, rfl⟩
set_option maxHeartbeats 2000000 in
set_option maxRecDepth 100000 in
theorem psrv_any {w : World} {P : Nat} {p : Dsk.Pw} (h : PPw w P p) (d : Dsk.Dk) : Calls Try.prog 90 #[.pointer (some ⟨P, 0, none⟩), .int .i64 (d.seen : Int)] w (qPost (.bool (decide (Dsk.rdy p d))) w) := by
  obtain ⟨p0, -, -, p3⟩ := h.cells
  have RD : Hid (decide (Dsk.rdy p d) = (!p.off && decide (d.seen = p.fails))) := Lib.hid (by rw [Bool.eq_iff_iff, decide_eq_true_eq, Bool.and_eq_true, Bool.not_eq_true', decide_eq_true_eq]; rfl)
  obtain ⟨q, hq⟩ : ∃ q, decide (Dsk.rdy p d) = q := ⟨_, rfl⟩
  rw [hq] at RD ⊢
  obtain ⟨s, hs⟩ : ∃ s, d.seen = s := ⟨_, rfl⟩
  obtain ⟨f, hf⟩ : ∃ s, p.fails = s := ⟨_, rfl⟩
  obtain ⟨o, ho⟩ : ∃ s, p.off = s := ⟨_, rfl⟩
  rw [hs] at RD ⊢
  rw [hf] at p3 RD
  rw [ho] at p0 RD
  clear h hq hs hf ho
  have dd : ((f : Int) == (s : Int)) = decide (s = f) := by by_cases e : s = f <;> simp [e]; omega
  generalize hz : decide (s = f) = z at RD dd
  clear hz
  cases o with
  | true =>
    go_enter Try.func90, Try.ntmps90
    go_wp2_with fail
    go_ret
    exact ⟨by rw [RD.out]; rfl, rfl⟩
  | false =>
    go_enter Try.func90, Try.ntmps90
    go_wp2_with fail
    go_ret
    exact ⟨by rw [RD.out]; rfl, rfl⟩
set_option maxHeartbeats 2000000 in
set_option maxRecDepth 100000 in
theorem prfs_any {Ls : List TypeId} {B : Zn} {w c : World} {D P R Bn T S O K : Nat} {v : Value} {l : List Sec} {ops : List Med.Op} {L M : List F} {p : Dsk.Pw} {d : Dsk.Dk} (h : PqL Ls B w D P R Bn T S O K v l ops L M p d c) :
    Calls Try.prog 63 #[.pointer (some ⟨D, 0, none⟩)] c (gPost (.int .i64 (if d.dead = true then 14 else if ¬ Dsk.rdy p d then 13 else 0)) c) := by
  obtain ⟨-, -, a12, a13, -, a15⟩ := h.row.oths
  have SV := Lib.hid (fun n => Calls.quiet_of_same ((psrv_any (h.pw.fw (below_dn c n)) d).mono fun _ _ h => ⟨h.1, h.2.symm⟩))
  clear h
  by_cases hd : d.dead = true
  · rw [if_pos hd]
    rw [hd] at a15
    clear hd
    go_enter Try.func63, Try.ntmps63
    go_wp2_with fail
    go_ret
    exact ⟨rfl, Below.refl _ _⟩
  · rw [if_neg hd]
    rw [(Bool.not_eq_true _).mp hd] at a15
    clear hd
    by_cases hr : Dsk.rdy p d
    · rw [if_neg (not_not_intro hr)]
      rw [decide_eq_true hr] at SV
      clear hr
      obtain ⟨s, hs⟩ : ∃ s, d.seen = s := ⟨_, rfl⟩
      rw [hs] at SV a13
      clear hs
      go_enter Try.func63, Try.ntmps63
      go_wp2_with fail
      go_quiet ((go_at_call 90; exact SV.out _))
      go_wp2_with fail
      go_ret
      exact ⟨rfl, below_dn _ _⟩
    · rw [if_pos hr]
      rw [decide_eq_false hr] at SV
      clear hr
      obtain ⟨s, hs⟩ : ∃ s, d.seen = s := ⟨_, rfl⟩
      rw [hs] at SV a13
      clear hs
      go_enter Try.func63, Try.ntmps63
      go_wp2_with fail
      go_quiet ((go_at_call 90; exact SV.out _))
      go_wp2_with fail
      go_ret
      exact ⟨rfl, below_dn _ _⟩
end Go.Proofs.Ytdjjihppaobbcaa
