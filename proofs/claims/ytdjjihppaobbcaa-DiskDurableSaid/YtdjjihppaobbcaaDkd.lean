/- Layer 14: contracts of the reference: Acquire, Flush, Erase, Restart. WRITTEN BY gen_Dkd.py. -/
import Derived.Test.YtdjjihppaobbcaaDkc
namespace Go.Proofs.Ytdjjihppaobbcaa
open Go Go.RowKit Med Flt
set_option linter.unusedVariables false
set_option linter.unusedSimpArgs false
/-- What an operation leaves. -/
def dkPost (B : Zn) (D P R Bn T S O : Nat) (L : List F) (E : Int) (p : Dsk.Pw) (d : Dsk.Dk) (w : World) (e : Ending) (w' : World) : Prop :=
  e = .returned (.int .i64 E) ∧ RDk B w' D P R Bn T S O L d ∧ RPw w' P p ∧ Tch B tyQ w w'
/-- A disk on the way: its cache holds l and ops. -/
structure Dq (B : Zn) (w : World) (D P R Bn T S O K : Nat) (v : Value) (l : List Sec) (ops : List Med.Op) (L : List F) (p : Dsk.Pw) (d : Dsk.Dk) (c : World) : Prop where
  row : DRow c D R Bn T S O K P v d
  re : Re B c K R Bn T S O l ops
  ow : Owf 0 c v L
  pw : RPw c P p
  low : B.fr D
  pl : B.fr P
  t : Tch B tyQ w c
section
variable {B : Zn} {w c c' : World} {D P R Bn T S O K : Nat} {v : Value} {l l' : List Sec} {ops ops' : List Med.Op} {L : List F} {p : Dsk.Pw} {d d' : Dsk.Dk}
theorem Dq.fw (h : Dq B w D P R Bn T S O K v l ops L p d c) (hb : Below c.heap.size c c') : Dq B w D P R Bn T S O K v l ops L p d c' :=
  ⟨Row.go h.row hb, h.re.fw hb, h.ow.fw hb, h.pw.fw hb, h.low, h.pl, h.t.trans (Tch.of_below hb _ _)⟩
theorem Re.tq {Ls : List TypeId} {A : Zn} (h : Re B c K R Bn T S O l ops) (hc : Tch A Ls c c') (h1 : 100 ∉ Ls) (h2 : 129 ∉ Ls) (h3 : 126 ∉ Ls) (h4 : 103 ∉ Ls) (h5 : 5 ∉ Ls) : Re B c' K R Bn T S O l ops := by
  obtain ⟨M, X, x, u, h⟩ := h; exact ⟨M, X, x, u, h.tch hc h1 h2 h3 h4 h5⟩
/-- A field of the disk is stored. -/
theorem Dq.put (h : Dq B w D P R Bn T S O K v l ops L p d c) (i : Nat) (u : Value) (e : (dkc R Bn T S O K P v d).setIfInBounds i u = dkc R Bn T S O K P v d') : Dq B w D P R Bn T S O K v l ops L p d' (c.setCell ⟨D, i, none⟩ u) := by
  have t : Tch B [69] c (c.setCell ⟨D, i, none⟩ u) := (Tch.refl _ _ _).set h.low (Row.ty h.row) (by simp) _
  refine ⟨by have := Row.store h.row i u; rw [e] at this; exact this, h.re.tq t (by decide) (by decide) (by decide) (by decide) (by decide), h.ow.tch t (by decide), h.pw.tch t (by decide), h.low, h.pl, h.t.trans (t.mono (fun _ h => h) (by decide))⟩
/-- The cache has done something. -/
theorem Dq.cac (h : Dq B w D P R Bn T S O K v l ops L p d c) (hr : Re B c' K R Bn T S O l' ops') (ht : Tch B tyR c c') : Dq B w D P R Bn T S O K v l' ops' L p d c' :=
  ⟨Row.tch ht h.row (by decide), hr, h.ow.tch ht (by decide), h.pw.tch ht (by decide), h.low, h.pl, h.t.trans (ht.mono (fun _ h => h) (by decide))⟩
theorem Dq.fin (h : Dq B w D P R Bn T S O K v l ops L p d c) (h1 : d.l = l) (h2 : d.ops = ops) : RDk B c D P R Bn T S O L d ∧ RPw c P p ∧ Tch B tyQ w c :=
  ⟨⟨⟨K, v, h.row, by rw [h1, h2]; exact h.re, h.ow⟩, h.low⟩, h.pw, h.t⟩
theorem RDk.start (h : RDk B c D P R Bn T S O L d) (hp : RPw c P p) (hP : B.fr P) (t : Tch B tyQ w c) : ∃ K v, Dq B w D P R Bn T S O K v d.l d.ops L p d c := by
  obtain ⟨⟨K, v, a, b, e⟩, f⟩ := h; exact ⟨K, v, a, b, e, hp, f, hP, t⟩
/-- What a disk of the reference knows of itself. -/
theorem RDk.facts (h : RDk B c D P R Bn T S O L d) : Geo.GV (R : Int) Bn T S O ∧ d.l.length = R + Bn * (T * S) := by
  obtain ⟨⟨K, v, _, ⟨M, X, x, u, hr⟩, _⟩, _⟩ := h; exact ⟨hr.md.v, hr.md.len⟩
end
set_option maxHeartbeats 4000000 in
set_option maxRecDepth 100000 in
theorem raq_any {B : Zn} {w : World} {D P R Bn T S O : Nat} {L : List F} {p : Dsk.Pw} {d : Dsk.Dk} (h : RDk B w D P R Bn T S O L d) (hp : RPw w P p) (hP : B.fr P) (key : Nat) :
    Calls Try.prog 51 #[.pointer (some ⟨D, 0, none⟩), .int .u64 (key : Int)] w (dkPost B D P R Bn T S O L (Dsk.acqE p d) p (Dsk.acqD p d key) w) := by
  obtain ⟨K, v, q0⟩ := h.start hp hP (Tch.refl _ _ _)
  have Q0 := Lib.hid q0
  have a9 := q0.row.cells.1.2.2.2.2
  clear h hp q0
  unfold dkPost Dsk.acqD Dsk.acqE
  by_cases hd : d.dead = true
  · rw [if_pos hd, if_neg (by decide)]
    rw [hd] at a9
    clear hd
    go_enter Try.func51, Try.ntmps51
    go_wp2_with fail
    go_ret
    exact ⟨rfl, Q0.out.fin rfl rfl⟩
  · rw [if_neg hd]
    rw [(Bool.not_eq_true _).mp hd] at a9
    have RD := Lib.hid (rrdy_any Q0.out.row Q0.out.pw)
    clear hd
    by_cases hr : Dsk.rdy p d
    · rw [if_neg (not_not_intro hr), if_pos rfl]
      rw [decide_eq_true hr] at RD
      clear hr
      go_enter Try.func51, Try.ntmps51
      go_wp2_with fail
      refine RD.out.mono ?_
      rintro e w1 ⟨rfl, hb⟩
      have Q1 := Lib.hid (Q0.out.fw hb)
      have b8 := Q1.out.row.cells.1.2.2.2.1
      have f8 := Row.frozen Q1.out.row 8
      have Q2 := Lib.hid (Q1.out.put (d' := { d with key := key }) 8 (.int .u64 (key : Int)) rfl)
      clear hb RD a9
      go_wp2_with fail
      go_ret
      exact ⟨rfl, Q2.out.fin rfl rfl⟩
    · rw [if_pos hr, if_neg (by decide)]
      rw [decide_eq_false hr] at RD
      clear hr
      go_enter Try.func51, Try.ntmps51
      go_wp2_with fail
      refine RD.out.mono ?_
      rintro e w1 ⟨rfl, hb⟩
      have Q1 := Lib.hid (Q0.out.fw hb)
      clear hb RD a9
      go_wp2_with fail
      go_ret
      exact ⟨rfl, Q1.out.fin rfl rfl⟩
set_option maxHeartbeats 4000000 in
set_option maxRecDepth 100000 in
theorem rrs_any {B : Zn} {w : World} {D P R Bn T S O : Nat} {L : List F} {p : Dsk.Pw} {d : Dsk.Dk} (h : RDk B w D P R Bn T S O L d) (hp : RPw w P p) (hP : B.fr P) (keep : Int) :
    Calls Try.prog 52 #[.pointer (some ⟨D, 0, none⟩), .int .i64 keep] w (dkPost B D P R Bn T S O L (Dsk.resE p d) p (Dsk.resD R Bn T S O p d keep) w) := by
  obtain ⟨K, v, q0⟩ := h.start hp hP (Tch.refl _ _ _)
  have Q0 := Lib.hid q0
  have a9 := q0.row.cells.1.2.2.2.2
  have a7 := q0.row.cells.1.2.2.1
  have p0 := hp.cells.1
  clear h hp q0
  unfold dkPost Dsk.resD Dsk.resE
  by_cases hd : d.dead = true
  · rw [if_pos hd, if_neg (by decide)]
    rw [hd] at a9
    clear hd
    go_enter Try.func52, Try.ntmps52
    go_wp2_with fail
    go_ret
    exact ⟨rfl, Q0.out.fin rfl rfl⟩
  · rw [if_neg hd]
    rw [(Bool.not_eq_true _).mp hd] at a9
    clear hd
    by_cases ho : p.off = false
    · rw [if_pos ho, if_neg (by decide)]
      rw [ho] at p0
      clear ho
      go_enter Try.func52, Try.ntmps52
      go_wp2_with fail
      go_ret
      exact ⟨rfl, Q0.out.fin rfl rfl⟩
    · have ho' : p.off = true := by simpa using ho
      rw [if_neg ho, if_pos rfl]
      rw [ho'] at p0
      have CU := Lib.hid (rcu_any Q0.out.re keep)
      have a5 := Q0.out.row.cells.1.1
      clear ho ho'
      go_enter Try.func52, Try.ntmps52
      go_wp2_with fail
      refine CU.out.mono ?_
      rintro e w1 ⟨⟨u, rfl⟩, hr, ht⟩
      have Q1 := Lib.hid (Q0.out.cac hr ht)
      have b7 := Q1.out.row.cells.1.2.2.1
      have b10 := Q1.out.row.cells.2.1
      have p3 := Q1.out.pw.cells.2.2.2
      have f10 := Row.frozen Q1.out.row 10
      have Q2 := Lib.hid (Q1.out.put (d' := { d with seen := p.fails }) 10 (.int .i64 (p.fails : Int)) rfl)
      clear hr ht CU a9 a7 p0 a5
      go_wp2_with fail
      go_ret
      refine ⟨rfl, ?_⟩
      obtain ⟨q1, q2, q3, q4, q5, q6, q7⟩ := Q2.out
      exact Dq.fin (d := { d with l := Med.play R Bn T S O d.l (d.ops.take keep.toNat), ops := [], seen := p.fails }) ⟨q1, q2, q3, q4, q5, q6, q7⟩ rfl rfl
set_option maxHeartbeats 4000000 in
set_option maxRecDepth 100000 in
theorem rfl14_any {B : Zn} {w : World} {D P R Bn T S O : Nat} {L : List F} {p : Dsk.Pw} {d : Dsk.Dk} (h : RDk B w D P R Bn T S O L d) (hp : RPw w P p) (hP : B.fr P) {n : Nat} (hf : p.fit n) (hn : n < 4611686018427387904) (hct : d.count < 4611686018427387904) (hfs : d.fs < 4611686018427387904) (key : Nat) :
    Calls Try.prog 50 #[.pointer (some ⟨D, 0, none⟩), .int .u64 (key : Int)] w (dkPost B D P R Bn T S O L (Dsk.beE (faL L) p d key) (Dsk.beP p d) (Dsk.flushD (faL L) R Bn T S O p d key) w) := by
  have FL := Dsk.beD_flds (faL L) p d key
  have BG := rbe_any h hp hP hf hn hct key
  unfold bePost at BG
  obtain ⟨f0, hf0⟩ : ∃ f, Dsk.beF (faL L) p d key = f := ⟨_, rfl⟩
  obtain ⟨x, y, z⟩ := f0
  obtain ⟨E, hE⟩ : ∃ e, Dsk.beE (faL L) p d key = e := ⟨_, rfl⟩
  obtain ⟨p1, hp1⟩ : ∃ e, Dsk.beP p d = e := ⟨_, rfl⟩
  obtain ⟨d1, hd1⟩ : ∃ e, Dsk.beD (faL L) p d key = e := ⟨_, rfl⟩
  rw [hf0, hE, hp1, hd1] at BG
  unfold fV at BG
  rw [hd1] at FL
  replace BG := Lib.hid BG
  have HPL := Lib.hid hP
  replace FL := Lib.hid FL
  have HFS := Lib.hid hfs
  obtain ⟨dF, hdF⟩ : ∃ x, Dsk.flushD (faL L) R Bn T S O p d key = x := ⟨_, rfl⟩
  have DF0 : Hid (E = 0 → dF = { d1 with l := Med.play R Bn T S O d1.l d1.ops, ops := [], fs := d1.fs + 1 }) := Lib.hid fun e0 => by
    rw [← hdF]; unfold Dsk.flushD; rw [hE, hd1, if_pos e0, FL.out.2.2.2.2.2.2.2.2]; rfl
  have DF1 : Hid (E ≠ 0 → dF = d1) := Lib.hid fun e0 => by rw [← hdF]; unfold Dsk.flushD; rw [hE, hd1, if_neg e0]
  unfold dkPost
  rw [hE, hp1, hdF]
  clear hdF h hp hP hf hn hct hfs hf0 hE hp1 hd1
  go_enter Try.func50, Try.ntmps50
  go_wp2_with fail
  refine BG.out.mono ?_
  rintro e w1 ⟨rfl, hd, hpw, ht⟩
  obtain ⟨K, v, q1⟩ := hd.start hpw HPL.out ht
  have A1 := Lib.hid ((Below.refl w1.heap.size w1).alloc (Nat.le_refl _) (.cells #[.int .i64 x, .int .i64 y, .int .i64 z] 80))
  have R1 := Lib.hid (new13 w1 #[.int .i64 x, .int .i64 y, .int .i64 z] 80 rfl)
  have Q1 := Lib.hid (q1.fw A1.out)
  clear hd hpw ht BG q1
  by_cases e0 : E = 0
  · have d0 : ((E : Int) != 0) = false := by simp [e0]
    have E0 := Lib.hid e0
    have CF := Lib.hid (rfl_any Q1.out.re)
    have a5 := Q1.out.row.cells.1.1
    have DF := Lib.hid (DF0.out e0)
    clear e0
    go_wp2_with fail
    refine CF.out.mono ?_
    rintro e w2 ⟨⟨u, rfl⟩, hr, ht⟩
    have Q2 := Lib.hid (Q1.out.cac hr ht)
    have b15 := Q2.out.row.cells.2.2.2.2.2.2
    have f15 := Row.frozen Q2.out.row 15
    have fI : (d1.fs : Int) < 4611686018427387904 := by have := FL.out.2.2.2.2.2.2.2.2; have := HFS.out; omega
    have Q3 := Lib.hid (Q2.out.put (d' := { d1 with fs := d1.fs + 1 }) 15 (.int .i64 ((d1.fs : Int) + 1)) rfl)
    clear hr ht CF a5
    go_wp2_with fail
    go_ret
    refine ⟨by rw [E0.out]; rfl, ?_⟩
    obtain ⟨q1, q2, q3, q4, q5, q6, q7⟩ := Q3.out
    rw [DF.out]
    exact Dq.fin (d := { d1 with l := Med.play R Bn T S O d1.l d1.ops, ops := [], fs := d1.fs + 1 }) ⟨q1, q2, q3, q4, q5, q6, q7⟩ rfl rfl
  · have d0 : ((E : Int) != 0) = true := by simp [e0]
    have DF := Lib.hid (DF1.out e0)
    clear e0
    go_wp2_with fail
    go_ret
    refine ⟨rfl, ?_⟩
    rw [DF.out]
    exact Q1.out.fin rfl rfl
end Go.Proofs.Ytdjjihppaobbcaa
