/- Layer 14: the program's power supply and disks in memory. -/
import Derived.Test.YtdjjihppaobbcaaDpa
namespace Go.Proofs.Ytdjjihppaobbcaa
open Go Go.RowKit Med Flt
set_option linter.unusedVariables false
set_option linter.unusedSimpArgs false
def PPw (w : World) (P : Nat) (p : Dsk.Pw) : Prop := Row w P 82 (pwc p)
section
variable {w w' : World} {P : Nat} {p : Dsk.Pw}
theorem PPw.cells (h : PPw w P p) : w.cell? ⟨P, 0, none⟩ = some (.bool p.off) ∧ w.cell? ⟨P, 1, none⟩ = some (.bool p.armed) ∧ w.cell? ⟨P, 2, none⟩ = some (.int .i64 p.left) ∧ w.cell? ⟨P, 3, none⟩ = some (.int .i64 (p.fails : Int)) := by
  have h' : Row w P 82 (pwc p) := h
  refine ⟨?_, ?_, ?_, ?_⟩ <;> (rw [h'.cell]; rfl)
theorem PPw.frz (h : PPw w P p) (i : Nat) : w.frozen? ⟨P, i, none⟩ = false := Row.frozen (t := 82) (cs := pwc p) h i
theorem PPw.fw (h : PPw w P p) (hb : Below w.heap.size w w') : PPw w' P p := Row.go (t := 82) (cs := pwc p) h hb
theorem PPw.ty (h : PPw w P p) : Ty w P 82 := Row.ty (cs := pwc p) h
theorem PPw.tch {B : Zn} {L : List TypeId} (h : PPw w P p) (hc : Tch B L w w') (hL : 82 ∉ L) : PPw w' P p := Row.tch (t := 82) (cs := pwc p) hc h hL
end
/-- A method of the power supply: only its block changes. -/
def ppPost (P : Nat) (p : Dsk.Pw) (w : World) (e : Ending) (w' : World) : Prop := (∃ u, e = .returned u) ∧ PPw w' P p ∧ Chg (fun j => j = P) w w'
def pqPost (P : Nat) (p : Dsk.Pw) (w : World) (e : Ending) (w' : World) : Prop := e = .returned (.bool p.ok) ∧ PPw w' P p.call ∧ Chg (fun j => j = P) w w'
/-- The cells of a disk. -/
def pdc (R Bn T S O K P : Nat) (v : Value) (d : Dsk.Dk) : Array Value :=
  #[.int .i64 (d.count : Int), .int .i64 (d.rs : Int), .int .i64 (d.ws : Int), .int .i64 (d.es : Int), .int .i64 (d.fs : Int),
    .int .i64 (R : Int), .int .i64 (Bn : Int), .int .i64 (T : Int), .int .i64 (S : Int), .int .i64 (O : Int), .pointer (some ⟨K, 0, none⟩), v, .pointer (some ⟨P, 0, none⟩), .int .i64 (d.seen : Int), .int .u64 (d.key : Int), .bool d.dead]
abbrev PRow (w : World) (D R Bn T S O K P : Nat) (v : Value) (d : Dsk.Dk) : Prop := Row w D 93 (pdc R Bn T S O K P v d)
section
variable {w : World} {D R Bn T S O K P : Nat} {v : Value} {d : Dsk.Dk}
theorem PRow.nums (h : PRow w D R Bn T S O K P v d) : w.cell? ⟨D, 0, none⟩ = some (.int .i64 (d.count : Int)) ∧ w.cell? ⟨D, 1, none⟩ = some (.int .i64 (d.rs : Int)) ∧ w.cell? ⟨D, 2, none⟩ = some (.int .i64 (d.ws : Int)) ∧ w.cell? ⟨D, 3, none⟩ = some (.int .i64 (d.es : Int)) ∧ w.cell? ⟨D, 4, none⟩ = some (.int .i64 (d.fs : Int)) := by
  refine ⟨?_, ?_, ?_, ?_, ?_⟩ <;> (rw [Row.cell h]; rfl)
theorem PRow.geo5 (h : PRow w D R Bn T S O K P v d) : w.cell? ⟨D, 5, none⟩ = some (.int .i64 (R : Int)) ∧ w.cell? ⟨D, 6, none⟩ = some (.int .i64 (Bn : Int)) ∧ w.cell? ⟨D, 7, none⟩ = some (.int .i64 (T : Int)) ∧ w.cell? ⟨D, 8, none⟩ = some (.int .i64 (S : Int)) ∧ w.cell? ⟨D, 9, none⟩ = some (.int .i64 (O : Int)) := by
  refine ⟨?_, ?_, ?_, ?_, ?_⟩ <;> (rw [Row.cell h]; rfl)
theorem PRow.oths (h : PRow w D R Bn T S O K P v d) : w.cell? ⟨D, 10, none⟩ = some (.pointer (some ⟨K, 0, none⟩)) ∧ w.cell? ⟨D, 11, none⟩ = some v ∧ w.cell? ⟨D, 12, none⟩ = some (.pointer (some ⟨P, 0, none⟩)) ∧ w.cell? ⟨D, 13, none⟩ = some (.int .i64 (d.seen : Int)) ∧ w.cell? ⟨D, 14, none⟩ = some (.int .u64 (d.key : Int)) ∧ w.cell? ⟨D, 15, none⟩ = some (.bool d.dead) := by
  refine ⟨?_, ?_, ?_, ?_, ?_, ?_⟩ <;> (rw [Row.cell h]; rfl)
theorem PRow.geo (h : PRow w D R Bn T S O K P v d) : w.rangeAt D 5 [.int .i64 (R : Int), .int .i64 (Bn : Int), .int .i64 (T : Int), .int .i64 (S : Int), .int .i64 (O : Int)] := by
  intro j u hu
  have hj : j < 5 := (List.getElem?_eq_some_iff.1 hu).1
  rw [Row.cell h, ← hu]
  match j, hj with
  | 0, _ => rfl
  | 1, _ => rfl
  | 2, _ => rfl
  | 3, _ => rfl
  | 4, _ => rfl
end
/-- The types of blocks that a disk of the program changes. -/
def tyD : List TypeId := [116, 135, 138, 93, 82]
/-- A disk of the program: block D, power supply P, faults L. -/
structure PDk (B : Zn) (w : World) (D P R Bn T S O : Nat) (L : List F) (d : Dsk.Dk) : Prop where
  ex : ∃ K v, PRow w D R Bn T S O K P v d ∧ Ce B w K R Bn T S O d.l d.ops ∧ FtT w v (Dsk.rest L d.count)
  vl : vld L = true
  low : B.fr D
/-- A disk on the way: what its parts hold. -/
structure PqL (Ls : List TypeId) (B : Zn) (w : World) (D P R Bn T S O K : Nat) (v : Value) (l : List Sec) (ops : List Med.Op) (L : List F) (M : List F) (p : Dsk.Pw) (d : Dsk.Dk) (c : World) : Prop where
  row : PRow c D R Bn T S O K P v d
  ce : Ce B c K R Bn T S O l ops
  ft : FtT c v M
  vl : vld L = true
  pw : PPw c P p
  low : B.fr D
  pl : B.fr P
  t : Tch B Ls w c
abbrev Pq := PqL tyD
/-- The types of blocks that the beginning of an operation changes. -/
def tyB : List TypeId := [93, 82]
section
variable {Ls : List TypeId} {B : Zn} {w c c' : World} {D P R Bn T S O K : Nat} {v v' : Value} {l l' : List Sec} {ops ops' : List Med.Op} {L M M' : List F} {p p' : Dsk.Pw} {d d' : Dsk.Dk}
theorem Ce.tq {A : Zn} (h : Ce B c K R Bn T S O l ops) (hc : Tch A Ls c c') (hn : NoCap Ls) (h1 : 116 ∉ Ls) (h2 : 112 ∉ Ls) (h3 : 135 ∉ Ls) (h4 : 138 ∉ Ls) : Ce B c' K R Bn T S O l ops := by
  obtain ⟨X, x, y, C, Y, z, u, h⟩ := h; exact ⟨X, x, y, C, Y, z, u, h.tch hc hn h1 h2 h3 h4⟩
theorem PqL.fw (h : PqL Ls B w D P R Bn T S O K v l ops L M p d c) (hb : Below c.heap.size c c') : PqL Ls B w D P R Bn T S O K v l ops L M p d c' :=
  ⟨Row.go h.row hb, h.ce.fw hb, h.ft.fw hb, h.vl, h.pw.fw hb, h.low, h.pl, h.t.trans (Tch.of_below hb _ _)⟩
/-- A field of the disk is stored. -/
theorem PqL.put (h : PqL Ls B w D P R Bn T S O K v l ops L M p d c) (i : Nat) (u : Value) (hm : 93 ∈ Ls) (e : (pdc R Bn T S O K P v d).setIfInBounds i u = pdc R Bn T S O K P v d') : PqL Ls B w D P R Bn T S O K v l ops L M p d' (c.setCell ⟨D, i, none⟩ u) := by
  have t : Tch B [93] c (c.setCell ⟨D, i, none⟩ u) := (Tch.refl _ _ _).set h.low (Row.ty h.row) (by simp) _
  refine ⟨by have := Row.store h.row i u; rw [e] at this; exact this, h.ce.tq t (by unfold NoCap; decide) (by decide) (by decide) (by decide) (by decide), h.ft.tch t (by decide), h.vl, h.pw.tch t (by decide), h.low, h.pl, h.t.trans (t.mono (fun _ h => h) (by simpa using hm))⟩
/-- The list of faults is stored. -/
theorem PqL.flt (h : PqL Ls B w D P R Bn T S O K v l ops L M p d c) (hm : 93 ∈ Ls) (hf : FtT c v' M') : PqL Ls B w D P R Bn T S O K v' l ops L M' p d (c.setCell ⟨D, 11, none⟩ v') := by
  have t : Tch B [93] c (c.setCell ⟨D, 11, none⟩ v') := (Tch.refl _ _ _).set h.low (Row.ty h.row) (by simp) _
  exact ⟨Row.store h.row 11 v', h.ce.tq t (by unfold NoCap; decide) (by decide) (by decide) (by decide) (by decide), hf.tch t (by decide), h.vl, h.pw.tch t (by decide), h.low, h.pl, h.t.trans (t.mono (fun _ h => h) (by simpa using hm))⟩
/-- The power supply has done something. -/
theorem PqL.pow (h : PqL Ls B w D P R Bn T S O K v l ops L M p d c) (hm : 82 ∈ Ls) (hp : PPw c' P p') (hc : Chg (fun j => j = P) c c') : PqL Ls B w D P R Bn T S O K v l ops L M p' d c' := by
  have t : Tch B [82] c c' := Tch.of_one hc h.pl h.pw.ty (by simp)
  exact ⟨Row.tch t h.row (by decide), h.ce.tq t (by unfold NoCap; decide) (by decide) (by decide) (by decide) (by decide), h.ft.tch t (by decide), h.vl, hp, h.low, h.pl, h.t.trans (t.mono (fun _ h => h) (by simpa using hm))⟩
/-- The cache has done something. -/
theorem PqL.cac (h : Pq B w D P R Bn T S O K v l ops L M p d c) (hr : Ce B c' K R Bn T S O l' ops') (ht : Tch B tyP c c') : Pq B w D P R Bn T S O K v l' ops' L M p d c' :=
  ⟨Row.tch ht h.row (by decide), hr, h.ft.tch ht (by decide), h.vl, h.pw.tch ht (by decide), h.low, h.pl, h.t.trans (ht.mono (fun _ h => h) (by decide))⟩
theorem PqL.mono (h : PqL Ls B w D P R Bn T S O K v l ops L M p d c) {Lt : List TypeId} (hm : ∀ t ∈ Ls, t ∈ Lt) : PqL Lt B w D P R Bn T S O K v l ops L M p d c := ⟨h.row, h.ce, h.ft, h.vl, h.pw, h.low, h.pl, h.t.mono (fun _ h => h) hm⟩
theorem PqL.fin (h : PqL Ls B w D P R Bn T S O K v l ops L M p d c) (h1 : d.l = l) (h2 : d.ops = ops) (h3 : Dsk.rest L d.count = M) : PDk B c D P R Bn T S O L d ∧ PPw c P p ∧ Tch B Ls w c :=
  ⟨⟨⟨K, v, h.row, by rw [h1, h2]; exact h.ce, by rw [h3]; exact h.ft⟩, h.vl, h.low⟩, h.pw, h.t⟩
theorem PDk.start (h : PDk B c D P R Bn T S O L d) (hp : PPw c P p) (hP : B.fr P) (t : Tch B Ls w c) : ∃ K v, PqL Ls B w D P R Bn T S O K v d.l d.ops L (Dsk.rest L d.count) p d c := by
  obtain ⟨⟨K, v, a, b, e⟩, g, f⟩ := h; exact ⟨K, v, a, b, e, g, hp, f, hP, t⟩
theorem PDk.fw (h : PDk B w D P R Bn T S O L d) {w' : World} (hb : Below w.heap.size w w') : PDk B w' D P R Bn T S O L d := by
  obtain ⟨⟨K, v, a, b, e⟩, g, f⟩ := h; exact ⟨⟨K, v, Row.go a hb, b.fw hb, e.fw hb⟩, g, f⟩
theorem Ce.facts {K : Nat} (h : Ce B w K R Bn T S O l ops) : Geo.GV (R : Int) Bn T S O ∧ l.length = R + Bn * (T * S) := by
  obtain ⟨D, X, c, C, Y, d, v, h⟩ := h; exact ⟨h.du.v, h.du.len⟩
theorem PDk.facts (h : PDk B c D P R Bn T S O L d) : Geo.GV (R : Int) Bn T S O ∧ d.l.length = R + Bn * (T * S) := by
  obtain ⟨⟨K, v, _, hr, _⟩, _⟩ := h; exact hr.facts
theorem PDk.zone {A : Zn} (h : PDk A w D P R Bn T S O L d) (hA : ∀ k, A.fr k → B.fr k) : PDk B w D P R Bn T S O L d := by
  obtain ⟨⟨K, v, a, b, c⟩, g, e⟩ := h; exact ⟨⟨K, v, a, b.low hA, c⟩, g, hA _ e⟩
/-- The blocks that the disk itself may change. -/
theorem PDk.foot (h : PDk B w D P R Bn T S O L d) (hP : Ty w P 82) : ∃ A : Zn, (∀ k, A.fr k → B.fr k ∧ k < w.heap.size ∧ k ≠ P) ∧ PDk A w D P R Bn T S O L d := by
  obtain ⟨⟨K, v, a, b, c⟩, g, e⟩ := h
  obtain ⟨A, hA, hK, hb⟩ := b.foot
  refine ⟨⟨fun k => k = D ∨ A.fr k⟩, ?_, ⟨K, v, a, hb.low fun k hk => Or.inr hk, c⟩, g, Or.inl rfl⟩
  rintro k (rfl | hk)
  · exact ⟨e, (Row.ty a).lt, (Row.ty a).ne hP (by decide)⟩
  · obtain ⟨h1, t, ht, hy⟩ := hA k hk
    exact ⟨h1, hy.lt, hy.ne hP (fun e => by rw [e] at ht; revert ht; decide)⟩
/-- What another disk does leaves it. -/
theorem PDk.frame {A : Zn} {w' : World} (h : PDk A w D P R Bn T S O L d) (hc : Tch B tyD w w') (hA : ∀ k, A.fr k → ¬ B.fr k) : PDk A w' D P R Bn T S O L d := by
  obtain ⟨⟨K, v, a, b, c⟩, g, e⟩ := h
  exact ⟨⟨K, v, (hc.low (Row.lt a) (hA _ e)).trans a, b.frame hc (by unfold NoCap; decide) (by decide) hA, c.tch hc (by decide)⟩, g, e⟩
/-- What the reference does leaves it. -/
theorem PDk.ref {A : Zn} {w' : World} (h : PDk A w D P R Bn T S O L d) (hc : Tch B tyQ w w') : PDk A w' D P R Bn T S O L d := by
  obtain ⟨⟨K, v, a, b, c⟩, g, e⟩ := h
  exact ⟨⟨K, v, Row.tch hc a (by decide), b.tq hc (by unfold NoCap; decide) (by decide) (by decide) (by decide) (by decide), c.tch hc (by decide)⟩, g, e⟩
end
/-- What an operation leaves. -/
def pdPost (B : Zn) (D P R Bn T S O : Nat) (L : List F) (E : Int) (p : Dsk.Pw) (d : Dsk.Dk) (w : World) (e : Ending) (w' : World) : Prop :=
  e = .returned (.int .i64 E) ∧ PDk B w' D P R Bn T S O L d ∧ PPw w' P p ∧ Tch B tyD w w'
end Go.Proofs.Ytdjjihppaobbcaa
