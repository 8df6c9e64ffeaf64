/- Layer 14: acts in memory; two disks that share a power supply. -/
import Derived.Test.YtdjjihppaobbcaaDpk
import Derived.Test.YtdjjihppaobbcaaAj
namespace Go.Proofs.Ytdjjihppaobbcaa
open Go Go.RowKit Med Flt
set_option linter.unusedVariables false
set_option linter.unusedSimpArgs false
/-- An act in memory: its bytes lie in the slice (ua, un, uc). -/
structure Ac where
  disk : Nat
  kind : Nat
  key : Nat
  pos : Int
  ua : Option Addr
  un : Nat
  uc : Nat
  bytes : List Nat
  force : Bool
instance : Inhabited Ac := ⟨⟨0, 0, 0, 0, none, 0, 0, [], false⟩⟩
/-- Its bytes as a slice. -/
def Ac.u (a : Ac) : Value := .slice a.ua a.un a.uc
/-- The cells of an act. -/
def acs (a : Ac) : List Value := [.int .u8 (a.disk : Int), .int .u8 (a.kind : Int), .int .u64 (a.key : Int), .int .i64 a.pos, .slice a.ua a.un a.uc, .bool a.force]
theorem acs_enc : St.Enc 6 acs := fun a => ⟨rfl, fun u hu => by
  simp only [acs, List.mem_cons, List.not_mem_nil, or_false] at hu
  rcases hu with rfl | rfl | rfl | rfl | rfl | rfl <;> rfl⟩
def Ac.act (a : Ac) : Dsk.Act := ⟨a.disk % 2, a.kind, a.key, a.pos, a.bytes, a.force⟩
/-- Its numbers fit, and its bytes are read from the world w. -/
def AcOk (w : World) (a : Ac) : Prop := a.disk < 256 ∧ a.kind < 256 ∧ a.key < 2 ^ 64 ∧ (-9223372036854775808 ≤ a.pos ∧ a.pos < 9223372036854775808) ∧ Bs w a.u a.bytes
theorem AcOk.fw {w w' : World} {a : Ac} (h : AcOk w a) (hb : Below w.heap.size w w') : AcOk w' a := ⟨h.1, h.2.1, h.2.2.1, h.2.2.2.1, h.2.2.2.2.below hb⟩
/-- Two disks of the program that share a power supply; all their blocks lie at N or above. -/
structure PSt (N : Nat) (w : World) (P D0 D1 R Bn T S O : Nat) (L0 L1 : List F) (p : Dsk.Pw) (d0 d1 : Dsk.Dk) : Prop where
  pw : PPw w P p
  pl : N ≤ P
  ex : ∃ A0 A1 : Zn, PDk A0 w D0 P R Bn T S O L0 d0 ∧ PDk A1 w D1 P R Bn T S O L1 d1 ∧ (∀ k, A0.fr k → N ≤ k ∧ k < w.heap.size ∧ k ≠ P ∧ ¬ A1.fr k) ∧ ∀ k, A1.fr k → N ≤ k ∧ k < w.heap.size ∧ k ≠ P
/-- The same of the reference. -/
structure RSt (N : Nat) (w : World) (P D0 D1 R Bn T S O : Nat) (L0 L1 : List F) (p : Dsk.Pw) (d0 d1 : Dsk.Dk) : Prop where
  pw : RPw w P p
  pl : N ≤ P
  ex : ∃ A0 A1 : Zn, RDk A0 w D0 P R Bn T S O L0 d0 ∧ RDk A1 w D1 P R Bn T S O L1 d1 ∧ (∀ k, A0.fr k → N ≤ k ∧ k < w.heap.size ∧ k ≠ P ∧ ¬ A1.fr k) ∧ ∀ k, A1.fr k → N ≤ k ∧ k < w.heap.size ∧ k ≠ P
section
variable {N : Nat} {w w' : World} {P D0 D1 R Bn T S O : Nat} {L0 L1 : List F} {p : Dsk.Pw} {d0 d1 : Dsk.Dk}
theorem PSt.swap (h : PSt N w P D0 D1 R Bn T S O L0 L1 p d0 d1) : PSt N w P D1 D0 R Bn T S O L1 L0 p d1 d0 := by
  obtain ⟨a, b, A0, A1, h0, h1, h2, h3⟩ := h
  exact ⟨a, b, A1, A0, h1, h0, fun k hk => ⟨(h3 k hk).1, (h3 k hk).2.1, (h3 k hk).2.2, fun hk0 => (h2 k hk0).2.2.2 hk⟩, fun k hk => ⟨(h2 k hk).1, (h2 k hk).2.1, (h2 k hk).2.2.1⟩⟩
theorem RSt.swap (h : RSt N w P D0 D1 R Bn T S O L0 L1 p d0 d1) : RSt N w P D1 D0 R Bn T S O L1 L0 p d1 d0 := by
  obtain ⟨a, b, A0, A1, h0, h1, h2, h3⟩ := h
  exact ⟨a, b, A1, A0, h1, h0, fun k hk => ⟨(h3 k hk).1, (h3 k hk).2.1, (h3 k hk).2.2, fun hk0 => (h2 k hk0).2.2.2 hk⟩, fun k hk => ⟨(h2 k hk).1, (h2 k hk).2.1, (h2 k hk).2.2.1⟩⟩
/-- The first disk for a call; what the call must leave so that both stand again. -/
theorem PSt.open0 (h : PSt N w P D0 D1 R Bn T S O L0 L1 p d0 d1) (hN : N ≤ w.heap.size) : ∃ B : Zn, (∀ k, B.fr k → N ≤ k) ∧ B.top w ∧ B.fr P ∧ PDk B w D0 P R Bn T S O L0 d0 ∧
    ∀ w' p' d0', PDk B w' D0 P R Bn T S O L0 d0' → PPw w' P p' → Tch B tyD w w' → PSt N w' P D0 D1 R Bn T S O L0 L1 p' d0' d1 := by
  obtain ⟨a, b, A0, A1, h0, h1, h2, h3⟩ := h
  refine ⟨⟨fun k => N ≤ k ∧ ¬ A1.fr k⟩, fun k hk => hk.1, fun k hk => ⟨Nat.le_trans hN hk, fun h => by have := (h3 k h).2.1; omega⟩, ⟨b, fun h => (h3 P h).2.2 rfl⟩, h0.zone fun k hk => ⟨(h2 k hk).1, (h2 k hk).2.2.2⟩, ?_⟩
  intro w' p' d0' hd hp ht
  obtain ⟨A, hA, hd2⟩ := hd.foot hp.ty
  have hs := Tch.size ht
  exact ⟨hp, b, A, A1, hd2, h1.frame ht fun k hk hB => hB.2 hk, fun k hk => ⟨(hA k hk).1.1, (hA k hk).2.1, (hA k hk).2.2, (hA k hk).1.2⟩, fun k hk => ⟨(h3 k hk).1, by have := (h3 k hk).2.1; omega, (h3 k hk).2.2⟩⟩
theorem RSt.open0 (h : RSt N w P D0 D1 R Bn T S O L0 L1 p d0 d1) (hN : N ≤ w.heap.size) : ∃ B : Zn, (∀ k, B.fr k → N ≤ k) ∧ B.top w ∧ B.fr P ∧ RDk B w D0 P R Bn T S O L0 d0 ∧
    ∀ w' p' d0', RDk B w' D0 P R Bn T S O L0 d0' → RPw w' P p' → Tch B tyQ w w' → RSt N w' P D0 D1 R Bn T S O L0 L1 p' d0' d1 := by
  obtain ⟨a, b, A0, A1, h0, h1, h2, h3⟩ := h
  refine ⟨⟨fun k => N ≤ k ∧ ¬ A1.fr k⟩, fun k hk => hk.1, fun k hk => ⟨Nat.le_trans hN hk, fun h => by have := (h3 k h).2.1; omega⟩, ⟨b, fun h => (h3 P h).2.2 rfl⟩, h0.zone fun k hk => ⟨(h2 k hk).1, (h2 k hk).2.2.2⟩, ?_⟩
  intro w' p' d0' hd hp ht
  obtain ⟨A, hA, hd2⟩ := hd.foot hp.ty
  have hs := Tch.size ht
  exact ⟨hp, b, A, A1, hd2, h1.frame ht fun k hk hB => hB.2 hk, fun k hk => ⟨(hA k hk).1.1, (hA k hk).2.1, (hA k hk).2.2, (hA k hk).1.2⟩, fun k hk => ⟨(h3 k hk).1, by have := (h3 k hk).2.1; omega, (h3 k hk).2.2⟩⟩
theorem RDk.prog {A B : Zn} {D : Nat} {L : List F} {d : Dsk.Dk} (h : RDk A w D P R Bn T S O L d) (hc : Tch B tyD w w') : RDk A w' D P R Bn T S O L d := by
  obtain ⟨⟨K, v, a, b, c⟩, e⟩ := h
  exact ⟨⟨K, v, Row.tch hc a (by decide), b.tq hc (by decide) (by decide) (by decide) (by decide) (by decide), c.tch hc (by decide)⟩, e⟩
theorem PSt.ref {B : Zn} (h : PSt N w P D0 D1 R Bn T S O L0 L1 p d0 d1) (hc : Tch B tyQ w w') : PSt N w' P D0 D1 R Bn T S O L0 L1 p d0 d1 := by
  obtain ⟨a, b, A0, A1, h0, h1, h2, h3⟩ := h
  have hs := Tch.size hc
  exact ⟨a.tch hc (by decide), b, A0, A1, h0.ref hc, h1.ref hc, fun k hk => ⟨(h2 k hk).1, by have := (h2 k hk).2.1; omega, (h2 k hk).2.2⟩, fun k hk => ⟨(h3 k hk).1, by have := (h3 k hk).2.1; omega, (h3 k hk).2.2⟩⟩
theorem RSt.prog {B : Zn} (h : RSt N w P D0 D1 R Bn T S O L0 L1 p d0 d1) (hc : Tch B tyD w w') : RSt N w' P D0 D1 R Bn T S O L0 L1 p d0 d1 := by
  obtain ⟨a, b, A0, A1, h0, h1, h2, h3⟩ := h
  have hs := Tch.size hc
  exact ⟨a.tch hc (by decide), b, A0, A1, h0.prog hc, h1.prog hc, fun k hk => ⟨(h2 k hk).1, by have := (h2 k hk).2.1; omega, (h2 k hk).2.2⟩, fun k hk => ⟨(h3 k hk).1, by have := (h3 k hk).2.1; omega, (h3 k hk).2.2⟩⟩
theorem PSt.fw (h : PSt N w P D0 D1 R Bn T S O L0 L1 p d0 d1) (hb : Below w.heap.size w w') : PSt N w' P D0 D1 R Bn T S O L0 L1 p d0 d1 := h.ref (Tch.of_below hb (0 : Nat) _)
theorem RSt.fw (h : RSt N w P D0 D1 R Bn T S O L0 L1 p d0 d1) (hb : Below w.heap.size w w') : RSt N w' P D0 D1 R Bn T S O L0 L1 p d0 d1 := h.prog (Tch.of_below hb (0 : Nat) _)
theorem PSt.facts (h : PSt N w P D0 D1 R Bn T S O L0 L1 p d0 d1) : Geo.GV (R : Int) Bn T S O ∧ d0.l.length = R + Bn * (T * S) := by
  obtain ⟨a, b, A0, A1, h0, h1, h2, h3⟩ := h; exact h0.facts
end
/-- The numbers of a disk that an act asks to be small. -/
def Dsk.Few (d : Dsk.Dk) (n : Nat) : Prop := d.count ≤ n ∧ d.rs ≤ n ∧ d.ws ≤ n ∧ d.es ≤ n ∧ d.fs ≤ n ∧ d.ops.length ≤ n
theorem Dsk.Few.near {d d' : Dsk.Dk} {n : Nat} (h : Dsk.Few d n) (k : Dsk.Near d d') : Dsk.Few d' (n + 1) := by
  obtain ⟨a, b, c, e, f, g⟩ := h
  obtain ⟨_, b', c', e', f', g', h'⟩ := k
  exact ⟨by omega, by omega, by omega, by omega, by omega, by omega⟩
theorem Dsk.Few.mono {d : Dsk.Dk} {m n : Nat} (h : Dsk.Few d m) (k : m ≤ n) : Dsk.Few d n := by
  obtain ⟨a, b, c, e, f, g⟩ := h
  exact ⟨by omega, by omega, by omega, by omega, by omega, by omega⟩
theorem Dsk.fit_mono {p : Dsk.Pw} {m n : Nat} (h : p.fit m) (k : m ≤ n) : p.fit n := ⟨Nat.le_trans h.1 k, h.2⟩
theorem Dsk.fit_act {p : Dsk.Pw} {d : Dsk.Dk} {a : Dsk.Act} {n : Nat} (h : p.fit n) (ha : -9223372036854775808 ≤ a.pos ∧ a.pos < 9223372036854775808) : (Dsk.actP p d a).fit (n + 1) := by
  unfold Dsk.actP
  split
  · unfold Dsk.beP
    split
    · exact Dsk.fit_call h
    · exact Dsk.fit_mono h (by omega)
  split
  · unfold Dsk.Pw.arm
    split
    · exact Dsk.fit_mono h (by omega)
    · exact ⟨by show p.fails ≤ _; have := h.1; omega, ha, fun e => by simpa using e⟩
  split
  · exact ⟨by show p.fails ≤ _; have := h.1; omega, h.2.1, h.2.2⟩
  · exact Dsk.fit_mono h (by omega)
/-- What the law's do leaves. -/
def doPost (B : Zn) (D P R Bn T S O : Nat) (L : List F) (p : Dsk.Pw) (d : Dsk.Dk) (a : Dsk.Act) (w : World) (e : Ending) (w' : World) : Prop :=
  e = .returned (.tuple #[.string (Dsk.actB (faL L) R Bn T S O p d a), .int .i64 (Dsk.actE (faL L) R Bn T S O p d a)]) ∧ PDk B w' D P R Bn T S O L (Dsk.actD (faL L) R Bn T S O p d a) ∧ PPw w' P (Dsk.actP p d a) ∧ Tch B tyD w w'
/-- What the law's want leaves. -/
def waPost (B : Zn) (D P R Bn T S O : Nat) (L : List F) (p : Dsk.Pw) (d : Dsk.Dk) (a : Dsk.Act) (w : World) (e : Ending) (w' : World) : Prop :=
  e = .returned (.tuple #[.string (Dsk.actB (faL L) R Bn T S O p d a), .int .i64 (Dsk.actE (faL L) R Bn T S O p d a)]) ∧ RDk B w' D P R Bn T S O L (Dsk.actD (faL L) R Bn T S O p d a) ∧ RPw w' P (Dsk.actP p d a) ∧ Tch B tyQ w w'
end Go.Proofs.Ytdjjihppaobbcaa
