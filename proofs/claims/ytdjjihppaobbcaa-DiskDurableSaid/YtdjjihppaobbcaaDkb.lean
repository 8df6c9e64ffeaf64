/- Layer 14: the reference's disks in memory; contracts: Ready, has. -/
import Derived.Test.YtdjjihppaobbcaaDka
import Derived.BigQuiet
namespace Go.Proofs.Ytdjjihppaobbcaa
open Go Go.RowKit Med Flt
set_option linter.unusedVariables false
set_option linter.unusedSimpArgs false
/-- The cells of a disk. -/
def dkc (R Bn T S O K P : Nat) (v : Value) (d : Dsk.Dk) : Array Value :=
  #[.int .i64 (R : Int), .int .i64 (Bn : Int), .int .i64 (T : Int), .int .i64 (S : Int), .int .i64 (O : Int), .pointer (some ⟨K, 0, none⟩), v, .pointer (some ⟨P, 0, none⟩), .int .u64 (d.key : Int), .bool d.dead,
    .int .i64 (d.seen : Int), .int .i64 (d.count : Int), .int .i64 (d.rs : Int), .int .i64 (d.ws : Int), .int .i64 (d.es : Int), .int .i64 (d.fs : Int)]
abbrev DRow (w : World) (D R Bn T S O K P : Nat) (v : Value) (d : Dsk.Dk) : Prop := Row w D 69 (dkc R Bn T S O K P v d)
theorem DRow.cells {w : World} {D R Bn T S O K P : Nat} {v : Value} {d : Dsk.Dk} (h : DRow w D R Bn T S O K P v d) :
    (w.cell? ⟨D, 5, none⟩ = some (.pointer (some ⟨K, 0, none⟩)) ∧ w.cell? ⟨D, 6, none⟩ = some v ∧ w.cell? ⟨D, 7, none⟩ = some (.pointer (some ⟨P, 0, none⟩)) ∧ w.cell? ⟨D, 8, none⟩ = some (.int .u64 (d.key : Int)) ∧ w.cell? ⟨D, 9, none⟩ = some (.bool d.dead)) ∧
    w.cell? ⟨D, 10, none⟩ = some (.int .i64 (d.seen : Int)) ∧ w.cell? ⟨D, 11, none⟩ = some (.int .i64 (d.count : Int)) ∧ w.cell? ⟨D, 12, none⟩ = some (.int .i64 (d.rs : Int)) ∧ w.cell? ⟨D, 13, none⟩ = some (.int .i64 (d.ws : Int)) ∧ w.cell? ⟨D, 14, none⟩ = some (.int .i64 (d.es : Int)) ∧ w.cell? ⟨D, 15, none⟩ = some (.int .i64 (d.fs : Int)) := by
  refine ⟨⟨?_, ?_, ?_, ?_, ?_⟩, ?_, ?_, ?_, ?_, ?_, ?_⟩ <;> (rw [Row.cell h]; rfl)
theorem DRow.geo {w : World} {D R Bn T S O K P : Nat} {v : Value} {d : Dsk.Dk} (h : DRow w D R Bn T S O K P v d) : w.rangeAt D 0 [.int .i64 (R : Int), .int .i64 (Bn : Int), .int .i64 (T : Int), .int .i64 (S : Int), .int .i64 (O : Int)] := by
  intro j u hu
  have hj : j < 5 := (List.getElem?_eq_some_iff.1 hu).1
  rw [Nat.zero_add, Row.cell h, ← hu]
  match j, hj with
  | 0, _ => rfl
  | 1, _ => rfl
  | 2, _ => rfl
  | 3, _ => rfl
  | 4, _ => rfl
theorem DRow.geo5 {w : World} {D R Bn T S O K P : Nat} {v : Value} {d : Dsk.Dk} (h : DRow w D R Bn T S O K P v d) : w.cell? ⟨D, 0, none⟩ = some (.int .i64 (R : Int)) ∧ w.cell? ⟨D, 1, none⟩ = some (.int .i64 (Bn : Int)) ∧ w.cell? ⟨D, 2, none⟩ = some (.int .i64 (T : Int)) ∧ w.cell? ⟨D, 3, none⟩ = some (.int .i64 (S : Int)) ∧ w.cell? ⟨D, 4, none⟩ = some (.int .i64 (O : Int)) := by
  refine ⟨?_, ?_, ?_, ?_, ?_⟩ <;> (rw [Row.cell h]; rfl)
theorem Owf.tch {A : Nat} {B : Zn} {Ls : List TypeId} {w w' : World} {v : Value} {L : List F} (h : Owf A w v L) (hc : Tch B Ls w w') (hL : 80 ∉ Ls) : Owf A w' v L := by
  refine ⟨⟨h.1.1, ?_⟩, h.2⟩
  rcases h.1.2 with h1 | ⟨g, cap, cur, h1, h2, h3, h4⟩
  · exact Or.inl h1
  · exact Or.inr ⟨g, cap, cur, h1, h2, (Tch.block hc ⟨_, _, h3⟩ hL).trans h3, h4⟩
/-- A disk of the reference: block D, power supply P, faults L. -/
structure RDk (B : Zn) (w : World) (D P R Bn T S O : Nat) (L : List F) (d : Dsk.Dk) : Prop where
  ex : ∃ K v, DRow w D R Bn T S O K P v d ∧ Re B w K R Bn T S O d.l d.ops ∧ Owf 0 w v L
  low : B.fr D
/-- The types of blocks that a disk of the reference changes. -/
def tyQ : List TypeId := [100, 126, 69, 118]
section
variable {B : Zn} {L : List F} {w w' : World} {D P R Bn T S O : Nat} {d d' : Dsk.Dk}
theorem RDk.fw (h : RDk B w D P R Bn T S O L d) (hb : Below w.heap.size w w') : RDk B w' D P R Bn T S O L d := by
  obtain ⟨⟨K, v, a, b, c⟩, e⟩ := h
  exact ⟨⟨K, v, Row.go a hb, b.fw hb, c.fw hb⟩, e⟩
/-- Only the disk's own block and its power supply (and new blocks) have changed. -/
theorem RDk.upd {K : Nat} {v : Value} (ha : DRow w D R Bn T S O K P v d) (hb : Re B w K R Bn T S O d.l d.ops) (hc : Owf 0 w v L) (hl : B.fr D) (hP : Ty w P 118)
    (hg : Chg (fun k => w.heap.size ≤ k ∨ k = D ∨ k = P) w w') (hr : DRow w' D R Bn T S O K P v d') (h1 : d'.l = d.l) (h2 : d'.ops = d.ops) : RDk B w' D P R Bn T S O L d' := by
  have t : Tch ⟨fun _ => True⟩ [69, 118] w w' := by
    refine ⟨hg.os, hg.tape, hg.output, hg.size, fun k hk hn => hg.block k hk fun h => hn ⟨trivial, ?_⟩⟩
    rcases h with h | rfl | rfl
    · omega
    · exact ⟨_, by simp, Row.ty ha⟩
    · exact ⟨_, by simp, hP⟩
  obtain ⟨M, X, c, u, h⟩ := hb
  exact ⟨⟨K, v, hr, by rw [h1, h2]; exact ⟨M, X, c, u, h.tch t (by decide) (by decide) (by decide) (by decide) (by decide)⟩, hc.tch t (by decide)⟩, hl⟩
theorem Chg.tyQ {K : Nat} {v : Value} (ha : DRow w D R Bn T S O K P v d) (hl : B.fr D) (hP : Ty w P 118) (hPl : B.fr P)
    (hg : Chg (fun k => w.heap.size ≤ k ∨ k = D ∨ k = P) w w') : Tch B tyQ w w' := by
  refine ⟨hg.os, hg.tape, hg.output, hg.size, fun k hk hn => hg.block k hk fun h => hn ?_⟩
  rcases h with h | rfl | rfl
  · omega
  · exact ⟨hl, _, by simp [Go.Proofs.Ytdjjihppaobbcaa.tyQ], Row.ty ha⟩
  · exact ⟨hPl, _, by simp [Go.Proofs.Ytdjjihppaobbcaa.tyQ], hP⟩
end
theorem below_dn (w : World) (n : Nat) : Below w.heap.size w (w.drewN n) := ⟨rfl, rfl, rfl, Nat.le_refl _, fun _ _ => rfl⟩
set_option maxHeartbeats 2000000 in
set_option maxRecDepth 100000 in
theorem rrdy_any {w : World} {D P R Bn T S O K : Nat} {v : Value} {d : Dsk.Dk} {p : Dsk.Pw} (h : DRow w D R Bn T S O K P v d) (hp : RPw w P p) : Calls Try.prog 81 #[.pointer (some ⟨D, 0, none⟩)] w (mPost (.bool (decide (Dsk.rdy p d))) w) := by
  obtain ⟨⟨-, -, c7, -, -⟩, c10, -⟩ := h.cells
  obtain ⟨p0, -, -, p3⟩ := hp.cells
  have RD : Hid (decide (Dsk.rdy p d) = (!p.off && decide (d.seen = p.fails))) := Lib.hid (by rw [Bool.eq_iff_iff, decide_eq_true_eq, Bool.and_eq_true, Bool.not_eq_true', decide_eq_true_eq]; rfl)
  obtain ⟨q, hq⟩ : ∃ q, decide (Dsk.rdy p d) = q := ⟨_, rfl⟩
  rw [hq] at RD ⊢
  obtain ⟨s, hs⟩ : ∃ s, d.seen = s := ⟨_, rfl⟩
  obtain ⟨f, hf⟩ : ∃ s, p.fails = s := ⟨_, rfl⟩
  obtain ⟨o, ho⟩ : ∃ s, p.off = s := ⟨_, rfl⟩
  rw [hs] at c10 RD
  rw [hf] at p3 RD
  rw [ho] at p0 RD
  clear h hp hq hs hf ho
  have dd : ((s : Int) == (f : Int)) = decide (s = f) := by by_cases e : s = f <;> simp [e]; omega
  generalize hz : decide (s = f) = z at RD dd
  clear hz
  cases o with
  | true =>
    go_enter Try.func81, Try.ntmps81
    go_wp2_with fail
    go_quiet (fail)
    go_wp2_with fail
    go_ret
    exact ⟨by rw [RD.out]; rfl, below_dn _ _⟩
  | false =>
    go_enter Try.func81, Try.ntmps81
    go_wp2_with fail
    go_quiet (fail)
    go_wp2_with fail
    go_ret
    exact ⟨by rw [RD.out]; rfl, below_dn _ _⟩
set_option maxHeartbeats 2000000 in
set_option maxRecDepth 100000 in
theorem rhas14_any {w : World} {D P R Bn T S O K : Nat} {v : Value} {d : Dsk.Dk} (h : DRow w D R Bn T S O K P v d) (hl : d.l.length = R + Bn * (T * S)) (hg : Geo.GV (R : Int) Bn T S O) (a : Int) :
    Calls Try.prog 78 #[.pointer (some ⟨D, 0, none⟩), .int .i64 a] w (mPost (.bool (decide (Dsk.has d a))) w) := by
  obtain ⟨c0, c1, c2, c3, c4⟩ := h.geo5
  have HS : Hid (decide (Dsk.has d a) = (decide (0 ≤ a) && decide (a < ((R + Bn * (T * S) : Nat) : Int)))) := Lib.hid (by
    rw [Bool.eq_iff_iff, decide_eq_true_eq, Bool.and_eq_true, decide_eq_true_eq, decide_eq_true_eq, ← hl]; rfl)
  obtain ⟨q, hq⟩ : ∃ q, decide (Dsk.has d a) = q := ⟨_, rfl⟩
  rw [hq] at HS ⊢
  have SZ := fun w => rsize_any (R : Int) Bn T S O w
  obtain ⟨z, hz⟩ : ∃ z, Geo.size (R : Int) Bn T S O = z := ⟨_, rfl⟩
  have EZ : z = ((R + Bn * (T * S) : Nat) : Int) := by rw [← hz]; exact Geo.size_nat hg
  rw [hz] at SZ
  rw [← EZ] at HS
  have SZ := Lib.hid SZ
  clear h hl hg hq hz EZ
  by_cases a0 : 0 ≤ a
  · have d0 : decide (0 ≤ a) = true := decide_eq_true a0
    go_enter Try.func78, Try.ntmps78
    go_wp2_with fail
    refine (SZ.out _).mono ?_
    rintro e w1 ⟨rfl, hb⟩
    have H := Lib.hid (show q = decide (a < z) by rw [HS.out, d0]; rfl)
    have HB := Lib.hid hb
    clear hb
    go_wp2_with fail
    go_ret
    exact ⟨by rw [H.out]; rfl, HB.out⟩
  · have d0 : decide (0 ≤ a) = false := decide_eq_false a0
    have H := Lib.hid (show q = false by rw [HS.out, d0]; rfl)
    go_enter Try.func78, Try.ntmps78
    go_wp2_with fail
    go_ret
    exact ⟨by rw [H.out]; rfl, Below.refl _ _⟩
end Go.Proofs.Ytdjjihppaobbcaa
