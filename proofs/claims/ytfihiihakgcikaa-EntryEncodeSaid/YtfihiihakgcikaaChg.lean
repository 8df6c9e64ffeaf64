/- What a call changes: only the blocks of a set. -/
import Derived.Test.YtfihiihakgcikaaGA
namespace Go.Proofs.Ytfihiihakgcikaa
open Go Go.RowKit
set_option linter.unusedVariables false
/-- Only the blocks of 'o' may have changed, and new ones may be there. -/
structure Chg (o : Nat → Prop) (w w' : World) : Prop where
  os : w'.os = w.os
  tape : w'.tape = w.tape
  output : w'.output = w.output
  size : w.heap.size ≤ w'.heap.size
  block : ∀ k, k < w.heap.size → ¬ o k → w'.heap[k]? = w.heap[k]?
theorem Chg.refl (o : Nat → Prop) (w : World) : Chg o w w := ⟨rfl, rfl, rfl, Nat.le_refl _, fun _ _ _ => rfl⟩
theorem Chg.trans {o : Nat → Prop} {a b c : World} (h : Chg o a b) (k : Chg o b c) : Chg o a c :=
  ⟨k.os.trans h.os, k.tape.trans h.tape, k.output.trans h.output, Nat.le_trans h.size k.size, fun i hi ho => (k.block i (Nat.lt_of_lt_of_le hi h.size) ho).trans (h.block i hi ho)⟩
theorem Chg.mono {o p : Nat → Prop} {a b : World} (h : Chg o a b) (hp : ∀ k, o k → p k) : Chg p a b := ⟨h.os, h.tape, h.output, h.size, fun k hk hn => h.block k hk fun h2 => hn (hp k h2)⟩
theorem below_chg {a b : World} (h : Below a.heap.size a b) (o : Nat → Prop) : Chg o a b := ⟨h.os, h.tape, h.output, h.size, fun k hk _ => h.block k hk⟩
theorem Chg.below {o : Nat → Prop} {a b : World} (h : Chg o a b) {B : Nat} (hB : B ≤ a.heap.size) (ho : ∀ k, o k → B ≤ k) : Below B a b :=
  ⟨h.os, h.tape, h.output, h.size, fun k hk => h.block k (Nat.lt_of_lt_of_le hk hB) fun h2 => Nat.lt_irrefl k (Nat.lt_of_lt_of_le hk (ho k h2))⟩
theorem Chg.setCell {o : Nat → Prop} {a b : World} (h : Chg o a b) {p : Addr} (hp : o p.block) (u : Value) : Chg o a (b.setCell p u) :=
  ⟨h.os, h.tape, h.output, Nat.le_trans h.size ((Below.refl 0 b).setCell (Nat.zero_le _) u).size, fun k hk hn => (Below.heap_setCell b p u k fun e => hn (e ▸ hp)).trans (h.block k hk hn)⟩
theorem Chg.alloc {o : Nat → Prop} {a b : World} (h : Chg o a b) (x : Obj) : Chg o a (b.alloc x) :=
  h.trans (below_chg ((Below.refl _ b).alloc (Nat.le_refl _) x) o)
theorem Bs.chg {w w' : World} {v : Value} {l : List Nat} {o : Nat → Prop} (h : Bs w v l) (hc : Chg o w w') (ho : ∀ k, v.ownBlock = some k → ¬ o k) : Bs w' v l := by
  obtain ⟨A, c, rfl, hm, hl, hz, hcell⟩ := h
  refine ⟨A, c, rfl, hm, hl, hz, fun hn => ?_⟩
  obtain ⟨b, off, rfl, hq⟩ := hcell hn
  refine ⟨b, off, rfl, fun k hk => ?_⟩
  have lt := World.block_lt_of_cell? w _ (hq k hk)
  rw [World.cell?_of_block (w := w) (hc.block b lt (ho b rfl))]
  exact hq k hk
end Go.Proofs.Ytfihiihakgcikaa
