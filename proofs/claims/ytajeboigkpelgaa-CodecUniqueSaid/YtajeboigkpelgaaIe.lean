/- Readers: what a call changes; the reference's reader; fail, Left, Done. -/
import Derived.Test.YtajeboigkpelgaaId
namespace Go.Proofs.Ytajeboigkpelgaa
open Go Go.RowKit
set_option linter.unusedVariables false
set_option linter.unusedSimpArgs false
/-- Only the blocks of 'o' may have changed, and new ones may be there. -/
structure Chg (o : Nat → Prop) (w w' : World) : Prop where
  os : w'.os = w.os
  tape : w'.tape = w.tape
  output : w'.output = w.output
  size : w.heap.size ≤ w'.heap.size
  block : ∀ k, k < w.heap.size → ¬ o k → w'.heap[k]? = w.heap[k]?
theorem Chg.refl (o : Nat → Prop) (w : World) : Chg o w w := ⟨rfl, rfl, rfl, Nat.le_refl _, fun _ _ _ => rfl⟩
theorem Chg.trans {o : Nat → Prop} {a b c : World} (h : Chg o a b) (k : Chg o b c) : Chg o a c :=
  ⟨k.os.trans h.os, k.tape.trans h.tape, k.output.trans h.output, Nat.le_trans h.size k.size, fun i hi ho => (k.block i (Nat.lt_of_lt_of_le hi h.size) ho).trans (h.block i hi ho)⟩
theorem Chg.mono {o p : Nat → Prop} {a b : World} (h : Chg o a b) (hp : ∀ k, o k → p k) : Chg p a b := ⟨h.os, h.tape, h.output, h.size, fun k hk hn => h.block k hk fun h2 => hn (hp k h2)⟩
theorem below_chg {a b : World} (h : Below a.heap.size a b) (o : Nat → Prop) : Chg o a b := ⟨h.os, h.tape, h.output, h.size, fun k hk _ => h.block k hk⟩
theorem Chg.below {o : Nat → Prop} {a b : World} (h : Chg o a b) {B : Nat} (hB : B ≤ a.heap.size) (ho : ∀ k, o k → B ≤ k) : Below B a b :=
  ⟨h.os, h.tape, h.output, h.size, fun k hk => h.block k (Nat.lt_of_lt_of_le hk hB) fun h2 => Nat.lt_irrefl k (Nat.lt_of_lt_of_le hk (ho k h2))⟩
theorem Chg.setCell {o : Nat → Prop} {a b : World} (h : Chg o a b) {p : Addr} (hp : o p.block) (u : Value) : Chg o a (b.setCell p u) :=
  ⟨h.os, h.tape, h.output, Nat.le_trans h.size ((Below.refl 0 b).setCell (Nat.zero_le _) u).size, fun k hk hn => (Below.heap_setCell b p u k fun e => hn (e ▸ hp)).trans (h.block k hk hn)⟩
theorem Chg.alloc {o : Nat → Prop} {a b : World} (h : Chg o a b) (x : Obj) : Chg o a (b.alloc x) :=
  h.trans (below_chg ((Below.refl _ b).alloc (Nat.le_refl _) x) o)
theorem Bs.chg {w w' : World} {v : Value} {l : List Nat} {o : Nat → Prop} (h : Bs w v l) (hc : Chg o w w') (ho : ∀ k, v.ownBlock = some k → ¬ o k) : Bs w' v l := by
  obtain ⟨A, c, rfl, hm, hl, hz, hcell⟩ := h
  refine ⟨A, c, rfl, hm, hl, hz, fun hn => ?_⟩
  obtain ⟨b, off, rfl, hq⟩ := hcell hn
  refine ⟨b, off, rfl, fun k hk => ?_⟩
  have lt := World.block_lt_of_cell? w _ (hq k hk)
  rw [World.cell?_of_block (w := w) (hc.block b lt (ho b rfl))]
  exact hq k hk
/-- A reader of the reference: its struct is block S; l is left; bad: there was an error. -/
def RdR (w : World) (S : Nat) (l : List Nat) (bad : Bool) (o : Nat → Prop) : Prop :=
  o S ∧ (∀ k, o k → k < w.heap.size) ∧ ∃ sv, Row w S 65 #[sv, .bool bad] ∧ Bs w sv l ∧ (∀ g, sv.ownBlock = some g → o g ∧ g ≠ S)
theorem RdR.chg {w w' : World} {S : Nat} {l : List Nat} {bad : Bool} {o p : Nat → Prop} (h : RdR w S l bad o) (hc : Chg p w w') (hp : ∀ k, o k → ¬ p k) : RdR w' S l bad o := by
  obtain ⟨h1, h2, sv, h3, h4, h5⟩ := h
  exact ⟨h1, fun k hk => Nat.lt_of_lt_of_le (h2 k hk) hc.size, sv, (hc.block S h3.lt (hp S h1)).trans h3, h4.chg hc fun k hk => hp k (h5 k hk).1, h5⟩
theorem RdR.below {w w' : World} {S : Nat} {l : List Nat} {bad : Bool} {o : Nat → Prop} (h : RdR w S l bad o) (hb : Below w.heap.size w w') : RdR w' S l bad o :=
  h.chg (below_chg hb fun _ => False) fun _ _ => id
/-- The rest is set anew. -/
theorem RdR.set {w : World} {S : Nat} {l r : List Nat} {bad : Bool} {o : Nat → Prop} (h : RdR w S l bad o) {u : Value} (hu : Bs w u r) (hg : ∀ g, u.ownBlock = some g → o g ∧ g ≠ S) : RdR (w.setCell ⟨S, 0, none⟩ u) S r bad o := by
  obtain ⟨h1, h2, sv, h3, h4, h5⟩ := h
  have c : Chg (fun k => k = S) w (w.setCell ⟨S, 0, none⟩ u) := (Chg.refl (fun k => k = S) w).setCell (p := ⟨S, 0, none⟩) rfl u
  exact ⟨h1, fun k hk => Nat.lt_of_lt_of_le (h2 k hk) c.size, u, h3.store 0 u, hu.chg c fun k hk e => (hg k hk).2 e, hg⟩
theorem RdR.flag {w : World} {S : Nat} {l : List Nat} {bad : Bool} {o : Nat → Prop} (h : RdR w S l bad o) (b : Bool) : RdR (w.setCell ⟨S, 1, none⟩ (.bool b)) S l b o := by
  obtain ⟨h1, h2, sv, h3, h4, h5⟩ := h
  have c : Chg (fun k => k = S) w (w.setCell ⟨S, 1, none⟩ (.bool b)) := (Chg.refl (fun k => k = S) w).setCell (p := ⟨S, 1, none⟩) rfl _
  exact ⟨h1, fun k hk => Nat.lt_of_lt_of_le (h2 k hk) c.size, sv, h3.store 1 _, h4.chg c fun k hk e => (h5 k hk).2 e, h5⟩
theorem RdR.frz {w : World} {S : Nat} {l : List Nat} {bad : Bool} {o : Nat → Prop} (h : RdR w S l bad o) (i : Nat) : w.frozen? ⟨S, i, none⟩ = false := by
  obtain ⟨h1, h2, sv, h3, -⟩ := h; exact h3.frozen i
theorem RdR.c0 {w : World} {S : Nat} {l : List Nat} {bad : Bool} {o : Nat → Prop} (h : RdR w S l bad o) : ∃ A c, w.cell? ⟨S, 0, none⟩ = some (.slice A l.length c) ∧ Bs w (.slice A l.length c) l ∧ (∀ g, (Value.slice A l.length c).ownBlock = some g → o g ∧ g ≠ S) := by
  obtain ⟨h1, h2, sv, h3, h4, h5⟩ := h
  obtain ⟨A, c, rfl⟩ := h4.form
  exact ⟨A, c, by rw [h3.cell]; rfl, h4, h5⟩
theorem RdR.c1 {w : World} {S : Nat} {l : List Nat} {bad : Bool} {o : Nat → Prop} (h : RdR w S l bad o) : w.cell? ⟨S, 1, none⟩ = some (.bool bad) := by
  obtain ⟨h1, h2, sv, h3, h4, h5⟩ := h
  rw [h3.cell]; rfl
theorem nil_own (g : Nat) {P : Prop} (h : (Value.slice none 0 0).ownBlock = some g) : P := by cases h
namespace Cod
/-- What a method's call returns: the value, the error, what is left, whether there was an error. -/
def rU (l : List Nat) (bad : Bool) : Nat × Nat × List Nat × Bool := match dec 0 l with
  | some (n, r) => (n, 0, r, bad)
  | none => (0, 5, [], true)
def rI (l : List Nat) (bad : Bool) : Int × Nat × List Nat × Bool := match dec 0 l with
  | some (n, r) => (zag n, 0, r, bad)
  | none => (0, 5, [], true)
def rC (most : Int) (l : List Nat) (bad : Bool) : Nat × Nat × List Nat × Bool := match dec 0 l with
  | some (n, r) => if most < n then (0, 5, [], true) else (n, 0, r, bad)
  | none => (0, 5, [], true)
def rB (l : List Nat) (bad : Bool) : List Nat × Nat × List Nat × Bool := match dec 0 l with
  | some (n, r) => if r.length < n then ([], 5, [], true) else (r.take n, 0, r.drop n, bad)
  | none => ([], 5, [], true)
def rK (l : List Nat) (bad : Bool) : List Nat × Nat × List Nat × Bool := if l.length < 8 then ([0, 0, 0, 0, 0, 0, 0, 0], 5, [], true) else (l.take 8, 0, l.drop 8, bad)
def rD (l : List Nat) (bad : Bool) : Nat := if bad = true ∨ 0 < l.length then 5 else 0
end Cod
set_option maxHeartbeats 1000000 in
set_option maxRecDepth 100000 in
theorem rfail_any (S : Nat) (l : List Nat) (bad : Bool) (o : Nat → Prop) (w : World) (h : RdR w S l bad o) :
    Calls Try.prog 43 #[.pointer (some ⟨S, 0, none⟩)] w fun e w' => e = .returned (.int .i64 5) ∧ RdR w' S [] true o ∧ Chg o w w' := by
  obtain ⟨A, c, hc, -, -⟩ := h.c0
  have f0 := h.frz 0
  have h2 := h.set (Bs.nil_ w) (fun g hg => nil_own g hg)
  have hc1 := h2.c1
  have f1 := h2.frz 1
  have H3 := Lib.hid (h2.flag true)
  have CH := Lib.hid (((Chg.refl o w).setCell (p := ⟨S, 0, none⟩) h.1 (.slice none 0 0)).setCell (p := ⟨S, 1, none⟩) h.1 (.bool true))
  clear h h2
  go_enter Try.func43, Try.ntmps43
  go_wp2_with fail
  go_ret
  exact ⟨rfl, H3.out, CH.out⟩
set_option maxHeartbeats 1000000 in
set_option maxRecDepth 100000 in
theorem rleft_any (S : Nat) (l : List Nat) (bad : Bool) (o : Nat → Prop) (w : World) (h : RdR w S l bad o) :
    Calls Try.prog 23 #[.pointer (some ⟨S, 0, none⟩)] w fun e w' => e = .returned (.int .i64 (l.length : Int)) ∧ w = w' := by
  obtain ⟨A, c, hc, -, -⟩ := h.c0
  clear h
  generalize l.length = n at *
  go_enter Try.func23, Try.ntmps23
  go_wp2_with fail
  go_ret
  exact ⟨rfl, rfl⟩
set_option maxHeartbeats 1000000 in
set_option maxRecDepth 100000 in
theorem rdone_any (S : Nat) (l : List Nat) (bad : Bool) (o : Nat → Prop) (w : World) (h : RdR w S l bad o) :
    Calls Try.prog 25 #[.pointer (some ⟨S, 0, none⟩)] w fun e w' => e = .returned (.int .i64 (Cod.rD l bad : Nat)) ∧ w = w' := by
  obtain ⟨A, c, hc, -, -⟩ := h.c0
  have hc1 := h.c1
  clear h
  have E := Lib.hid (show Cod.rD l bad = if bad = true ∨ 0 < l.length then 5 else 0 from rfl)
  generalize Cod.rD l bad = q at *
  generalize l.length = n at *
  rcases bad with _ | _
  · by_cases h0 : 0 < n
    · have hd : decide ((0 : Int) < (n : Int)) = true := by simp; omega
      have e5 := Lib.hid (show q = 5 by rw [E.out, if_pos (Or.inr h0)])
      clear E
      go_enter Try.func25, Try.ntmps25
      go_wp2_with fail
      go_ret
      exact ⟨by rw [e5.out]; rfl, rfl⟩
    · have hd : decide ((0 : Int) < (n : Int)) = false := by simp; omega
      have e5 := Lib.hid (show q = 0 by rw [E.out, if_neg (by simp; omega)])
      clear E
      go_enter Try.func25, Try.ntmps25
      go_wp2_with fail
      go_ret
      exact ⟨by rw [e5.out]; rfl, rfl⟩
  · have e5 := Lib.hid (show q = 5 by rw [E.out, if_pos (Or.inl rfl)])
    clear E
    go_enter Try.func25, Try.ntmps25
    go_wp2_with fail
    go_ret
    exact ⟨by rw [e5.out]; rfl, rfl⟩
end Go.Proofs.Ytajeboigkpelgaa
