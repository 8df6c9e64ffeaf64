/- Records of a number and a block, one behind the other; writing a block of an own list. -/
import Derived.Test.YtfhgalfdlkdliaaPo
namespace Go.Proofs.Ytfhgalfdlkdliaa
open Go Go.RowKit
set_option linter.unusedVariables false

theorem flatm_at {α : Type} {m : Nat} : ∀ {D : List (List α)}, (∀ d ∈ D, d.length = m) → ∀ {i : Nat} (hi : i < D.length) {j : Nat}, j < m → D.flatten[i * m + j]? = D[i][j]?
  | d :: r, h, 0, _, j, hj => by
    rw [List.flatten_cons, Nat.zero_mul, Nat.zero_add, List.getElem?_append_left (by rw [h d List.mem_cons_self]; exact hj)]; rfl
  | d :: r, h, i + 1, hi, j, hj => by
    have h8 := h d List.mem_cons_self
    rw [List.flatten_cons, List.getElem?_append_right (by rw [h8, Nat.succ_mul]; omega), h8]
    have := flatm_at (fun x hx => h x (List.mem_cons_of_mem _ hx)) (i := i) (by simpa using hi) hj
    rw [show (i + 1) * m + j - m = i * m + j by rw [Nat.succ_mul]; omega, this]
    rfl
theorem flatm_len {α : Type} {m : Nat} : ∀ {D : List (List α)}, (∀ d ∈ D, d.length = m) → D.flatten.length = D.length * m
  | [], _ => by simp
  | d :: r, h => by
    rw [List.flatten_cons, List.length_append, flatm_len (fun x hx => h x (List.mem_cons_of_mem _ hx)), h d List.mem_cons_self, List.length_cons, Nat.succ_mul]; omega
/-- A record's cells. -/
def rec1 (k : Int) (b : Blk) : List Value := .int .i64 k :: b.1.map bv
theorem rec1_len (k : Int) (b : Blk) : (rec1 k b).length = 9 := by simp [rec1, b.2.1]
def recs (n : Nat) (K : Nat → Int) (B : Nat → Blk) : List Value := ((List.range n).map fun i => rec1 (K i) (B i)).flatten
theorem recs_len (n : Nat) (K : Nat → Int) (B : Nat → Blk) : (recs n K B).length = n * 9 := by
  rw [recs, flatm_len (m := 9) (by simp [rec1_len])]; simp
theorem recs_at {n : Nat} (K : Nat → Int) (B : Nat → Blk) {i j : Nat} (hi : i < n) (hj : j < 9) : (recs n K B)[i * 9 + j]? = (rec1 (K i) (B i))[j]? := by
  rw [recs, flatm_at (m := 9) (by simp [rec1_len]) (by simpa using hi) hj]; simp
theorem recs_key {w : World} {b off n : Nat} {K : Nat → Int} {B : Nat → Blk} (h : w.rangeAt b off (recs n K B)) {i : Nat} (hi : i < n) : w.cell? ⟨b, off + i * 9, none⟩ = some (.int .i64 (K i)) :=
  h (i * 9) _ ((recs_at K B hi (j := 0) (by decide)).trans rfl)
theorem recs_blk {w : World} {b off n : Nat} {K : Nat → Int} {B : Nat → Blk} (h : w.rangeAt b off (recs n K B)) {i : Nat} (hi : i < n) : At8 w b (off + i * 9 + 1) (B i).1 := fun j v hv => by
  have hj : j < 8 := by
    have := (List.getElem?_eq_some_iff.1 hv).1
    rw [List.length_map, (B i).2.1] at this; exact this
  rw [show off + i * 9 + 1 + j = off + (i * 9 + (1 + j)) by omega]
  refine h _ v ((recs_at K B hi (j := 1 + j) (by omega)).trans ?_)
  rw [rec1, Nat.add_comm 1 j, List.getElem?_cons_succ]; exact hv
theorem rangeTo {w w' : World} {b off : Nat} {cs : List Value} (h : w.rangeAt b off cs) (hb : Below w.heap.size w w') : w'.rangeAt b off cs := fun j v hv => (hb.cell (World.block_lt_of_cell? w _ (h j v hv))).trans (h j v hv)
theorem Row.range_ {w : World} {g : Nat} {t : TypeId} {l : List Value} (h : Row w g t l.toArray) : w.rangeAt g 0 l := fun j v hv => by
  rw [Nat.zero_add, h.cell]; simpa using hv

theorem OwnB.form {w : World} {base : Nat} {v : Value} {D : List (List Nat)} (h : OwnB w base v D) (hn : 0 < D.length) : ∃ g cap, v = .slice (some ⟨g, 0, none⟩) D.length cap ∧ base ≤ g ∧ g < w.heap.size := h.2.form hn
theorem OwnB.there {w : World} {base g n cap : Nat} {D : List (List Nat)} (h : OwnB w base (.slice (some ⟨g, 0, none⟩) n cap) D) {i : Nat} (hi : i < D.length) : w.there g (i * 8) 8 := by
  obtain ⟨hD, hl, h⟩ := h
  rcases h with ⟨h, _⟩ | ⟨g', cap', cur, hv, hg, hh, hle, hm, hs, ht⟩
  · cases h
  · injection hv with e1 e2 e3
    injection e1 with e1
    injection e1 with e4 e5 e6
    subst e4
    have hr : Row w g 44 cur := hh
    exact fun j hj => ⟨by rw [hr.cell, Array.getElem?_eq_getElem (by omega)]; rfl, hr.frozen _⟩
theorem OwnB.set {w : World} {base g n cap : Nat} {D : List (List Nat)} (h : OwnB w base (.slice (some ⟨g, 0, none⟩) n cap) D) {i : Nat} (hi : i < D.length) {b : List Nat} (hb : B8 b) : OwnB (w.setCells g (i * 8) (b.map bv)) base (.slice (some ⟨g, 0, none⟩) n cap) (D.set i b) := by
  obtain ⟨hD, hl, h⟩ := h
  rcases h with ⟨h, _⟩ | ⟨g', cap', cur, hv, hg, hh, hle, hm, hs, ht⟩
  · cases h
  · injection hv with e1 e2 e3
    injection e1 with e1
    injection e1 with e4 e5 e6
    subst e4 e2 e3
    have hr : Row w g 44 cur := hh
    obtain ⟨cs', h1, h2, h3⟩ := hr.puts (vs := b.map bv) (o := i * 8)
    have hD' : ∀ d ∈ D.set i b, B8 d := fun d hd => by
      rcases List.mem_or_eq_of_mem_set hd with h | rfl
      · exact hD d h
      · exact hb
    refine ⟨hD', by rw [List.length_map, flat_len fun d hd => (hD' d hd).1], Or.inr ⟨g, cap, cs', by rw [List.length_set], hg, h1, by rw [List.length_set]; exact hle, hm, by omega, ?_⟩⟩
    rw [List.length_set]
    refine List.ext_getElem? fun p => ?_
    rcases Nat.lt_or_ge p (D.length * 8) with hp | hp
    · rw [List.getElem?_take_of_lt hp, Array.getElem?_toList, h3 p (by omega), List.length_map, hb.1]
      have h8 : p % 8 < 8 := Nat.mod_lt _ (by decide)
      have ep : p / 8 * 8 + p % 8 = p := by omega
      have e1 := flat_at (fun d hd => (hD' d hd).1) (i := p / 8) (by rw [List.length_set]; omega) h8
      have e2 := flat_at (fun d hd => (hD d hd).1) (i := p / 8) (by omega) h8
      rw [ep] at e1 e2
      have e1m : ((D.set i b).flatten.map bv)[p]? = (((D.set i b)[p / 8]'(by rw [List.length_set]; omega)).map bv)[p % 8]? := by rw [List.getElem?_map, e1, ← List.getElem?_map]
      rw [e1m]
      by_cases e : p / 8 = i
      · subst e
        rw [if_pos (by omega), show p - p / 8 * 8 = p % 8 by omega]
        simp
      · rw [if_neg (by omega)]
        have : cur[p]? = (D.flatten.map bv)[p]? := by
          rw [← ht, List.getElem?_take_of_lt hp]; simp
        rw [this, List.getElem?_map, e2, List.getElem_set_ne (fun x => e x.symm), ← List.getElem?_map]
    · rw [List.getElem?_eq_none (by have := List.length_take_le (D.length * 8) cs'.toList; omega), List.getElem?_eq_none (by rw [List.length_map, flat_len fun d hd => (hD' d hd).1, List.length_set]; omega)]
end Go.Proofs.Ytfhgalfdlkdliaa
