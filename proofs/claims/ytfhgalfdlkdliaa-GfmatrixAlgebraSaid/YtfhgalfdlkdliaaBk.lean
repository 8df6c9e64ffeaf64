/- Blocks: arrays of eight bytes that go by value, alone and in slices. -/
import Derived.Test.YtfhgalfdlkdliaaSl
import Derived.Test.YtfhgalfdlkdliaaGff
import Derived.Test.YtfhgalfdlkdliaaGfs
import Derived.Deep.MidRow
import Derived.Deep.RegionHeld3
namespace Go.Proofs.Ytfhgalfdlkdliaa
open Go Go.RowKit
set_option linter.unusedVariables false

/-- Eight bytes. -/
def B8 (l : List Nat) : Prop := l.length = 8 ∧ ∀ x ∈ l, x < 256
/-- The cells of some bytes. -/
def bcs (l : List Nat) : Array Value := (l.map bv).toArray
/-- A block's value. -/
def bk (l : List Nat) : Value := .agg (bcs l)
theorem bcs_size (l : List Nat) : (bcs l).size = l.length := by simp [bcs]
theorem bcs_at {l : List Nat} {k : Nat} (h : k < l.length) : (bcs l)[k]? = some (.int .u8 ((l.getD k 0 : Nat) : Int)) := by
  simp only [bcs, List.getElem?_toArray]; exact getD_bv h
theorem bcs_set (l : List Nat) (k x : Nat) : (bcs l).setIfInBounds k (.int .u8 (x : Int)) = bcs (l.set k x) := by
  simp [bcs, List.map_set, bv]
theorem bcs_one (l : List Nat) : (bcs l).all (·.oneCell') = true := by
  simp [bcs, bv, Value.oneCell']
/-- The block of a function. -/
def blk (f : Nat → Nat) : List Nat := (List.range 8).map f
theorem blk_len (f : Nat → Nat) : (blk f).length = 8 := by simp [blk]
theorem blk_at (f : Nat → Nat) {k : Nat} (h : k < 8) : (blk f).getD k 0 = f k := by
  rw [getD_in (by rw [blk_len]; exact h)]; simp [blk]
theorem blk_ok {f : Nat → Nat} (h : ∀ k, k < 8 → f k < 256) : B8 (blk f) := by
  refine ⟨blk_len f, fun x hx => ?_⟩
  simp only [blk, List.mem_map, List.mem_range] at hx
  obtain ⟨k, hk, rfl⟩ := hx
  exact h k hk
theorem blk_congr {f g : Nat → Nat} (h : ∀ k, k < 8 → f k = g k) : blk f = blk g := by
  unfold blk; exact List.map_congr_left fun k hk => h k (by simpa using hk)
theorem B8.eq {l : List Nat} (h : B8 l) : l = blk fun k => l.getD k 0 := by
  refine List.ext_getElem (by rw [blk_len, h.1]) fun k h1 h2 => ?_
  rw [blk_len] at h2
  rw [← getD_in (x := 0) h1, ← getD_in (x := 0), blk_at _ h2]
theorem B8.lt {l : List Nat} (h : B8 l) (k : Nat) : l.getD k 0 < 256 := by
  rcases Nat.lt_or_ge k l.length with hk | hk
  · rw [getD_in hk]; exact h.2 _ (List.getElem_mem hk)
  · rw [getD_out hk]; decide
theorem B8.ext {a b : List Nat} (ha : B8 a) (hb : B8 b) (h : ∀ k, k < 8 → a.getD k 0 = b.getD k 0) : a = b := by
  rw [ha.eq, hb.eq]; exact blk_congr h
theorem blk_set (f : Nat → Nat) (k x : Nat) : (blk f).set k x = blk fun j => if j = k then x else f j := by
  refine List.ext_getElem (by simp [blk]) fun j h1 h2 => ?_
  simp only [blk, List.getElem_set, List.getElem_map, List.getElem_range]
  by_cases e : k = j
  · simp [e]
  · rw [if_neg e, if_neg (fun h => e h.symm)]
/-- Sum, multiple, sum with a multiple. -/
def xorB (a b : List Nat) : List Nat := blk fun k => a.getD k 0 ^^^ b.getD k 0
def sclB (c : Nat) (a : List Nat) : List Nat := blk fun k => Gf.mul c (a.getD k 0)
def pmB (a b : List Nat) (c : Nat) : List Nat := blk fun k => a.getD k 0 ^^^ Gf.mul (b.getD k 0) c
theorem xorB_ok {a b : List Nat} (ha : B8 a) (hb : B8 b) : B8 (xorB a b) := blk_ok fun k _ => Gf.xor_lt _ _ (ha.lt k) (hb.lt k)
theorem sclB_ok {c : Nat} {a : List Nat} (hc : c < 256) (ha : B8 a) : B8 (sclB c a) := blk_ok fun k _ => Gf.mul_lt _ _ hc
theorem pmB_ok {a b : List Nat} {c : Nat} (ha : B8 a) (hb : B8 b) (hc : c < 256) : B8 (pmB a b c) := blk_ok fun k _ => Gf.xor_lt _ _ (ha.lt k) (Gf.mul_lt _ _ (hb.lt k))
/-- Eight cells from an offset on. -/
def At8 (w : World) (b o : Nat) (l : List Nat) : Prop := w.rangeAt b o (l.map bv)
theorem Row.at8 {w : World} {g : Nat} {t : TypeId} {l : List Nat} (h : Row w g t (bcs l)) : At8 w g 0 l := fun j v hv => by
  rw [Nat.zero_add, h.cell]; simp only [bcs, List.getElem?_toArray]; exact hv
theorem At8.cell {w : World} {b o : Nat} {l : List Nat} (h : At8 w b o l) {k : Nat} (hk : k < l.length) : w.cell? ⟨b, o + k, none⟩ = some (.int .u8 ((l.getD k 0 : Nat) : Int)) :=
  h k _ (getD_bv hk)
theorem At8.below {w w' : World} {b o : Nat} {l : List Nat} (h : At8 w b o l) {B : Nat} (hb : Below B w w') (hB : b < B) : At8 w' b o l := fun j v hv => (hb.cell (p := ⟨b, o + j, none⟩) hB).trans (h j v hv)
theorem At8.load {P : Program} {w : World} {b o : Nat} {l : List Nat} (h : At8 w b o l) (h8 : l.length = 8) : (loadCellsFrom ⟨b, o, none⟩ 0 8 #[]).run P w = .ok (bcs l) w := by
  have := run_loadCells_list (P := P) w ⟨b, o, none⟩ (l.map bv) (fun j v hv => by rw [Addr.add_mid]; exact h j v hv)
  rw [List.length_map, h8] at this
  exact this
theorem row_new (w : World) (cs : Array Value) (t : TypeId) : Row (w.alloc (.cells cs t)) w.heap.size t cs := heap_alloc_new w _
theorem row_at {w : World} {k : Nat} (h : w.heap.size = k) (cs : Array Value) (t : TypeId) : Row (w.alloc (.cells cs t)) k t cs := h ▸ row_new w cs t
theorem Row.alloc {w : World} {g : Nat} {t : TypeId} {cs : Array Value} (h : Row w g t cs) (o : Obj) : Row (w.alloc o) g t cs := h.below ((Below.refl w.heap.size w).alloc (Nat.le_refl _) o) h.lt
theorem Row.other {w : World} {g : Nat} {t : TypeId} {cs : Array Value} (h : Row w g t cs) {k : Nat} (hk : g ≠ k) (i : Nat) (u : Value) : Row (w.setCell ⟨k, i, none⟩ u) g t cs := (Below.heap_setCell w ⟨k, i, none⟩ u g hk).trans h
theorem Row.drew {w : World} {g : Nat} {t : TypeId} {cs : Array Value} (h : Row w g t cs) : Row w.drew g t cs := h
/-- A whole block goes into the head of a row of eight cells. -/
theorem Row.put8 {P : Program} {w : World} {g : Nat} {t : TypeId} {cs : Array Value} (h : Row w g t cs) (hs : cs.size = 8) {l : List Nat} (hl : l.length = 8) :
    (storeCells ⟨g, 0, none⟩ (bcs l).toList 0).run P w = .ok () (w.setCells g 0 (l.map bv)) := by
  have := run_storeCells_cells (P := P) g 0 (l.map bv) 0 w (fun j hj => by simp at hj; simp only [Nat.zero_add]; rw [h.cell, Array.getElem?_eq_getElem (by omega)]; rfl) (fun j hj => by rw [h.frozen]) (fun v hv => bv_one v hv)
  simpa [bcs] using this
theorem Row.puts {w : World} {g : Nat} {t : TypeId} : ∀ {vs : List Value} {cs : Array Value} {o : Nat}, Row w g t cs → ∃ cs', Row (w.setCells g o vs) g t cs' ∧ cs'.size = cs.size ∧ ∀ i, i < cs.size → cs'[i]? = if o ≤ i ∧ i < o + vs.length then vs[i - o]? else cs[i]? := by
  intro vs
  induction vs generalizing w with
  | nil => exact fun {cs o} h => ⟨cs, h, rfl, fun i _ => by rw [if_neg (by simp only [List.length_nil]; omega)]⟩
  | cons v r ih =>
    intro cs o h
    obtain ⟨cs', h1, h2, h3⟩ := ih (o := o + 1) (h.store o v)
    refine ⟨cs', h1, by rw [h2]; simp, fun i hi => ?_⟩
    rw [h3 i (by simpa using hi)]
    by_cases e : i = o
    · subst e
      rw [if_neg (by omega), if_pos (by simp)]
      simp [Array.getElem?_setIfInBounds_self_of_lt hi]
    · by_cases e2 : o + 1 ≤ i ∧ i < o + 1 + r.length
      · rw [if_pos e2, if_pos (by simp; omega)]
        obtain ⟨d, hd⟩ : ∃ d, i - o = d + 1 := ⟨i - o - 1, by omega⟩
        rw [hd, List.getElem?_cons_succ]; congr 1; omega
      · rw [if_neg e2, if_neg (by simp; omega), Array.getElem?_setIfInBounds_ne (by omega)]
/-- A whole block over a row of eight cells. -/
theorem Row.put {w : World} {g : Nat} {t : TypeId} {cs : Array Value} (h : Row w g t cs) (hs : cs.size = 8) {l : List Nat} (hl : l.length = 8) : Row (w.setCells g 0 (l.map bv)) g t (bcs l) := by
  obtain ⟨cs', h1, h2, h3⟩ := h.puts (vs := l.map bv) (o := 0)
  have : cs' = bcs l := by
    refine Array.ext_getElem? fun i => ?_
    rcases Nat.lt_or_ge i 8 with hi | hi
    · rw [h3 i (by omega), if_pos (by simp; omega), bcs_at (by omega), Nat.sub_zero]; exact getD_bv (by omega)
    · rw [Array.getElem?_eq_none (by omega), Array.getElem?_eq_none (by rw [bcs_size]; omega)]
  rw [← this]; exact h1
theorem below_setCells {B : Nat} {w w' : World} (h : Below B w w') : ∀ (vs : List Value) (g o : Nat), B ≤ g → Below B w (w'.setCells g o vs) := by
  intro vs
  induction vs generalizing w' with
  | nil => exact fun g o _ => h
  | cons v r ih => exact fun g o hg => ih (h.setCell (p := ⟨g, o, none⟩) hg v) g (o + 1) hg
theorem Row.there {w : World} {g : Nat} {t : TypeId} {cs : Array Value} (h : Row w g t cs) {n : Nat} (hs : n ≤ cs.size) : w.there g 0 n := fun j hj =>
  ⟨by rw [Nat.zero_add, h.cell, Array.getElem?_eq_getElem (by omega)]; rfl, h.frozen _⟩
end Go.Proofs.Ytfhgalfdlkdliaa
