/- Joined: Bk Pa Pb. -/
import Derived.Test.YtheijobnmdbodaaGA
import Derived.Test.YtheijobnmdbodaaGB
import Derived.Deep.MidRow
import Derived.Deep.RegionHeld3
import Derived.RangeFuncNested
import Derived.RangeFuncBox
import Derived.RangeFuncLeaves
import Derived.RangeFuncCalls
import Derived.Shelf.Abstract
import Derived.Shelf.RegionOpen
import Derived.OwnWalkIn
import Derived.TacticsInMore
import Derived.LoopNIn
import Derived.LoopIn
namespace Go.Proofs.Ytheijobnmdbodaa
open Go Go.RowKit
set_option linter.unusedVariables false

/-- Eight bytes. -/
def B8 (l : List Nat) : Prop := l.length = 8 ∧ ∀ x ∈ l, x < 256
/-- The cells of some bytes. -/
def bcs (l : List Nat) : Array Value := (l.map bv).toArray
/-- A block's value. -/
def bk (l : List Nat) : Value := .agg (bcs l)
theorem bcs_size (l : List Nat) : (bcs l).size = l.length := by simp [bcs]
theorem bcs_at {l : List Nat} {k : Nat} (h : k < l.length) : (bcs l)[k]? = some (.int .u8 ((l.getD k 0 : Nat) : Int)) := by
  simp only [bcs, List.getElem?_toArray]; exact getD_bv h
theorem bcs_set (l : List Nat) (k x : Nat) : (bcs l).setIfInBounds k (.int .u8 (x : Int)) = bcs (l.set k x) := by
  simp [bcs, List.map_set, bv]
theorem bcs_one (l : List Nat) : (bcs l).all (·.oneCell') = true := by
  simp [bcs, bv, Value.oneCell']
/-- The block of a function. -/
def blk (f : Nat → Nat) : List Nat := (List.range 8).map f
theorem blk_len (f : Nat → Nat) : (blk f).length = 8 := by simp [blk]
theorem blk_at (f : Nat → Nat) {k : Nat} (h : k < 8) : (blk f).getD k 0 = f k := by
  rw [getD_in (by rw [blk_len]; exact h)]; simp [blk]
theorem blk_ok {f : Nat → Nat} (h : ∀ k, k < 8 → f k < 256) : B8 (blk f) := by
  refine ⟨blk_len f, fun x hx => ?_⟩
  simp only [blk, List.mem_map, List.mem_range] at hx
  obtain ⟨k, hk, rfl⟩ := hx
  exact h k hk
theorem blk_congr {f g : Nat → Nat} (h : ∀ k, k < 8 → f k = g k) : blk f = blk g := by
  unfold blk; exact List.map_congr_left fun k hk => h k (by simpa using hk)
theorem B8.eq {l : List Nat} (h : B8 l) : l = blk fun k => l.getD k 0 := by
  refine List.ext_getElem (by rw [blk_len, h.1]) fun k h1 h2 => ?_
  rw [blk_len] at h2
  rw [← getD_in (x := 0) h1, ← getD_in (x := 0), blk_at _ h2]
theorem B8.lt {l : List Nat} (h : B8 l) (k : Nat) : l.getD k 0 < 256 := by
  rcases Nat.lt_or_ge k l.length with hk | hk
  · rw [getD_in hk]; exact h.2 _ (List.getElem_mem hk)
  · rw [getD_out hk]; decide
theorem B8.ext {a b : List Nat} (ha : B8 a) (hb : B8 b) (h : ∀ k, k < 8 → a.getD k 0 = b.getD k 0) : a = b := by
  rw [ha.eq, hb.eq]; exact blk_congr h
theorem blk_set (f : Nat → Nat) (k x : Nat) : (blk f).set k x = blk fun j => if j = k then x else f j := by
  refine List.ext_getElem (by simp [blk]) fun j h1 h2 => ?_
  simp only [blk, List.getElem_set, List.getElem_map, List.getElem_range]
  by_cases e : k = j
  · simp [e]
  · rw [if_neg e, if_neg (fun h => e h.symm)]
/-- Sum, multiple, sum with a multiple. -/
def xorB (a b : List Nat) : List Nat := blk fun k => a.getD k 0 ^^^ b.getD k 0
def sclB (c : Nat) (a : List Nat) : List Nat := blk fun k => Gf.mul c (a.getD k 0)
def pmB (a b : List Nat) (c : Nat) : List Nat := blk fun k => a.getD k 0 ^^^ Gf.mul (b.getD k 0) c
theorem xorB_ok {a b : List Nat} (ha : B8 a) (hb : B8 b) : B8 (xorB a b) := blk_ok fun k _ => Gf.xor_lt _ _ (ha.lt k) (hb.lt k)
theorem sclB_ok {c : Nat} {a : List Nat} (hc : c < 256) (ha : B8 a) : B8 (sclB c a) := blk_ok fun k _ => Gf.mul_lt _ _ hc
theorem pmB_ok {a b : List Nat} {c : Nat} (ha : B8 a) (hb : B8 b) (hc : c < 256) : B8 (pmB a b c) := blk_ok fun k _ => Gf.xor_lt _ _ (ha.lt k) (Gf.mul_lt _ _ (hb.lt k))
/-- Eight cells from an offset on. -/
def At8 (w : World) (b o : Nat) (l : List Nat) : Prop := w.rangeAt b o (l.map bv)
theorem Row.at8 {w : World} {g : Nat} {t : TypeId} {l : List Nat} (h : Row w g t (bcs l)) : At8 w g 0 l := fun j v hv => by
  rw [Nat.zero_add, h.cell]; simp only [bcs, List.getElem?_toArray]; exact hv
theorem At8.cell {w : World} {b o : Nat} {l : List Nat} (h : At8 w b o l) {k : Nat} (hk : k < l.length) : w.cell? ⟨b, o + k, none⟩ = some (.int .u8 ((l.getD k 0 : Nat) : Int)) :=
  h k _ (getD_bv hk)
theorem At8.below {w w' : World} {b o : Nat} {l : List Nat} (h : At8 w b o l) {B : Nat} (hb : Below B w w') (hB : b < B) : At8 w' b o l := fun j v hv => (hb.cell (p := ⟨b, o + j, none⟩) hB).trans (h j v hv)
theorem At8.load {P : Program} {w : World} {b o : Nat} {l : List Nat} (h : At8 w b o l) (h8 : l.length = 8) : (loadCellsFrom ⟨b, o, none⟩ 0 8 #[]).run P w = .ok (bcs l) w := by
  have := run_loadCells_list (P := P) w ⟨b, o, none⟩ (l.map bv) (fun j v hv => by rw [Addr.add_mid]; exact h j v hv)
  rw [List.length_map, h8] at this
  exact this
theorem row_new (w : World) (cs : Array Value) (t : TypeId) : Row (w.alloc (.cells cs t)) w.heap.size t cs := heap_alloc_new w _
theorem row_at {w : World} {k : Nat} (h : w.heap.size = k) (cs : Array Value) (t : TypeId) : Row (w.alloc (.cells cs t)) k t cs := h ▸ row_new w cs t
theorem Row.alloc {w : World} {g : Nat} {t : TypeId} {cs : Array Value} (h : Row w g t cs) (o : Obj) : Row (w.alloc o) g t cs := h.below ((Below.refl w.heap.size w).alloc (Nat.le_refl _) o) h.lt
theorem Row.other {w : World} {g : Nat} {t : TypeId} {cs : Array Value} (h : Row w g t cs) {k : Nat} (hk : g ≠ k) (i : Nat) (u : Value) : Row (w.setCell ⟨k, i, none⟩ u) g t cs := (Below.heap_setCell w ⟨k, i, none⟩ u g hk).trans h
theorem Row.drew {w : World} {g : Nat} {t : TypeId} {cs : Array Value} (h : Row w g t cs) : Row w.drew g t cs := h
/-- A whole block goes into the head of a row of eight cells. -/
theorem Row.put8 {P : Program} {w : World} {g : Nat} {t : TypeId} {cs : Array Value} (h : Row w g t cs) (hs : cs.size = 8) {l : List Nat} (hl : l.length = 8) :
    (storeCells ⟨g, 0, none⟩ (bcs l).toList 0).run P w = .ok () (w.setCells g 0 (l.map bv)) := by
  have := run_storeCells_cells (P := P) g 0 (l.map bv) 0 w (fun j hj => by simp at hj; simp only [Nat.zero_add]; rw [h.cell, Array.getElem?_eq_getElem (by omega)]; rfl) (fun j hj => by rw [h.frozen]) (fun v hv => bv_one v hv)
  simpa [bcs] using this
theorem Row.puts {w : World} {g : Nat} {t : TypeId} : ∀ {vs : List Value} {cs : Array Value} {o : Nat}, Row w g t cs → ∃ cs', Row (w.setCells g o vs) g t cs' ∧ cs'.size = cs.size ∧ ∀ i, i < cs.size → cs'[i]? = if o ≤ i ∧ i < o + vs.length then vs[i - o]? else cs[i]? := by
  intro vs
  induction vs generalizing w with
  | nil => exact fun {cs o} h => ⟨cs, h, rfl, fun i _ => by rw [if_neg (by simp only [List.length_nil]; omega)]⟩
  | cons v r ih =>
    intro cs o h
    obtain ⟨cs', h1, h2, h3⟩ := ih (o := o + 1) (h.store o v)
    refine ⟨cs', h1, by rw [h2]; simp, fun i hi => ?_⟩
    rw [h3 i (by simpa using hi)]
    by_cases e : i = o
    · subst e
      rw [if_neg (by omega), if_pos (by simp)]
      simp [Array.getElem?_setIfInBounds_self_of_lt hi]
    · by_cases e2 : o + 1 ≤ i ∧ i < o + 1 + r.length
      · rw [if_pos e2, if_pos (by simp; omega)]
        obtain ⟨d, hd⟩ : ∃ d, i - o = d + 1 := ⟨i - o - 1, by omega⟩
        rw [hd, List.getElem?_cons_succ]; congr 1; omega
      · rw [if_neg e2, if_neg (by simp; omega), Array.getElem?_setIfInBounds_ne (by omega)]
/-- A whole block over a row of eight cells. -/
theorem Row.put {w : World} {g : Nat} {t : TypeId} {cs : Array Value} (h : Row w g t cs) (hs : cs.size = 8) {l : List Nat} (hl : l.length = 8) : Row (w.setCells g 0 (l.map bv)) g t (bcs l) := by
  obtain ⟨cs', h1, h2, h3⟩ := h.puts (vs := l.map bv) (o := 0)
  have : cs' = bcs l := by
    refine Array.ext_getElem? fun i => ?_
    rcases Nat.lt_or_ge i 8 with hi | hi
    · rw [h3 i (by omega), if_pos (by simp; omega), bcs_at (by omega), Nat.sub_zero]; exact getD_bv (by omega)
    · rw [Array.getElem?_eq_none (by omega), Array.getElem?_eq_none (by rw [bcs_size]; omega)]
  rw [← this]; exact h1
theorem below_setCells {B : Nat} {w w' : World} (h : Below B w w') : ∀ (vs : List Value) (g o : Nat), B ≤ g → Below B w (w'.setCells g o vs) := by
  intro vs
  induction vs generalizing w' with
  | nil => exact fun g o _ => h
  | cons v r ih => exact fun g o hg => ih (h.setCell (p := ⟨g, o, none⟩) hg v) g (o + 1) hg
theorem Row.there {w : World} {g : Nat} {t : TypeId} {cs : Array Value} (h : Row w g t cs) {n : Nat} (hs : n ≤ cs.size) : w.there g 0 n := fun j hj =>
  ⟨by rw [Nat.zero_add, h.cell, Array.getElem?_eq_getElem (by omega)]; rfl, h.frozen _⟩
end Go.Proofs.Ytheijobnmdbodaa
namespace Go.Proofs.Ytheijobnmdbodaa
open Go Go.RowKit
set_option linter.unusedVariables false

theorem dcount_t (n : Int) (w : World) (h1 : 1 ≤ n) (h2 : n ≤ 13) : Calls Try.prog 53 #[.int .i64 n] w fun e w' => e = .returned (.bool true) ∧ w = w' := by
  go_enter Try.func53, Try.ntmps53
  go_wp2
  go_ret
  exact ⟨rfl, rfl⟩
theorem dcount_f (n : Int) (w : World) (h : n < 1 ∨ 13 < n) : Calls Try.prog 53 #[.int .i64 n] w fun e w' => e = .returned (.bool false) ∧ w = w' := by
  rcases h with h | h
  · have g : decide (1 ≤ n) = false := by simp; omega
    go_enter Try.func53, Try.ntmps53
    go_wp2
    go_ret
    exact ⟨rfl, rfl⟩
  · have g : decide (n ≤ 13) = false := by simp; omega
    go_enter Try.func53, Try.ntmps53
    go_wp2
    go_ret
    exact ⟨rfl, rfl⟩
theorem coef_any (j i : Nat) (hj : j < 256) (hi : i < 256) (w : World) : Calls Try.prog 57 #[.int .i64 (j : Int), .int .i64 (i : Int)] w fun e w' => e = .returned (.int .u8 (Gf.gpow 2 (red ((j * i : Nat) : Int)) : Nat)) ∧ w = w' := by
  have h1 : wrap64 ((j : Int) * (i : Int)) = ((j * i : Nat) : Int) := by
    have := Nat.mul_lt_mul'' hj hi
    rw [← Int.natCast_mul]
    exact IntWalk.wrap64_in _ ⟨by omega, by omega⟩
  have X := Lib.hid h1
  go_enter Try.func57, Try.ntmps57
  go_wp2_with fail
  rw [X.out]
  refine (exp_any _ _).mono ?_
  rintro e w' ⟨rfl, rfl⟩
  go_wp2_with fail
  go_ret
  exact ⟨rfl, rfl⟩

def blkPost (l : List Nat) (w : World) (e : Ending) (w' : World) : Prop := e = .returned (bk l) ∧ Below w.heap.size w w'

set_option maxHeartbeats 1000000 in
set_option maxRecDepth 100000 in
theorem pm_any (a b : List Nat) (c : Nat) (w : World) (ha : B8 a) (hb : B8 b) (hc : c < 256) :
    Calls Try.prog 66 #[.agg (bcs a), .agg (bcs b), .int .u8 (c : Int)] w (blkPost (pmB a b c) w) := by
  go_enter Try.func66, Try.ntmps66
  go_wp2_with fail
  go_loopw [7, 8] (fun _ q wr => ∃ k : Nat, k ≤ 8 ∧ q = .int .i64 (k : Int) ∧ Hid (Below w.heap.size w wr ∧ Row wr w.heap.size 33 (bcs (blk fun j => if j < k then (pmB a b c).getD j 0 else a.getD j 0)) ∧ Row wr (w.heap.size + 1) 33 (bcs b) ∧ ∃ cs, Row wr (w.heap.size + 2) 33 cs ∧ cs.size = 8)) (fun _ q _ => 8 - (intOf q).toNat)
  case atStart =>
    have e : (blk fun j => if j < 0 then (pmB a b c).getD j 0 else a.getD j 0) = a := by
      refine Eq.trans ?_ ha.eq.symm
      exact blk_congr fun k _ => if_neg (Nat.not_lt_zero k)
    refine ⟨0, Nat.zero_le _, rfl, Lib.hid ⟨(((Below.refl w.heap.size w).alloc (Nat.le_refl _) _).alloc (by simp) _).alloc (by simp; omega) _, ?_, ?_, _, row_at (by simp) _ _, by rfl⟩⟩
    · rw [e]; exact ((row_new _ _ _).alloc _).alloc _
    · have := (row_new (w.alloc (.cells (bcs a) 33)) (bcs b) 33).alloc (.cells (Array.replicate 8 (.int .u8 0)) 33)
      rw [World.size_alloc] at this
      exact this
  case round =>
    obtain ⟨k, hk, rfl, H⟩ := hrel
    by_cases hlt : k < 8
    · have hkI : (k : Int) < 8 := by omega
      obtain ⟨hbel, r1, r2, r3⟩ := H.out
      obtain ⟨x, hx⟩ : ∃ x, a.getD k 0 = x := ⟨_, rfl⟩
      obtain ⟨y, hy⟩ : ∃ y, b.getD k 0 = y := ⟨_, rfl⟩
      have hx2 : x < 256 := hx ▸ ha.lt k
      have hy2 : y < 256 := hy ▸ hb.lt k
      have c1 := r1.cell k
      rw [bcs_at (by rw [blk_len]; exact hlt), blk_at _ hlt, if_neg (Nat.lt_irrefl k), hx] at c1
      have c2 := r2.cell k
      rw [bcs_at (by rw [hb.1]; exact hlt), hy] at c2
      have f1 := r1.frozen k
      have hmul := Gf.mul_lt y c hy2
      have hf : (pmB a b c).getD k 0 = x ^^^ Gf.mul y c := by rw [pmB, blk_at _ hlt, hx, hy]
      have HF := Lib.hid hf
      clear hbel r1 r2 r3 hx hy hf
      go_wp2
      refine wp_region_still_tail 11 (by kernel_rfl) (by kernel_rfl) ?_
      simp only [List.take_succ_cons, List.take_zero, List.drop_succ_cons, List.drop_zero]
      repeat (first | still_step | still_call ((mul_any y c hy2 hc _).mono fun _ _ h => ⟨h.1, h.2.symm⟩) | still_call ((add_any x (Gf.mul y c) hx2 hmul _).mono fun _ _ h => ⟨h.1, h.2.symm⟩))
      refine wpStill_nil ?_
      change wpList _ _ _ _ _ wr.drew
      go_wp2
      go_roundw
      case rel =>
        obtain ⟨hbel, r1, r2, cs, r3, r4⟩ := H.out
        refine ⟨k + 1, by omega, by go_num, Lib.hid ⟨(hbel.setCell (p := ⟨w.heap.size, k, none⟩) (Nat.le_refl _) _).drew, ?_, r2.other (by omega) _ _, cs, r3.other (by omega) _ _, r4⟩⟩
        have := r1.store k (.int .u8 ((x ^^^ Gf.mul y c : Nat) : Int))
        rw [bcs_set, blk_set] at this
        rw [blk_congr (g := fun j => if j = k then x ^^^ Gf.mul y c else if j < k then (pmB a b c).getD j 0 else a.getD j 0) ?_]
        · exact this
        · intro j _
          by_cases e : j = k
          · rw [if_pos (by omega), if_pos e, e, HF.out]
          · rw [if_neg e]; (repeat' split) <;> first | rfl | omega
      case measure => simp [intOf]; omega
    · obtain rfl : k = 8 := by omega
      obtain ⟨hbel, r1, r2, cs, r3, r4⟩ := H.out
      have e : (blk fun j => if j < 8 then (pmB a b c).getD j 0 else a.getD j 0) = pmB a b c := by
        rw [(pmB_ok ha hb hc).eq]
        exact blk_congr fun j hj => by rw [if_pos (by omega), blk_at _ hj]
      rw [e] at r1
      have l8 := pmB_ok ha hb hc
      obtain ⟨l, hl⟩ : ∃ l, pmB a b c = l := ⟨_, rfl⟩
      rw [hl] at r1 l8 ⊢
      have r5 := r3.put r4 l8.1
      have hb5 := below_setCells hbel (l.map bv) (w.heap.size + 2) 0 (by omega)
      have th := r3.there (n := (bcs l).size) (by rw [bcs_size, l8.1, r4]; exact Nat.le_refl _)
      have si : (Try.prog.info? 33).map (·.size) = some (bcs l).size := by rw [bcs_size, l8.1]; kernel_rfl
      have HL := Lib.hid hl
      have R5 := Lib.hid r5
      have B5 := Lib.hid hb5
      have R1 := Lib.hid r1
      have TH := Lib.hid th
      have SI := Lib.hid si
      clear hbel r1 r3 r4 r5 hb5 e H th si hl l8
      go_wp2_with (first | (refine wpList_load_row rfl _ _ rfl _ rfl _ _ (0, 0) _ R1.out Try.underlying33 rfl SI.out ?_) | (refine wpList_store_mid rfl _ _ _ rfl _ 0 _ rfl rfl TH.out SI.out (bcs_one _) ?_))
      refine bodyPost_ret (results_cell_row (g := w.heap.size + 2) (t := 33) (fr := (0, 0)) rfl _ _ _ _ rfl R5.out Try.underlying33 rfl SI.out) rfl ?_
      exact ⟨by rw [HL.out]; rfl, B5.out⟩
set_option maxHeartbeats 1000000 in
set_option maxRecDepth 100000 in
theorem xor_blk (a b : List Nat) (w : World) (ha : B8 a) (hb : B8 b) :
    Calls Try.prog 26 #[.agg (bcs a), .agg (bcs b)] w (blkPost (xorB a b) w) := by
  go_enter Try.func26, Try.ntmps26
  go_wp2_with fail
  go_loopw [5] (fun q wr => ∃ k : Nat, k ≤ 8 ∧ q = .int .i64 (k : Int) ∧ Hid (Below w.heap.size w wr ∧ Row wr w.heap.size 33 (bcs (blk fun j => if j < k then (xorB a b).getD j 0 else a.getD j 0)) ∧ Row wr (w.heap.size + 1) 33 (bcs b) ∧ ∃ cs, Row wr (w.heap.size + 2) 33 cs ∧ cs.size = 8)) (fun q _ => 8 - (intOf q).toNat)
  case atStart =>
    have e : (blk fun j => if j < 0 then (xorB a b).getD j 0 else a.getD j 0) = a := by
      refine Eq.trans ?_ ha.eq.symm
      exact blk_congr fun k _ => if_neg (Nat.not_lt_zero k)
    refine ⟨0, Nat.zero_le _, rfl, Lib.hid ⟨(((Below.refl w.heap.size w).alloc (Nat.le_refl _) _).alloc (by simp) _).alloc (by simp; omega) _, ?_, ?_, _, row_at (by simp) _ _, by rfl⟩⟩
    · rw [e]; exact ((row_new _ _ _).alloc _).alloc _
    · have := (row_new (w.alloc (.cells (bcs a) 33)) (bcs b) 33).alloc (.cells (Array.replicate 8 (.int .u8 0)) 33)
      rw [World.size_alloc] at this
      exact this
  case round =>
    obtain ⟨k, hk, rfl, H⟩ := hrel
    by_cases hlt : k < 8
    · have hkI : (k : Int) < 8 := by omega
      obtain ⟨hbel, r1, r2, r3⟩ := H.out
      obtain ⟨x, hx⟩ : ∃ x, a.getD k 0 = x := ⟨_, rfl⟩
      obtain ⟨y, hy⟩ : ∃ y, b.getD k 0 = y := ⟨_, rfl⟩
      have hx2 : x < 256 := hx ▸ ha.lt k
      have hy2 : y < 256 := hy ▸ hb.lt k
      have c1 := r1.cell k
      rw [bcs_at (by rw [blk_len]; exact hlt), blk_at _ hlt, if_neg (Nat.lt_irrefl k), hx] at c1
      have c2 := r2.cell k
      rw [bcs_at (by rw [hb.1]; exact hlt), hy] at c2
      have f1 := r1.frozen k
      have XX := u8_xor_nat x y hx2 hy2
      have hf : (xorB a b).getD k 0 = x ^^^ y := by rw [xorB, blk_at _ hlt, hx, hy]
      have HF := Lib.hid hf
      clear hbel r1 r2 r3 hx hy hf
      go_wp2
      refine wp_region_still_tail 7 (by kernel_rfl) (by kernel_rfl) ?_
      simp only [List.take_succ_cons, List.take_zero, List.drop_succ_cons, List.drop_zero]
      repeat still_step
      refine wpStill_nil ?_
      change wpList _ _ _ _ _ wr.drew
      go_wp2
      go_roundw
      case rel =>
        obtain ⟨hbel, r1, r2, cs, r3, r4⟩ := H.out
        refine ⟨k + 1, by omega, by go_num, Lib.hid ⟨(hbel.setCell (p := ⟨w.heap.size, k, none⟩) (Nat.le_refl _) _).drew, ?_, r2.other (by omega) _ _, cs, r3.other (by omega) _ _, r4⟩⟩
        have := r1.store k (.int .u8 ((x ^^^ y : Nat) : Int))
        rw [bcs_set, blk_set] at this
        rw [blk_congr (g := fun j => if j = k then x ^^^ y else if j < k then (xorB a b).getD j 0 else a.getD j 0) ?_]
        · exact this
        · intro j _
          by_cases e : j = k
          · rw [if_pos (by omega), if_pos e, e, HF.out]
          · rw [if_neg e]; (repeat' split) <;> first | rfl | omega
      case measure => simp [intOf]; omega
    · obtain rfl : k = 8 := by omega
      obtain ⟨hbel, r1, r2, cs, r3, r4⟩ := H.out
      have e : (blk fun j => if j < 8 then (xorB a b).getD j 0 else a.getD j 0) = xorB a b := by
        rw [(xorB_ok ha hb).eq]
        exact blk_congr fun j hj => by rw [if_pos (by omega), blk_at _ hj]
      rw [e] at r1
      have l8 := xorB_ok ha hb
      obtain ⟨l, hl⟩ : ∃ l, xorB a b = l := ⟨_, rfl⟩
      rw [hl] at r1 l8 ⊢
      have r5 := r3.put r4 l8.1
      have hb5 := below_setCells hbel (l.map bv) (w.heap.size + 2) 0 (by omega)
      have th := r3.there (n := (bcs l).size) (by rw [bcs_size, l8.1, r4]; exact Nat.le_refl _)
      have si : (Try.prog.info? 33).map (·.size) = some (bcs l).size := by rw [bcs_size, l8.1]; kernel_rfl
      have HL := Lib.hid hl
      have R5 := Lib.hid r5
      have B5 := Lib.hid hb5
      have R1 := Lib.hid r1
      have TH := Lib.hid th
      have SI := Lib.hid si
      clear hbel r1 r3 r4 r5 hb5 e H th si hl l8
      go_wp2_with (first | (refine wpList_load_row rfl _ _ rfl _ rfl _ _ (0, 0) _ R1.out Try.underlying33 rfl SI.out ?_) | (refine wpList_store_mid rfl _ _ _ rfl _ 0 _ rfl rfl TH.out SI.out (bcs_one _) ?_))
      refine bodyPost_ret (results_cell_row (g := w.heap.size + 2) (t := 33) (fr := (0, 0)) rfl _ _ _ _ rfl R5.out Try.underlying33 rfl SI.out) rfl ?_
      exact ⟨by rw [HL.out]; rfl, B5.out⟩
set_option maxHeartbeats 1000000 in
set_option maxRecDepth 100000 in
theorem scl_blk (c : Nat) (a : List Nat) (w : World) (hc : c < 256) (ha : B8 a) :
    Calls Try.prog 38 #[.int .u8 (c : Int), .agg (bcs a)] w (blkPost (sclB c a) w) := by
  go_enter Try.func38, Try.ntmps38
  go_wp2_with fail
  go_loopw [5] (fun q wr => ∃ k : Nat, k ≤ 8 ∧ q = .int .i64 (k : Int) ∧ Hid (Below w.heap.size w wr ∧ Row wr w.heap.size 33 (bcs (blk fun j => if j < k then (sclB c a).getD j 0 else a.getD j 0)) ∧ ∃ cs, Row wr (w.heap.size + 1) 33 cs ∧ cs.size = 8)) (fun q _ => 8 - (intOf q).toNat)
  case atStart =>
    have e : (blk fun j => if j < 0 then (sclB c a).getD j 0 else a.getD j 0) = a := by
      refine Eq.trans ?_ ha.eq.symm
      exact blk_congr fun k _ => if_neg (Nat.not_lt_zero k)
    refine ⟨0, Nat.zero_le _, rfl, Lib.hid ⟨((Below.refl w.heap.size w).alloc (Nat.le_refl _) _).alloc (by simp) _, ?_, _, row_at (by simp) _ _, by rfl⟩⟩
    rw [e]; exact (row_new _ _ _).alloc _
  case round =>
    obtain ⟨k, hk, rfl, H⟩ := hrel
    by_cases hlt : k < 8
    · have hkI : (k : Int) < 8 := by omega
      obtain ⟨hbel, r1, r3⟩ := H.out
      obtain ⟨x, hx⟩ : ∃ x, a.getD k 0 = x := ⟨_, rfl⟩
      have hx2 : x < 256 := hx ▸ ha.lt k
      have c1 := r1.cell k
      rw [bcs_at (by rw [blk_len]; exact hlt), blk_at _ hlt, if_neg (Nat.lt_irrefl k), hx] at c1
      have f1 := r1.frozen k
      have hmul := Gf.mul_lt c x hc
      have hf : (sclB c a).getD k 0 = Gf.mul c x := by rw [sclB, blk_at _ hlt, hx]
      have HF := Lib.hid hf
      clear hbel r1 r3 hx hf
      go_wp2_with fail
      refine (rmul_any c x hc hx2 _).mono ?_
      rintro e w' ⟨rfl, rfl⟩
      go_wp2_with fail
      go_roundw
      case rel =>
        obtain ⟨hbel, r1, cs, r3, r4⟩ := H.out
        refine ⟨k + 1, by omega, by go_num, Lib.hid ⟨(hbel.setCell (p := ⟨w.heap.size, k, none⟩) (Nat.le_refl _) _), ?_, cs, r3.other (by omega) _ _, r4⟩⟩
        have := r1.store k (.int .u8 ((Gf.mul c x : Nat) : Int))
        rw [bcs_set, blk_set] at this
        rw [blk_congr (g := fun j => if j = k then Gf.mul c x else if j < k then (sclB c a).getD j 0 else a.getD j 0) ?_]
        · exact this
        · intro j _
          by_cases e : j = k
          · rw [if_pos (by omega), if_pos e, e, HF.out]
          · rw [if_neg e]; (repeat' split) <;> first | rfl | omega
      case measure => simp [intOf]; omega
    · obtain rfl : k = 8 := by omega
      obtain ⟨hbel, r1, cs, r3, r4⟩ := H.out
      have e : (blk fun j => if j < 8 then (sclB c a).getD j 0 else a.getD j 0) = sclB c a := by
        rw [(sclB_ok hc ha).eq]
        exact blk_congr fun j hj => by rw [if_pos (by omega), blk_at _ hj]
      rw [e] at r1
      have l8 := sclB_ok hc ha
      obtain ⟨l, hl⟩ : ∃ l, sclB c a = l := ⟨_, rfl⟩
      rw [hl] at r1 l8 ⊢
      have r5 := r3.put r4 l8.1
      have hb5 := below_setCells hbel (l.map bv) (w.heap.size + 1) 0 (by omega)
      have th := r3.there (n := (bcs l).size) (by rw [bcs_size, l8.1, r4]; exact Nat.le_refl _)
      have si : (Try.prog.info? 33).map (·.size) = some (bcs l).size := by rw [bcs_size, l8.1]; kernel_rfl
      have HL := Lib.hid hl
      have R5 := Lib.hid r5
      have B5 := Lib.hid hb5
      have R1 := Lib.hid r1
      have TH := Lib.hid th
      have SI := Lib.hid si
      clear hbel r1 r3 r4 r5 hb5 e H th si hl l8
      go_wp2_with (first | (refine wpList_load_row rfl _ _ rfl _ rfl _ _ (0, 0) _ R1.out Try.underlying33 rfl SI.out ?_) | (refine wpList_store_mid rfl _ _ _ rfl _ 0 _ rfl rfl TH.out SI.out (bcs_one _) ?_))
      refine bodyPost_ret (results_cell_row (g := w.heap.size + 1) (t := 33) (fr := (0, 0)) rfl _ _ _ _ rfl R5.out Try.underlying33 rfl SI.out) rfl ?_
      exact ⟨by rw [HL.out]; rfl, B5.out⟩
end Go.Proofs.Ytheijobnmdbodaa
namespace Go.Proofs.Ytheijobnmdbodaa
open Go Go.RowKit Go.Shelf
set_option linter.unusedVariables false
attribute [local go_sem] Oper.semAt_some

/-- A whole row is read, inside a fence. -/
theorem wpListIn_load_mid {F : Fence} {n : Nat} {P : Program} {ops : Array Oper} {rest : List Oper} {op : Oper} {a : Act} {w : World} {Q : Exit → Act → World → Prop} (hgd : op.guard = none) (ty : TypeId) (x : Operand) (ho : op.op = .load ty x)
    (b o : Nat) (hx : a.eval x = .pointer (some ⟨b, o, none⟩)) (cs : List Value) (d : TypeDesc) (hc : w.rangeAt b o cs)
    (hu : P.underlying ty = some d) (hd : d.isRow = true) (hi : (P.info? ty).map (·.size) = some cs.length)
    (h : wpListIn F n P ops Q rest (a.put op.dst (.agg cs.toArray)) w) : wpListIn F n P ops Q (op :: rest) a w := by
  refine wpListIn_plain hgd fun K hK' => ?_
  unfold Oper.wpIn
  refine ⟨?_, ?_⟩
  · simp [Oper.about, ho]
  · rw [Oper.semAt_plain F _ _ (by rw [ho]; intro c hc'; cases hc')]
    simp only [execOp, ho, hx, Instr.loadAt, Instr.sureAddr, Sem.run_bind, Sem.run_pure, Result.andThen_ok, run_loadVar_mid w b o ty cs d hc hu hd hi]
    exact hK' _ _ h
theorem wpListIn_load8 {F : Fence} {n : Nat} {P : Program} {ops : Array Oper} {rest : List Oper} {op : Oper} {a : Act} {w : World} {Q : Exit → Act → World → Prop} (hgd : op.guard = none) (ty : TypeId) (x : Operand) (ho : op.op = .load ty x)
    (b o : Nat) (hx : a.eval x = .pointer (some ⟨b, o, none⟩)) (l : List Nat) (d : TypeDesc) (hc : At8 w b o l)
    (hu : P.underlying ty = some d) (hd : d.isRow = true) (hi : (P.info? ty).map (·.size) = some (bcs l).size)
    (h : wpListIn F n P ops Q rest (a.put op.dst (.agg (bcs l))) w) : wpListIn F n P ops Q (op :: rest) a w :=
  wpListIn_load_mid hgd ty x ho b o hx (l.map bv) d hc hu hd (by rw [hi, bcs_size, List.length_map]) h
theorem wpList_load8 {P : Program} {ops : Array Oper} {rest : List Oper} {op : Oper} {a : Act} {w : World} {Q : Exit → Act → World → Prop} (hgd : op.guard = none) (ty : TypeId) (x : Operand) (ho : op.op = .load ty x)
    (b o : Nat) (hx : a.eval x = .pointer (some ⟨b, o, none⟩)) (l : List Nat) (d : TypeDesc) (hc : At8 w b o l)
    (hu : P.underlying ty = some d) (hd : d.isRow = true) (hi : (P.info? ty).map (·.size) = some (bcs l).size)
    (h : wpList P ops Q rest (a.put op.dst (.agg (bcs l))) w) : wpList P ops Q (op :: rest) a w :=
  wpList_load_mid hgd ty x ho b o hx (l.map bv) d hc hu hd (by rw [hi, bcs_size, List.length_map]) h
/-- A whole row is written, inside a fence. -/
theorem wpListIn_store_mid {F : Fence} {n : Nat} {P : Program} {ops : Array Oper} {rest : List Oper} {op : Oper} {a : Act} {w : World} {Q : Exit → Act → World → Prop} (hgd : op.guard = none) (ty : TypeId) (x y : Operand) (ho : op.op = .store ty x y)
    (b o : Nat) (cells : Array Value) (hx : a.eval x = .pointer (some ⟨b, o, none⟩)) (hy : a.eval y = .agg cells)
    (ht : w.there b o cells.size) (hi : (P.info? ty).map (·.size) = some cells.size) (h1 : cells.all (·.oneCell') = true)
    (h : wpListIn F n P ops Q rest (a.put op.dst undef) (w.setCells b o cells.toList)) : wpListIn F n P ops Q (op :: rest) a w := by
  refine wpListIn_plain hgd fun K hK' => ?_
  unfold Oper.wpIn
  refine ⟨?_, ?_⟩
  · simp [Oper.about, ho]
  · rw [Oper.semAt_plain F _ _ (by rw [ho]; intro c hc'; cases hc')]
    simp only [execOp, ho, hx, hy, Instr.storeAt, Instr.sureAddr, Sem.run_bind, Sem.run_pure, Result.andThen_ok, run_storeVar_mid w b o ty cells ht hi h1]
    exact hK' _ _ h
theorem bcs_list (l : List Nat) : (bcs l).toList = l.map bv := by simp [bcs]
theorem wpListIn_store8 {F : Fence} {n : Nat} {P : Program} {ops : Array Oper} {rest : List Oper} {op : Oper} {a : Act} {w : World} {Q : Exit → Act → World → Prop} (hgd : op.guard = none) (ty : TypeId) (x y : Operand) (ho : op.op = .store ty x y)
    (b o : Nat) (l : List Nat) (hx : a.eval x = .pointer (some ⟨b, o, none⟩)) (hy : a.eval y = .agg (bcs l))
    (ht : w.there b o (bcs l).size) (hi : (P.info? ty).map (·.size) = some (bcs l).size)
    (h : wpListIn F n P ops Q rest (a.put op.dst undef) (w.setCells b o (l.map bv))) : wpListIn F n P ops Q (op :: rest) a w :=
  wpListIn_store_mid hgd ty x y ho b o (bcs l) hx hy ht hi (bcs_one l) (by rw [bcs_list]; exact h)
theorem wpList_store8 {P : Program} {ops : Array Oper} {rest : List Oper} {op : Oper} {a : Act} {w : World} {Q : Exit → Act → World → Prop} (hgd : op.guard = none) (ty : TypeId) (x y : Operand) (ho : op.op = .store ty x y)
    (b o : Nat) (l : List Nat) (hx : a.eval x = .pointer (some ⟨b, o, none⟩)) (hy : a.eval y = .agg (bcs l))
    (ht : w.there b o (bcs l).size) (hi : (P.info? ty).map (·.size) = some (bcs l).size)
    (h : wpList P ops Q rest (a.put op.dst undef) (w.setCells b o (l.map bv))) : wpList P ops Q (op :: rest) a w :=
  wpList_store_mid hgd ty x y ho b o (bcs l) hx hy ht hi (bcs_one l) (by rw [bcs_list]; exact h)
theorem wp_load8 {P : Program} {op : Oper} {a : Act} {w : World} {K : Act → World → Prop} {Q : Exit → Act → World → Prop} (ty : TypeId) (x : Operand) (ho : op.op = .load ty x)
    (b o : Nat) (hx : a.eval x = .pointer (some ⟨b, o, none⟩)) (l : List Nat) (d : TypeDesc) (hc : At8 w b o l)
    (hu : P.underlying ty = some d) (hd : d.isRow = true) (hi : (P.info? ty).map (·.size) = some (bcs l).size)
    (h : K (a.put op.dst (.agg (bcs l))) w) : op.wp P a w K Q :=
  wp_load_mid ty x ho b o hx (l.map bv) d hc hu hd (by rw [hi, bcs_size, List.length_map]) h
theorem wp_store8 {P : Program} {op : Oper} {a : Act} {w : World} {K : Act → World → Prop} {Q : Exit → Act → World → Prop} (ty : TypeId) (x y : Operand) (ho : op.op = .store ty x y)
    (b o : Nat) (l : List Nat) (hx : a.eval x = .pointer (some ⟨b, o, none⟩)) (hy : a.eval y = .agg (bcs l))
    (ht : w.there b o (bcs l).size) (hi : (P.info? ty).map (·.size) = some (bcs l).size)
    (h : K (a.put op.dst undef) (w.setCells b o (l.map bv))) : op.wp P a w K Q :=
  wp_store_mid ty x y ho b o (bcs l) hx hy ht hi (bcs_one l) (by rw [bcs_list]; exact h)
theorem yieldsIf_load8 {P : Program} {ops : Array Oper} {S : World → Prop} {op : Oper} {a : Act} (hw : Region.wanted op (yielded ops a.tmps) = true) (ty : TypeId) (x : Operand) (ho : op.op = .load ty x)
    (b o : Nat) (hx : a.eval x = .pointer (some ⟨b, o, none⟩)) (l : List Nat) (d : TypeDesc) (hS : ∀ w, S w → At8 w b o l)
    (hu : P.underlying ty = some d) (hd : d.isRow = true) (hi : (P.info? ty).map (·.size) = some (bcs l).size) : YieldsIf P ops S op (.agg (bcs l)) a :=
  yieldsIf_load_mid hw ty x ho b o hx (l.map bv) d hS hu hd (by rw [hi, bcs_size, List.length_map])
theorem size8 {l : List Nat} (h : l.length = 8) : (Try.prog.info? 33).map (·.size) = some (bcs l).size := by rw [bcs_size, h]; kernel_rfl
abbrev Blk := { l : List Nat // B8 l }
def zeroB : Blk := ⟨blk fun _ => 0, blk_ok fun _ _ => by decide⟩
def nth (D : List (List Nat)) (hD : ∀ d ∈ D, B8 d) (i : Nat) : Blk := ⟨D.getD i zeroB.1, by
  rcases Nat.lt_or_ge i D.length with h | h
  · rw [getD_in h]; exact hD _ (List.getElem_mem h)
  · rw [getD_out h]; exact zeroB.2⟩
theorem flat_len : ∀ {D : List (List Nat)}, (∀ d ∈ D, d.length = 8) → D.flatten.length = D.length * 8
  | [], _ => rfl
  | d :: r, h => by
    rw [List.flatten_cons, List.length_append, flat_len (fun x hx => h x (List.mem_cons_of_mem _ hx)), h d List.mem_cons_self, List.length_cons]; omega
theorem flat_at : ∀ {D : List (List Nat)}, (∀ d ∈ D, d.length = 8) → ∀ {i : Nat} (hi : i < D.length) {j : Nat}, j < 8 → D.flatten[i * 8 + j]? = D[i][j]?
  | d :: r, h, 0, _, j, hj => by
    rw [List.flatten_cons, Nat.zero_mul, Nat.zero_add, List.getElem?_append_left (by rw [h d List.mem_cons_self]; exact hj)]; rfl
  | d :: r, h, i + 1, hi, j, hj => by
    have h8 := h d List.mem_cons_self
    rw [List.flatten_cons, List.getElem?_append_right (by omega), h8]
    have := flat_at (fun x hx => h x (List.mem_cons_of_mem _ hx)) (i := i) (by simpa using hi) hj
    rw [show (i + 1) * 8 + j - 8 = i * 8 + j by omega, this]
    rfl
/-- The slice value `v` reads as the blocks `D`. -/
def Bl (w : World) (v : Value) (D : List (List Nat)) : Prop :=
  ∃ A c, v = .slice A D.length c ∧ (D.length ≤ c ∧ c ≤ maxLen) ∧ (∀ d ∈ D, B8 d) ∧ (A = none → c = 0) ∧
    (0 < D.length → ∃ b off, A = some ⟨b, off, none⟩ ∧ w.rangeAt b off (D.flatten.map bv))
section
variable {w w' : World} {v : Value} {D : List (List Nat)}
theorem Bl.form (h : Bl w v D) : ∃ A c, v = .slice A D.length c := by obtain ⟨A, c, h, _⟩ := h; exact ⟨A, c, h⟩
theorem Bl.ok (h : Bl w v D) : ∀ d ∈ D, B8 d := by obtain ⟨_, _, _, _, h, _⟩ := h; exact h
theorem Bl.keep (h : Bl w v D) (hk : ∀ p : Addr, p.block < w.heap.size → w'.cell? p = w.cell? p) : Bl w' v D := by
  obtain ⟨A, c, rfl, hm, hl, hz, hc⟩ := h
  refine ⟨A, c, rfl, hm, hl, hz, fun hn => ?_⟩
  obtain ⟨b, off, rfl, hcell⟩ := hc hn
  exact ⟨b, off, rfl, fun j v hv => by
    have := hcell j v hv
    rw [hk ⟨b, off + j, none⟩ (World.block_lt_of_cell? w _ this)]; exact this⟩
theorem Bl.below (h : Bl w v D) {B : Nat} (hb : Below B w w') (hB : w.heap.size ≤ B) : Bl w' v D := h.keep fun _ hp => hb.cell (by omega)
theorem Bl.alloc (h : Bl w v D) (o : Obj) : Bl (w.alloc o) v D := h.keep fun p hp => World.cell?_alloc_lt w o p hp
theorem Bl.nil_ (w : World) : Bl w (.slice none 0 0) [] := ⟨none, 0, rfl, ⟨by decide, by decide⟩, fun _ h => (by cases h), fun _ => rfl, fun h => absurd h (by decide)⟩
theorem range_at8 {b off : Nat} (h : w.rangeAt b off (D.flatten.map bv)) (hD : ∀ d ∈ D, B8 d) {i : Nat} (hi : i < D.length) : At8 w b (off + i * 8) D[i] := fun j v hv => by
  have hj : j < 8 := by
    have := (List.getElem?_eq_some_iff.1 hv).1
    rw [List.length_map, (hD _ (List.getElem_mem hi)).1] at this; exact this
  rw [Nat.add_assoc]
  refine h (i * 8 + j) v ?_
  rw [List.getElem?_map, flat_at (fun d hd => (hD d hd).1) hi hj, ← List.getElem?_map]; exact hv
theorem Bl.at_ (h : Bl w v D) (hn : 0 < D.length) : ∃ b off c, v = .slice (some ⟨b, off, none⟩) D.length c ∧ (D.length ≤ c ∧ c ≤ maxLen) ∧ b < w.heap.size ∧ w.rangeAt b off (D.flatten.map bv) := by
  obtain ⟨A, c, rfl, hm, hl, hz, hc⟩ := h
  obtain ⟨b, off, rfl, hcell⟩ := hc hn
  refine ⟨b, off, c, rfl, hm, ?_, hcell⟩
  have h8 := (hl _ (List.getElem_mem hn)).1
  exact World.block_lt_of_cell? w _ ((range_at8 hcell hl hn).cell (k := 0) (by omega))
end

/-- What a round keeps: the blocks below n₀, but for block g. -/
def Kpt (g n₀ : Nat) (A B : World) : Prop := A.heap.size ≤ B.heap.size ∧ ∀ i, i < n₀ → i ≠ g → B.heap[i]? = A.heap[i]?
theorem Kpt.refl (g n₀ : Nat) (w : World) : Kpt g n₀ w w := ⟨Nat.le_refl _, fun _ _ _ => rfl⟩
theorem Kpt.trans {g n₀ : Nat} {A B C : World} (h : Kpt g n₀ A B) (k : Kpt g n₀ B C) : Kpt g n₀ A C := ⟨Nat.le_trans h.1 k.1, fun i hi hg => (k.2 i hi hg).trans (h.2 i hi hg)⟩
theorem Kpt.cell {g n₀ : Nat} {A B : World} (h : Kpt g n₀ A B) {p : Addr} (hp : p.block < n₀) (hg : p.block ≠ g) : B.cell? p = A.cell? p := World.cell?_of_block (h.2 _ hp hg)
theorem Kpt.of_below {g n₀ : Nat} {A B : World} (h : Below n₀ A B) : Kpt g n₀ A B := ⟨h.size, fun i hi _ => h.block i hi⟩
theorem Kpt.put {g n₀ : Nat} {w : World} (hn : n₀ ≤ w.heap.size) (W : World) (l : Nat) (o o' : Obj) (hl : w.heap.size ≤ l) (h : W.heap[l]? = some o) (_ : o.isCells = false) (_ : o.isWalk = false) : Kpt g n₀ W (W.putObj l o') :=
  ⟨(grownBy_putObj' W l o').size, fun i hi _ => World.putObj_heap_other (by omega)⟩
theorem At8.kpt {w w' : World} {g n₀ b o : Nat} {l : List Nat} (h : At8 w b o l) (hk : Kpt g n₀ w w') (hb : b < n₀) (hg : b ≠ g) : At8 w' b o l := fun j v hv => (hk.cell (p := ⟨b, o + j, none⟩) hb hg).trans (h j v hv)
def upto {α : Type} (f : Nat → α) (k : Nat) : List α := (List.range k).map f
theorem upto_succ {α : Type} (f : Nat → α) (k : Nat) : upto f (k + 1) = upto f k ++ [f k] := by simp [upto, List.range_succ]
theorem upto_length {α : Type} (f : Nat → α) (k : Nat) : (upto f k).length = k := by simp [upto]
def enc2 (x : Nat × Blk) : Array Value := #[.int .i64 (x.1 : Int), .agg (bcs x.2.1)]

set_option maxRecDepth 100000 in
set_option maxHeartbeats 2000000 in
/-- The closure of slices.Backward. -/
theorem back1_in (F : Fence) (m : Nat) (hF : F.fn 72) (hro : F.round = none) (hm : 1 ≤ m) (l B n₀ g b off n cap : Nat) (z : Nat → Blk) (hn : n ≤ 64) (hb : b < n₀) (hbg : b ≠ g) (hBg : B ≠ g) (J Jx : List (Nat × Blk) → World → Prop)
    (hY : ∀ pre x W, J pre W → pre.length < n → YieldAt F (m - 1) Try.prog l #[.int .i64 (x.1 : Int), .agg (bcs x.2.1)] W fun e W' =>
      (e = .returned (.bool true) ∧ J (pre ++ [x]) W' ∧ Kpt g n₀ W W') ∨ (e = .returned (.bool false) ∧ Jx (pre ++ [x]) W'))
    (W : World) (hB : W.cell? ⟨B, 0, none⟩ = some (.slice (some ⟨b, off, none⟩) n cap)) (hBn : B < n₀) (hc : ∀ j, j < n → At8 W b (off + j * 8) (z j).1) (h0 : J [] W) :
    CallsIn F m Try.prog 72 #[.func (.yield l) #[] #[], .pointer (some ⟨B, 0, none⟩)] W fun e W' => (∃ v, e = .returned v) ∧
      ((∃ ys, ys = upto (fun j => (n - 1 - j, z (n - 1 - j))) n ∧ J ys W') ∨ (∃ pre, (∃ k, k ≤ n ∧ pre = upto (fun j => (n - 1 - j, z (n - 1 - j))) k) ∧ Jx pre W')) := by
  refine callsIn_of_wp Try.func72 rfl hF ?_ hro
  simp only [Try.ntmps72, List.size_toArray, List.length_cons, List.length_nil, Nat.reduceAdd, Nat.reduceSub, Array.replicate_succ, Array.replicate_zero, List.push_toArray, List.append_toArray, List.nil_append, List.cons_append]
  gi_wp2
  gi_loopw [3] (fun i wr => ∃ p : Nat, p ≤ n ∧ i = .int .i64 ((p : Int) - 1) ∧ Hid (J (upto (fun j => (n - 1 - j, z (n - 1 - j))) (n - p)) wr ∧ Kpt g n₀ W wr))
    (fun i _ => (intOf i + 1).toNat)
  case atStart =>
    refine ⟨n, Nat.le_refl _, by go_num, Lib.hid ⟨?_, Kpt.refl _ _ _⟩⟩
    rw [Nat.sub_self]; exact h0
  case round =>
    obtain ⟨p, hp, rfl, H⟩ := hrel
    rcases p with _ | p
    · obtain ⟨hJ, hbel⟩ := H.out
      rw [Nat.sub_zero] at hJ
      gi_wp2
      go_end0
      exact ⟨⟨_, rfl⟩, .inl ⟨_, rfl, hJ⟩⟩
    · obtain ⟨hJ, hbel⟩ := H.out
      have e1 : ((p + 1 : Nat) : Int) - 1 = (p : Int) := by omega
      rw [e1]
      have e2 : n - 1 - (n - (p + 1)) = p := by omega
      obtain ⟨fn, tmps, assign, body, hy, hR⟩ := hY _ (p, z p) wr hJ (by rw [upto_length]; omega)
      dsimp only at hy
      have hB' := (hbel.cell (p := ⟨B, 0, none⟩) hBn hBg).trans hB
      have hz := Lib.hid ((hc p (by omega)).kpt hbel hb hbg)
      have si := Lib.hid (size8 (z p).2.1)
      have hpI : (p : Int) < (n : Int) := by omega
      have HC := Lib.hid hc
      clear hc hB e1
      gi_wp2_with (refine wpListIn_load8 rfl _ _ rfl _ _ rfl _ _ hz.out Try.underlying33 rfl si.out ?_)
      refine hR.mono ?_
      rintro e W3 (⟨rfl, hJ3, hk3⟩ | ⟨rfl, hJx3⟩)
      · gi_wp2
        go_roundw
        case rel =>
          refine ⟨p, by omega, rfl, Lib.hid ⟨?_, hbel.trans hk3⟩⟩
          rw [show n - p = n - (p + 1) + 1 by omega, upto_succ, e2]; exact hJ3
        case measure => simp [intOf]
      · gi_wp2
        refine bodyPost_ret (results_none rfl _ _ _) rfl ?_
        refine ⟨⟨_, rfl⟩, .inr ⟨_, ⟨n - (p + 1) + 1, by omega, rfl⟩, ?_⟩⟩
        rw [upto_succ, e2]; exact hJx3
end Go.Proofs.Ytheijobnmdbodaa
