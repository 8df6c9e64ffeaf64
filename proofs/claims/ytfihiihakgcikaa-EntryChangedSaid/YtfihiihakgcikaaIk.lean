/- The reference's Block. WRITTEN BY gen_Ik.py. -/
import Derived.Test.YtfihiihakgcikaaIj
import Derived.Deep.MidRow
namespace Go.Proofs.Ytfihiihakgcikaa
open Go Go.RowKit
set_option linter.unusedVariables false
set_option linter.unusedSimpArgs false
theorem rw_new (w : World) (cs : Array Value) (t : TypeId) {g : Nat} (h : w.heap.size = g) : Row (w.alloc (.cells cs t)) g t cs := h ▸ heap_alloc_new w _
theorem rw_other {w : World} {g : Nat} {t : TypeId} {cs : Array Value} (h : Row w g t cs) {k : Nat} (hk : g ≠ k) (i : Nat) (u : Value) : Row (w.setCell ⟨k, i, none⟩ u) g t cs := (Below.heap_setCell w ⟨k, i, none⟩ u g hk).trans h
theorem rw_others {g : Nat} {t : TypeId} {cs : Array Value} {k : Nat} (hk : g ≠ k) : ∀ (vs : List Value) (o : Nat) {w : World}, Row w g t cs → Row (w.setCells k o vs) g t cs
  | [], _, _, h => h
  | v :: r, o, _, h => rw_others hk r (o + 1) (rw_other h hk o v)
theorem rw_fw {w w' : World} {g : Nat} {t : TypeId} {cs : Array Value} (h : Row w g t cs) (hb : Below w.heap.size w w') : Row w' g t cs := h.below hb h.lt
theorem rw_ch {o : Nat → Prop} {w w' : World} {g : Nat} {t : TypeId} {cs : Array Value} (h : Row w g t cs) (hc : Chg o w w') (hn : ¬ o g) : Row w' g t cs := (hc.block g h.lt hn).trans h
theorem rw_there {w : World} {g : Nat} {t : TypeId} {cs : Array Value} (h : Row w g t cs) {n : Nat} (hs : n ≤ cs.size) : w.there g 0 n := fun j hj =>
  ⟨by rw [Nat.zero_add, h.cell, Array.getElem?_eq_getElem (by omega)]; rfl, h.frozen _⟩
theorem rw_range {w : World} {g : Nat} {t : TypeId} {l : List Value} (h : Row w g t l.toArray) : w.rangeAt g 0 l := fun j v hv => by
  rw [Nat.zero_add, h.cell, List.getElem?_toArray]; exact hv
theorem rw_puts {w : World} {g : Nat} {t : TypeId} : ∀ {vs : List Value} {cs : Array Value} {o : Nat}, Row w g t cs → ∃ cs', Row (w.setCells g o vs) g t cs' ∧ cs'.size = cs.size ∧ ∀ i, i < cs.size → cs'[i]? = if o ≤ i ∧ i < o + vs.length then vs[i - o]? else cs[i]? := by
  intro vs
  induction vs generalizing w with
  | nil => exact fun {cs o} h => ⟨cs, h, rfl, fun i _ => by rw [if_neg (by simp only [List.length_nil]; omega)]⟩
  | cons v r ih =>
    intro cs o h
    obtain ⟨cs', h1, h2, h3⟩ := ih (o := o + 1) (h.store o v)
    refine ⟨cs', h1, by rw [h2]; simp, fun i hi => ?_⟩
    rw [h3 i (by simpa using hi)]
    by_cases e : i = o
    · subst e
      rw [if_neg (by omega), if_pos (by simp)]
      simp [Array.getElem?_setIfInBounds_self_of_lt hi]
    · by_cases e2 : o + 1 ≤ i ∧ i < o + 1 + r.length
      · rw [if_pos e2, if_pos (by simp; omega)]
        obtain ⟨d, hd⟩ : ∃ d, i - o = d + 1 := ⟨i - o - 1, by omega⟩
        rw [hd, List.getElem?_cons_succ]; congr 1; omega
      · rw [if_neg e2, if_neg (by simp; omega), Array.getElem?_setIfInBounds_ne (by omega)]
theorem rw_put {w : World} {g : Nat} {t : TypeId} {cs ds : Array Value} (h : Row w g t cs) (hs : cs.size = ds.size) : Row (w.setCells g 0 ds.toList) g t ds := by
  obtain ⟨cs', h1, h2, h3⟩ := rw_puts (vs := ds.toList) (o := 0) h
  have : cs' = ds := by
    refine Array.ext_getElem? fun i => ?_
    rcases Nat.lt_or_ge i ds.size with hi | hi
    · rw [h3 i (by omega), if_pos (by simp; omega), Nat.sub_zero, Array.getElem?_toList]
    · rw [Array.getElem?_eq_none (by omega), Array.getElem?_eq_none (by omega)]
  subst this; exact h1
theorem rw_chg {o : Nat → Prop} {a b : World} (h : Chg o a b) {g : Nat} (hg : o g) : ∀ (vs : List Value) (i : Nat), Chg o a (b.setCells g i vs) := by
  intro vs
  induction vs generalizing b with
  | nil => exact fun i => h
  | cons v r ih => exact fun i => ih (h.setCell (p := ⟨g, i, none⟩) hg v) (i + 1)
theorem rw_below {B : Nat} {w w' : World} (h : Below B w w') : ∀ (vs : List Value) (g o : Nat), B ≤ g → Below B w (w'.setCells g o vs) := by
  intro vs
  induction vs generalizing w' with
  | nil => exact fun g o _ => h
  | cons v r ih => exact fun g o hg => ih (h.setCell (p := ⟨g, o, none⟩) hg v) g (o + 1) hg
theorem res_row_tmp {P : Program} {fn : Func} {p q : Tmp} {ty : TypeId} (h : fn.results = #[.cell p ty, .tmp q]) (tmps : Array Value) (w : World) (g : Nat) (t : TypeId) (cs : Array Value) (fr : Nat × Nat) (d : TypeDesc)
    (hp : tmps.getD p undef = .pointer (some ⟨g, 0, none⟩)) (hg : w.heap[g]? = some (.cells cs t fr))
    (hu : P.underlying ty = some d) (hd : (match d with | .struct _ | .array _ _ => true | _ => false) = true) (hi : (P.info? ty).map (·.size) = some cs.size) :
    (results fn tmps).run P w = .ok (.tuple #[.agg cs, tmps.getD q undef]) w := by
  have hp' : tmps[p]?.getD undef = .pointer (some ⟨g, 0, none⟩) := by simpa using hp
  simp [results, h, hp', asAddr, run_loadVar_row w g t ty cs fr d hg hu hd hi]
/-- The cells of a block. -/
def bkc (l : List Nat) : Array Value := (l.map bv).toArray
theorem bkc_size (l : List Nat) : (bkc l).size = l.length := by simp [bkc]
theorem bkc_one (l : List Nat) : (bkc l).all (·.oneCell') = true := by simp [bkc, bv, Value.oneCell']
theorem bkc_info {l : List Nat} (h : l.length = 8) : (Try.prog.info? 24).map (·.size) = some (bkc l).size := by rw [bkc_size, h]; kernel_rfl
theorem bkc_at {l : List Nat} {k : Nat} (h : k < l.length) : (bkc l)[k]? = some (.int .u8 ((l.getD k 0 : Nat) : Int)) := by
  simp only [bkc, List.getElem?_toArray]; exact getD_bv h
theorem bkc_nil : (#[.int .u8 0, .int .u8 0, .int .u8 0, .int .u8 0, .int .u8 0, .int .u8 0, .int .u8 0, .int .u8 0] : Array Value) = bkc [0, 0, 0, 0, 0, 0, 0, 0] := rfl
def kPost (l : List Nat) (bad : Bool) (R : World → List Nat → Bool → Prop) (o : Nat → Prop) (w : World) (e : Ending) (w' : World) : Prop :=
  e = .returned (.tuple #[.agg (bkc (Cod.rK l bad).1), .int .i64 ((Cod.rK l bad).2.1 : Int)]) ∧ R w' (Cod.rK l bad).2.2.1 (Cod.rK l bad).2.2.2 ∧ Chg o w w'
namespace Cod
theorem rK_out {l : List Nat} {bad : Bool} (h : l.length < 8) : rK l bad = ([0, 0, 0, 0, 0, 0, 0, 0], 5, [], true) := if_pos h
theorem rK_in {l : List Nat} {bad : Bool} (h : ¬ l.length < 8) : rK l bad = (l.take 8, 0, l.drop 8, bad) := if_neg h
end Cod
/-- Changes of a world with more blocks, of which some are new. -/
theorem chg_down {o p : Nat → Prop} {w W v : World} (h : Below w.heap.size w W) (hc : Chg p W v) (hp : ∀ k, k < w.heap.size → p k → o k) : Chg o w v :=
  ⟨hc.os.trans h.os, hc.tape.trans h.tape, hc.output.trans h.output, Nat.le_trans h.size hc.size, fun k hk hn => (hc.block k (Nat.lt_of_lt_of_le hk h.size) fun h2 => hn (hp k hk h2)).trans (h.block k hk)⟩

/-- The state of the copying loop. -/
def CpSt (w wr : World) (B k : Nat) (z l : List Nat) : Prop := Below B w wr ∧ Row wr B 24 (bkc z) ∧ ∃ cs, Row wr (B + 1) 24 cs ∧ cs.size = 8 ∧ ∀ j, j < k → cs[j]? = some (.int .u8 ((l.getD j 0 : Nat) : Int))
theorem CpSt.next {w wr : World} {B k : Nat} {z l : List Nat} (h : CpSt w wr B k z l) (hk : k < 8) {x : Nat} (hx : l.getD k 0 = x) : CpSt w (wr.setCell ⟨B + 1, k, none⟩ (.int .u8 (x : Int))) B (k + 1) z l := by
  obtain ⟨h1, h2, cs, h3, h4, h5⟩ := h
  refine ⟨h1.setCell (p := ⟨B + 1, k, none⟩) (Nat.le_succ B) _, rw_other h2 (by omega) _ _, cs.setIfInBounds k (.int .u8 (x : Int)), h3.store k _, by rw [Array.size_setIfInBounds]; exact h4, fun j hj => ?_⟩
  by_cases e : j = k
  · subst e; rw [Array.getElem?_setIfInBounds_self_of_lt (by omega), hx]
  · rw [Array.getElem?_setIfInBounds_ne (fun h => e h.symm)]; exact h5 j (by omega)
theorem bkc_of {cs : Array Value} {l : List Nat} (h8 : cs.size = 8) (hl : ¬ l.length < 8) (h : ∀ j, j < 8 → cs[j]? = some (.int .u8 ((l.getD j 0 : Nat) : Int))) : cs = bkc (l.take 8) := by
  refine Array.ext_getElem? fun i => ?_
  rcases Nat.lt_or_ge i 8 with hi | hi
  · rw [h i hi, bkc_at (by rw [List.length_take]; omega), getD_in (by omega), getD_in (by rw [List.length_take]; omega), List.getElem_take]
  · rw [Array.getElem?_eq_none (by omega), Array.getElem?_eq_none (by rw [bkc_size, List.length_take]; omega)]
end Go.Proofs.Ytfihiihakgcikaa
