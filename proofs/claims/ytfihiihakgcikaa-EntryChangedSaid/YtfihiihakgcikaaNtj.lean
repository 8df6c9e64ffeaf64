/- Layer 15: what the laws' walks share: guarded loads of rows, Encode by cases, bytes set in place. -/
import Derived.Test.YtfihiihakgcikaaNti
namespace Go.Proofs.Ytfihiihakgcikaa
open Go Go.RowKit Ent
set_option linter.unusedVariables false
set_option linter.unusedSimpArgs false
/-- A load of a row whose guard says yes. -/
theorem wpList_load_want {P : Program} {ops : Array Oper} {rest : List Oper} {op : Oper} {a : Act} {w : World} {Q : Exit → Act → World → Prop} (hw : Region.wanted op (yielded ops a.tmps) = true) (ty : TypeId) (x : Operand) (ho : op.op = .load ty x)
    (b o : Nat) (hx : a.eval x = .pointer (some ⟨b, o, none⟩)) (cs : List Value) (d : TypeDesc) (hc : w.rangeAt b o cs)
    (hu : P.underlying ty = some d) (hd : d.isRow = true) (hi : (P.info? ty).map (·.size) = some cs.length)
    (h : wpList P ops Q rest (a.put op.dst (.agg cs.toArray)) w) : wpList P ops Q (op :: rest) a w :=
  wpList_step fun K hK => by
    simp only [hw, if_true]
    exact wp_load_mid ty x ho b o hx cs d hc hu hd hi (hK _ _ h)
theorem ent_info {e : E} (h : Fit e) : (Try.prog.info? 26).map (·.size) = some (ecs e).length := by rw [ecs_len h]; kernel_rfl
/-- The entry's block that a declaration makes and fills. -/
theorem ent_made (w : World) (e : E) (hf : Fit e) : ∃ (b : Nat) (W W' : World), w.heap.size = b ∧ w.alloc (.cells #[.int .i64 0, .int .i64 0, .int .u64 0, .int .u8 0, .int .u8 0, .int .u8 0, .int .u8 0, .int .u8 0, .int .u8 0, .int .u8 0, .int .u8 0] 26) = W ∧ W.setCells b 0 (ecs e) = W' ∧ W.there b 0 (ecs e).toArray.size ∧ Eb W' b e ∧ Below w.heap.size w W' := by
  refine ⟨_, _, _, rfl, rfl, rfl, ?_, ?_, ?_⟩
  · have h11 : (ecs e).toArray.size = 11 := List.size_toArray.trans (ecs_len hf)
    rw [h11]; exact (eb_zero w rfl).there ez_fit
  · exact (eb_zero w rfl).put ez_fit hf
  · exact below_setCells15 ((Below.refl _ _).alloc (Nat.le_refl _) _) _ _ _ (Nat.le_refl _)
theorem penc_yes (e : E) (t : Nat) (w : World) (hf : Fit e) (ht : t < 2 ^ 64) (ho : ok e) : Calls Try.prog 9 #[ev e, .int .u64 (t : Int)] w (fun r w' => ∃ x, r = .returned (.tuple #[x, .int .i64 0]) ∧ OwB w' w.heap.size x (enc e t) ∧ Below w.heap.size w w') :=
  (penc_any e t w hf ht).mono fun _ _ h => h.1 ho
theorem renc_yes (e : E) (t : Nat) (w : World) (hf : Fit e) (ht : t < 2 ^ 64) (ho : ok e) : Calls Try.prog 10 #[ev e, .int .u64 (t : Int)] w (fun r w' => ∃ x, r = .returned (.tuple #[x, .int .i64 0]) ∧ OwB w' w.heap.size x (enc e t) ∧ Below w.heap.size w w') :=
  (renc_any e t w hf ht).mono fun _ _ h => h.1 ho
theorem penc_no (e : E) (t : Nat) (w : World) (hf : Fit e) (ht : t < 2 ^ 64) (ho : ¬ ok e) : Calls Try.prog 9 #[ev e, .int .u64 (t : Int)] w (fun r w' => r = .returned (.tuple #[.slice none 0 0, .int .i64 1]) ∧ Below w.heap.size w w') :=
  (penc_any e t w hf ht).mono fun _ _ h => h.2 ho
theorem renc_no (e : E) (t : Nat) (w : World) (hf : Fit e) (ht : t < 2 ^ 64) (ho : ¬ ok e) : Calls Try.prog 10 #[ev e, .int .u64 (t : Int)] w (fun r w' => r = .returned (.tuple #[.slice none 0 0, .int .i64 1]) ∧ Below w.heap.size w w') :=
  (renc_any e t w hf ht).mono fun _ _ h => h.2 ho
/-- One byte of a slice of the call's own is changed in place. -/
theorem OwB.setb {w : World} {B g off n c : Nat} {l : List Nat} (h : OwB w B (.slice (some ⟨g, off, none⟩) n c) l) {j y : Nat} (hj : j < n) (hy : y < 256) : OwB (w.setCell ⟨g, off + j, none⟩ (.int .u8 (y : Int))) B (.slice (some ⟨g, off, none⟩) n c) (l.set j y) ∧ (∃ v, w.cell? ⟨g, off + j, none⟩ = some v) ∧ w.frozen? ⟨g, off + j, none⟩ = false ∧ B ≤ g := by
  obtain ⟨⟨h1, h2⟩, h3⟩ := h
  rcases h2 with ⟨h2, _⟩ | ⟨g', cap, cur, hv, hB, hh, hle, hm, hs, ht⟩
  · cases h2
  · injection hv with e1 e2 e3
    injection e1 with e1
    injection e1 with e4 e5 e6
    subst e4 e5 e2 e3
    have hr : Row w g 5 cur := hh
    rw [List.length_map] at h1
    refine ⟨⟨⟨by simp, Or.inr ⟨g, c, cur.setIfInBounds j (.int .u8 (y : Int)), by rw [List.length_set], hB, ?_, by rw [List.length_set]; exact hle, hm, by simpa using hs, ?_⟩⟩, fun x hx => ?_⟩, ⟨_, by rw [Nat.zero_add, hr.cell, Array.getElem?_eq_getElem (by omega)]⟩, hr.frozen _, hB⟩
    · rw [Nat.zero_add]; exact hr.store j _
    · rw [List.length_set, List.map_set, ← ht]
      simp only [Array.toList_setIfInBounds]
      rw [List.take_set]
      rfl
    · rcases List.mem_or_eq_of_mem_set hx with h | h
      · exact h3 x h
      · rw [h]; exact hy
/-- What Decode says of other lengths. -/
theorem dec_nil : decE [] = 5 ∧ decV [] = ez ∧ decT [] = 0 := by
  have h : decE [] = 5 := decE_len (by decide)
  obtain ⟨h1, h2⟩ := decV_bad (b := []) (by rw [h]; decide)
  exact ⟨h, h1, h2⟩
theorem ret_t {b : Bool} (h : b = true) : Ending.returned (.bool b) = .returned (.bool true) := by rw [h]
end Go.Proofs.Ytfihiihakgcikaa
