/- Lists of blocks in memory of the call's own; appending to them. -/
import Derived.Test.YtfhgalfdlkdliaaPn
import Derived.Deep.AppendLies
namespace Go.Proofs.Ytfhgalfdlkdliaa
open Go Go.RowKit
set_option linter.unusedVariables false

/-- A list of blocks that lies in a block from base on, or is nil. -/
def OwnB (w : World) (base : Nat) (v : Value) (D : List (List Nat)) : Prop := (∀ d ∈ D, B8 d) ∧ w.ownsRow base 44 8 v D.length (D.flatten.map bv)
theorem OwnB.bl {w : World} {base : Nat} {v : Value} {D : List (List Nat)} (h : OwnB w base v D) : Bl w v D := by
  obtain ⟨hD, hl, h⟩ := h
  rcases h with ⟨rfl, h0⟩ | ⟨g, cap, cur, rfl, hg, hh, hle, hm, hs, ht⟩
  · obtain rfl : D = [] := List.length_eq_zero_iff.1 h0
    exact Bl.nil_ w
  · refine ⟨_, cap, rfl, ⟨hle, hm⟩, hD, fun h => (by cases h), fun _ => ⟨g, 0, rfl, fun j u hu => ?_⟩⟩
    have hj : j < D.length * 8 := by
      have := (List.getElem?_eq_some_iff.1 hu).1
      omega
    rw [Nat.zero_add, cell_of_row w g j cur _ (0, 0) hh]
    rw [← ht, List.getElem?_take_of_lt hj] at hu
    simpa using hu
theorem OwnB.lt {w : World} {base : Nat} {v : Value} {D : List (List Nat)} (h : OwnB w base v D) : ∀ k, v.ownBlock = some k → base ≤ k ∧ k < w.heap.size := h.2.lt
theorem OwnB.below {w w' : World} {base B : Nat} {v : Value} {D : List (List Nat)} (h : OwnB w base v D) (hb : Below B w w') (hB : w.heap.size ≤ B) : OwnB w' base v D := by
  obtain ⟨hD, hl, h⟩ := h
  refine ⟨hD, hl, ?_⟩
  rcases h with h | ⟨g, cap, cur, rfl, hg, hh, hr⟩
  · exact .inl h
  · exact .inr ⟨g, cap, cur, rfl, hg, (hb.block g (by have := (Array.getElem?_eq_some_iff.1 hh).1; omega)).trans hh, hr⟩
theorem OwnB.new {w : World} {base : Nat} (hb : base ≤ w.heap.size) : OwnB (w.alloc (.cells #[] 44)) base (.slice (some ⟨w.heap.size, 0, none⟩) 0 0) [] :=
  ⟨fun _ h => (by cases h), World.ownsRow_made w #[] 0 hb (Nat.zero_le _) rfl⟩
/-- 'append(x, y...)': x a list of the call's own, y any. -/
theorem wpList_append_bl {w : World} {ops : Array Oper} {rest : List Oper} {o : Oper} {a : Act} {Q : Exit → Act → World → Prop} (hgd : o.guard = none) (s x : Operand)
    (ho : o.op = .call { callee := .builtin .append, args := #[s, x], argTypes := #[37, 37] })
    (base : Nat) (v src : Value) (D E : List (List Nat)) (hs : a.eval s = v) (hown : OwnB w base v D) (hx : a.eval x = src) (hsrc : Bl w src E) (hlen : D.length + E.length ≤ 1000) (hbase : base ≤ w.heap.size)
    (h : ∀ v' w', OwnB w' base v' (D ++ E) → w.grownBy w' v.ownBlock → wpList Try.prog ops Q rest (a.put o.dst v') w') : wpList Try.prog ops Q (o :: rest) a w := by
  obtain ⟨i, hi, hzz⟩ := Option.map_eq_some_iff.1 info_blk
  simp only [Prod.mk.injEq] at hzz
  obtain ⟨hz, hsz, hby⟩ := hzz
  obtain ⟨A, c, rfl, hm, hE, hA, hc⟩ := hsrc
  rcases A with _ | ad
  · have h0 : E.length = 0 := by
      rcases Nat.eq_zero_or_pos E.length with h0 | h0
      · exact h0
      · obtain ⟨b, off, h1, _⟩ := hc h0; cases h1
    obtain rfl : E = [] := List.length_eq_zero_iff.1 h0
    obtain rfl := hA rfl
    exact wpList_append_own_none hgd s x _ ho base _ i 8 Try.underlying37 hi v D.length _ hs hown.2 hx (h v w (by rw [List.append_nil]; exact hown) (World.grownBy.refl w _))
  · refine wpList_append_own w hgd s x _ ho base _ i _ 8 8 Try.underlying37 hi hz hsz hby rfl (by decide) v D.length _ hs hown.2 ad E.length c (E.flatten.map bv) hx (by rw [List.length_map, flat_len fun d hd => (hE d hd).1]) (fun j u hu => ?_) bv_one (by unfold maxLen; omega) (by omega) hbase fun v' w' h1 h2 _ => h v' w' ⟨fun d hd => (List.mem_append.1 hd).elim (hown.1 d) (hE d), by rw [List.length_append, List.flatten_append, List.map_append]; exact h1⟩ h2
    have hj : j < E.flatten.length := by
      have := (List.getElem?_eq_some_iff.1 hu).1
      rwa [List.length_map] at this
    rw [flat_len fun d hd => (hE d hd).1] at hj
    obtain ⟨b, off, h1, hcell⟩ := hc (by omega)
    cases h1
    rw [Go.WideShapes.add_plain]
    exact hcell j u hu
end Go.Proofs.Ytfhgalfdlkdliaa
