/- Layer 13: lists of faults that a call builds; contract of the reference: Within. -/
import Derived.Test.YtdjjihppaobbcaaFf
import Derived.Deep.AppendLies
namespace Go.Proofs.Ytdjjihppaobbcaa
open Go Go.RowKit Flt
set_option linter.unusedVariables false
set_option linter.unusedSimpArgs false
def zft : Value := .agg #[.int .i64 0, .int .i64 0, .int .i64 0]
theorem info_ft : (Try.prog.info? 80).map (fun i => (i.zero, i.size, i.bytes)) = some (some zft, 3, 24) := by kernel_rfl
theorem parts13 {P : Program} {t : TypeId} {z : Value} {s b : Nat} (info : (P.info? t).map (fun i => (i.zero, i.size, i.bytes)) = some (some z, s, b)) : ∃ i, P.info? t = some i ∧ i.zero = some z ∧ i.size = s ∧ i.bytes = b := by
  obtain ⟨i, hi, hzz⟩ := Option.map_eq_some_iff.1 info
  simp only [Prod.mk.injEq] at hzz
  exact ⟨i, hi, hzz.1, hzz.2.1, hzz.2.2⟩
theorem flat_len : ∀ L : List F, (L.flatMap fcs).length = L.length * 3
  | [] => rfl
  | f :: L => by rw [List.flatMap_cons, List.length_append, flat_len L]; simp [fcs]; omega
theorem flat_at : ∀ (L : List F) (k : Nat) (h : k < L.length) (j : Nat), j < 3 → (L.flatMap fcs)[k * 3 + j]? = (fcs L[k])[j]?
  | f :: L, 0, _, j, hj => by
    rw [List.flatMap_cons, List.getElem?_append_left (by simp [fcs]; omega)]; simp
  | f :: L, k + 1, h, j, hj => by
    rw [List.flatMap_cons, List.getElem?_append_right (by simp [fcs]; omega)]
    have e : (k + 1) * 3 + j - (fcs f).length = k * 3 + j := by simp [fcs]; omega
    rw [e, flat_at L k (by simpa using h) j hj]; rfl
/-- A list of faults whose block is the call's own. -/
def Owf (B : Nat) (w : World) (v : Value) (L : List F) : Prop := w.ownsRow B 80 3 v L.length (L.flatMap fcs) ∧ fits L
theorem Owf.nil_ (B : Nat) (w : World) : Owf B w (.slice none 0 0) [] := ⟨World.ownsRow_nil _ _ _ _, fun f hf => by cases hf⟩
theorem Owf.own {B : Nat} {w : World} {v : Value} {L : List F} (h : Owf B w v L) : ∀ k, v.ownBlock = some k → B ≤ k ∧ k < w.heap.size := h.1.lt
theorem Owf.fw {w w' : World} {B : Nat} {v : Value} {L : List F} (h : Owf B w v L) (hb : Below w.heap.size w w') : Owf B w' v L := by
  refine ⟨⟨h.1.1, ?_⟩, h.2⟩
  rcases h.1.2 with h1 | ⟨g, cap, cur, h1, h2, h3, h4⟩
  · exact Or.inl h1
  · have hg : g < w.heap.size := Row.lt (t := 80) (cs := cur) h3
    exact Or.inr ⟨g, cap, cur, h1, h2, (hb.block g hg).trans h3, h4⟩
theorem Owf.low {w : World} {B B' : Nat} {v : Value} {L : List F} (h : Owf B w v L) (hB : B' ≤ B) : Owf B' w v L := by
  refine ⟨⟨h.1.1, ?_⟩, h.2⟩
  rcases h.1.2 with h1 | ⟨g, cap, cur, h1, h2, h3⟩
  · exact Or.inl h1
  · exact Or.inr ⟨g, cap, cur, h1, Nat.le_trans hB h2, h3⟩
theorem Owf.fts {w : World} {B : Nat} {v : Value} {L : List F} (h : Owf B w v L) : Fts w v L := by
  obtain ⟨⟨hl, h⟩, hf⟩ := h
  rcases h with ⟨rfl, h0⟩ | ⟨g, cap, cur, rfl, hb, hh, hle, hm, hs, ht⟩
  · obtain rfl : L = [] := List.length_eq_zero_iff.1 h0
    exact Fts.nil_ w
  · refine ⟨_, cap, rfl, ⟨hle, hm⟩, hf, fun _ => ⟨g, 0, rfl, fun k hk j v hv => ?_⟩⟩
    have hj : j < 3 := by
      have := (List.getElem?_eq_some_iff.1 hv).1
      simpa [fcs] using this
    have e := flat_at L k hk j hj
    rw [hv, ← ht, List.getElem?_take_of_lt (by omega)] at e
    have hr : Row w g 80 cur := hh
    rw [Nat.zero_add, hr.cell]
    simpa using e
theorem Owf.form {w : World} {B : Nat} {v : Value} {L : List F} (h : Owf B w v L) : ∃ A c, v = .slice A L.length c := h.fts.form
/-- 'append(v, f)'. -/
theorem wp_push_f {B : Nat} {w : World} {o : Oper} {a : Act} {Kt : Act → World → Prop} {Qx : Exit → Act → World → Prop} (s x : Operand)
    (ho : o.op = .call { callee := .builtin .append, args := #[s, x], argTypes := #[24, 24] })
    (v : Value) (L : List F) (n b : Nat) (f : F) (hs : a.eval s = v) (hown : Owf B w v L) (hn : L.length = n) (hx : a.eval x = .slice (some ⟨b, 0, none⟩) 1 1) (hrow : Row w b 80 #[.int .i64 f.pos, .int .i64 f.kind, .int .i64 f.to])
    (hf : fits [f]) (hlen : (n + 1) * 24 ≤ 140737488355328) (hbase : B ≤ w.heap.size)
    (h : ∀ g cap w', Owf B w' (.slice (some ⟨g, 0, none⟩) (n + 1) cap) (L ++ [f]) → Below B w w' → Kt (a.put o.dst (.slice (some ⟨g, 0, none⟩) (n + 1) cap)) w') : o.wp Try.prog a w Kt Qx := by
  subst hn
  obtain ⟨i, hi, hz, hsz, hby⟩ := parts13 info_ft
  refine wp_append_lies w s x _ ho B _ i _ 3 24 Try.underlying24 hi hz hsz hby rfl (by decide) v L.length (L.flatMap fcs) hs hown.1 ⟨b, 0, none⟩ 1 1 (fcs f) hx rfl (fun j u' hj => ?_) (fun u' hu' => ?_) (by decide) (by unfold maxLen; omega) (by omega) hbase _ rfl fun g cap w' hown' hgrow hat _ => ?_
  · rw [Go.WideShapes.add_plain, Nat.zero_add, hrow.cell]
    simpa [fcs] using hj
  · simp only [fcs, List.mem_cons, List.not_mem_nil, or_false] at hu'
    rcases hu' with rfl | rfl | rfl <;> rfl
  · refine h g cap w' ⟨?_, fun y hy => ?_⟩ ((Below.refl B w).grown hgrow hbase fun k hk => (hown.own k hk).1)
    · rw [List.length_append, List.flatMap_append]
      simpa using hown'
    · rcases List.mem_append.1 hy with hy | hy
      · exact hown.2 y hy
      · exact hf y hy
theorem range13 : Array.range 3 = #[0, 1, 2] := rfl
theorem run_build_f (x y z : Int) (w : World) : (Instr.buildSlice 24 1 #[(0, .agg #[.int .i64 x, .int .i64 y, .int .i64 z])]).run Try.prog w = .ok (.slice (some ⟨w.heap.size, 0, none⟩) 1 1) (w.alloc (.cells #[.int .i64 x, .int .i64 y, .int .i64 z] 80)) := by
  obtain ⟨i, hi, hz, hs, hb⟩ := parts13 info_ft
  simp [Instr.buildSlice, run_underlying Try.underlying24, sizeOf, typeInfo, hi, hs, zeroValue, hz, newRow, Instr.fill, zft, Value.cells, range13]
theorem wp_build_f {o : Oper} {a : Act} {w : World} {K : Act → World → Prop} {Q : Exit → Act → World → Prop} (p : Operand) (ho : o.op = .buildSlice 24 1 #[(0, p)]) (x y z : Int) (hx : a.eval p = .agg #[.int .i64 x, .int .i64 y, .int .i64 z])
    (hk : K (a.put o.dst (.slice (some ⟨w.heap.size, 0, none⟩) 1 1)) (w.alloc (.cells #[.int .i64 x, .int .i64 y, .int .i64 z] 80))) : o.wp Try.prog a w K Q := by
  unfold Oper.wp
  simp only [execOp, ho, List.map_toArray, List.map_cons, List.map_nil, hx, Sem.run_bind, Sem.run_pure, Result.andThen_ok, run_build_f x y z w]
  exact hk
/-- The faults whose numbers lie in a range. -/
def wit (a b : Int) (L : List F) : List F := L.filter fun f => decide (a ≤ f.pos) && decide (f.pos < b)
theorem wit_step {a b : Int} {L : List F} {k : Nat} (hk : k < L.length) : wit a b (L.take (k + 1)) = wit a b (L.take k) ++ (if (decide (a ≤ L[k].pos) && decide (L[k].pos < b)) = true then [L[k]] else []) := by
  unfold wit
  rw [List.take_succ_eq_append_getElem hk, List.filter_append]
  congr 1
  simp only [List.filter_cons, List.filter_nil]
theorem wit_len (a b : Int) (L : List F) : (wit a b L).length ≤ L.length := List.length_filter_le _ _
def wiPost (a b : Int) (L : List F) (w : World) (e : Ending) (w' : World) : Prop := ∃ v, e = .returned v ∧ Owf w.heap.size w' v (wit a b L) ∧ Below w.heap.size w w'
end Go.Proofs.Ytdjjihppaobbcaa
