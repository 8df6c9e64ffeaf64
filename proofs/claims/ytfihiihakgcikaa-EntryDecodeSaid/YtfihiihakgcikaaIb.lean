/- Bytes that a call appends to a slice of its own; contracts of the reference's appending functions. -/
import Derived.Test.YtfihiihakgcikaaIa
import Derived.Test.YtfihiihakgcikaaGB
import Derived.Deep.DeepMust
namespace Go.Proofs.Ytfihiihakgcikaa
open Go Go.RowKit
set_option linter.unusedVariables false
set_option linter.unusedSimpArgs false
/-- A slice of bytes whose block is the call's own. -/
def OwB (w : World) (B : Nat) (v : Value) (l : List Nat) : Prop := w.ownsRow B 5 1 v l.length (l.map bv) ∧ ∀ x ∈ l, x < 256
theorem OwB.bs {w : World} {B : Nat} {v : Value} {l : List Nat} (h : OwB w B v l) : Bs w v l := Bs.of_own h.1 rfl h.2
theorem OwB.own {w : World} {B : Nat} {v : Value} {l : List Nat} (h : OwB w B v l) : ∀ k, v.ownBlock = some k → B ≤ k ∧ k < w.heap.size := h.1.lt
theorem OwB.below {w w' : World} {B : Nat} {v : Value} {l : List Nat} (h : OwB w B v l) (hb : Below w.heap.size w w') : OwB w' B v l := by
  refine ⟨⟨h.1.1, ?_⟩, h.2⟩
  rcases h.1.2 with h1 | ⟨g, cap, cur, h1, h2, h3, h4⟩
  · exact Or.inl h1
  · have hg : g < w.heap.size := Row.lt (t := 5) (cs := cur) h3
    exact Or.inr ⟨g, cap, cur, h1, h2, (hb.block g hg).trans h3, h4⟩
theorem OwB.mono {w : World} {B B' : Nat} {v : Value} {l : List Nat} (h : OwB w B v l) (hB : B' ≤ B) : OwB w B' v l := by
  refine ⟨⟨h.1.1, ?_⟩, h.2⟩
  rcases h.1.2 with h1 | ⟨g, cap, cur, h1, h2, h3⟩
  · exact Or.inl h1
  · exact Or.inr ⟨g, cap, cur, h1, Nat.le_trans hB h2, h3⟩
theorem OwB.made (w : World) {B : Nat} (hB : B ≤ w.heap.size) : OwB (w.alloc (.cells #[] 5)) B (.slice (some ⟨w.heap.size, 0, none⟩) 0 0) [] :=
  ⟨World.ownsRow_made w #[] 0 hB (Nat.zero_le _) rfl, fun _ h => by cases h⟩
theorem OwB.nil_ (w : World) (B : Nat) : OwB w B (.slice none 0 0) [] := ⟨⟨rfl, Or.inl ⟨rfl, rfl⟩⟩, fun _ h => by cases h⟩
/-- 'append(x, y...)' and 'append(x, a)': x the call's own, y any slice of bytes. -/
theorem wp_app {ops : Array Oper} {rest : List Oper} {o : Oper} {a : Act} {Q : Exit → Act → World → Prop} {w : World} (hgd : o.guard = none) (s x : Operand)
    (ho : o.op = .call { callee := .builtin .append, args := #[s, x], argTypes := #[27, 27] })
    (B : Nat) (v src : Value) (l d : List Nat) (hs : a.eval s = v) (hx : a.eval x = src) (hown : OwB w B v l) (hsrc : Bs w src d) (hlen : l.length + d.length ≤ 1099511627776) (hB : B ≤ w.heap.size)
    (h : ∀ v' w', OwB w' B v' (l ++ d) → Below B w w' → wpList Try.prog ops Q rest (a.put o.dst v') w') : wpList Try.prog ops Q (o :: rest) a w := by
  obtain ⟨i0, hi, hz0, hz1, hz2⟩ := info_parts info_u8
  refine wpList_append_bs hgd s x 27 ho B 5 i0 Try.underlying27 hi hz0 hz1 hz2 v src l.length _ hs hown.1 d hx hsrc (by unfold maxLen; omega) (by omega) hB fun v' w' h1 h2 => h v' w' ?_ ?_
  · refine ⟨?_, fun y hy => ?_⟩
    · rw [List.length_append, List.map_append]; exact h1
    · rcases List.mem_append.1 hy with h3 | h3
      · exact hown.2 y h3
      · exact hsrc.lt y h3
  · exact (Below.refl B w).grown h2 hB fun k hk => (hown.own k hk).1
/-- The same within a region that draws. -/
theorem wpO_app {o : Oper} {a : Act} {K : Act → World → Prop} {Q : Exit → Act → World → Prop} {w : World} (s x : Operand)
    (ho : o.op = .call { callee := .builtin .append, args := #[s, x], argTypes := #[27, 27] })
    (B : Nat) (v src : Value) (l d : List Nat) (hs : a.eval s = v) (hx : a.eval x = src) (hown : OwB w B v l) (hsrc : Bs w src d) (hlen : l.length + d.length ≤ 1099511627776) (hB : B ≤ w.heap.size)
    (h : ∀ v' w', OwB w' B v' (l ++ d) → Below B w w' → K (a.put o.dst v') w') : o.wp Try.prog a w K Q := by
  obtain ⟨i0, hi, hz0, hz1, hz2⟩ := info_parts info_u8
  obtain ⟨A, c, rfl, hm, hd, hA, hc⟩ := hsrc
  have fin : ∀ v' w', w'.ownsRow B 5 1 v' (l.length + d.length) (l.map bv ++ d.map bv) → w.grownBy w' v.ownBlock → K (a.put o.dst v') w' := fun v' w' h1 h2 => by
    refine h v' w' ⟨?_, fun y hy => ?_⟩ ((Below.refl B w).grown h2 hB fun k hk => (hown.own k hk).1)
    · rw [List.length_append, List.map_append]; exact h1
    · rcases List.mem_append.1 hy with h3 | h3
      · exact hown.2 y h3
      · exact hd y h3
  rcases A with _ | ad
  · have h0 : d.length = 0 := by
      rcases Nat.eq_zero_or_pos d.length with h0 | h0
      · exact h0
      · obtain ⟨b, off, h1, _⟩ := hc h0; cases h1
    obtain rfl : d = [] := List.length_eq_zero_iff.1 h0
    obtain rfl := hA rfl
    have hrun := run_append_owned_none (P := Try.prog) (w := w) B 27 o.type 5 i0 1 Try.underlying27 hi v l.length (l.map bv) hown.1
    have hx' : a.eval x = .slice none 0 0 := hx
    unfold Oper.wp
    simp [execOp, ho, resolve, invoke, builtin, hs, hx', hrun, Result.andThen]
    exact fin v w (by simpa using hown.1) (World.grownBy.refl w _)
  · refine wp_append_own w s x 27 ho B 5 i0 (.int .u8 0) 1 1 Try.underlying27 hi hz0 hz1 hz2 rfl (by decide) v l.length (l.map bv) hs hown.1 ad d.length c (d.map bv) hx (by simp) (fun j u hu => ?_) bv_one (by unfold maxLen; omega) (by omega) hB fun v' w' h1 h2 _ => fin v' w' h1 h2
    have hj : j < d.length := by
      rcases Nat.lt_or_ge j d.length with h1 | h1
      · exact h1
      · rw [List.getElem?_eq_none (by simpa using h1)] at hu; cases hu
    obtain ⟨b, off, h1, hcell⟩ := hc (by omega)
    cases h1
    rw [getD_bv hj] at hu
    rw [Go.WideShapes.add_plain, hcell j hj]
    exact hu
theorem runB_build_0 (w : World) : (Instr.buildSlice 27 0 #[]).run Try.prog w = .ok (.slice (some ⟨w.heap.size, 0, none⟩) 0 0) (w.alloc (.cells #[] 5)) := by
  obtain ⟨i, hi, hzz⟩ := Option.map_eq_some_iff.1 info_u8
  simp only [Prod.mk.injEq] at hzz
  obtain ⟨hz, hs, hb⟩ := hzz
  simp [Instr.buildSlice, run_underlying Try.underlying27, sizeOf, typeInfo, hi, hs, zeroValue, hz, newRow, Instr.fill, Value.cells, show Array.range 0 = #[] from rfl]
theorem wpB_build_0 {o : Oper} {a : Act} {w : World} {K : Act → World → Prop} {Q : Exit → Act → World → Prop} (ho : o.op = .buildSlice 27 0 #[])
    (hk : K (a.put o.dst (.slice (some ⟨w.heap.size, 0, none⟩) 0 0)) (w.alloc (.cells #[] 5))) : o.wp Try.prog a w K Q := by
  unfold Oper.wp
  simp only [execOp, ho, List.map_toArray, List.map_nil, Sem.run_bind, Sem.run_pure, Result.andThen_ok, runB_build_0 w]
  exact hk
/-- Bytes in new memory, all else as it was. -/
def newB (l : List Nat) (w : World) (e : Ending) (w' : World) : Prop := ∃ v, e = .returned v ∧ OwB w' w.heap.size v l ∧ Below w.heap.size w w'
theorem bs_one (w : World) (t : TypeId) (x : Nat) (hx : x < 256) : Bs (w.alloc (.cells #[.int .u8 (x : Int)] t)) (.slice (some ⟨w.heap.size, 0, none⟩) 1 1) [x] := by
  refine Bs.of_row (n := 1) (c := 1) (heap_alloc_new w _) rfl ⟨by decide, by decide⟩ (fun y hy => by simp at hy; omega) fun k hk => ?_
  obtain rfl : k = 0 := by omega
  rfl
theorem mod_u8 {m : Nat} : IntKind.u8.wrap ((m : Int) % 128) = ((m % 128 : Nat) : Int) := by rw [IntKind.wrap_u8]; omega
theorem add_u8 {m : Nat} : IntKind.u8.wrap (((m % 128 : Nat) : Int) + 128) = ((m % 128 + 128 : Nat) : Int) := by rw [IntKind.wrap_u8]; omega
theorem low_u8 {m : Nat} (h : m < 128) : IntKind.u8.wrap (m : Int) = (m : Int) := by rw [IntKind.wrap_u8]; omega
end Go.Proofs.Ytfihiihakgcikaa
