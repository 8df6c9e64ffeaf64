/- Laws: a copy of numbers behind an empty literal. -/
import Derived.Test.YtnnacofjogfkeaaDoorOwr
namespace Go.Proofs.YtnnacofjogfkeaaDoor
open Go Go.RowKit Pl
set_option linter.unusedVariables false
set_option linter.unusedSimpArgs false

theorem run_build_0 (w : World) : (Instr.buildSlice 40 0 #[]).run Tryd.prog w = .ok (.slice (some ⟨w.heap.size, 0, none⟩) 0 0) (w.alloc (.cells #[] 3)) := by
  obtain ⟨i, hi, hzz⟩ := Option.map_eq_some_iff.1 info_int
  simp only [Prod.mk.injEq] at hzz
  obtain ⟨hz, hs, hb⟩ := hzz
  simp [Instr.buildSlice, run_underlying Tryd.underlying40, sizeOf, typeInfo, hi, hs, zeroValue, hz, newRow, Instr.fill, Value.cells, show Array.range 0 = #[] from rfl]
theorem wp_build_0 {o : Oper} {a : Act} {w : World} {K : Act → World → Prop} {Q : Exit → Act → World → Prop} (ho : o.op = .buildSlice 40 0 #[])
    (hk : K (a.put o.dst (.slice (some ⟨w.heap.size, 0, none⟩) 0 0)) (w.alloc (.cells #[] 3))) : o.wp Tryd.prog a w K Q := by
  unfold Oper.wp
  simp only [execOp, ho, List.map_toArray, List.map_nil, Sem.run_bind, Sem.run_pure, Result.andThen_ok, run_build_0 w]
  exact hk
/-- A literal list of one row. -/
theorem run_build_s (u : Value) (hu : u.cells = #[u]) (w : World) : (Instr.buildSlice 23 1 #[(0, u)]).run Tryd.prog w = .ok (.slice (some ⟨w.heap.size, 0, none⟩) 1 1) (w.alloc (.cells #[u] 40)) := by
  obtain ⟨i, hi, hzz⟩ := Option.map_eq_some_iff.1 info_rws
  simp only [Prod.mk.injEq] at hzz
  obtain ⟨hz, hs, hb⟩ := hzz
  simp [Instr.buildSlice, run_underlying Tryd.underlying23, sizeOf, typeInfo, hi, hs, zeroValue, hz, newRow, Instr.fill, hu, show Array.range 1 = #[0] from rfl]
theorem wp_build_s {o : Oper} {a : Act} {w : World} {K : Act → World → Prop} {Q : Exit → Act → World → Prop} (x : Operand) (ho : o.op = .buildSlice 23 1 #[(0, x)]) (u : Value) (hu : u.cells = #[u]) (hx : a.eval x = u)
    (hk : K (a.put o.dst (.slice (some ⟨w.heap.size, 0, none⟩) 1 1)) (w.alloc (.cells #[u] 40))) : o.wp Tryd.prog a w K Q := by
  unfold Oper.wp
  simp only [execOp, ho, List.map_toArray, List.map_cons, List.map_nil, hx, Sem.run_bind, Sem.run_pure, Result.andThen_ok, run_build_s u hu w]
  exact hk
/-- 'append([]int{}, x...)'. -/
theorem wp_copy_n {w : World} {o : Oper} {a : Act} {K : Act → World → Prop} {Q : Exit → Act → World → Prop} (s x : Operand)
    (ho : o.op = .call { callee := .builtin .append, args := #[s, x], argTypes := #[40, 40] })
    (b0 : Nat) (ad : Addr) (k c : Nat) (l : List Nat) (hs : a.eval s = .slice (some ⟨b0, 0, none⟩) 0 0) (hrow : Row w b0 3 #[]) (hx : a.eval x = .slice (some ad) k c) (hl : l.length = k) (hk : 0 < k) (hk2 : k ≤ 100000)
    (hcell : ∀ j, j < k → w.cell? (ad.add j) = some (.int .i64 ((l.getD j 0 : Nat) : Int))) (base : Nat) (hb : base ≤ b0)
    (h : ∀ g cap w', OwnL Nv w' base 3 (.slice (some ⟨g, 0, none⟩) k cap) l → w.grownBy w' (some b0) → (g = b0 ∨ g = w.heap.size) → K (a.put o.dst (.slice (some ⟨g, 0, none⟩) k cap)) w') : o.wp Tryd.prog a w K Q := by
  obtain ⟨i, hi, hz, hsz, hby⟩ := info_parts info_int
  have hown : w.ownsRow base 3 1 (.slice (some ⟨b0, 0, none⟩) 0 0) 0 [] := ⟨rfl, Or.inr ⟨b0, 0, #[], rfl, hb, hrow, Nat.le_refl 0, Nat.zero_le _, rfl, rfl⟩⟩
  have hne : (l.map fun y : Nat => Value.int .i64 (y : Int)).length = k * 1 := by simp [hl]
  refine wp_append_lies w s x _ ho base _ i _ 1 8 Tryd.underlying40 hi hz hsz hby rfl (by decide) _ 0 [] hs hown ad k c (l.map fun y : Nat => Value.int .i64 (y : Int)) hx hne (fun j u hj => ?_) (fun u hu => ?_) hk (by unfold maxLen; omega) (by omega) (by have := hrow.lt; omega) _ rfl fun g cap w' h1 h2 h3 h4 => ?_
  · rw [List.getElem?_map] at hj
    obtain ⟨y, hy, rfl⟩ := Option.map_eq_some_iff.1 hj
    have hj2 := (List.getElem?_eq_some_iff.1 hy).1
    rw [hcell j (by omega), getD_in hj2]
    rw [List.getElem?_eq_getElem hj2] at hy
    rw [Option.some.inj hy]
  · obtain ⟨y, _, rfl⟩ := List.mem_map.1 hu; rfl
  · rw [Nat.zero_add] at h1 ⊢
    rw [List.nil_append] at h1
    refine h g cap w' ?_ h2 (by rcases h3 with h3 | h3; exact .inl (by injection h3 with h3; exact h3.symm); exact .inr h3)
    obtain ⟨_, h1⟩ := h1
    rcases h1 with ⟨h1, _⟩ | ⟨g', cap', cur, hv, hb', hh, hle, hm, hs', ht⟩
    · cases h1
    · injection hv with hv1 hv2 hv3
      injection hv1 with hv1
      injection hv1 with hv1
      subst hv1 hv3
      refine OwnL.of_wk ⟨cur, hh, by omega, hm, by omega, fun j hj => ?_⟩ hb' hl
      have h5 : cur[j]? = (l.map fun y : Nat => Value.int .i64 (y : Int))[j]? := by
        rw [← ht, List.getElem?_take_of_lt (by omega)]; simp
      rw [List.getElem?_map, List.getElem?_eq_getElem hj] at h5
      exact ⟨_, h5, fun _ _ => rfl⟩
end Go.Proofs.YtnnacofjogfkeaaDoor
