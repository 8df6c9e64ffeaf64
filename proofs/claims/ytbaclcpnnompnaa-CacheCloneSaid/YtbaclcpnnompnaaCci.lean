/- Lists of operations that a call builds: copies, appends. -/
import Derived.Test.YtbaclcpnnompnaaCch
namespace Go.Proofs.Ytbaclcpnnompnaa
open Go Go.RowKit Med
set_option linter.unusedVariables false
set_option linter.unusedSimpArgs false
def zop : Value := .agg #[.bool false, .int .i64 0, .slice none 0 0]
theorem info_op : (Try.prog.info? 38).map (fun i => (i.zero, i.size, i.bytes)) = some (some zop, 3, 40) := by kernel_rfl
section
variable {Q : World → Value → List Nat → Prop} {A B : Nat} {w w' : World} {v : Value} {L : List Med.Op}
/-- The k-th three cells stand for the operation o. -/
def OpAt (Q : World → Value → List Nat → Prop) (w : World) (xs : List Value) (k : Nat) (o : Med.Op) : Prop :=
  xs[k * 3]? = some (.bool o.erase) ∧ xs[k * 3 + 1]? = some (.int .i64 o.pos) ∧ ∃ u, xs[k * 3 + 2]? = some u ∧ Q w u o.bytes ∧ u.oneCell' = true
theorem OpAt.left {xs ys : List Value} {k : Nat} {o : Med.Op} (h : OpAt Q w xs k o) (hk : k * 3 + 2 < xs.length) : OpAt Q w (xs ++ ys) k o := by
  obtain ⟨h0, h1, u, h2, h3⟩ := h
  refine ⟨?_, ?_, u, ?_, h3⟩
  · rw [List.getElem?_append_left (by omega)]; exact h0
  · rw [List.getElem?_append_left (by omega)]; exact h1
  · rw [List.getElem?_append_left (by omega)]; exact h2
theorem Olx.row (h : Olx Q B w v L) : ∃ xs, w.ownsRow B 38 3 v L.length xs ∧ xs.length = L.length * 3 ∧ ∀ k (hk : k < L.length), OpAt Q w xs k L[k] := by
  rcases h with ⟨rfl, rfl⟩ | ⟨g, cap, cs, rfl, hg, hr, hs, hm, hl, hc⟩
  · exact ⟨[], World.ownsRow_nil _ _ _ _, rfl, fun k hk => absurd hk (Nat.not_lt_zero k)⟩
  · refine ⟨cs.toList.take (L.length * 3), ⟨by simp; omega, Or.inr ⟨g, cap, cs, rfl, hg, hr, hl, hm, by omega, rfl⟩⟩, by simp; omega, fun k hk => ?_⟩
    obtain ⟨h0, h1, u, h2, h3⟩ := hc k hk
    refine ⟨?_, ?_, u, ?_, h3⟩
    · rw [List.getElem?_take_of_lt (by omega)]; simpa using h0
    · rw [List.getElem?_take_of_lt (by omega)]; simpa using h1
    · rw [List.getElem?_take_of_lt (by omega)]; simpa using h2
theorem Olx.of_row {g cap n : Nat} {xs : List Value} (hr : w.ownsRow B 38 3 (.slice (some ⟨g, 0, none⟩) n cap) n xs) (hn : L.length = n) (hxs : ∀ k (hk : k < L.length), OpAt Q w xs k L[k]) :
    Olx Q B w (.slice (some ⟨g, 0, none⟩) n cap) L := by
  subst hn
  obtain ⟨_, h⟩ := hr
  rcases h with ⟨h, _⟩ | ⟨g', cap', cur, hv', hb, hh, hle, hm, hs, ht⟩
  · cases h
  · injection hv' with hv1 hv2 hv3
    injection hv1 with hv1
    injection hv1 with hv1
    subst hv1 hv3
    refine Or.inr ⟨g, cap, cur, rfl, hb, hh, by omega, hm, hle, fun k hk => ?_⟩
    obtain ⟨h0, h1, u, h2, h3⟩ := hxs k hk
    refine ⟨?_, ?_, u, ?_, h3⟩
    · rw [← h0, ← ht, List.getElem?_take_of_lt (by omega)]; simp
    · rw [← h1, ← ht, List.getElem?_take_of_lt (by omega)]; simp
    · rw [← h2, ← ht, List.getElem?_take_of_lt (by omega)]; simp
theorem OpAt.one {xs : List Value} (hl : xs.length = L.length * 3) (h : ∀ k (hk : k < L.length), OpAt Q w xs k L[k]) : ∀ u ∈ xs, u.oneCell' = true := by
  intro u hu
  obtain ⟨j, hj, rfl⟩ := List.getElem_of_mem hu
  have hk : j / 3 < L.length := by omega
  obtain ⟨h0, h1, u, h2, _, h3⟩ := h (j / 3) hk
  have e : j = j / 3 * 3 ∨ j = j / 3 * 3 + 1 ∨ j = j / 3 * 3 + 2 := by omega
  have hx := List.getElem?_eq_getElem hj
  generalize xs[j] = y at hx ⊢
  rcases e with e | e | e
  · rw [e, h0] at hx; injection hx with hx; rw [← hx]; rfl
  · rw [e, h1] at hx; injection hx with hx; rw [← hx]; rfl
  · rw [e, h2] at hx; injection hx with hx; rw [← hx]; exact h3
end
/-- 'append([]Op{}, x...)'. -/
theorem wp_copy_O {Q : World → Value → List Nat → Prop} {A B : Nat} {w : World} {o : Oper} {a : Act} {K : Act → World → Prop} {Qx : Exit → Act → World → Prop} (s x : Operand)
    (ho : o.op = .call { callee := .builtin .append, args := #[s, x], argTypes := #[33, 33] })
    (b0 n c : Nat) (p : Option Addr) (L : List Med.Op) (hs : a.eval s = .slice (some ⟨b0, 0, none⟩) 0 0) (hrow : Row w b0 38 #[]) (hx : a.eval x = .slice p n c) (hn : L.length = n) (hF : Olx Q A w (.slice p n c) L) (hlen : n ≤ 100000) (hB : B ≤ b0)
    (hQ : ∀ w' u l, Tch 0 [38] w w' → Q w u l → Q w' u l)
    (h : ∀ g cap w', Olx Q B w' (.slice (some ⟨g, 0, none⟩) n cap) L → w.grownBy w' (some b0) → K (a.put o.dst (.slice (some ⟨g, 0, none⟩) n cap)) w') : o.wp Try.prog a w K Qx := by
  subst hn
  obtain ⟨i, hi, hz, hsz, hby⟩ := info_parts info_op
  by_cases h0 : L.length = 0
  · obtain rfl : L = [] := List.length_eq_zero_iff.1 h0
    exact wp_append_none s x i Try.underlying33 hi ho ⟨b0, 0, none⟩ 0 0 p c hs hx (Nat.le_refl _) (h b0 0 w (Or.inr ⟨b0, 0, #[], rfl, hB, hrow, rfl, Nat.zero_le _, Nat.le_refl _, fun k hk => absurd hk (Nat.not_lt_zero k)⟩) (World.grownBy.refl w _))
  · obtain ⟨xs, hrx, hxl, hxs⟩ := hF.row
    rcases hF with ⟨_, rfl⟩ | ⟨g, cap, cs, e, hg, hr, hsz2, hm, hl, hq⟩
    · exact absurd rfl h0
    · injection e with e1 e2 e3
      subst e1 e3
      have hown : w.ownsRow B 38 3 (.slice (some ⟨b0, 0, none⟩) 0 0) 0 [] := ⟨rfl, Or.inr ⟨b0, 0, #[], rfl, hB, hrow, Nat.le_refl 0, Nat.zero_le _, rfl, rfl⟩⟩
      refine wp_append_lies w s x _ ho B _ i _ 3 40 Try.underlying33 hi hz hsz hby rfl (by decide) _ 0 [] hs hown ⟨g, 0, none⟩ L.length c xs hx (by omega) (fun j u hj => ?_) (OpAt.one hxl hxs) (by omega) (by unfold maxLen; omega) (by omega) (by have := hrow.lt; omega) _ rfl fun g2 cap2 w' h1 h2 h3 h4 => ?_
      · rw [Go.WideShapes.add_plain, Nat.zero_add, hr.cell]
        obtain ⟨_, hrx⟩ := hrx
        rcases hrx with ⟨e, _⟩ | ⟨g', cap', cur, hv', hb, hh, hle, hm', hs', ht⟩
        · cases e
        · injection hv' with hv1 hv2 hv3
          injection hv1 with hv1
          injection hv1 with hv1
          subst hv1 hv3
          have : cs = cur := by
            have := hr.symm.trans hh
            injection this with this
            injection this
          subst this
          have hj3 : j < L.length * 3 := by have := (List.getElem?_eq_some_iff.1 hj).1; omega
          rw [← ht, List.getElem?_take_of_lt hj3] at hj
          simpa using hj
      · rw [Nat.zero_add] at h1 ⊢
        rw [List.nil_append] at h1
        have hc : Tch 0 [38] w w' := Tch.grown h2 (fun k hk => by injection hk with hk; subst hk; exact ⟨Nat.zero_le _, hrow.ty⟩) (by simp)
        exact h g2 cap2 w' (Olx.of_row h1 rfl fun k hk => by obtain ⟨a0, a1, u, a2, a3, a4⟩ := hxs k hk; exact ⟨a0, a1, u, a2, hQ _ _ _ hc a3, a4⟩) h2
/-- 'append(v, o)'. -/
theorem wp_push_O {Q : World → Value → List Nat → Prop} {B : Nat} {w : World} {o : Oper} {a : Act} {Kt : Act → World → Prop} {Qx : Exit → Act → World → Prop} (s x : Operand)
    (ho : o.op = .call { callee := .builtin .append, args := #[s, x], argTypes := #[33, 33] })
    (v : Value) (L : List Med.Op) (n b : Nat) (u : Value) (op : Med.Op) (hs : a.eval s = v) (hown : Olx Q B w v L) (hn : L.length = n) (hx : a.eval x = .slice (some ⟨b, 0, none⟩) 1 1) (hrow : Row w b 38 #[.bool op.erase, .int .i64 op.pos, u])
    (hu : Q w u op.bytes) (h1 : u.oneCell' = true) (hlen : n ≤ 100000) (hbase : B ≤ w.heap.size)
    (hQ : ∀ w' u l, Tch 0 [38] w w' → Q w u l → Q w' u l)
    (h : ∀ g cap w', Olx Q B w' (.slice (some ⟨g, 0, none⟩) (n + 1) cap) (L ++ [op]) → Tch B [38] w w' → Kt (a.put o.dst (.slice (some ⟨g, 0, none⟩) (n + 1) cap)) w') : o.wp Try.prog a w Kt Qx := by
  subst hn
  obtain ⟨i, hi, hz, hsz, hby⟩ := info_parts info_op
  obtain ⟨xs, hrx, hxl, hxs⟩ := hown.row
  refine wp_append_lies w s x _ ho B _ i _ 3 40 Try.underlying33 hi hz hsz hby rfl (by decide) v L.length xs hs hrx ⟨b, 0, none⟩ 1 1 [.bool op.erase, .int .i64 op.pos, u] hx rfl (fun j u' hj => ?_) (fun u' hu' => ?_) (by decide) (by unfold maxLen; omega) (by omega) hbase _ rfl fun g cap w' hown' hgrow hat _ => ?_
  · rw [Go.WideShapes.add_plain, Nat.zero_add, hrow.cell]
    simpa using hj
  · simp only [List.mem_cons, List.not_mem_nil, or_false] at hu'
    rcases hu' with rfl | rfl | rfl
    · rfl
    · rfl
    · exact h1
  · have hc : Tch B [38] w w' := Tch.grown hgrow hown.own (by simp)
    have hc0 := hc.mono (Nat.zero_le B) (fun t h => h)
    refine h g cap w' (Olx.of_row hown' (by simp) fun k hk => ?_) hc
    rcases Nat.lt_or_ge k L.length with hlt | hge
    · rw [List.getElem_append_left hlt]
      obtain ⟨a0, a1, u', a2, a3, a4⟩ := hxs k hlt
      exact OpAt.left ⟨a0, a1, u', a2, hQ _ _ _ hc0 a3, a4⟩ (by omega)
    · obtain rfl : k = L.length := by simp at hk; omega
      simp only [List.getElem_concat_length]
      refine ⟨?_, ?_, u, ?_, hQ _ _ _ hc0 hu, h1⟩
      · rw [← hxl]; simp
      · rw [← hxl]; simp
      · rw [← hxl]; simp
theorem range3 : Array.range 3 = #[0, 1, 2] := rfl
/-- A literal list of one operation. -/
theorem run_build_op (e : Bool) (p : Int) (A : Option Addr) (n c : Nat) (w : World) : (Instr.buildSlice 33 1 #[(0, .agg #[.bool e, .int .i64 p, .slice A n c])]).run Try.prog w = .ok (.slice (some ⟨w.heap.size, 0, none⟩) 1 1) (w.alloc (.cells #[.bool e, .int .i64 p, .slice A n c] 38)) := by
  obtain ⟨i, hi, hzz⟩ := Option.map_eq_some_iff.1 info_op
  simp only [Prod.mk.injEq] at hzz
  obtain ⟨hz, hs, hb⟩ := hzz
  simp [Instr.buildSlice, run_underlying Try.underlying33, sizeOf, typeInfo, hi, hs, zeroValue, hz, newRow, Instr.fill, zop, Value.cells, range3]
theorem wp_build_op {o : Oper} {a : Act} {w : World} {K : Act → World → Prop} {Q : Exit → Act → World → Prop} (x : Operand) (ho : o.op = .buildSlice 33 1 #[(0, x)]) (e : Bool) (p : Int) (A : Option Addr) (n c : Nat) (hx : a.eval x = .agg #[.bool e, .int .i64 p, .slice A n c])
    (hk : K (a.put o.dst (.slice (some ⟨w.heap.size, 0, none⟩) 1 1)) (w.alloc (.cells #[.bool e, .int .i64 p, .slice A n c] 38))) : o.wp Try.prog a w K Q := by
  unfold Oper.wp
  simp only [execOp, ho, List.map_toArray, List.map_cons, List.map_nil, hx, Sem.run_bind, Sem.run_pure, Result.andThen_ok, run_build_op e p A n c w]
  exact hk
end Go.Proofs.Ytbaclcpnnompnaa
