/- Pushing a block to an own list beside another one; parity of sums and multiples. -/
import Derived.Test.YtfhgalfdlkdliaaPq
namespace Go.Proofs.Ytfhgalfdlkdliaa
open Go Go.RowKit Lin
set_option linter.unusedVariables false

section
variable {w : World}
/-- 'append(x, b)' at the operation: where the new list lies. -/
theorem wp_push_bl {o : Oper} {a : Act} {K : Act → World → Prop} {Q : Exit → Act → World → Prop} (s x : Operand)
    (ho : o.op = .call { callee := .builtin .append, args := #[s, x], argTypes := #[37, 37] })
    (base : Nat) (v : Value) (D : List (List Nat)) (n : Nat) (b : List Nat) (bl c : Nat) (hs : a.eval s = v) (hown : OwnB w base v D) (hn : D.length = n) (hx : a.eval x = .slice (some ⟨bl, 0, none⟩) 1 c) (hsrc : Bl w (.slice (some ⟨bl, 0, none⟩) 1 c) [b]) (hlen : n ≤ 1000) (hbase : base ≤ w.heap.size)
    (h : ∀ g cap w', OwnB w' base (.slice (some ⟨g, 0, none⟩) (n + 1) cap) (D ++ [b]) → w.grownBy w' v.ownBlock → (v.ownBlock = some g ∨ g = w.heap.size) → g < w'.heap.size → K (a.put o.dst (.slice (some ⟨g, 0, none⟩) (n + 1) cap)) w') : o.wp Try.prog a w K Q := by
  subst hn
  obtain ⟨i, hi, hzz⟩ := Option.map_eq_some_iff.1 info_blk
  simp only [Prod.mk.injEq] at hzz
  obtain ⟨hz, hsz, hby⟩ := hzz
  have hb : B8 b := hsrc.ok b List.mem_cons_self
  have hr := hsrc.at8 (i := 0) (by simp)
  refine wp_append_lies w s x _ ho base _ i _ 8 8 Try.underlying37 hi hz hsz hby rfl (by decide) v D.length _ hs hown.2 ⟨bl, 0, none⟩ 1 c (b.map bv) hx (by rw [List.length_map, hb.1]) (fun j u hu => ?_) bv_one (by decide) (by unfold maxLen; omega) (by omega) hbase _ rfl fun g cap w' h1 h2 h3 h4 => h g cap w' ⟨fun d hd => ?_, ?_⟩ h2 h3 h4
  · have := hr j u hu
    rw [Go.WideShapes.add_plain]; rw [Nat.zero_mul, Nat.add_zero] at this; exact this
  · rcases List.mem_append.1 hd with hd | hd
    · exact hown.1 d hd
    · rw [List.mem_singleton.1 hd]; exact hb
  · rw [List.length_append, List.flatten_append, List.map_append, List.length_singleton]
    simpa using h1
theorem wpList_push_bl {ops : Array Oper} {rest : List Oper} {o : Oper} {a : Act} {Q : Exit → Act → World → Prop} (hgd : o.guard = none) (s x : Operand)
    (ho : o.op = .call { callee := .builtin .append, args := #[s, x], argTypes := #[37, 37] })
    (base : Nat) (v : Value) (D : List (List Nat)) (n : Nat) (b : List Nat) (bl c : Nat) (hs : a.eval s = v) (hown : OwnB w base v D) (hn : D.length = n) (hx : a.eval x = .slice (some ⟨bl, 0, none⟩) 1 c) (hsrc : Bl w (.slice (some ⟨bl, 0, none⟩) 1 c) [b]) (hlen : n ≤ 1000) (hbase : base ≤ w.heap.size)
    (h : ∀ g cap w', OwnB w' base (.slice (some ⟨g, 0, none⟩) (n + 1) cap) (D ++ [b]) → w.grownBy w' v.ownBlock → (v.ownBlock = some g ∨ g = w.heap.size) → g < w'.heap.size → wpList Try.prog ops Q rest (a.put o.dst (.slice (some ⟨g, 0, none⟩) (n + 1) cap)) w') : wpList Try.prog ops Q (o :: rest) a w :=
  wpList_plain hgd fun _ hK => wp_push_bl s x ho base v D n b bl c hs hown hn hx hsrc hlen hbase fun g cap w' h1 h2 h3 h4 => hK _ _ (h g cap w' h1 h2 h3 h4)
/-- Another own list stands where one grows. -/
theorem OwnB.beside {w' : World} {base : Nat} {v : Value} {D : List (List Nat)} {row : Option Nat} (h : OwnB w base v D) (hg : w.grownBy w' row) (hne : ∀ k, v.ownBlock = some k → row ≠ some k) : OwnB w' base v D := by
  obtain ⟨hD, hl, h⟩ := h
  refine ⟨hD, hl, ?_⟩
  rcases h with h | ⟨g, cap, cur, rfl, hb, hh, hr⟩
  · exact .inl h
  · exact .inr ⟨g, cap, cur, rfl, hb, (hg.block g (Array.getElem?_eq_some_iff.1 hh).1 (fun e => hne g rfl e.symm)).trans hh, hr⟩
end
theorem range8 : Array.range 8 = #[0, 1, 2, 3, 4, 5, 6, 7] := rfl
/-- A literal list of one block. -/
theorem run_build1 (l : List Nat) (h : B8 l) (w : World) : (Instr.buildSlice 37 1 #[(0, .agg (bcs l))]).run Try.prog w = .ok (.slice (some ⟨w.heap.size, 0, none⟩) 1 1) (w.alloc (.cells (bcs l) 44)) := by
  obtain ⟨i, hi, hzz⟩ := Option.map_eq_some_iff.1 info_blk
  simp only [Prod.mk.injEq] at hzz
  obtain ⟨hz, hs, hb⟩ := hzz
  match l, h.1 with
  | [a, b, c, d, e, f, g, k], _ =>
    simp [Instr.buildSlice, run_underlying Try.underlying37, sizeOf, typeInfo, hi, hs, zeroValue, hz, newRow, Instr.fill, bcs, bv, Value.cells, range8]
theorem wp_build1 {o : Oper} {a : Act} {w : World} {K : Act → World → Prop} {Q : Exit → Act → World → Prop} (x : Operand) (ho : o.op = .buildSlice 37 1 #[(0, x)]) (l : List Nat) (hx : a.eval x = .agg (bcs l)) (h : B8 l)
    (hk : K (a.put o.dst (.slice (some ⟨w.heap.size, 0, none⟩) 1 1)) (w.alloc (.cells (bcs l) 44))) : o.wp Try.prog a w K Q := by
  unfold Oper.wp
  simp only [execOp, ho, List.map_toArray, List.map_cons, List.map_nil, hx, Sem.run_bind, Sem.run_pure, Result.andThen_ok, run_build1 l h w]
  exact hk
theorem wpList_build1 {ops : Array Oper} {rest : List Oper} {o : Oper} {a : Act} {w : World} {Q : Exit → Act → World → Prop} (hgd : o.guard = none) (x : Operand) (ho : o.op = .buildSlice 37 1 #[(0, x)]) (l : List Nat) (hx : a.eval x = .agg (bcs l)) (h : B8 l)
    (hk : wpList Try.prog ops Q rest (a.put o.dst (.slice (some ⟨w.heap.size, 0, none⟩) 1 1)) (w.alloc (.cells (bcs l) 44))) : wpList Try.prog ops Q (o :: rest) a w :=
  wpList_plain hgd fun _ hK => wp_build1 x ho l hx h (hK _ _ hk)
theorem bl_one {w : World} {l : List Nat} (h : B8 l) : Bl (w.alloc (.cells (bcs l) 44)) (.slice (some ⟨w.heap.size, 0, none⟩) 1 1) [l] :=
  Bl.of_row (t := 44) (by rw [List.flatten_singleton]; exact row_new w _ _) (fun d hd => by rw [List.mem_singleton.1 hd]; exact h) rfl (Nat.le_refl _) (by decide)
theorem el_upto {f : Nat → List Nat} {n i k : Nat} (hi : i < n) : el (upto f n) i k = (f i).getD k 0 := by
  have e : (upto f n).getD i [] = f i := by
    rw [getD_in (show i < (upto f n).length by rw [upto_length]; exact hi)]
    simp [upto]
  unfold el
  rw [e]
theorem el_take {D : List (List Nat)} {n i k : Nat} (hi : i < n) : el (D.take n) i k = el D i k := by
  unfold el; simp only [List.getD, List.getElem?_take_of_lt hi]
theorem par_fun {D : List (List Nat)} {n : Nat} (hn : D.length = n) (f : Nat → Nat) {j k : Nat} (h : ∀ i, i < n → el D i k = f i) : par D j k = xs n (fun i => Gf.mul (Gf.gpow 2 (j * i)) (f i)) := by
  unfold par; rw [hn]; exact xs_congr _ _ _ fun i hi => by rw [h i hi]
def sumF (A B : List (List Nat)) (i : Nat) : List Nat := xorB (A.getD i []) (B.getD i [])
def mulF (c : Nat) (A : List (List Nat)) (i : Nat) : List Nat := sclB c (A.getD i [])
theorem par_sum {A B : List (List Nat)} {n : Nat} (hA : n ≤ A.length) (hB : n ≤ B.length) (j : Nat) : parB (upto (sumF A B) n) j = xorB (parB (A.take n) j) (parB (B.take n) j) := by
  refine blk_congr fun k hk => ?_
  rw [parB, parB, blk_at _ hk, blk_at _ hk, par_fun (upto_length _ _) (fun i => el A i k ^^^ el B i k) fun i hi => by rw [el_upto hi, sumF, xorB, blk_at _ hk]; rfl,
    par_fun (n := n) (by rw [List.length_take]; omega) (fun i => el A i k) fun i hi => el_take hi, par_fun (n := n) (by rw [List.length_take]; omega) (fun i => el B i k) fun i hi => el_take hi, ← xs_xor]
  exact xs_congr _ _ _ fun i _ => Gf.mul_xor_right _ _ _
theorem par_mul {A : List (List Nat)} {n c : Nat} (hA : n ≤ A.length) (hc : c < 256) (h8 : ∀ d ∈ A, B8 d) (j : Nat) : parB (upto (mulF c A) n) j = sclB c (parB (A.take n) j) := by
  refine blk_congr fun k hk => ?_
  rw [parB, blk_at _ hk, par_fun (upto_length _ _) (fun i => Gf.mul c (el A i k)) fun i hi => by rw [el_upto hi, mulF, sclB, blk_at _ hk]; rfl,
    par_fun (n := n) (by rw [List.length_take]; omega) (fun i => el A i k) fun i hi => el_take hi, mul_xs]
  refine xs_congr _ _ _ fun i _ => ?_
  have hx := el_lt h8 i k
  rw [← Gf.mul_assoc _ _ _ (gp_lt _) hc hx, Gf.mul_comm _ c (gp_lt _) hc, Gf.mul_assoc _ _ _ hc (gp_lt _) hx]
end Go.Proofs.Ytfhgalfdlkdliaa
