/- Lists of coordinates of the call's own; the map from coordinates to numbers. -/
import Derived.Test.YtjbgfpbidjhlkaaDoorUd
import Derived.Maps.OwnOps
import Derived.Maps.Views
import Derived.DeepKeys4
import Derived.WideKeyArr
namespace Go.Proofs.YtjbgfpbidjhlkaaDoor
open Go Go.RowKit Go.Maps Go.WideMaps Pl
set_option linter.unusedVariables false

/-! ### The map -/
theorem laid_out : laidOutB Tryd.prog = true := by kernel_rfl
theorem krow : (53 : TypeId) < Tryd.prog.types.size := of_decide_eq_true (by kernel_rfl)
theorem kwide : (match Tryd.prog.underlying 53 with | some (.array _ _) | some (.struct _) => true | _ => false) = true := by rw [Tryd.underlying53]
theorem klaw : Keyed Tryd.prog 53 := Keyed.of_law (deep_law_laid laid_out (m := 2) (by omega) krow (by kernel_rfl) kwide)
theorem karr : ArrKey Tryd.prog 53 3 3 := ⟨Tryd.underlying53, by kernel_rfl, by kernel_rfl, by kernel_rfl⟩
theorem keyOf_tri {P : Program} {k e : TypeId} {q : IntKind} (A : ArrKey P k e 3) (he : P.underlying e = some (.int q)) (hsz : ∃ m, P.types.size = m + 1) {a b c : Int} (wa : (Lit.int q a).wf = true) (wb : (Lit.int q b).wf = true) (wc : (Lit.int q c).wf = true) :
    keyOf P k (.agg #[.int q a, .int q b, .int q c]) = some (.string (keyBytes [.int q a, .int q b, .int q c])) := by
  have hkt := A.keyType hsz
  obtain ⟨m, hm⟩ := hsz
  unfold keyOf
  simp only [A.hu]
  rw [if_pos (by simp [hkt, Value.formed, A.hu, A.size]), hm]
  unfold Program.keyLits
  simp only [A.hu, Value.cells]
  rw [if_pos (by rw [A.size]; rfl), show List.range 3 = [0, 1, 2] from rfl, List.mapM_cons, List.mapM_cons, List.mapM_cons, List.mapM_nil]
  simp [A.one, Program.keyLits, he, wa, wb, wc]
def kk (c : C3) : Lit := .string (keyBytes [.int .i64 (c.1 : Int), .int .i64 (c.2.1 : Int), .int .i64 (c.2.2 : Int)])
theorem wf_small {a : Nat} (h : a < 1000) : (Lit.int .i64 (a : Int)).wf = true := by
  simp [Lit.wf, IntKind.min, IntKind.max, IntKind.signed, IntKind.bits]; omega
theorem keyOf_c {q : Nat} {c : C3} (hq : q ≤ 9) (h : El q c) : keyOf Tryd.prog 53 (.agg (ka c)) = some (kk c) :=
  keyOf_tri karr Tryd.underlying3 ⟨_, rfl⟩ (wf_small (by have := h.1; omega)) (wf_small (by have := h.2.1; omega)) (wf_small (by have := h.2.2; omega))
theorem kk_inj {q : Nat} {c d : C3} (hq : q ≤ 9) (hc : El q c) (hd : El q d) (e : kk c = kk d) : c = d := by
  have h1 := keyOf_c hq hc
  have h2 := keyOf_c hq hd
  rw [← e] at h2
  have := klaw.inj h1 h2
  injection this with this
  unfold ka at this
  obtain ⟨c0, c1, c2⟩ := c
  obtain ⟨d0, d1, d2⟩ := d
  simp at this
  obtain ⟨h0, h1, h2⟩ := this
  rw [show c0 = d0 by omega, show c1 = d1 by omega, show c2 = d2 by omega]
/-- Block M is a map that gives each of these coordinates its position. -/
def Mp (w : World) (M : Nat) (L : List C3) : Prop := ∃ D : DataW Unit, w.ownsMap Tryd.prog 53 (plainElem Tryd.prog 3) M L.length D ∧ IsMap D ∧ ∀ i (h : i < L.length), D.atKey (kk L[i]) (.lit (.int .i64 0)) = .lit (.int .i64 (i : Int))
theorem Mp.lt {w : World} {M : Nat} {L : List C3} (h : Mp w M L) : M < w.heap.size := by obtain ⟨D, h, _⟩ := h; exact h.lt
theorem Mp.to {w w' : World} {M : Nat} {L : List C3} (h : Mp w M L) (hb : Below w.heap.size w w') : Mp w' M L := by
  have hlt := h.lt
  obtain ⟨D, ⟨es, cl, hm, hr⟩, h2⟩ := h
  exact ⟨D, ⟨es, cl, (hb.block M hlt).trans hm, hr⟩, h2⟩
theorem Mp.block {w w' : World} {M : Nat} {L : List C3} (h : Mp w M L) (hb : w'.heap[M]? = w.heap[M]?) : Mp w' M L := by
  obtain ⟨D, ⟨es, cl, hm, hr⟩, h2⟩ := h
  exact ⟨D, ⟨es, cl, hb.trans hm, hr⟩, h2⟩
theorem Mp.made (w : World) : Mp (w.alloc (.map #[] 0)) w.heap.size [] := ⟨.map [], World.ownsMap_made w _ _ _, isMap_empty, fun i h => absurd h (Nat.not_lt_zero i)⟩
/-- The coordinates c get the next number. -/
theorem Mp.put {w : World} {M q : Nat} {L : List C3} (h : Mp w M L) (hq : q ≤ 9) (hL : ∀ c ∈ L, El q c) {c : C3} (hc : El q c) (hn : c ∉ L) (hlen : L.length < 500) :
    ∃ w', (Instr.mapUpdate 49 (.map (some M)) (.agg (ka c)) (.int .i64 (L.length : Int))).run Tryd.prog w = .ok () w' ∧ Mp w' M (L ++ [c]) ∧ w.grownBy w' (some M) := by
  obtain ⟨D, ho, hD, hat⟩ := h
  obtain ⟨w', h1, h2, h3⟩ := ho.update klaw Tryd.underlying49 (by unfold maxLen; omega) (keyOf_c hq hc) (plainElem_int Tryd.underlying3 (wf_small (a := L.length) (by omega)))
  refine ⟨w', h1, ⟨_, by rw [List.length_append]; exact h2, hD.put _ _, fun i hi => ?_⟩, h3⟩
  rcases Nat.lt_or_ge i L.length with hlt | hge
  · rw [List.getElem_append_left hlt, atKey_put_other (fun e => hn (by rw [← kk_inj hq (hL _ (List.getElem_mem hlt)) hc e]; exact List.getElem_mem hlt))]
    exact hat i hlt
  · have e : i = L.length := by simp at hi; omega
    subst e
    rw [List.getElem_append_right (Nat.le_refl _)]
    simp only [Nat.sub_self, List.getElem_cons_zero]
    exact atKey_put_same hD (show WideAt.IsKeyLit (kk c) by unfold kk; trivial) _ _
theorem Mp.get {w : World} {M q : Nat} {L : List C3} (h : Mp w M L) (hq : q ≤ 9) {i : Nat} (hi : i < L.length) (hc : El q L[i]) :
    (Instr.lookup 49 (.map (some M)) (.agg (ka L[i])) false).run Tryd.prog w = .ok (.int .i64 (i : Int)) w := by
  obtain ⟨D, ho, hD, hat⟩ := h
  obtain ⟨c, hrun, hc', hw⟩ := ho.lookup_int klaw Tryd.underlying49 Tryd.underlying3 (by kernel_rfl) (keyOf_c hq hc)
  rw [hat i hi] at hc'
  injection hc' with hc'
  injection hc' with _ hc'
  rw [hc']; exact hrun
/-- 'm[k] = v' in a region that draws. -/
theorem wp_mapPut {w : World} {o : Oper} {a : Act} {K : Act → World → Prop} {Q : Exit → Act → World → Prop} (m x v : Operand) (ho : o.op = .mapUpdate 49 m x v)
    (M q n : Nat) (L : List C3) (c : C3) (h : Mp w M L) (hq : q ≤ 9) (hL : ∀ c ∈ L, El q c) (hc : El q c) (hn : c ∉ L) (hlen : L.length < 500) (en : L.length = n) (hm : a.eval m = .map (some M)) (hx : a.eval x = .agg (ka c)) (hv : a.eval v = .int .i64 (n : Int))
    (hK : ∀ w', Mp w' M (L ++ [c]) → w.grownBy w' (some M) → K (a.put o.dst undef) w') : o.wp Tryd.prog a w K Q := by
  subst en
  obtain ⟨w', h1, h2, h3⟩ := h.put hq hL hc hn hlen
  unfold Oper.wp
  simp only [execOp, ho, hm, hx, hv, h1, Result.andThen, Sem.run_bind, Sem.run_pure]
  exact hK _ h2 h3
theorem wp_mapGet {w : World} {o : Oper} {a : Act} {K : Act → World → Prop} {Q : Exit → Act → World → Prop} (m x : Operand) (ho : o.op = .lookup 49 m x false)
    (M q i : Nat) (L : List C3) (h : Mp w M L) (hq : q ≤ 9) (hi : i < L.length) (hc : El q L[i]) (hm : a.eval m = .map (some M)) (hx : a.eval x = .agg (ka L[i]))
    (hK : K (a.put o.dst (.int .i64 (i : Int))) w) : o.wp Tryd.prog a w K Q := by
  unfold Oper.wp
  simp only [execOp, ho, hm, hx, h.get hq hi hc, Result.andThen, Sem.run_bind, Sem.run_pure]
  exact hK

/-! ### Lists of coordinates -/
theorem flat3_len : ∀ L : List C3, (L.flatMap kl).length = L.length * 3
  | [] => rfl
  | c :: r => by rw [List.flatMap_cons, List.length_append, flat3_len r, List.length_cons]; simp [kl]; omega
theorem flat3_at : ∀ {L : List C3} {i : Nat} (hi : i < L.length) {j : Nat}, j < 3 → (L.flatMap kl)[i * 3 + j]? = (kl L[i])[j]?
  | c :: r, 0, _, j, hj => by
    rw [List.flatMap_cons, Nat.zero_mul, Nat.zero_add, List.getElem?_append_left (by simpa [kl] using hj)]; rfl
  | c :: r, i + 1, hi, j, hj => by
    rw [List.flatMap_cons, List.getElem?_append_right (by simp [kl]; omega)]
    have := flat3_at (L := r) (i := i) (by simpa using hi) hj
    rw [show (i + 1) * 3 + j - (kl c).length = i * 3 + j by simp [kl]; omega, this]
    rfl
theorem kl_one (L : List C3) : ∀ u ∈ L.flatMap kl, u.oneCell' = true := by
  intro u hu
  obtain ⟨c, _, hu⟩ := List.mem_flatMap.1 hu
  simp only [kl, List.mem_cons, List.not_mem_nil, or_false] at hu
  rcases hu with rfl | rfl | rfl <;> rfl
theorem kl_one' (c : C3) : ∀ u ∈ kl c, u.oneCell' = true := by
  intro u hu
  simp only [kl, List.mem_cons, List.not_mem_nil, or_false] at hu
  rcases hu with rfl | rfl | rfl <;> rfl
/-- A list of coordinates that lies in a block from base on, or is nil. -/
def OwnC (e : TypeId) (w : World) (base : Nat) (v : Value) (L : List C3) : Prop := w.ownsRow base e 3 v L.length (L.flatMap kl)
theorem OwnC.lt {e : TypeId} {w : World} {base : Nat} {v : Value} {L : List C3} (h : OwnC e w base v L) : ∀ k, v.ownBlock = some k → base ≤ k ∧ k < w.heap.size := World.ownsRow.lt h
theorem OwnC.below {e : TypeId} {w w' : World} {base B : Nat} {v : Value} {L : List C3} (h : OwnC e w base v L) (hb : Below B w w') (hB : w.heap.size ≤ B) : OwnC e w' base v L := by
  obtain ⟨hl, h⟩ := h
  refine ⟨hl, ?_⟩
  rcases h with h | ⟨g, cap, cur, rfl, hg, hh, hr⟩
  · exact .inl h
  · exact .inr ⟨g, cap, cur, rfl, hg, (hb.block g (by have := (Array.getElem?_eq_some_iff.1 hh).1; omega)).trans hh, hr⟩
theorem OwnC.to {e : TypeId} {w w' : World} {base : Nat} {v : Value} {L : List C3} (h : OwnC e w base v L) (hb : Below w.heap.size w w') : OwnC e w' base v L := h.below hb (Nat.le_refl _)
theorem OwnC.off {e : TypeId} {w w' : World} {base k : Nat} {v : Value} {L : List C3} (h : OwnC e w base v L) (hb : ∀ b, b ≠ k → b < w.heap.size → w'.heap[b]? = w.heap[b]?) (hk : k < base) : OwnC e w' base v L := by
  obtain ⟨hl, h⟩ := h
  refine ⟨hl, ?_⟩
  rcases h with h | ⟨g, cap, cur, rfl, hg, hh, hr⟩
  · exact .inl h
  · exact .inr ⟨g, cap, cur, rfl, hg, (hb g (by omega) (Array.getElem?_eq_some_iff.1 hh).1).trans hh, hr⟩
theorem OwnC.nil_ (e : TypeId) (w : World) (base : Nat) : OwnC e w base (.slice none 0 0) [] := World.ownsRow_nil _ _ _ _
/-- Where n coordinates lie. -/
def Cs (w : World) (g n : Nat) (f : Nat → C3) : Prop := ∀ i, i < n → At3 w g (i * 3) (f i)
theorem Cs.to {w w' : World} {g n : Nat} {f : Nat → C3} (h : Cs w g n f) (hb : Below w.heap.size w w') : Cs w' g n f := fun i hi => (h i hi).to hb
theorem OwnC.cs {e : TypeId} {w : World} {base : Nat} {v : Value} {L : List C3} (h : OwnC e w base v L) (hp : 0 < L.length) : ∃ g cap, v = .slice (some ⟨g, 0, none⟩) L.length cap ∧ base ≤ g ∧ (L.length ≤ cap ∧ cap ≤ maxLen) ∧ Cs w g L.length (fun i => L.getD i (0, 0, 0)) := by
  obtain ⟨hl, h⟩ := h
  rcases h with ⟨rfl, h0⟩ | ⟨g, cap, cur, rfl, hg, hh, hle, hm, hs, ht⟩
  · omega
  · refine ⟨g, cap, rfl, hg, ⟨hle, hm⟩, fun i hi j u hu => ?_⟩
    have hj : j < 3 := by have := (List.getElem?_eq_some_iff.1 hu).1; simpa [kl] using this
    have hi3 : i * 3 + j < L.length * 3 := by omega
    have h1 := flat3_at hi hj
    rw [← ht, List.getElem?_take_of_lt hi3] at h1
    rw [cell_of_row w g (i * 3 + j) cur _ (0, 0) hh]
    have e : L.getD i (0, 0, 0) = L[i] := getD_in hi
    simp only [e] at hu
    rw [← hu, ← h1]; simp
theorem OwnC.form {e : TypeId} {w : World} {base : Nat} {v : Value} {L : List C3} (h : OwnC e w base v L) : ∃ A cap, v = .slice A L.length cap := by
  obtain ⟨hl, h⟩ := h
  rcases h with ⟨rfl, h0⟩ | ⟨g, cap, cur, rfl, _⟩
  · exact ⟨none, 0, by rw [h0]⟩
  · exact ⟨_, _, rfl⟩
theorem info_c : (Tryd.prog.info? 53).map (fun i => (i.zero, i.size, i.bytes)) = some (some (.agg #[.int .i64 0, .int .i64 0, .int .i64 0]), 3, 24) := by kernel_rfl
theorem run_build_c (c : C3) (w : World) : (Instr.buildSlice 48 1 #[(0, .agg (ka c))]).run Tryd.prog w = .ok (.slice (some ⟨w.heap.size, 0, none⟩) 1 1) (w.alloc (.cells (ka c) 53)) := by
  obtain ⟨i, hi, hzz⟩ := Option.map_eq_some_iff.1 info_c
  simp only [Prod.mk.injEq] at hzz
  obtain ⟨hz, hs, hb⟩ := hzz
  simp [Instr.buildSlice, run_underlying Tryd.underlying48, sizeOf, typeInfo, hi, hs, zeroValue, hz, newRow, Instr.fill, ka, Value.cells, show Array.range 3 = #[0, 1, 2] from rfl]
theorem wp_build_c {o : Oper} {a : Act} {w : World} {K : Act → World → Prop} {Q : Exit → Act → World → Prop} (x : Operand) (ho : o.op = .buildSlice 48 1 #[(0, x)]) (c : C3) (hx : a.eval x = .agg (ka c))
    (hk : K (a.put o.dst (.slice (some ⟨w.heap.size, 0, none⟩) 1 1)) (w.alloc (.cells (ka c) 53))) : o.wp Tryd.prog a w K Q := by
  unfold Oper.wp
  simp only [execOp, ho, List.map_toArray, List.map_cons, List.map_nil, hx, Sem.run_bind, Sem.run_pure, Result.andThen_ok, run_build_c c w]
  exact hk
theorem wpList_build_c {ops : Array Oper} {rest : List Oper} {o : Oper} {a : Act} {w : World} {Q : Exit → Act → World → Prop} (hgd : o.guard = none) (x : Operand) (ho : o.op = .buildSlice 48 1 #[(0, x)]) (c : C3) (hx : a.eval x = .agg (ka c))
    (hk : wpList Tryd.prog ops Q rest (a.put o.dst (.slice (some ⟨w.heap.size, 0, none⟩) 1 1)) (w.alloc (.cells (ka c) 53))) : wpList Tryd.prog ops Q (o :: rest) a w :=
  wpList_plain hgd fun _ hK => wp_build_c x ho c hx (hK _ _ hk)
/-- 'append(x, c)': where the new list lies. -/
theorem wp_push_c {w : World} {o : Oper} {a : Act} {K : Act → World → Prop} {Q : Exit → Act → World → Prop} (s x : Operand)
    (ho : o.op = .call { callee := .builtin .append, args := #[s, x], argTypes := #[48, 48] })
    (base : Nat) (v : Value) (L : List C3) (n : Nat) (c : C3) (bl cp : Nat) (hs : a.eval s = v) (hown : OwnC 53 w base v L) (hn : L.length = n) (hx : a.eval x = .slice (some ⟨bl, 0, none⟩) 1 cp) (hsrc : At3 w bl 0 c) (hlen : n ≤ 1000) (hbase : base ≤ w.heap.size)
    (h : ∀ g cap w', OwnC 53 w' base (.slice (some ⟨g, 0, none⟩) (n + 1) cap) (L ++ [c]) → w.grownBy w' v.ownBlock → (v.ownBlock = some g ∨ g = w.heap.size) → g < w'.heap.size → K (a.put o.dst (.slice (some ⟨g, 0, none⟩) (n + 1) cap)) w') : o.wp Tryd.prog a w K Q := by
  subst hn
  obtain ⟨i, hi, hzz⟩ := Option.map_eq_some_iff.1 info_c
  simp only [Prod.mk.injEq] at hzz
  obtain ⟨hz, hsz, hby⟩ := hzz
  refine wp_append_lies w s x _ ho base _ i _ 3 24 Tryd.underlying48 hi hz hsz hby rfl (by decide) v L.length _ hs hown ⟨bl, 0, none⟩ 1 cp (kl c) hx (by simp [kl]) (fun j u hu => ?_) (kl_one' c) (by decide) (by unfold maxLen; omega) (by omega) hbase _ rfl fun g cap w' h1 h2 h3 h4 => h g cap w' ?_ h2 h3 h4
  · rw [Go.WideShapes.add_plain]; exact hsrc j u hu
  · show w'.ownsRow base _ 3 _ (L ++ [c]).length ((L ++ [c]).flatMap kl)
    rw [List.length_append, List.flatMap_append, List.length_singleton]
    simpa using h1
theorem wpList_push_c {w : World} {ops : Array Oper} {rest : List Oper} {o : Oper} {a : Act} {Q : Exit → Act → World → Prop} (hgd : o.guard = none) (s x : Operand)
    (ho : o.op = .call { callee := .builtin .append, args := #[s, x], argTypes := #[48, 48] })
    (base : Nat) (v : Value) (L : List C3) (n : Nat) (c : C3) (bl cp : Nat) (hs : a.eval s = v) (hown : OwnC 53 w base v L) (hn : L.length = n) (hx : a.eval x = .slice (some ⟨bl, 0, none⟩) 1 cp) (hsrc : At3 w bl 0 c) (hlen : n ≤ 1000) (hbase : base ≤ w.heap.size)
    (h : ∀ g cap w', OwnC 53 w' base (.slice (some ⟨g, 0, none⟩) (n + 1) cap) (L ++ [c]) → w.grownBy w' v.ownBlock → (v.ownBlock = some g ∨ g = w.heap.size) → g < w'.heap.size → wpList Tryd.prog ops Q rest (a.put o.dst (.slice (some ⟨g, 0, none⟩) (n + 1) cap)) w') : wpList Tryd.prog ops Q (o :: rest) a w :=
  wpList_plain hgd fun _ hK => wp_push_c s x ho base v L n c bl cp hs hown hn hx hsrc hlen hbase fun g cap w' h1 h2 h3 h4 => hK _ _ (h g cap w' h1 h2 h3 h4)
theorem info_t : (Tryd.prog.info? 52).map (fun i => (i.zero, i.size, i.bytes)) = some (some (.agg #[.int .i64 0, .int .i64 0, .int .i64 0]), 3, 24) := by kernel_rfl
theorem run_build_t (c : C3) (w : World) : (Instr.buildSlice 57 1 #[(0, .agg (ka c))]).run Tryd.prog w = .ok (.slice (some ⟨w.heap.size, 0, none⟩) 1 1) (w.alloc (.cells (ka c) 52)) := by
  obtain ⟨i, hi, hzz⟩ := Option.map_eq_some_iff.1 info_t
  simp only [Prod.mk.injEq] at hzz
  obtain ⟨hz, hs, hb⟩ := hzz
  simp [Instr.buildSlice, run_underlying Tryd.underlying57, sizeOf, typeInfo, hi, hs, zeroValue, hz, newRow, Instr.fill, ka, Value.cells, show Array.range 3 = #[0, 1, 2] from rfl]
theorem wp_build_t {o : Oper} {a : Act} {w : World} {K : Act → World → Prop} {Q : Exit → Act → World → Prop} (x : Operand) (ho : o.op = .buildSlice 57 1 #[(0, x)]) (c : C3) (hx : a.eval x = .agg (ka c))
    (hk : K (a.put o.dst (.slice (some ⟨w.heap.size, 0, none⟩) 1 1)) (w.alloc (.cells (ka c) 52))) : o.wp Tryd.prog a w K Q := by
  unfold Oper.wp
  simp only [execOp, ho, List.map_toArray, List.map_cons, List.map_nil, hx, Sem.run_bind, Sem.run_pure, Result.andThen_ok, run_build_t c w]
  exact hk
theorem wpList_build_t {ops : Array Oper} {rest : List Oper} {o : Oper} {a : Act} {w : World} {Q : Exit → Act → World → Prop} (hgd : o.guard = none) (x : Operand) (ho : o.op = .buildSlice 57 1 #[(0, x)]) (c : C3) (hx : a.eval x = .agg (ka c))
    (hk : wpList Tryd.prog ops Q rest (a.put o.dst (.slice (some ⟨w.heap.size, 0, none⟩) 1 1)) (w.alloc (.cells (ka c) 52))) : wpList Tryd.prog ops Q (o :: rest) a w :=
  wpList_plain hgd fun _ hK => wp_build_t x ho c hx (hK _ _ hk)
/-- 'append(x, c)': where the new list lies. -/
theorem wp_push_t {w : World} {o : Oper} {a : Act} {K : Act → World → Prop} {Q : Exit → Act → World → Prop} (s x : Operand)
    (ho : o.op = .call { callee := .builtin .append, args := #[s, x], argTypes := #[57, 57] })
    (base : Nat) (v : Value) (L : List C3) (n : Nat) (c : C3) (bl cp : Nat) (hs : a.eval s = v) (hown : OwnC 52 w base v L) (hn : L.length = n) (hx : a.eval x = .slice (some ⟨bl, 0, none⟩) 1 cp) (hsrc : At3 w bl 0 c) (hlen : n ≤ 1000) (hbase : base ≤ w.heap.size)
    (h : ∀ g cap w', OwnC 52 w' base (.slice (some ⟨g, 0, none⟩) (n + 1) cap) (L ++ [c]) → w.grownBy w' v.ownBlock → (v.ownBlock = some g ∨ g = w.heap.size) → g < w'.heap.size → K (a.put o.dst (.slice (some ⟨g, 0, none⟩) (n + 1) cap)) w') : o.wp Tryd.prog a w K Q := by
  subst hn
  obtain ⟨i, hi, hzz⟩ := Option.map_eq_some_iff.1 info_t
  simp only [Prod.mk.injEq] at hzz
  obtain ⟨hz, hsz, hby⟩ := hzz
  refine wp_append_lies w s x _ ho base _ i _ 3 24 Tryd.underlying57 hi hz hsz hby rfl (by decide) v L.length _ hs hown ⟨bl, 0, none⟩ 1 cp (kl c) hx (by simp [kl]) (fun j u hu => ?_) (kl_one' c) (by decide) (by unfold maxLen; omega) (by omega) hbase _ rfl fun g cap w' h1 h2 h3 h4 => h g cap w' ?_ h2 h3 h4
  · rw [Go.WideShapes.add_plain]; exact hsrc j u hu
  · show w'.ownsRow base _ 3 _ (L ++ [c]).length ((L ++ [c]).flatMap kl)
    rw [List.length_append, List.flatMap_append, List.length_singleton]
    simpa using h1
theorem wpList_push_t {w : World} {ops : Array Oper} {rest : List Oper} {o : Oper} {a : Act} {Q : Exit → Act → World → Prop} (hgd : o.guard = none) (s x : Operand)
    (ho : o.op = .call { callee := .builtin .append, args := #[s, x], argTypes := #[57, 57] })
    (base : Nat) (v : Value) (L : List C3) (n : Nat) (c : C3) (bl cp : Nat) (hs : a.eval s = v) (hown : OwnC 52 w base v L) (hn : L.length = n) (hx : a.eval x = .slice (some ⟨bl, 0, none⟩) 1 cp) (hsrc : At3 w bl 0 c) (hlen : n ≤ 1000) (hbase : base ≤ w.heap.size)
    (h : ∀ g cap w', OwnC 52 w' base (.slice (some ⟨g, 0, none⟩) (n + 1) cap) (L ++ [c]) → w.grownBy w' v.ownBlock → (v.ownBlock = some g ∨ g = w.heap.size) → g < w'.heap.size → wpList Tryd.prog ops Q rest (a.put o.dst (.slice (some ⟨g, 0, none⟩) (n + 1) cap)) w') : wpList Tryd.prog ops Q (o :: rest) a w :=
  wpList_plain hgd fun _ hK => wp_push_t s x ho base v L n c bl cp hs hown hn hx hsrc hlen hbase fun g cap w' h1 h2 h3 h4 => hK _ _ (h g cap w' h1 h2 h3 h4)
end Go.Proofs.YtjbgfpbidjhlkaaDoor
