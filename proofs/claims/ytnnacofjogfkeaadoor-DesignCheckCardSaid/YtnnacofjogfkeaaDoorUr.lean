/- Numbers in memory: lists, rows of lists, pushes. -/
import Derived.Test.YtnnacofjogfkeaaDoorGO
namespace Go.Proofs.YtnnacofjogfkeaaDoor
open Go Go.RowKit Pl
set_option linter.unusedVariables false
set_option linter.unusedSimpArgs false

/-- Numbers; rows of numbers. -/
abbrev Ns := Sl Nv
abbrev Gs := Sl Ns
theorem Ns.keeps : Keeps Ns := Sl.keeps Nv.keeps
theorem Gs.to {w w' : World} {v : Value} {L : List (List Nat)} (h : Gs w v L) (hb : Below w.heap.size w w') : Gs w' v L := Sl.keeps Ns.keeps _ _ _ _ h (Below.toSame hb)
theorem Ns.to {w w' : World} {v : Value} {L : List Nat} (h : Ns w v L) (hb : Below w.heap.size w w') : Ns w' v L := Ns.keeps _ _ _ _ h (Below.toSame hb)
theorem Wk.gto {α : Type} {R : World → Value → α → Prop} {w w' : World} {g : Nat} {e : TypeId} {cap : Nat} {l : List α} (h : Wk R w g e cap l) (hb : Below w.heap.size w w') : Wk R w' g e cap l := h.below hb (Nat.le_refl _)
theorem OwnL.gto {α : Type} {R : World → Value → α → Prop} {w w' : World} {base : Nat} {e : TypeId} {v : Value} {l : List α} (h : OwnL R w base e v l) (hb : Below w.heap.size w w') : OwnL R w' base e v l := h.below hb (Nat.le_refl _)
theorem SameOff.gto {g : Nat} {a b c : World} (h : SameOff g a b) (hb : Below b.heap.size b c) : SameOff g a c := h.trans ((Below.toSame hb).off g)
/-- A row of numbers stands while another block is written. -/
theorem OwnL.nOff {w w' : World} {base g : Nat} {e : TypeId} {v : Value} {l : List Nat} (h : OwnL Nv w base e v l) (hg : w.grownBy w' (some g)) (hne : g < base) : OwnL Nv w' base e v l := by
  rcases h with h | ⟨b, cap, rfl, hb, cs, hr, hs, hm, hl, hc⟩
  · exact Or.inl h
  · exact Or.inr ⟨b, cap, rfl, hb, cs, hr.gr hg (fun e => by have := Option.some.inj e; omega), hs, hm, hl, fun k hk => by obtain ⟨u, hu, ho⟩ := hc k hk; exact ⟨u, hu, fun _ _ => ho.here⟩⟩
theorem OwnL.nsOff {w : World} {base g : Nat} {e : TypeId} {v : Value} {l : List Nat} (h : OwnL Nv w base e v l) (hne : g < base) : Off Ns w g v l := by
  intro w' hs
  rcases h with ⟨rfl, rfl⟩ | ⟨b, cap, rfl, hb, hw⟩
  · exact Sl.nil_ w'
  · refine ⟨_, cap, rfl, by obtain ⟨_, _, _, h1, h2, _⟩ := hw; exact ⟨h2, h1⟩, fun h => (by cases h), fun _ => ⟨b, 0, rfl, fun k hk => ?_⟩⟩
    obtain ⟨u, hu, ho⟩ := hw.cell hk
    exact ⟨u, by rw [Nat.zero_add]; exact (hs.2 _ (World.block_lt_of_cell? w _ hu) (by show b ≠ g; omega)).trans hu, ho.here⟩
/-- The blocks from K on stand. -/
def Up (K : Nat) (w w' : World) : Prop := w.heap.size ≤ w'.heap.size ∧ ∀ p : Addr, p.block < w.heap.size → K ≤ p.block → w'.cell? p = w.cell? p
theorem Up.of_same {K : Nat} {w w' : World} (h : Same w w') : Up K w w' := ⟨h.1, fun p hp _ => h.2 p hp⟩
theorem Up.trans {K : Nat} {a b c : World} (h : Up K a b) (k : Up K b c) : Up K a c := ⟨Nat.le_trans h.1 k.1, fun p hp hk => (k.2 p (Nat.lt_of_lt_of_le hp h.1) hk).trans (h.2 p hp hk)⟩
theorem Up.low {K K' : Nat} {a b : World} (h : Up K a b) (hk : K ≤ K') : Up K' a b := ⟨h.1, fun p hp hk' => h.2 p hp (Nat.le_trans hk hk')⟩
theorem Up.off {B : Nat} {a b : World} (h : SameOff B a b) : Up (B + 1) a b := ⟨h.1, fun p hp hk => h.2 p hp (by omega)⟩
/-- A table of rows, whatever becomes of the blocks below K. -/
def Fx (K : Nat) (w : World) (v : Value) (L : List (List Nat)) : Prop := ∀ w', Up K w w' → Gs w' v L
theorem Fx.gs {K : Nat} {w : World} {v : Value} {L : List (List Nat)} (h : Fx K w v L) : Gs w v L := h w ⟨Nat.le_refl _, fun _ _ _ => rfl⟩
theorem Fx.up {K : Nat} {w w' : World} {v : Value} {L : List (List Nat)} (h : Fx K w v L) (hu : Up K w w') : Fx K w' v L := fun w'' k => h w'' (hu.trans k)
theorem Fx.to {K : Nat} {w w' : World} {v : Value} {L : List (List Nat)} (h : Fx K w v L) (hb : Below w.heap.size w w') : Fx K w' v L := h.up (Up.of_same (Below.toSame hb))
theorem Fx.low {K K' : Nat} {w : World} {v : Value} {L : List (List Nat)} (h : Fx K w v L) (hk : K' ≤ K) : Fx K' w v L := fun w' hu => h w' (hu.low hk)
theorem Fx.set {K : Nat} {w : World} {v : Value} {L : List (List Nat)} (h : Fx K w v L) {g : Nat} (hg : g < K) (i : Nat) (u : Value) : Fx K (w.setCell ⟨g, i, none⟩ u) v L :=
  h.up ((Up.off (setCell_off w g i u)).low hg)
/-- What reads as x, whatever becomes of the blocks up to B. -/
def NsB (B : Nat) (w : World) (u : Value) (x : List Nat) : Prop := ∀ w', Up (B + 1) w w' → Ns w' u x
theorem OwnL.nsUp {w w' : World} {base K : Nat} {e : TypeId} {v : Value} {l : List Nat} (h : OwnL Nv w base e v l) (hK : K ≤ base) (hu : Up K w w') : Ns w' v l := by
  rcases h with ⟨rfl, rfl⟩ | ⟨b, cap, rfl, hb, hw⟩
  · exact Sl.nil_ w'
  · refine ⟨_, cap, rfl, by obtain ⟨_, _, _, h1, h2, _⟩ := hw; exact ⟨h2, h1⟩, fun h => (by cases h), fun _ => ⟨b, 0, rfl, fun k hk => ?_⟩⟩
    obtain ⟨u, hu', ho⟩ := hw.cell hk
    exact ⟨u, by rw [Nat.zero_add]; exact (hu.2 _ (World.block_lt_of_cell? w _ hu') (by show K ≤ b; omega)).trans hu', ho.here⟩
theorem OwnL.nsOff2 {w : World} {base g B : Nat} {e : TypeId} {v : Value} {l : List Nat} (h : OwnL Nv w base e v l) (hne : g < base) (hB : B < base) : Off (NsB B) w g v l := by
  intro w' hs w'' hs'
  rcases h with ⟨rfl, rfl⟩ | ⟨b, cap, rfl, hb, hw⟩
  · exact Sl.nil_ w''
  · refine ⟨_, cap, rfl, by obtain ⟨_, _, _, h1, h2, _⟩ := hw; exact ⟨h2, h1⟩, fun h => (by cases h), fun _ => ⟨b, 0, rfl, fun k hk => ?_⟩⟩
    obtain ⟨u, hu, ho⟩ := hw.cell hk
    have hlt := World.block_lt_of_cell? w _ hu
    exact ⟨u, by rw [Nat.zero_add]; exact ((hs'.2 _ (Nat.lt_of_lt_of_le hlt hs.1) (by show B + 1 ≤ b; omega)).trans (hs.2 _ hlt (by show b ≠ g; omega))).trans hu, ho.here⟩
theorem NsB.fx {w w' : World} {g n cap B : Nat} {L : List (List Nat)} (h : Sl (NsB B) w (.slice (some ⟨g, 0, none⟩) n cap) L) (hs : SameOff B w w') (hne : B < g) : Fx B w' (.slice (some ⟨g, 0, none⟩) n cap) L := by
  intro w'' hu
  have hu2 : Up (B + 1) w w'' := (Up.off hs).trans (hu.low (Nat.le_succ B))
  obtain ⟨A, c, h1, hm, hz, hc⟩ := h
  injection h1 with h1 h2 h3
  subst h1 h2 h3
  refine ⟨_, _, rfl, hm, hz, fun hn => ?_⟩
  obtain ⟨b, off, hb, hcell⟩ := hc hn
  injection hb with hb
  injection hb with hb1 hb2
  subst hb1 hb2
  refine ⟨_, _, rfl, fun k hk => ?_⟩
  obtain ⟨u, hu', hr⟩ := hcell k hk
  exact ⟨u, (hu2.2 _ (World.block_lt_of_cell? w _ hu') hne).trans hu', hr w'' hu2⟩
/-- Row n of a table is replaced by a row that was built since, while nothing else was written. -/
theorem Wk.row {α : Type} {R : World → Value → α → Prop} {wo wr : World} {g n N : Nat} {e : TypeId} {cs : Array Value} {L : List α} {v : Value} {l : α} (ho : Wk R wo g e N L) (hc : Row wo g e cs) (hs : SameOff g wo wr) (hr : Row wr g e (cs.setIfInBounds n v)) (hv : Off R wr g v l) : Wk R wr g e N (L.set n l) := by
  obtain ⟨cs', hr', hsz, hm, hl, hcell⟩ := ho
  have : cs' = cs := by
    have h1 : wo.heap[g]? = some (.cells cs' e (0, 0)) := hr'
    have h2 : wo.heap[g]? = some (.cells cs e (0, 0)) := hc
    rw [h1] at h2
    injection h2 with h2
    injection h2
  subst this
  refine ⟨_, hr, by simpa using hsz, hm, by simpa using hl, fun k hk => ?_⟩
  have hk' : k < L.length := by simpa using hk
  by_cases e : n = k
  · subst e
    refine ⟨v, by rw [Array.getElem?_setIfInBounds_self_of_lt (by omega)], ?_⟩
    rw [List.getElem_set_self]
    exact hv
  · obtain ⟨u, hu, hof⟩ := hcell k hk'
    refine ⟨u, by rw [Array.getElem?_setIfInBounds_ne e]; exact hu, ?_⟩
    rw [List.getElem_set_ne e]
    exact hof.go hs
theorem SameOff.gr {g : Nat} {a b c : World} {row : Option Nat} (h : SameOff g a b) (hg : b.grownBy c row) (hne : ∀ k, row = some k → a.heap.size ≤ k) : SameOff g a c :=
  ⟨Nat.le_trans h.1 hg.size, fun p hp hg' => (World.cell?_of_block (hg.block p.block (Nat.lt_of_lt_of_le hp h.1) (fun e => by have := hne _ e.symm; omega))).trans (h.2 p hp hg')⟩
theorem run_build_n (y : Nat) (w : World) : (Instr.buildSlice 40 1 #[(0, .int .i64 (y : Int))]).run Tryd.prog w = .ok (.slice (some ⟨w.heap.size, 0, none⟩) 1 1) (w.alloc (.cells #[.int .i64 (y : Int)] 3)) := by
  obtain ⟨i, hi, hzz⟩ := Option.map_eq_some_iff.1 info_int
  simp only [Prod.mk.injEq] at hzz
  obtain ⟨hz, hs, hb⟩ := hzz
  simp [Instr.buildSlice, run_underlying Tryd.underlying40, sizeOf, typeInfo, hi, hs, zeroValue, hz, newRow, Instr.fill, Value.cells, show Array.range 1 = #[0] from rfl]
theorem wp_build_n {o : Oper} {a : Act} {w : World} {K : Act → World → Prop} {Q : Exit → Act → World → Prop} (x : Operand) (ho : o.op = .buildSlice 40 1 #[(0, x)]) (y : Nat) (hx : a.eval x = .int .i64 (y : Int))
    (hk : K (a.put o.dst (.slice (some ⟨w.heap.size, 0, none⟩) 1 1)) (w.alloc (.cells #[.int .i64 (y : Int)] 3))) : o.wp Tryd.prog a w K Q := by
  unfold Oper.wp
  simp only [execOp, ho, List.map_toArray, List.map_cons, List.map_nil, hx, Sem.run_bind, Sem.run_pure, Result.andThen_ok, run_build_n y w]
  exact hk
/-- 'append(v, y)' of numbers: where the new list lies. -/
theorem wp_push_n {w : World} {o : Oper} {a : Act} {K : Act → World → Prop} {Q : Exit → Act → World → Prop} (s x : Operand)
    (ho : o.op = .call { callee := .builtin .append, args := #[s, x], argTypes := #[40, 40] })
    (base : Nat) (v : Value) (l : List Nat) (n : Nat) (y : Nat) (b : Nat) (hs : a.eval s = v) (hown : OwnL Nv w base 3 v l) (hn : l.length = n) (hx : a.eval x = .slice (some ⟨b, 0, none⟩) 1 1) (hcell : w.cell? ⟨b, 0, none⟩ = some (.int .i64 (y : Int))) (hlen : n ≤ 100000) (hbase : base ≤ w.heap.size)
    (h : ∀ g cap w', OwnL Nv w' base 3 (.slice (some ⟨g, 0, none⟩) (n + 1) cap) (l ++ [y]) → w.grownBy w' v.ownBlock → (v.ownBlock = some g ∨ g = w.heap.size) → g < w'.heap.size → K (a.put o.dst (.slice (some ⟨g, 0, none⟩) (n + 1) cap)) w') : o.wp Tryd.prog a w K Q := by
  subst hn
  obtain ⟨i, hi, hz, hsz, hby⟩ := info_parts info_int
  obtain ⟨xs, hrow, hxs⟩ := hown.row
  have hl : xs.length = l.length := by have := hrow.1; omega
  have hxs' : ∀ k (hk : k < l.length), ∃ u, xs[k]? = some u ∧ Nv w u l[k] ∧ (∀ g, v.ownBlock = some g → Off Nv w g u l[k]) := by
    intro k hk
    obtain ⟨u', hu', ho'⟩ := hxs k hk
    refine ⟨u', hu', ?_, ho'⟩
    rcases hown with ⟨rfl, rfl⟩ | ⟨g, cap, rfl, _, _⟩
    · exact absurd hk (Nat.not_lt_zero k)
    · exact (ho' g rfl).here
  refine wp_append_lies w s x _ ho base _ i _ 1 8 Tryd.underlying40 hi hz hsz hby rfl (by decide) v l.length xs hs hrow ⟨b, 0, none⟩ 1 1 [.int .i64 (y : Int)] hx rfl (fun j u' hj => ?_) (fun u' hu' => ?_) (by decide) (by unfold maxLen; omega) (by omega) hbase _ rfl fun g cap w' hown' hgrow hat hlt => ?_
  · match j, hj with
    | 0, hj => simp at hj; subst hj; rw [Go.WideShapes.add_plain]; exact hcell
  · simp at hu'; subst hu'; rfl
  · exact h g cap w' (OwnL.pushed Nv.keeps hxs' rfl (fun _ _ => fun _ _ => rfl) hl hown' hgrow hat) hgrow hat hlt
theorem wpList_push_n {w : World} {ops : Array Oper} {rest : List Oper} {o : Oper} {a : Act} {Q : Exit → Act → World → Prop} (hgd : o.guard = none) (s x : Operand)
    (ho : o.op = .call { callee := .builtin .append, args := #[s, x], argTypes := #[40, 40] })
    (base : Nat) (v : Value) (l : List Nat) (n : Nat) (y : Nat) (b : Nat) (hs : a.eval s = v) (hown : OwnL Nv w base 3 v l) (hn : l.length = n) (hx : a.eval x = .slice (some ⟨b, 0, none⟩) 1 1) (hcell : w.cell? ⟨b, 0, none⟩ = some (.int .i64 (y : Int))) (hlen : n ≤ 100000) (hbase : base ≤ w.heap.size)
    (h : ∀ g cap w', OwnL Nv w' base 3 (.slice (some ⟨g, 0, none⟩) (n + 1) cap) (l ++ [y]) → w.grownBy w' v.ownBlock → (v.ownBlock = some g ∨ g = w.heap.size) → g < w'.heap.size → wpList Tryd.prog ops Q rest (a.put o.dst (.slice (some ⟨g, 0, none⟩) (n + 1) cap)) w') : wpList Tryd.prog ops Q (o :: rest) a w :=
  wpList_plain hgd fun _ hK => wp_push_n s x ho base v l n y b hs hown hn hx hcell hlen hbase fun g cap w' h1 h2 h3 h4 => hK _ _ (h g cap w' h1 h2 h3 h4)
/-- A design's value. -/
def dv (n : Nat) (v : Value) : Value := .agg #[.int .i64 (n : Int), v]
theorem results_cell_tmp {P : Program} {fn : Func} {p q : Tmp} {ty : TypeId} (h : fn.results = #[.cell p ty, .tmp q]) (tmps : Array Value) (w : World) (g : Nat) (t : TypeId) (cs : Array Value) (fr : Nat × Nat) (d : TypeDesc)
    (hp : tmps.getD p undef = .pointer (some ⟨g, 0, none⟩)) (hg : w.heap[g]? = some (.cells cs t fr))
    (hu : P.underlying ty = some d) (hd : (match d with | .struct _ | .array _ _ => true | _ => false) = true) (hi : (P.info? ty).map (·.size) = some cs.size) :
    (results fn tmps).run P w = .ok (.tuple #[.agg cs, tmps.getD q undef]) w := by
  have hp' : tmps[p]?.getD undef = .pointer (some ⟨g, 0, none⟩) := by simpa using hp
  simp [results, h, hp', asAddr, run_loadVar_row w g t ty cs fr d hg hu hd hi]
theorem lineTo_succ (q : Nat) (l : C3) (m : Nat) : lineTo q l (m + 1) = if dot q l (pt q m) = 0 then lineTo q l m ++ [m] else lineTo q l m := by
  unfold lineTo
  rw [List.range_succ, List.filter_append]
  by_cases h : dot q l (pt q m) = 0
  · rw [if_pos h]; simp [h]
  · rw [if_neg h]; simp [h]
theorem lineTo_len (q : Nat) (l : C3) (m : Nat) : (lineTo q l m).length ≤ m := by
  unfold lineTo; exact Nat.le_trans (List.length_filter_le _ _) (by simp)
end Go.Proofs.YtnnacofjogfkeaaDoor
