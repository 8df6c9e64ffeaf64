/- Lists of rows of numbers that a call builds: all blocks lie at K or above; what is below may change. -/
import Derived.Test.YtnnacofjogfkeaaDoorUr
namespace Go.Proofs.YtnnacofjogfkeaaDoor
open Go Go.RowKit Pl
set_option linter.unusedVariables false

theorem info_rws : (Tryd.prog.info? 40).map (fun i => (i.zero, i.size, i.bytes)) = some (some (.slice none 0 0), 1, 24) := by kernel_rfl
/-- A row of numbers stands while the blocks from K on stand. -/
theorem OwnL.nfix {w w' : World} {K : Nat} {e : TypeId} {v : Value} {l : List Nat} (h : OwnL Nv w K e v l) (hb : ∀ b, v.ownBlock = some b → w'.heap[b]? = w.heap[b]?) : OwnL Nv w' K e v l := by
  rcases h with h | ⟨b, cap, rfl, hk, cs, hr, hs, hm, hl, hc⟩
  · exact Or.inl h
  · exact Or.inr ⟨b, cap, rfl, hk, cs, (hb b rfl).trans hr, hs, hm, hl, fun k hk => by obtain ⟨u, hu, ho⟩ := hc k hk; exact ⟨u, hu, fun _ _ => ho.here⟩⟩
theorem OwnL.nlow {w : World} {K K' : Nat} {e : TypeId} {v : Value} {l : List Nat} (h : OwnL Nv w K' e v l) (hK : K ≤ K') : OwnL Nv w K e v l := by
  rcases h with h | ⟨b, cap, rfl, hk, hr⟩
  · exact Or.inl h
  · exact Or.inr ⟨b, cap, rfl, Nat.le_trans hK hk, hr⟩
def OwnR (K : Nat) (w : World) (v : Value) (L : List (List Nat)) : Prop :=
  (v = .slice none 0 0 ∧ L = []) ∨ ∃ g cap cs, v = .slice (some ⟨g, 0, none⟩) L.length cap ∧ K ≤ g ∧ Row w g 40 cs ∧ cs.size = cap ∧ cap ≤ maxLen ∧ L.length ≤ cap ∧
    ∀ k (h : k < L.length), ∃ u, cs[k]? = some u ∧ OwnL Nv w K 3 u L[k] ∧ ∀ b, u.ownBlock = some b → b ≠ g
theorem OwnR.nil_ (K : Nat) (w : World) : OwnR K w (.slice none 0 0) [] := Or.inl ⟨rfl, rfl⟩
theorem OwnR.fix {K : Nat} {w w' : World} {v : Value} {L : List (List Nat)} (h : OwnR K w v L) (hb : ∀ b, K ≤ b → b < w.heap.size → w'.heap[b]? = w.heap[b]?) : OwnR K w' v L := by
  rcases h with h | ⟨g, cap, cs, rfl, hg, hr, hs, hm, hl, hc⟩
  · exact Or.inl h
  · refine Or.inr ⟨g, cap, cs, rfl, hg, (hb g hg hr.lt).trans hr, hs, hm, hl, fun k hk => ?_⟩
    obtain ⟨u, hu, ho, hne⟩ := hc k hk
    exact ⟨u, hu, ho.nfix fun b e => hb b (ho.own b e).1 (ho.own b e).2, hne⟩
theorem OwnR.to {K : Nat} {w w' : World} {v : Value} {L : List (List Nat)} (h : OwnR K w v L) (hb : Below w.heap.size w w') : OwnR K w' v L := h.fix fun b _ hlt => hb.block b hlt
theorem OwnR.set {K : Nat} {w : World} {v : Value} {L : List (List Nat)} (h : OwnR K w v L) {g : Nat} (hg : g < K) (i : Nat) (u : Value) : OwnR K (w.setCell ⟨g, i, none⟩ u) v L :=
  h.fix fun b hb _ => Below.heap_setCell w ⟨g, i, none⟩ u b (by show b ≠ g; omega)
theorem OwnR.own {K : Nat} {w : World} {v : Value} {L : List (List Nat)} (h : OwnR K w v L) : ∀ k, v.ownBlock = some k → K ≤ k ∧ k < w.heap.size := by
  rintro k hk
  rcases h with ⟨rfl, rfl⟩ | ⟨g, cap, cs, rfl, hb, h, _⟩
  · cases hk
  · injection hk with hk; subst hk; exact ⟨hb, h.lt⟩
theorem OwnR.form {K : Nat} {w : World} {v : Value} {L : List (List Nat)} (h : OwnR K w v L) : ∃ A c, v = .slice A L.length c := by
  rcases h with ⟨rfl, rfl⟩ | ⟨g, cap, cs, rfl, _⟩
  · exact ⟨_, _, rfl⟩
  · exact ⟨_, _, rfl⟩
theorem OwnR.gs {K : Nat} {w : World} {v : Value} {L : List (List Nat)} (h : OwnR K w v L) : Gs w v L := by
  rcases h with ⟨rfl, rfl⟩ | ⟨g, cap, cs, rfl, hg, hr, hs, hm, hl, hc⟩
  · exact Sl.nil_ w
  · refine ⟨_, cap, rfl, ⟨hl, hm⟩, fun h => (by cases h), fun _ => ⟨g, 0, rfl, fun k hk => ?_⟩⟩
    obtain ⟨u, hu, ho, _⟩ := hc k hk
    exact ⟨u, by rw [Nat.zero_add, hr.cell]; exact hu, ho.sl⟩
theorem OwnR.fx {K : Nat} {w : World} {v : Value} {L : List (List Nat)} (h : OwnR K w v L) : Fx K w v L := by
  intro w' hu
  rcases h with ⟨rfl, rfl⟩ | ⟨g, cap, cs, rfl, hg, hr, hs, hm, hl, hc⟩
  · exact Sl.nil_ w'
  · refine ⟨_, cap, rfl, ⟨hl, hm⟩, fun h => (by cases h), fun _ => ⟨g, 0, rfl, fun k hk => ?_⟩⟩
    obtain ⟨u, hu', ho, _⟩ := hc k hk
    exact ⟨u, by rw [Nat.zero_add]; exact (hu.2 _ hr.lt hg).trans ((hr.cell k).trans hu'), ho.nsUp (Nat.le_refl K) hu⟩
theorem OwnR.pushed {K : Nat} {w w' : World} {v u : Value} {L : List (List Nat)} {l : List Nat} {bu g cap : Nat} {xs : List Value} {e' : TypeId} (h : OwnR K w v L) (hu : OwnL Nv w bu 3 u l) (hK : K ≤ bu) (hv : ∀ k, v.ownBlock = some k → k < bu)
    (hxs : ∀ k (hk : k < L.length), ∃ u, xs[k]? = some u ∧ OwnL Nv w K 3 u L[k] ∧ ∀ b, u.ownBlock = some b → v.ownBlock ≠ some b) (hl : xs.length = L.length)
    (hr : w'.ownsRow K 40 1 (.slice (some ⟨g, 0, none⟩) (L.length + 1) cap) (L.length + 1) (xs ++ [u])) (hg : w.grownBy w' v.ownBlock) (hat : v.ownBlock = some g ∨ g = w.heap.size) :
    OwnR K w' (.slice (some ⟨g, 0, none⟩) (L.length + 1) cap) (L ++ [l]) := by
  have key : ∀ u l, OwnL Nv w K 3 u l → (∀ b, u.ownBlock = some b → v.ownBlock ≠ some b) → OwnL Nv w' K 3 u l ∧ ∀ b, u.ownBlock = some b → b ≠ g := by
    intro u l h1 h2
    refine ⟨h1.nfix fun b e => hg.block b (h1.own b e).2 (Ne.symm (h2 b e)), fun b e => ?_⟩
    rcases hat with hat | hat
    · intro hh; exact h2 b e (by rw [hat, hh])
    · have := (h1.own b e).2; omega
  obtain ⟨_, h⟩ := hr
  rcases h with ⟨h, _⟩ | ⟨g', cap', cur, hv', hb, hh, hle, hm, hs, ht⟩
  · cases h
  · injection hv' with hv1 hv2 hv3
    injection hv1 with hv1
    injection hv1 with hv1
    subst hv1 hv3
    refine Or.inr ⟨g, cap, cur, by simp, hb, hh, by omega, hm, by simp; omega, fun k hk => ?_⟩
    have hk' : k < L.length + 1 := by simpa using hk
    have h1 : cur[k]? = (xs ++ [u])[k]? := by
      rw [← ht, List.getElem?_take_of_lt (by omega)]; simp
    rcases Nat.lt_or_ge k L.length with hlt | hge
    · obtain ⟨u', hu', ho, hne⟩ := hxs k hlt
      refine ⟨u', by rw [h1, List.getElem?_append_left (by omega)]; exact hu', ?_⟩
      rw [List.getElem_append_left hlt]
      exact key _ _ ho hne
    · obtain rfl : k = L.length := by omega
      refine ⟨u, by rw [h1, ← hl]; simp, ?_⟩
      simp only [List.getElem_concat_length]
      exact key _ _ (hu.nlow hK) fun b e e2 => by have := (hu.own b e).1; have := hv b e2; omega
/-- 'append(v, u)' of rows. -/
theorem wp_push_R {K : Nat} {w : World} {o : Oper} {a : Act} {Kt : Act → World → Prop} {Q : Exit → Act → World → Prop} (s x : Operand)
    (ho : o.op = .call { callee := .builtin .append, args := #[s, x], argTypes := #[23, 23] })
    (v : Value) (L : List (List Nat)) (n b : Nat) (u : Value) (l : List Nat) (bu : Nat) (hs : a.eval s = v) (hown : OwnR K w v L) (hn : L.length = n) (hx : a.eval x = .slice (some ⟨b, 0, none⟩) 1 1) (hcell : w.cell? ⟨b, 0, none⟩ = some u)
    (hu : OwnL Nv w bu 3 u l) (hK : K ≤ bu) (hv : ∀ k, v.ownBlock = some k → k < bu) (hlen : n ≤ 100000) (hbase : K ≤ w.heap.size)
    (h : ∀ g cap w', OwnR K w' (.slice (some ⟨g, 0, none⟩) (n + 1) cap) (L ++ [l]) → w.grownBy w' v.ownBlock → (v.ownBlock = some g ∨ g = w.heap.size) → Kt (a.put o.dst (.slice (some ⟨g, 0, none⟩) (n + 1) cap)) w') : o.wp Tryd.prog a w Kt Q := by
  subst hn
  obtain ⟨i, hi, hz, hsz, hby⟩ := info_parts info_rws
  have hrow : ∃ xs, w.ownsRow K 40 1 v L.length xs ∧ xs.length = L.length ∧ ∀ k (hk : k < L.length), ∃ u, xs[k]? = some u ∧ OwnL Nv w K 3 u L[k] ∧ ∀ b, u.ownBlock = some b → v.ownBlock ≠ some b := by
    rcases hown with ⟨rfl, rfl⟩ | ⟨g, cap, cs, rfl, hg, hr, hs, hm, hl, hc⟩
    · exact ⟨[], World.ownsRow_nil _ _ _ _, rfl, fun k hk => absurd hk (Nat.not_lt_zero k)⟩
    · refine ⟨cs.toList.take L.length, ⟨by simp; omega, Or.inr ⟨g, cap, cs, rfl, hg, hr, hl, hm, by omega, by simp⟩⟩, by simp; omega, fun k hk => ?_⟩
      obtain ⟨u, hu, ho, hne⟩ := hc k hk
      refine ⟨u, by rw [List.getElem?_take_of_lt hk]; simpa using hu, ho, fun b e e2 => ?_⟩
      injection e2 with e2
      exact hne b e e2.symm
  obtain ⟨xs, hrow, hxl, hxs⟩ := hrow
  refine wp_append_lies w s x _ ho K _ i _ 1 24 Tryd.underlying23 hi hz hsz hby rfl (by decide) v L.length xs hs hrow ⟨b, 0, none⟩ 1 1 [u] hx rfl (fun j u' hj => ?_) (fun u' hu' => ?_) (by decide) (by unfold maxLen; omega) (by omega) hbase _ rfl fun g cap w' hown' hgrow hat _ => ?_
  · match j, hj with
    | 0, hj => simp at hj; subst hj; rw [Go.WideShapes.add_plain]; exact hcell
  · simp at hu'; subst hu'; obtain ⟨A, c, rfl⟩ := slform hu.sl; rfl
  · exact h g cap w' (OwnR.pushed (e' := 3) hown hu hK hv hxs hxl hown' hgrow hat) hgrow hat
theorem wpList_push_R {K : Nat} {w : World} {ops : Array Oper} {rest : List Oper} {o : Oper} {a : Act} {Q : Exit → Act → World → Prop} (hgd : o.guard = none) (s x : Operand)
    (ho : o.op = .call { callee := .builtin .append, args := #[s, x], argTypes := #[23, 23] })
    (v : Value) (L : List (List Nat)) (n b : Nat) (u : Value) (l : List Nat) (bu : Nat) (hs : a.eval s = v) (hown : OwnR K w v L) (hn : L.length = n) (hx : a.eval x = .slice (some ⟨b, 0, none⟩) 1 1) (hcell : w.cell? ⟨b, 0, none⟩ = some u)
    (hu : OwnL Nv w bu 3 u l) (hK : K ≤ bu) (hv : ∀ k, v.ownBlock = some k → k < bu) (hlen : n ≤ 100000) (hbase : K ≤ w.heap.size)
    (h : ∀ g cap w', OwnR K w' (.slice (some ⟨g, 0, none⟩) (n + 1) cap) (L ++ [l]) → w.grownBy w' v.ownBlock → (v.ownBlock = some g ∨ g = w.heap.size) → wpList Tryd.prog ops Q rest (a.put o.dst (.slice (some ⟨g, 0, none⟩) (n + 1) cap)) w') : wpList Tryd.prog ops Q (o :: rest) a w :=
  wpList_plain hgd fun _ hK' => wp_push_R s x ho v L n b u l bu hs hown hn hx hcell hu hK hv hlen hbase fun g cap w' h1 h2 h3 => hK' _ _ (h g cap w' h1 h2 h3)
/-- A design as a result of its own. -/
def rdFx (n : Nat) (L : List (List Nat)) (w : World) (e : Ending) (w' : World) : Prop := ∃ v, e = .returned (dv n v) ∧ Fx w.heap.size w' v L ∧ Below w.heap.size w w'
theorem rd_of {n : Nat} {L : List (List Nat)} {w w' : World} {e : Ending} (h : rdFx n L w e w') : ∃ v, e = .returned (dv n v) ∧ Gs w' v L ∧ Below w.heap.size w w' := by obtain ⟨v, he, hf, hb⟩ := h; exact ⟨v, he, hf.gs, hb⟩
def rdPost (n : Nat) (L : List (List Nat)) (w : World) (e : Ending) (w' : World) : Prop := ∃ v, e = .returned (dv n v) ∧ Gs w' v L ∧ Below w.heap.size w w'
end Go.Proofs.YtnnacofjogfkeaaDoor
