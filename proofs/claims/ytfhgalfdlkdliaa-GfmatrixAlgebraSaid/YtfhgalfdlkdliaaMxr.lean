/- A list of the call's own beside another one; contract of the reference's Independent. -/
import Derived.Test.YtfhgalfdlkdliaaMxq
import Derived.Test.YtfhgalfdlkdliaaMxm
namespace Go.Proofs.Ytfhgalfdlkdliaa
open Go Go.RowKit Lin

section
variable {α : Type} {R : World → Value → α → Prop}
/-- The list v is nil or the head of a block of the call's own, and its elements outlive writes to that block and to block pv. -/
def OwnX (R : World → Value → α → Prop) (w : World) (base : Nat) (e : TypeId) (v : Value) (pv : Option Nat) (l : List α) : Prop :=
  (v = .slice none 0 0 ∧ l = []) ∨ ∃ g cap, v = .slice (some ⟨g, 0, none⟩) l.length cap ∧ base ≤ g ∧ pv ≠ some g ∧ Wx R w (fun x => v.ownBlock = some x ∨ pv = some x) g e cap l
theorem OwnX.below {w w' : World} {base : Nat} {e : TypeId} {v : Value} {pv : Option Nat} {l : List α} (h : OwnX R w base e v pv l) {B : Nat} (hb : Below B w w') (hB : w.heap.size ≤ B) : OwnX R w' base e v pv l := by
  rcases h with h | ⟨g, cap, hv, hg, hp, h⟩
  · exact Or.inl h
  · exact Or.inr ⟨g, cap, hv, hg, hp, h.below hb hB⟩
theorem OwnX.alloc {w : World} {base : Nat} {e : TypeId} {v : Value} {pv : Option Nat} {l : List α} (h : OwnX R w base e v pv l) (o : Obj) : OwnX R (w.alloc o) base e v pv l := h.below ((Below.refl w.heap.size w).alloc (Nat.le_refl _) o) (Nat.le_refl _)
theorem OwnX.own {w : World} {base : Nat} {e : TypeId} {v : Value} {pv : Option Nat} {l : List α} (h : OwnX R w base e v pv l) : ∀ k, v.ownBlock = some k → base ≤ k ∧ k < w.heap.size ∧ pv ≠ some k := by
  rintro k hk
  rcases h with ⟨rfl, rfl⟩ | ⟨g, cap, rfl, hb, hp, h⟩
  · cases hk
  · injection hk with hk; subst hk; exact ⟨hb, h.lt, hp⟩
theorem OwnX.ownL {w : World} {base : Nat} {e : TypeId} {v : Value} {pv : Option Nat} {l : List α} (h : OwnX R w base e v pv l) : OwnL R w base e v l := by
  rcases h with h | ⟨g, cap, rfl, hb, hp, h⟩
  · exact Or.inl h
  · exact Or.inr ⟨g, cap, rfl, hb, h.wk (Or.inl rfl)⟩
/-- Behind a push to the other list. -/
theorem OwnX.other {w w' : World} {base : Nat} {e : TypeId} {v : Value} {pv : Option Nat} {l : List α} {g' : Nat} (h : OwnX R w base e v pv l) (hg : w.grownBy w' pv) (hat : pv = some g' ∨ g' = w.heap.size) : OwnX R w' base e v (some g') l := by
  rcases h with h | ⟨g, cap, rfl, hb, hp, h⟩
  · exact Or.inl h
  · have hlt := h.lt
    refine Or.inr ⟨g, cap, rfl, hb, fun e => ?_, ?_⟩
    · injection e with e
      rcases hat with hat | hat
      · exact hp (by rw [hat, e])
      · omega
    · have h' : Wx R w (fun b => b = g ∨ pv = some b) g e cap l := by
        obtain ⟨cs, hr, hs, hm, hl, hc⟩ := h
        refine ⟨cs, hr, hs, hm, hl, fun k hk => ?_⟩
        obtain ⟨u, hu, ho⟩ := hc k hk
        exact ⟨u, hu, fun w'' k' => ho w'' ⟨k'.1, fun p hp hn => k'.2 p hp fun hh => hn (by rcases hh with hh | hh; exact Or.inl (by rw [hh]; rfl); exact Or.inr hh)⟩⟩
      have h2 := h'.push hg hp hat
      obtain ⟨cs, hr, hs, hm, hl, hc⟩ := h2
      refine ⟨cs, hr, hs, hm, hl, fun k hk => ?_⟩
      obtain ⟨u, hu, ho⟩ := hc k hk
      exact ⟨u, hu, fun w'' k' => ho w'' ⟨k'.1, fun p hp hn => k'.2 p hp fun hh => hn (by rcases hh with hh | hh; injection hh with hh; exact Or.inl hh.symm; exact Or.inr hh)⟩⟩
theorem OwnL.plain1 {w w' : World} {base : Nat} {e : TypeId} {v : Value} {l : List α} (hp : ∀ w w' u x, R w u x → R w' u x) (h : OwnL R w base e v l) (hk : ∀ k, v.ownBlock = some k → w'.heap[k]? = w.heap[k]?) : OwnL R w' base e v l := by
  rcases h with ⟨rfl, rfl⟩ | ⟨g, cap, rfl, hg, h⟩
  · exact Or.inl ⟨rfl, rfl⟩
  · obtain ⟨cs, hr, hs, hm, hl, hc⟩ := h
    refine Or.inr ⟨g, cap, rfl, hg, cs, (hk g rfl).trans hr, hs, hm, hl, fun k hk => ?_⟩
    obtain ⟨u, hu, ho⟩ := hc k hk
    exact ⟨u, hu, fun w'' _ => hp _ _ _ _ ho.here⟩
/-- 'append(v, x)' beside another list. -/
theorem wpList_pushX {P : Program} {w : World} {ops : Array Oper} {rest : List Oper} {o : Oper} {a : Act} {Q : Exit → Act → World → Prop} (hgd : o.guard = none) (s x : Operand) (t : TypeId)
    (ho : o.op = .call { callee := .builtin .append, args := #[s, x], argTypes := #[t, t] })
    (base : Nat) (e : TypeId) (i : TypeInfo) (z : Value) (bytes : Nat) (ht : P.underlying t = some (.slice e)) (hi : P.info? e = some i) (hz : i.zero = some z) (hsize : i.size = 1) (hby : i.bytes = bytes) (hzs : z.cells.size = 1)
    (v : Value) (pv : Option Nat) (l : List α) (hs : a.eval s = v) (hown : OwnX R w base e v pv l) (hpv : ∀ x, pv = some x → x < w.heap.size) (n : Nat) (hn : l.length = n)
    (b : Nat) (u : Value) (y : α) (hx : a.eval x = .slice (some ⟨b, 0, none⟩) 1 1) (hcell : w.cell? ⟨b, 0, none⟩ = some u) (h1 : u.oneCell' = true) (hu : OffS R w (fun x => v.ownBlock = some x ∨ pv = some x) u y)
    (h63 : n + 1 ≤ maxLen) (hbytes : (n + 1) * bytes ≤ 140737488355328) (hbase : base ≤ w.heap.size)
    (h : ∀ g cap w', OwnX R w' base e (.slice (some ⟨g, 0, none⟩) (n + 1) cap) pv (l ++ [y]) → w.grownBy w' v.ownBlock → (v.ownBlock = some g ∨ g = w.heap.size) → wpList P ops Q rest (a.put o.dst (.slice (some ⟨g, 0, none⟩) (n + 1) cap)) w') : wpList P ops Q (o :: rest) a w := by
  subst hn
  have hrow : ∃ xs, w.ownsRow base e 1 v l.length xs ∧ ∀ k (hk : k < l.length), ∃ u, xs[k]? = some u ∧ OffS R w (fun x => v.ownBlock = some x ∨ pv = some x) u l[k] := by
    rcases hown with ⟨rfl, rfl⟩ | ⟨g, cap, rfl, hb, hp, cs, hr, hs, hm, hl, hc⟩
    · exact ⟨[], World.ownsRow_nil _ _ _ _, fun k hk => absurd hk (Nat.not_lt_zero k)⟩
    · refine ⟨cs.toList.take l.length, ⟨by simp; omega, Or.inr ⟨g, cap, cs, rfl, hb, hr, hl, hm, by omega, by simp⟩⟩, fun k hk => ?_⟩
      obtain ⟨u, hu, ho⟩ := hc k hk
      exact ⟨u, by rw [List.getElem?_take_of_lt hk]; simpa using hu, ho⟩
  have hown' := hown.own
  obtain ⟨xs, hrow, hxs⟩ := hrow
  have hl : xs.length = l.length := by have := hrow.1; omega
  refine wpList_append_lies w hgd s x t ho base e i z 1 bytes ht hi hz hsize hby hzs (by decide) v l.length xs hs hrow ⟨b, 0, none⟩ 1 1 [u] hx rfl (fun j u' hj => ?_) (fun u' hu' => ?_) (by decide) h63 hbytes hbase _ rfl fun g cap w' hnew hgrow hat _ => ?_
  · match j, hj with
    | 0, hj => simp at hj; subst hj; rw [Go.WideShapes.add_plain]; exact hcell
  · simp at hu'; subst hu'; exact h1
  · refine h g cap w' ?_ hgrow hat
    have key : ∀ u y, OffS R w (fun x => v.ownBlock = some x ∨ pv = some x) u y → OffS R w' (fun x => (Value.slice (some ⟨g, 0, none⟩) (l.length + 1) cap).ownBlock = some x ∨ pv = some x) u y := by
      intro u y hu w'' k'
      refine hu w'' ⟨Nat.le_trans hgrow.size k'.1, fun p hp hn => ?_⟩
      have h1 : v.ownBlock ≠ some p.block := fun e => hn (Or.inl e)
      have h2 : pv ≠ some p.block := fun e => hn (Or.inr e)
      refine (k'.2 p (by have := hgrow.size; omega) ?_).trans (World.cell?_of_block (hgrow.block p.block hp fun e => h1 e.symm))
      rintro (e | e)
      · have e : some g = some p.block := e
        injection e with e
        rcases hat with hat | hat
        · exact h1 (by rw [hat, e])
        · omega
      · exact h2 e
    obtain ⟨_, hnew⟩ := hnew
    rcases hnew with ⟨hnew, _⟩ | ⟨g', cap', cur, hv, hb, hh, hle, hm, hs', ht'⟩
    · cases hnew
    · injection hv with hv1 hv2 hv3
      injection hv1 with hv1
      injection hv1 with hv1
      subst hv1 hv3
      refine Or.inr ⟨g, cap, by simp, hb, fun e => ?_, cur, hh, by omega, hm, by simp; omega, fun k hk => ?_⟩
      · rcases hat with hat | hat
        · exact (hown' g hat).2.2 e
        · have := hpv g e; omega
      · have hk' : k < l.length + 1 := by simpa using hk
        have h1 : cur[k]? = (xs ++ [u])[k]? := by
          rw [← ht', List.getElem?_take_of_lt (by omega)]; simp
        rcases Nat.lt_or_ge k l.length with hlt | hge
        · obtain ⟨u', hu', ho'⟩ := hxs k hlt
          refine ⟨u', by rw [h1, List.getElem?_append_left (by omega)]; exact hu', ?_⟩
          rw [List.getElem_append_left hlt]
          exact key _ _ ho'
        · obtain rfl : k = l.length := by omega
          refine ⟨u, by rw [h1, ← hl]; simp, ?_⟩
          simp only [List.getElem_concat_length]
          exact key _ _ hu
end
end Go.Proofs.Ytfhgalfdlkdliaa
