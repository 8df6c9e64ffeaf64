/- Slices of anything in memory: what a slice reads as, element by element; lists that a call builds in a block of its own. -/
import Derived.Test.YtfhgalfdlkdliaaMem
import Derived.Deep.AppendLies
import Derived.OwnWalk
namespace Go.Proofs.Ytfhgalfdlkdliaa
open Go Go.RowKit

/-- All cells of `w` are the same in `w'`. -/
def Same (w w' : World) : Prop := w.heap.size ≤ w'.heap.size ∧ ∀ p : Addr, p.block < w.heap.size → w'.cell? p = w.cell? p
/-- All cells but those of block `g`. -/
def SameOff (g : Nat) (w w' : World) : Prop := w.heap.size ≤ w'.heap.size ∧ ∀ p : Addr, p.block < w.heap.size → p.block ≠ g → w'.cell? p = w.cell? p
theorem Same.off {w w' : World} (h : Same w w') (g : Nat) : SameOff g w w' := ⟨h.1, fun p hp _ => h.2 p hp⟩
theorem SameOff.refl (g : Nat) (w : World) : SameOff g w w := ⟨Nat.le_refl _, fun _ _ _ => rfl⟩
theorem SameOff.trans {g : Nat} {a b c : World} (h : SameOff g a b) (k : SameOff g b c) : SameOff g a c :=
  ⟨Nat.le_trans h.1 k.1, fun p hp hg => (k.2 p (Nat.lt_of_lt_of_le hp h.1) hg).trans (h.2 p hp hg)⟩
theorem Below.toSame {w w' : World} (h : Below w.heap.size w w') : Same w w' := ⟨h.size, fun _ hp => h.cell hp⟩
theorem alloc_same (w : World) (o : Obj) : Same w (w.alloc o) := ⟨by simp, fun p hp => World.cell?_alloc_lt w o p hp⟩
theorem Same.refl (w : World) : Same w w := ⟨Nat.le_refl _, fun _ _ => rfl⟩
theorem Same.trans {a b c : World} (h : Same a b) (k : Same b c) : Same a c := ⟨Nat.le_trans h.1 k.1, fun p hp => (k.2 p (Nat.lt_of_lt_of_le hp h.1)).trans (h.2 p hp)⟩
theorem Same.drew {a b : World} (h : Same a b) : Same a b.drew := h
theorem SameOff.drew {g : Nat} {a b : World} (h : SameOff g a b) : SameOff g a b.drew := h
theorem setCell_off (w : World) (g i : Nat) (u : Value) : SameOff g w (w.setCell ⟨g, i, none⟩ u) :=
  ⟨by simp [World.setCell], fun p _ hg => World.cell?_of_block (Below.heap_setCell w ⟨g, i, none⟩ u p.block hg)⟩
theorem grown_off {w w' : World} {g : Nat} (h : w.grownBy w' (some g)) : SameOff g w w' := ⟨h.size, fun p hp hg => World.cell?_of_block (h.block p.block hp (by simpa using hg))⟩
theorem grown_none {w w' : World} (h : w.grownBy w' none) : Same w w' := ⟨h.size, fun p hp => World.cell?_of_block (h.block p.block hp (by simp))⟩

section
variable {α : Type} {R : World → Value → α → Prop}
/-- `u` reads as `x`, whatever becomes of block `g`. -/
def Off (R : World → Value → α → Prop) (w : World) (g : Nat) (u : Value) (x : α) : Prop := ∀ w', SameOff g w w' → R w' u x
/-- What reads as x does so as long as all cells stay. -/
def Keeps (R : World → Value → α → Prop) : Prop := ∀ w w' u x, R w u x → Same w w' → R w' u x
/-- `u` reads as `x`, and in new memory alone (from block B on). -/
def Made (R : World → Value → α → Prop) (B : Nat) (w : World) (u : Value) (x : α) : Prop := R w u x ∧ ∀ g, g < B → Off R w g u x
theorem Off.here {w : World} {g : Nat} {u : Value} {x : α} (h : Off R w g u x) : R w u x := h w (SameOff.refl g w)
theorem Off.go {w w' : World} {g : Nat} {u : Value} {x : α} (h : Off R w g u x) (k : SameOff g w w') : Off R w' g u x := fun w'' k' => h w'' (k.trans k')
theorem Off.new {w : World} {g : Nat} {u : Value} {x : α} (hK : Keeps R) (h : R w u x) (hg : w.heap.size ≤ g) : Off R w g u x :=
  fun w' k => hK w w' u x h ⟨k.1, fun p hp => k.2 p hp (by omega)⟩
theorem Made.off {B : Nat} {w : World} {u : Value} {x : α} (h : Made R B w u x) {g : Nat} (hg : g < B) : Off R w g u x := h.2 g hg
theorem Made.go {B : Nat} {w w' : World} {u : Value} {x : α} (hK : Keeps R) (h : Made R B w u x) (k : Same w w') : Made R B w' u x := ⟨hK _ _ _ _ h.1 k, fun g hg => (h.2 g hg).go (k.off g)⟩

/-- The slice `v` reads as the list `l`, each element by `R`. -/
def Sl (R : World → Value → α → Prop) (w : World) (v : Value) (l : List α) : Prop :=
  ∃ A c, v = .slice A l.length c ∧ (l.length ≤ c ∧ c ≤ maxLen) ∧ (A = none → c = 0) ∧
    (0 < l.length → ∃ b off, A = some ⟨b, off, none⟩ ∧ ∀ k (h : k < l.length), ∃ u, w.cell? ⟨b, off + k, none⟩ = some u ∧ R w u l[k])
theorem Sl.keeps (hK : Keeps R) : Keeps (Sl R) := by
  rintro w w' v l ⟨A, c, rfl, hm, hz, hc⟩ hs
  refine ⟨A, c, rfl, hm, hz, fun hn => ?_⟩
  obtain ⟨b, off, rfl, hcell⟩ := hc hn
  refine ⟨b, off, rfl, fun k hk => ?_⟩
  obtain ⟨u, hu, hr⟩ := hcell k hk
  exact ⟨u, (hs.2 _ (World.block_lt_of_cell? w _ hu)).trans hu, hK _ _ _ _ hr hs⟩
theorem Sl.nil_ (w : World) : Sl R w (.slice none 0 0) [] := ⟨none, 0, rfl, ⟨Nat.le_refl 0, Nat.zero_le _⟩, fun _ => rfl, fun h => absurd h (Nat.lt_irrefl 0)⟩
theorem Sl.len {w : World} {v : Value} {l : List α} (h : Sl R w v l) : l.length ≤ maxLen := by obtain ⟨_, _, _, hm, _⟩ := h; exact Nat.le_trans hm.1 hm.2
theorem Sl.imp {R' : World → Value → α → Prop} {w : World} {v : Value} {l : List α} (h : Sl R w v l) (hR : ∀ u x, R w u x → R' w u x) : Sl R' w v l := by
  obtain ⟨A, c, rfl, hm, hz, hc⟩ := h
  refine ⟨A, c, rfl, hm, hz, fun hn => ?_⟩
  obtain ⟨b, off, rfl, hcell⟩ := hc hn
  exact ⟨b, off, rfl, fun k hk => by obtain ⟨u, hu, hr⟩ := hcell k hk; exact ⟨u, hu, hR _ _ hr⟩⟩

/-- Block `g` is a row of `cap` cells of type `e`; the first of them read as the list `l`, whatever becomes of block `g`. -/
def Wk (R : World → Value → α → Prop) (w : World) (g : Nat) (e : TypeId) (cap : Nat) (l : List α) : Prop :=
  ∃ cs, Row w g e cs ∧ cs.size = cap ∧ cap ≤ maxLen ∧ l.length ≤ cap ∧ ∀ k (h : k < l.length), ∃ u, cs[k]? = some u ∧ Off R w g u l[k]
theorem Wk.lt {w : World} {g : Nat} {e : TypeId} {cap : Nat} {l : List α} (h : Wk R w g e cap l) : g < w.heap.size := by obtain ⟨_, h, _⟩ := h; exact h.lt
theorem Wk.cell {w : World} {g : Nat} {e : TypeId} {cap : Nat} {l : List α} (h : Wk R w g e cap l) {k : Nat} (hk : k < l.length) : ∃ u, w.cell? ⟨g, k, none⟩ = some u ∧ Off R w g u l[k] := by
  obtain ⟨cs, hr, _, _, _, hc⟩ := h
  obtain ⟨u, hu, ho⟩ := hc k hk
  exact ⟨u, by rw [hr.cell]; exact hu, ho⟩
theorem Wk.frozen {w : World} {g : Nat} {e : TypeId} {cap : Nat} {l : List α} (h : Wk R w g e cap l) (i : Nat) : w.frozen? ⟨g, i, none⟩ = false := by obtain ⟨_, h, _⟩ := h; exact h.frozen i
theorem Wk.sl {w : World} {g : Nat} {e : TypeId} {cap : Nat} {l : List α} (h : Wk R w g e cap l) : Sl R w (.slice (some ⟨g, 0, none⟩) l.length cap) l := by
  refine ⟨_, cap, rfl, by obtain ⟨_, _, _, h1, h2, _⟩ := h; exact ⟨h2, h1⟩, fun h => (by cases h), fun _ => ⟨g, 0, rfl, fun k hk => ?_⟩⟩
  obtain ⟨u, hu, ho⟩ := h.cell hk
  exact ⟨u, by rw [Nat.zero_add]; exact hu, ho.here⟩
theorem Wk.below {w w' : World} {g : Nat} {e : TypeId} {cap : Nat} {l : List α} (h : Wk R w g e cap l) {B : Nat} (hb : Below B w w') (hB : w.heap.size ≤ B) : Wk R w' g e cap l := by
  have hg := h.lt
  obtain ⟨cs, hr, hs, hm, hl, hc⟩ := h
  refine ⟨cs, hr.below hb (by omega), hs, hm, hl, fun k hk => ?_⟩
  obtain ⟨u, hu, ho⟩ := hc k hk
  exact ⟨u, hu, ho.go ⟨hb.size, fun p hp _ => hb.cell (by omega)⟩⟩
theorem Wk.alloc {w : World} {g : Nat} {e : TypeId} {cap : Nat} {l : List α} (h : Wk R w g e cap l) (o : Obj) : Wk R (w.alloc o) g e cap l := h.below ((Below.refl w.heap.size w).alloc (Nat.le_refl _) o) (Nat.le_refl _)
theorem Wk.drew {w : World} {g : Nat} {e : TypeId} {cap : Nat} {l : List α} (h : Wk R w g e cap l) : Wk R w.drew g e cap l := h.below (Below.refl w.heap.size w).drew (Nat.le_refl _)
theorem Wk.store {w : World} {g : Nat} {e : TypeId} {cap : Nat} {l : List α} (h : Wk R w g e cap l) (i : Nat) {u : Value} {x : α} (hu : Off R w g u x) : Wk R (w.setCell ⟨g, i, none⟩ u) g e cap (l.set i x) := by
  obtain ⟨cs, hr, hs, hm, hl, hc⟩ := h
  refine ⟨_, hr.store i u, by simpa using hs, hm, by simpa using hl, fun k hk => ?_⟩
  have hk' : k < l.length := by simpa using hk
  have hso := setCell_off w g i u
  by_cases e : i = k
  · subst e
    refine ⟨u, by rw [Array.getElem?_setIfInBounds_self_of_lt (by omega)], ?_⟩
    rw [List.getElem_set_self]
    exact hu.go hso
  · obtain ⟨u', hu', ho⟩ := hc k hk'
    refine ⟨u', by rw [Array.getElem?_setIfInBounds_ne e]; exact hu', ?_⟩
    rw [List.getElem_set_ne e]
    exact ho.go hso
/-- The list is nil, or the head of a block of the call's own. -/
def OwnL (R : World → Value → α → Prop) (w : World) (base : Nat) (e : TypeId) (v : Value) (l : List α) : Prop :=
  (v = .slice none 0 0 ∧ l = []) ∨ ∃ g cap, v = .slice (some ⟨g, 0, none⟩) l.length cap ∧ base ≤ g ∧ Wk R w g e cap l
theorem OwnL.nil_ (w : World) (base : Nat) (e : TypeId) : OwnL R w base e (.slice none 0 0) [] := Or.inl ⟨rfl, rfl⟩
theorem OwnL.sl {w : World} {base : Nat} {e : TypeId} {v : Value} {l : List α} (h : OwnL R w base e v l) : Sl R w v l := by
  rcases h with ⟨rfl, rfl⟩ | ⟨g, cap, rfl, _, h⟩
  · exact Sl.nil_ w
  · exact h.sl
theorem OwnL.own {w : World} {base : Nat} {e : TypeId} {v : Value} {l : List α} (h : OwnL R w base e v l) : ∀ k, v.ownBlock = some k → base ≤ k ∧ k < w.heap.size := by
  rintro k hk
  rcases h with ⟨rfl, rfl⟩ | ⟨g, cap, rfl, hb, h⟩
  · cases hk
  · injection hk with hk; subst hk; exact ⟨hb, h.lt⟩
theorem OwnL.below {w w' : World} {base : Nat} {e : TypeId} {v : Value} {l : List α} (h : OwnL R w base e v l) {B : Nat} (hb : Below B w w') (hB : w.heap.size ≤ B) : OwnL R w' base e v l := by
  rcases h with ⟨rfl, rfl⟩ | ⟨g, cap, rfl, hg, h⟩
  · exact Or.inl ⟨rfl, rfl⟩
  · exact Or.inr ⟨g, cap, rfl, hg, h.below hb hB⟩
theorem OwnL.alloc {w : World} {base : Nat} {e : TypeId} {v : Value} {l : List α} (h : OwnL R w base e v l) (o : Obj) : OwnL R (w.alloc o) base e v l := h.below ((Below.refl w.heap.size w).alloc (Nat.le_refl _) o) (Nat.le_refl _)
theorem OwnL.drew {w : World} {base : Nat} {e : TypeId} {v : Value} {l : List α} (h : OwnL R w base e v l) : OwnL R w.drew base e v l := h.below (Below.refl w.heap.size w).drew (Nat.le_refl _)
theorem OwnL.wk {w : World} {base : Nat} {e : TypeId} {v : Value} {l : List α} (h : OwnL R w base e v l) (hl : 0 < l.length) : ∃ g cap, v = .slice (some ⟨g, 0, none⟩) l.length cap ∧ base ≤ g ∧ Wk R w g e cap l := by
  rcases h with ⟨rfl, rfl⟩ | h
  · exact absurd hl (Nat.lt_irrefl 0)
  · exact h
theorem OwnL.of_wk {w : World} {base : Nat} {e : TypeId} {g cap n : Nat} {l : List α} (h : Wk R w g e cap l) (hb : base ≤ g) (hn : l.length = n) : OwnL R w base e (.slice (some ⟨g, 0, none⟩) n cap) l := by
  subst hn; exact Or.inr ⟨g, cap, rfl, hb, h⟩
theorem OwnL.row {w : World} {base : Nat} {e : TypeId} {v : Value} {l : List α} (h : OwnL R w base e v l) :
    ∃ xs, w.ownsRow base e 1 v l.length xs ∧ ∀ k (hk : k < l.length), ∃ u, xs[k]? = some u ∧ (∀ g, v.ownBlock = some g → Off R w g u l[k]) := by
  rcases h with ⟨rfl, rfl⟩ | ⟨g, cap, rfl, hb, cs, hr, hs, hm, hl, hc⟩
  · exact ⟨[], World.ownsRow_nil _ _ _ _, fun k hk => absurd hk (Nat.not_lt_zero k)⟩
  · refine ⟨cs.toList.take l.length, ⟨by simp; omega, Or.inr ⟨g, cap, cs, rfl, hb, hr, hl, hm, by omega, by simp⟩⟩, fun k hk => ?_⟩
    obtain ⟨u, hu, ho⟩ := hc k hk
    refine ⟨u, by rw [List.getElem?_take_of_lt hk]; simpa using hu, fun g' hg' => ?_⟩
    injection hg' with hg'
    subst hg'
    exact ho
/-- What a push leaves. -/
theorem OwnL.pushed {w w' : World} {base : Nat} {e : TypeId} {v : Value} {l : List α} {x : α} {u : Value} {xs : List Value} {g cap : Nat} (hK : Keeps R)
    (hxs : ∀ k (hk : k < l.length), ∃ u, xs[k]? = some u ∧ R w u l[k] ∧ (∀ g, v.ownBlock = some g → Off R w g u l[k])) (hu : R w u x) (hoff : ∀ g, v.ownBlock = some g → Off R w g u x) (hl : xs.length = l.length)
    (h : w'.ownsRow base e 1 (.slice (some ⟨g, 0, none⟩) (l.length + 1) cap) (l.length + 1) (xs ++ [u])) (hg : w.grownBy w' v.ownBlock) (hat : v.ownBlock = some g ∨ g = w.heap.size) :
    OwnL R w' base e (.slice (some ⟨g, 0, none⟩) (l.length + 1) cap) (l ++ [x]) := by
  have key : ∀ u y, R w u y → (∀ g, v.ownBlock = some g → Off R w g u y) → Off R w' g u y := by
    intro u y h1 h2
    rcases hat with hat | hat
    · exact (h2 g hat).go (grown_off (by rw [← hat]; exact hg))
    · rcases hv : v.ownBlock with _ | g0
      · rw [hv] at hg
        exact (Off.new hK h1 (Nat.le_of_eq hat.symm)).go ((grown_none hg).off g)
      · intro w'' k
        rw [hv] at hg
        have hgo := grown_off hg
        refine h2 g0 hv w'' ⟨Nat.le_trans hgo.1 k.1, fun p hp hne => ?_⟩
        exact (k.2 p (by have := hgo.1; omega) (by omega)).trans (hgo.2 p hp hne)
  obtain ⟨_, h⟩ := h
  rcases h with ⟨h, _⟩ | ⟨g', cap', cur, hv, hb, hh, hle, hm, hs, ht⟩
  · cases h
  · injection hv with hv1 hv2 hv3
    injection hv1 with hv1
    injection hv1 with hv1
    subst hv1 hv3
    refine Or.inr ⟨g, cap, by simp, hb, cur, hh, by omega, hm, by simp; omega, fun k hk => ?_⟩
    have hk' : k < l.length + 1 := by simpa using hk
    have h1 : cur[k]? = (xs ++ [u])[k]? := by
      rw [← ht, List.getElem?_take_of_lt (by omega)]; simp
    rcases Nat.lt_or_ge k l.length with hlt | hge
    · obtain ⟨u', hu', hr, ho⟩ := hxs k hlt
      refine ⟨u', by rw [h1, List.getElem?_append_left (by omega)]; exact hu', ?_⟩
      rw [List.getElem_append_left hlt]
      exact key _ _ hr ho
    · obtain rfl : k = l.length := by omega
      refine ⟨u, by rw [h1, ← hl]; simp, ?_⟩
      simp only [List.getElem_concat_length]
      exact key _ _ hu hoff
/-- 'append(v, x)': v nil or the call's own; x laid in a block of one cell. -/
theorem wpList_push_at {P : Program} {w : World} {ops : Array Oper} {rest : List Oper} {o : Oper} {a : Act} {Q : Exit → Act → World → Prop} (hgd : o.guard = none) (s x : Operand) (t : TypeId)
    (ho : o.op = .call { callee := .builtin .append, args := #[s, x], argTypes := #[t, t] })
    (base : Nat) (e : TypeId) (i : TypeInfo) (z : Value) (bytes : Nat) (ht : P.underlying t = some (.slice e)) (hi : P.info? e = some i) (hz : i.zero = some z) (hsize : i.size = 1) (hby : i.bytes = bytes) (hzs : z.cells.size = 1)
    (hK : Keeps R) (v : Value) (l : List α) (hs : a.eval s = v) (hown : OwnL R w base e v l) (n : Nat) (hn : l.length = n)
    (b : Nat) (u : Value) (y : α) (hx : a.eval x = .slice (some ⟨b, 0, none⟩) 1 1) (hcell : w.cell? ⟨b, 0, none⟩ = some u) (h1 : u.oneCell' = true) (hu : R w u y) (hoff : ∀ g, v.ownBlock = some g → Off R w g u y)
    (h63 : n + 1 ≤ maxLen) (hbytes : (n + 1) * bytes ≤ 140737488355328) (hbase : base ≤ w.heap.size)
    (h : ∀ g cap w', OwnL R w' base e (.slice (some ⟨g, 0, none⟩) (n + 1) cap) (l ++ [y]) → w.grownBy w' v.ownBlock → (v.ownBlock = some g ∨ g = w.heap.size) → wpList P ops Q rest (a.put o.dst (.slice (some ⟨g, 0, none⟩) (n + 1) cap)) w') : wpList P ops Q (o :: rest) a w := by
  subst hn
  obtain ⟨xs, hrow, hxs⟩ := hown.row
  have hl : xs.length = l.length := by have := hrow.1; omega
  have hxs' : ∀ k (hk : k < l.length), ∃ u, xs[k]? = some u ∧ R w u l[k] ∧ (∀ g, v.ownBlock = some g → Off R w g u l[k]) := by
    intro k hk
    obtain ⟨u', hu', ho'⟩ := hxs k hk
    refine ⟨u', hu', ?_, ho'⟩
    rcases hown with ⟨rfl, rfl⟩ | ⟨g, cap, rfl, _, _⟩
    · exact absurd hk (Nat.not_lt_zero k)
    · exact (ho' g rfl).here
  refine wpList_append_lies w hgd s x t ho base e i z 1 bytes ht hi hz hsize hby hzs (by decide) v l.length xs hs hrow ⟨b, 0, none⟩ 1 1 [u] hx rfl (fun j u' hj => ?_) (fun u' hu' => ?_) (by decide) h63 hbytes hbase _ rfl fun g cap w' hown' hgrow hat _ => ?_
  · match j, hj with
    | 0, hj => simp at hj; subst hj; rw [Go.WideShapes.add_plain]; exact hcell
  · simp at hu'; subst hu'; exact h1
  · exact h g cap w' (OwnL.pushed hK hxs' hu hoff hl hown' hgrow hat) hgrow hat
/-- 'append(v, x)': v nil or the call's own; x laid in a block of one cell. -/
theorem wpList_push {P : Program} {w : World} {ops : Array Oper} {rest : List Oper} {o : Oper} {a : Act} {Q : Exit → Act → World → Prop} (hgd : o.guard = none) (s x : Operand) (t : TypeId)
    (ho : o.op = .call { callee := .builtin .append, args := #[s, x], argTypes := #[t, t] })
    (base : Nat) (e : TypeId) (i : TypeInfo) (z : Value) (bytes : Nat) (ht : P.underlying t = some (.slice e)) (hi : P.info? e = some i) (hz : i.zero = some z) (hsize : i.size = 1) (hby : i.bytes = bytes) (hzs : z.cells.size = 1)
    (hK : Keeps R) (v : Value) (l : List α) (hs : a.eval s = v) (hown : OwnL R w base e v l) (n : Nat) (hn : l.length = n)
    (b : Nat) (u : Value) (y : α) (hx : a.eval x = .slice (some ⟨b, 0, none⟩) 1 1) (hcell : w.cell? ⟨b, 0, none⟩ = some u) (h1 : u.oneCell' = true) (hu : R w u y) (hoff : ∀ g, v.ownBlock = some g → Off R w g u y)
    (h63 : n + 1 ≤ maxLen) (hbytes : (n + 1) * bytes ≤ 140737488355328) (hbase : base ≤ w.heap.size)
    (h : ∀ g cap w', OwnL R w' base e (.slice (some ⟨g, 0, none⟩) (n + 1) cap) (l ++ [y]) → w.grownBy w' v.ownBlock → wpList P ops Q rest (a.put o.dst (.slice (some ⟨g, 0, none⟩) (n + 1) cap)) w') : wpList P ops Q (o :: rest) a w :=
  wpList_push_at hgd s x t ho base e i z bytes ht hi hz hsize hby hzs hK v l hs hown n hn b u y hx hcell h1 hu hoff h63 hbytes hbase fun g cap w' h1 h2 _ => h g cap w' h1 h2
end

theorem Bs.keeps : Keeps Bs := fun _ _ _ _ h k => h.keep k.2
theorem Bs.off_of {w : World} {v : Value} {l : List Nat} {g : Nat} (h : Bs w v l) (hg : ∀ k, v.ownBlock = some k → k ≠ g) : Off Bs w g v l := by
  rintro w' k
  obtain ⟨A, c, rfl, hm, hl, hz, hc⟩ := h
  refine ⟨A, c, rfl, hm, hl, hz, fun hn => ?_⟩
  obtain ⟨b, off, rfl, hcell⟩ := hc hn
  refine ⟨b, off, rfl, fun j hj => ?_⟩
  rw [k.2 ⟨b, off + j, none⟩ (World.block_lt_of_cell? w _ (hcell j hj)) (hg b rfl)]
  exact hcell j hj
theorem Bs.made_of {w : World} {v : Value} {l : List Nat} {B : Nat} (h : Bs w v l) (hg : ∀ k, v.ownBlock = some k → B ≤ k) : Made Bs B w v l :=
  ⟨h, fun g hlt => h.off_of fun k hk => by have := hg k hk; omega⟩
/-- A matrix: a slice of slices of bytes. -/
abbrev Ms := Sl Bs
/-- An int in memory. -/
def Iv (_ : World) (u : Value) (x : Int) : Prop := u = .int .i64 x
theorem Iv.keeps : Keeps Iv := fun _ _ _ _ h _ => h
theorem Iv.off {w : World} {g : Nat} {u : Value} {x : Int} (h : Iv w u x) : Off Iv w g u x := fun _ _ => h
/-- A slice of ints. -/
abbrev Is := Sl Iv
end Go.Proofs.Ytfhgalfdlkdliaa
