/- Caches: blocks by their types; operations as function values; pending lists. -/
import Derived.Test.YtbaclcpnnompnaaMdl
import Derived.Test.YtbaclcpnnompnaaIb
import Derived.Laws.EntriesVeiled
namespace Go.Proofs.Ytbaclcpnnompnaa
open Go Go.RowKit Med
set_option linter.unusedVariables false
set_option linter.unusedSimpArgs false
/-- Block k is a row of elements of type t. -/
def Ty (w : World) (k : Nat) (t : TypeId) : Prop := ∃ cs fr, w.heap[k]? = some (.cells cs t fr)
theorem Ty.ne {w : World} {a b : Nat} {s t : TypeId} (h : Ty w a s) (k : Ty w b t) (hn : s ≠ t) : a ≠ b := by
  rintro rfl
  obtain ⟨c1, f1, h1⟩ := h
  obtain ⟨c2, f2, h2⟩ := k
  have := h1.symm.trans h2
  injection this with this
  injection this with _ e _
  exact hn e
theorem Ty.lt {w : World} {k : Nat} {t : TypeId} (h : Ty w k t) : k < w.heap.size := by
  obtain ⟨c, f, h⟩ := h
  rcases Nat.lt_or_ge k w.heap.size with hlt | hge
  · exact hlt
  · rw [Array.getElem?_eq_none hge] at h; cases h
theorem Row.ty {w : World} {g : Nat} {t : TypeId} {cs : Array Value} (h : Row w g t cs) : Ty w g t := ⟨cs, _, h⟩
theorem Sx.ty {w : World} {X c : Nat} {ts : TypeId} {l : List Sec} (h : Sx w X ts c l) : Ty w X ts := by obtain ⟨cs, h, _⟩ := h; exact h.ty
/-- Only blocks from B on whose type is in L may have changed. -/
def Tch (B : Nat) (L : List TypeId) (w w' : World) : Prop := Chg (fun k => B ≤ k ∧ ∃ t ∈ L, Ty w k t) w w'
section
variable {B : Nat} {L : List TypeId} {w w' w'' : World}
theorem Tch.refl (B : Nat) (L : List TypeId) (w : World) : Tch B L w w := Chg.refl _ _
theorem Tch.block (h : Tch B L w w') {k : Nat} {t : TypeId} (hk : Ty w k t) (ht : t ∉ L) : w'.heap[k]? = w.heap[k]? :=
  Chg.block h k hk.lt fun ⟨_, s, hs, hy⟩ => hk.ne hy (fun e => ht (e ▸ hs)) rfl
theorem Tch.low (h : Tch B L w w') {k : Nat} (hk : k < w.heap.size) (hB : k < B) : w'.heap[k]? = w.heap[k]? :=
  Chg.block h k hk fun ⟨h2, _⟩ => by omega
theorem Tch.size (h : Tch B L w w') : w.heap.size ≤ w'.heap.size := Chg.size h
theorem Tch.trans (h : Tch B L w w') (k : Tch B L w' w'') : Tch B L w w'' := by
  refine ⟨(Chg.os k).trans (Chg.os h), (Chg.tape k).trans (Chg.tape h), (Chg.output k).trans (Chg.output h), Nat.le_trans (Chg.size h) (Chg.size k), fun i hi hn => ?_⟩
  have e := Chg.block h i hi hn
  refine (Chg.block k i (Nat.lt_of_lt_of_le hi (Chg.size h)) fun ⟨h1, t, ht, c, f, hc⟩ => hn ⟨h1, t, ht, c, f, ?_⟩).trans e
  rw [← e]; exact hc
theorem Tch.of_below (h : Below w.heap.size w w') (B : Nat) (L : List TypeId) : Tch B L w w' := below_chg h _
theorem Tch.mono (h : Tch B L w w') {B' : Nat} {L' : List TypeId} (hB : B' ≤ B) (hL : ∀ t ∈ L, t ∈ L') : Tch B' L' w w' :=
  Chg.mono h fun k ⟨h1, t, ht, hy⟩ => ⟨Nat.le_trans hB h1, t, hL t ht, hy⟩
theorem Tch.below (h : Tch B L w w') (hB : B ≤ w.heap.size) : Below B w w' := Chg.below h hB fun _ ⟨h1, _⟩ => h1
theorem Tch.of_chg {o : Nat → Prop} (h : Chg o w w') (ho : ∀ k, o k → B ≤ k ∧ ∃ t ∈ L, Ty w k t) : Tch B L w w' := Chg.mono h ho
theorem Tch.of_one {X : Nat} {t : TypeId} (h : Chg (fun j => j = X) w w') (hB : B ≤ X) (hX : Ty w X t) (ht : t ∈ L) : Tch B L w w' := Tch.of_chg h fun k e => by subst e; exact ⟨hB, t, ht, hX⟩
theorem Tch.set (h : Tch B L w w') {p : Addr} {t : TypeId} (hB : B ≤ p.block) (hp : Ty w' p.block t) (ht : t ∈ L) (u : Value) : Tch B L w (w'.setCell p u) :=
  h.trans (Tch.of_one (X := p.block) ((Chg.refl (fun j => j = p.block) w').setCell rfl u) hB hp ht)
theorem Tch.grown {g : Option Nat} {t : TypeId} (h : w.grownBy w' g) (hg : ∀ k, g = some k → B ≤ k ∧ Ty w k t) (ht : t ∈ L) : Tch B L w w' :=
  ⟨h.os, h.tape, h.output, h.size, fun k hk hn => h.block k hk fun e => hn ⟨(hg k e.symm).1, t, ht, (hg k e.symm).2⟩⟩
theorem Row.tch (h : Tch B L w w') {g : Nat} {t : TypeId} {cs : Array Value} (hr : Row w g t cs) (ht : t ∉ L) : Row w' g t cs := (Tch.block h hr.ty ht).trans hr
theorem Ty.tch (h : Tch B L w w') {g : Nat} {t : TypeId} (hr : Ty w g t) (ht : t ∉ L) : Ty w' g t := by obtain ⟨c, f, e⟩ := id hr; exact ⟨c, f, (Tch.block h hr ht).trans e⟩
theorem Sx.tch (h : Tch B L w w') {X c : Nat} {ts : TypeId} {l : List Sec} (hs : Sx w X ts c l) (ht : ts ∉ L) : Sx w' X ts c l := hs.block (Tch.block h hs.ty ht)
theorem Md.tch (h : Tch B L w w') {tm ts : TypeId} {M X c R B' T S O : Nat} {l : List Sec} (hs : Md tm ts w M X c R B' T S O l) (h1 : tm ∉ L) (h2 : ts ∉ L) : Md tm ts w' M X c R B' T S O l :=
  ⟨hs.v, hs.len, hs.row.tch h h1, hs.sx.tch h h2, hs.ne, hs.sh⟩
end
/-- A slice of bytes whose block is one of bytes. -/
def BsT (w : World) (v : Value) (l : List Nat) : Prop := Bs w v l ∧ ∀ g, v.ownBlock = some g → Ty w g 5
theorem BsT.tch {B : Nat} {L : List TypeId} {w w' : World} {v : Value} {l : List Nat} (h : BsT w v l) (hc : Tch B L w w') (hL : 5 ∉ L) : BsT w' v l :=
  ⟨h.1.chg hc fun k hk => fun ⟨_, s, hs, hy⟩ => (h.2 k hk).ne hy (fun e => hL (e ▸ hs)) rfl, fun g hg => (h.2 g hg).tch hc hL⟩
theorem OwB.bst {w : World} {B : Nat} {v : Value} {l : List Nat} (h : OwB w B v l) : BsT w v l := by
  refine ⟨h.bs, fun g hg => ?_⟩
  obtain ⟨⟨_, h⟩, _⟩ := h
  rcases h with ⟨rfl, _⟩ | ⟨g', cap, cur, rfl, _, h, _⟩
  · cases hg
  · injection hg with hg; subst hg; exact ⟨_, _, h⟩
/-- The values of the program's two operations. -/
def erV (b : Nat) : Value := .func (.func 59) #[] #[.pointer (some ⟨b, 0, none⟩)]
def wrV (b k : Nat) : Value := .func (.func 58) #[] #[.pointer (some ⟨b, 0, none⟩), .pointer (some ⟨k, 0, none⟩)]
/-- The value v stands for the operation o. -/
def FnOp (w : World) (v : Value) (o : Med.Op) : Prop :=
  (o.erase = true ∧ ∃ b, v = erV b ∧ Row w b 3 #[.int .i64 o.pos]) ∨
  (o.erase = false ∧ ∃ b k u, v = wrV b k ∧ Row w b 3 #[.int .i64 o.pos] ∧ Row w k 36 #[u] ∧ BsT w u o.bytes)
/-- None of the types of what an operation has captured. -/
def NoCap (L : List TypeId) : Prop := 3 ∉ L ∧ 36 ∉ L ∧ 5 ∉ L
theorem FnOp.tch {B : Nat} {L : List TypeId} {w w' : World} {v : Value} {o : Med.Op} (h : FnOp w v o) (hc : Tch B L w w') (hL : NoCap L) : FnOp w' v o := by
  rcases h with ⟨h0, b, rfl, h1⟩ | ⟨h0, b, k, u, rfl, h1, h2, h3⟩
  · exact Or.inl ⟨h0, b, rfl, h1.tch hc hL.1⟩
  · exact Or.inr ⟨h0, b, k, u, rfl, h1.tch hc hL.1, h2.tch hc hL.2.1, h3.tch hc hL.2.2⟩
theorem FnOp.fw {w w' : World} {v : Value} {o : Med.Op} (h : FnOp w v o) (hb : Below w.heap.size w w') : FnOp w' v o := h.tch (Tch.of_below hb 0 []) ⟨by simp, by simp, by simp⟩
theorem FnOp.one {w : World} {v : Value} {o : Med.Op} (h : FnOp w v o) : v.oneCell' = true := by
  rcases h with ⟨h0, b, rfl, h1⟩ | ⟨h0, b, k, u, rfl, h1, h2, h3⟩ <;> rfl
/-- A list of pending operations: nil, or a block of its own. -/
def Fl (B : Nat) (w : World) (v : Value) (ops : List Med.Op) : Prop :=
  (v = .slice none 0 0 ∧ ops = []) ∨ ∃ g cap cs, v = .slice (some ⟨g, 0, none⟩) ops.length cap ∧ B ≤ g ∧ Row w g 79 cs ∧ cs.size = cap ∧ cap ≤ maxLen ∧ ops.length ≤ cap ∧
    ∀ k (h : k < ops.length), ∃ u, cs[k]? = some u ∧ FnOp w u ops[k]
theorem Fl.nil_ (B : Nat) (w : World) : Fl B w (.slice none 0 0) [] := Or.inl ⟨rfl, rfl⟩
theorem Fl.tch {A B : Nat} {L : List TypeId} {w w' : World} {v : Value} {ops : List Med.Op} (h : Fl A w v ops) (hc : Tch B L w w') (hL : NoCap L) (h2 : 79 ∉ L) : Fl A w' v ops := by
  rcases h with h | ⟨g, cap, cs, rfl, hg, hr, hs, hm, hl, hk⟩
  · exact Or.inl h
  · refine Or.inr ⟨g, cap, cs, rfl, hg, hr.tch hc h2, hs, hm, hl, fun k h => ?_⟩
    obtain ⟨u, h3, h4⟩ := hk k h
    exact ⟨u, h3, h4.tch hc hL⟩
theorem Fl.fw {A : Nat} {w w' : World} {v : Value} {ops : List Med.Op} (h : Fl A w v ops) (hb : Below w.heap.size w w') : Fl A w' v ops := h.tch (Tch.of_below hb 0 []) ⟨by simp, by simp, by simp⟩ (by simp)
theorem Fl.low {A A' : Nat} {w : World} {v : Value} {ops : List Med.Op} (h : Fl A w v ops) (hA : A' ≤ A) : Fl A' w v ops := by
  rcases h with h | ⟨g, cap, cs, rfl, hg, h⟩
  · exact Or.inl h
  · exact Or.inr ⟨g, cap, cs, rfl, Nat.le_trans hA hg, h⟩
theorem Fl.own {A : Nat} {w : World} {v : Value} {ops : List Med.Op} (h : Fl A w v ops) : ∀ k, v.ownBlock = some k → A ≤ k ∧ Ty w k 79 := by
  rintro k hk
  rcases h with ⟨rfl, rfl⟩ | ⟨g, cap, cs, rfl, hb, h, _⟩
  · cases hk
  · injection hk with hk; subst hk; exact ⟨hb, h.ty⟩
theorem Fl.form {A : Nat} {w : World} {v : Value} {ops : List Med.Op} (h : Fl A w v ops) : ∃ p c, v = .slice p ops.length c ∧ ops.length ≤ c ∧ c ≤ maxLen := by
  rcases h with ⟨rfl, rfl⟩ | ⟨g, cap, cs, rfl, hg, hr, hs, hm, hl, hk⟩
  · exact ⟨_, _, rfl, Nat.le_refl _, Nat.zero_le _⟩
  · exact ⟨_, _, rfl, hl, hm⟩
theorem Fl.at_ {A : Nat} {w : World} {p : Option Addr} {n c : Nat} {ops : List Med.Op} (h : Fl A w (.slice p n c) ops) {k : Nat} (hk : k < ops.length) : ∃ g u, p = some ⟨g, 0, none⟩ ∧ w.cell? ⟨g, k, none⟩ = some u ∧ FnOp w u ops[k] := by
  rcases h with ⟨_, rfl⟩ | ⟨g, cap, cs, e, hg, hr, hs, hm, hl, hq⟩
  · exact absurd hk (Nat.not_lt_zero k)
  · injection e with e _ _
    obtain ⟨u, h3, h4⟩ := hq k hk
    exact ⟨g, u, e, by rw [hr.cell]; exact h3, h4⟩
theorem info_fn : (Try.prog.info? 79).map (fun i => (i.zero, i.size, i.bytes)) = some (some .nilFunc, 1, 8) := by kernel_rfl
theorem Fl.row {B : Nat} {w : World} {v : Value} {ops : List Med.Op} (h : Fl B w v ops) : ∃ xs, w.ownsRow B 79 1 v ops.length xs ∧ xs.length = ops.length ∧ ∀ k (hk : k < ops.length), ∃ u, xs[k]? = some u ∧ FnOp w u ops[k] := by
  rcases h with ⟨rfl, rfl⟩ | ⟨g, cap, cs, rfl, hg, hr, hs, hm, hl, hc⟩
  · exact ⟨[], World.ownsRow_nil _ _ _ _, rfl, fun k hk => absurd hk (Nat.not_lt_zero k)⟩
  · refine ⟨cs.toList.take ops.length, ⟨by simp; omega, Or.inr ⟨g, cap, cs, rfl, hg, hr, hl, hm, by omega, by simp⟩⟩, by simp; omega, fun k hk => ?_⟩
    obtain ⟨u, hu, ho⟩ := hc k hk
    exact ⟨u, by rw [List.getElem?_take_of_lt hk]; simpa using hu, ho⟩
theorem Fl.of_row {B : Nat} {w : World} {g cap n : Nat} {ops : List Med.Op} {xs : List Value} (hr : w.ownsRow B 79 1 (.slice (some ⟨g, 0, none⟩) n cap) n xs) (hn : ops.length = n) (hxs : ∀ k (hk : k < ops.length), ∃ u, xs[k]? = some u ∧ FnOp w u ops[k]) :
    Fl B w (.slice (some ⟨g, 0, none⟩) n cap) ops := by
  subst hn
  obtain ⟨_, h⟩ := hr
  rcases h with ⟨h, _⟩ | ⟨g', cap', cur, hv', hb, hh, hle, hm, hs, ht⟩
  · cases h
  · injection hv' with hv1 hv2 hv3
    injection hv1 with hv1
    injection hv1 with hv1
    subst hv1 hv3
    refine Or.inr ⟨g, cap, cur, rfl, hb, hh, by omega, hm, hle, fun k hk => ?_⟩
    obtain ⟨u, h1, h2⟩ := hxs k hk
    refine ⟨u, ?_, h2⟩
    rw [← h1, ← ht, List.getElem?_take_of_lt (by omega)]; simp
/-- 'append(v, o)'. -/
theorem wp_push_F {B : Nat} {w : World} {o : Oper} {a : Act} {Kt : Act → World → Prop} {Q : Exit → Act → World → Prop} (s x : Operand)
    (ho : o.op = .call { callee := .builtin .append, args := #[s, x], argTypes := #[74, 74] })
    (v : Value) (ops : List Med.Op) (n b : Nat) (u : Value) (op : Med.Op) (hs : a.eval s = v) (hown : Fl B w v ops) (hn : ops.length = n) (hx : a.eval x = .slice (some ⟨b, 0, none⟩) 1 1) (hcell : w.cell? ⟨b, 0, none⟩ = some u)
    (hu : FnOp w u op) (hlen : n ≤ 100000) (hbase : B ≤ w.heap.size)
    (h : ∀ g cap w', Fl B w' (.slice (some ⟨g, 0, none⟩) (n + 1) cap) (ops ++ [op]) → Tch B [79] w w' → Kt (a.put o.dst (.slice (some ⟨g, 0, none⟩) (n + 1) cap)) w') : o.wp Try.prog a w Kt Q := by
  subst hn
  obtain ⟨i, hi, hz, hsz, hby⟩ := info_parts info_fn
  obtain ⟨xs, hrow, hxl, hxs⟩ := hown.row
  refine wp_append_lies w s x _ ho B _ i _ 1 8 Try.underlying74 hi hz hsz hby rfl (by decide) v ops.length xs hs hrow ⟨b, 0, none⟩ 1 1 [u] hx rfl (fun j u' hj => ?_) (fun u' hu' => ?_) (by decide) (by unfold maxLen; omega) (by omega) hbase _ rfl fun g cap w' hown' hgrow hat _ => ?_
  · match j, hj with
    | 0, hj => simp at hj; subst hj; rw [Go.WideShapes.add_plain]; exact hcell
  · simp at hu'; subst hu'; exact hu.one
  · have hc : Tch B [79] w w' := Tch.grown hgrow hown.own (by simp)
    refine h g cap w' (Fl.of_row hown' (by simp) fun k hk => ?_) hc
    have nc : NoCap [79] := by unfold NoCap; decide
    rcases Nat.lt_or_ge k ops.length with hlt | hge
    · obtain ⟨u', h1, h2⟩ := hxs k hlt
      refine ⟨u', by rw [List.getElem?_append_left (by omega)]; exact h1, ?_⟩
      rw [List.getElem_append_left hlt]
      exact h2.tch hc nc
    · obtain rfl : k = ops.length := by simp at hk; omega
      refine ⟨u, by rw [← hxl]; simp, ?_⟩
      simp only [List.getElem_concat_length]
      exact hu.tch hc nc
theorem wpList_push_F {B : Nat} {w : World} {ops : Array Oper} {rest : List Oper} {o : Oper} {a : Act} {Q : Exit → Act → World → Prop} (hgd : o.guard = none) (s x : Operand)
    (ho : o.op = .call { callee := .builtin .append, args := #[s, x], argTypes := #[74, 74] })
    (v : Value) (L : List Med.Op) (n b : Nat) (u : Value) (op : Med.Op) (hs : a.eval s = v) (hown : Fl B w v L) (hn : L.length = n) (hx : a.eval x = .slice (some ⟨b, 0, none⟩) 1 1) (hcell : w.cell? ⟨b, 0, none⟩ = some u)
    (hu : FnOp w u op) (hlen : n ≤ 100000) (hbase : B ≤ w.heap.size)
    (h : ∀ g cap w', Fl B w' (.slice (some ⟨g, 0, none⟩) (n + 1) cap) (L ++ [op]) → Tch B [79] w w' → wpList Try.prog ops Q rest (a.put o.dst (.slice (some ⟨g, 0, none⟩) (n + 1) cap)) w') : wpList Try.prog ops Q (o :: rest) a w :=
  wpList_plain hgd fun _ hK' => wp_push_F s x ho v L n b u op hs hown hn hx hcell hu hlen hbase fun g cap w' h1 h2 => hK' _ _ (h g cap w' h1 h2)
end Go.Proofs.Ytbaclcpnnompnaa
