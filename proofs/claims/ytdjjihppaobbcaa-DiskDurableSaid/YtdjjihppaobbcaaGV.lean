/- Joined: Cca Ccb Ccc Ccd Cce Ccf. -/
import Derived.Test.YtdjjihppaobbcaaGU
import Derived.Test.YtdjjihppaobbcaaIb
import Derived.Laws.EntriesVeiled
namespace Go.Proofs.Ytdjjihppaobbcaa
open Go Go.RowKit Med
set_option linter.unusedVariables false
set_option linter.unusedSimpArgs false
/-- Block k is a row of elements of type t. -/
def Ty (w : World) (k : Nat) (t : TypeId) : Prop := ∃ cs fr, w.heap[k]? = some (.cells cs t fr)
theorem Ty.ne {w : World} {a b : Nat} {s t : TypeId} (h : Ty w a s) (k : Ty w b t) (hn : s ≠ t) : a ≠ b := by
  rintro rfl
  obtain ⟨c1, f1, h1⟩ := h
  obtain ⟨c2, f2, h2⟩ := k
  have := h1.symm.trans h2
  injection this with this
  injection this with _ e _
  exact hn e
theorem Ty.lt {w : World} {k : Nat} {t : TypeId} (h : Ty w k t) : k < w.heap.size := by
  obtain ⟨c, f, h⟩ := h
  rcases Nat.lt_or_ge k w.heap.size with hlt | hge
  · exact hlt
  · rw [Array.getElem?_eq_none hge] at h; cases h
theorem Row.ty {w : World} {g : Nat} {t : TypeId} {cs : Array Value} (h : Row w g t cs) : Ty w g t := ⟨cs, _, h⟩
theorem Sx.ty {w : World} {X c : Nat} {ts : TypeId} {l : List Sec} (h : Sx w X ts c l) : Ty w X ts := by obtain ⟨cs, h, _⟩ := h; exact h.ty
/-- The blocks that a call may change (a number: from this block on). -/
structure Zn where
  fr : Nat → Prop
def Zn.top (B : Zn) (w : World) : Prop := ∀ k, w.heap.size ≤ k → B.fr k
theorem Zn.top.up {B : Zn} {w w' : World} (h : B.top w) (hs : w.heap.size ≤ w'.heap.size) : B.top w' := fun k hk => h k (Nat.le_trans hs hk)
instance : Coe Nat Zn := ⟨fun n => ⟨fun k => n ≤ k⟩⟩
/-- Only blocks of the zone B whose type is in L may have changed. -/
def Tch (B : Zn) (L : List TypeId) (w w' : World) : Prop := Chg (fun k => B.fr k ∧ ∃ t ∈ L, Ty w k t) w w'
section
variable {B : Zn} {L : List TypeId} {w w' w'' : World}
theorem Tch.refl (B : Zn) (L : List TypeId) (w : World) : Tch B L w w := Chg.refl _ _
theorem Tch.block (h : Tch B L w w') {k : Nat} {t : TypeId} (hk : Ty w k t) (ht : t ∉ L) : w'.heap[k]? = w.heap[k]? :=
  Chg.block h k hk.lt fun ⟨_, s, hs, hy⟩ => hk.ne hy (fun e => ht (e ▸ hs)) rfl
theorem Tch.low (h : Tch B L w w') {k : Nat} (hk : k < w.heap.size) (hB : ¬ B.fr k) : w'.heap[k]? = w.heap[k]? :=
  Chg.block h k hk fun ⟨h2, _⟩ => hB h2
theorem Tch.size (h : Tch B L w w') : w.heap.size ≤ w'.heap.size := Chg.size h
theorem Tch.trans (h : Tch B L w w') (k : Tch B L w' w'') : Tch B L w w'' := by
  refine ⟨(Chg.os k).trans (Chg.os h), (Chg.tape k).trans (Chg.tape h), (Chg.output k).trans (Chg.output h), Nat.le_trans (Chg.size h) (Chg.size k), fun i hi hn => ?_⟩
  have e := Chg.block h i hi hn
  refine (Chg.block k i (Nat.lt_of_lt_of_le hi (Chg.size h)) fun ⟨h1, t, ht, c, f, hc⟩ => hn ⟨h1, t, ht, c, f, ?_⟩).trans e
  rw [← e]; exact hc
theorem Tch.of_below (h : Below w.heap.size w w') (B : Zn) (L : List TypeId) : Tch B L w w' := below_chg h _
theorem Tch.mono (h : Tch B L w w') {B' : Zn} {L' : List TypeId} (hB : ∀ k, B.fr k → B'.fr k) (hL : ∀ t ∈ L, t ∈ L') : Tch B' L' w w' :=
  Chg.mono h fun k ⟨h1, t, ht, hy⟩ => ⟨hB k h1, t, hL t ht, hy⟩
theorem Tch.below_ (h : Tch B L w w') {n : Nat} (hn : n ≤ w.heap.size) (hB : ∀ k, B.fr k → n ≤ k) : Below n w w' := Chg.below h hn fun k ⟨h1, _⟩ => hB k h1
theorem Tch.below {n : Nat} (h : Tch (n : Zn) L w w') (hB : n ≤ w.heap.size) : Below n w w' := Tch.below_ h hB fun _ h => h
theorem Tch.of_chg {o : Nat → Prop} (h : Chg o w w') (ho : ∀ k, o k → B.fr k ∧ ∃ t ∈ L, Ty w k t) : Tch B L w w' := Chg.mono h ho
theorem Tch.of_one {X : Nat} {t : TypeId} (h : Chg (fun j => j = X) w w') (hB : B.fr X) (hX : Ty w X t) (ht : t ∈ L) : Tch B L w w' := Tch.of_chg h fun k e => by subst e; exact ⟨hB, t, ht, hX⟩
theorem Tch.set (h : Tch B L w w') {p : Addr} {t : TypeId} (hB : B.fr p.block) (hp : Ty w' p.block t) (ht : t ∈ L) (u : Value) : Tch B L w (w'.setCell p u) :=
  h.trans (Tch.of_one (X := p.block) ((Chg.refl (fun j => j = p.block) w').setCell rfl u) hB hp ht)
theorem Tch.grown {g : Option Nat} {t : TypeId} (h : w.grownBy w' g) (hg : ∀ k, g = some k → B.fr k ∧ Ty w k t) (ht : t ∈ L) : Tch B L w w' :=
  ⟨h.os, h.tape, h.output, h.size, fun k hk hn => h.block k hk fun e => hn ⟨(hg k e.symm).1, t, ht, (hg k e.symm).2⟩⟩
theorem Row.tch (h : Tch B L w w') {g : Nat} {t : TypeId} {cs : Array Value} (hr : Row w g t cs) (ht : t ∉ L) : Row w' g t cs := (Tch.block h hr.ty ht).trans hr
theorem Ty.tch (h : Tch B L w w') {g : Nat} {t : TypeId} (hr : Ty w g t) (ht : t ∉ L) : Ty w' g t := by obtain ⟨c, f, e⟩ := id hr; exact ⟨c, f, (Tch.block h hr ht).trans e⟩
theorem Sx.tch (h : Tch B L w w') {X c : Nat} {ts : TypeId} {l : List Sec} (hs : Sx w X ts c l) (ht : ts ∉ L) : Sx w' X ts c l := hs.block (Tch.block h hs.ty ht)
theorem Md.tch (h : Tch B L w w') {tm ts : TypeId} {M X c R B' T S O : Nat} {l : List Sec} (hs : Md tm ts w M X c R B' T S O l) (h1 : tm ∉ L) (h2 : ts ∉ L) : Md tm ts w' M X c R B' T S O l :=
  ⟨hs.v, hs.len, hs.row.tch h h1, hs.sx.tch h h2, hs.ne, hs.sh⟩
end
/-- A slice of bytes whose block is one of bytes. -/
def BsT (w : World) (v : Value) (l : List Nat) : Prop := Bs w v l ∧ ∀ g, v.ownBlock = some g → Ty w g 5
theorem BsT.tch {B : Zn} {L : List TypeId} {w w' : World} {v : Value} {l : List Nat} (h : BsT w v l) (hc : Tch B L w w') (hL : 5 ∉ L) : BsT w' v l :=
  ⟨h.1.chg hc fun k hk => fun ⟨_, s, hs, hy⟩ => (h.2 k hk).ne hy (fun e => hL (e ▸ hs)) rfl, fun g hg => (h.2 g hg).tch hc hL⟩
theorem OwB.bst {w : World} {B : Nat} {v : Value} {l : List Nat} (h : OwB w B v l) : BsT w v l := by
  refine ⟨h.bs, fun g hg => ?_⟩
  obtain ⟨⟨_, h⟩, _⟩ := h
  rcases h with ⟨rfl, _⟩ | ⟨g', cap, cur, rfl, _, h, _⟩
  · cases hg
  · injection hg with hg; subst hg; exact ⟨_, _, h⟩
/-- The values of the program's two operations. -/
def erV (b : Nat) : Value := .func (.func 95) #[] #[.pointer (some ⟨b, 0, none⟩)]
def wrV (b k : Nat) : Value := .func (.func 93) #[] #[.pointer (some ⟨b, 0, none⟩), .pointer (some ⟨k, 0, none⟩)]
/-- The value v stands for the operation o. -/
def FnOp (w : World) (v : Value) (o : Med.Op) : Prop :=
  (o.erase = true ∧ ∃ b, v = erV b ∧ Row w b 3 #[.int .i64 o.pos]) ∨
  (o.erase = false ∧ ∃ b k u, v = wrV b k ∧ Row w b 3 #[.int .i64 o.pos] ∧ Row w k 60 #[u] ∧ BsT w u o.bytes)
/-- None of the types of what an operation has captured. -/
def NoCap (L : List TypeId) : Prop := 3 ∉ L ∧ 60 ∉ L ∧ 5 ∉ L
theorem FnOp.tch {B : Zn} {L : List TypeId} {w w' : World} {v : Value} {o : Med.Op} (h : FnOp w v o) (hc : Tch B L w w') (hL : NoCap L) : FnOp w' v o := by
  rcases h with ⟨h0, b, rfl, h1⟩ | ⟨h0, b, k, u, rfl, h1, h2, h3⟩
  · exact Or.inl ⟨h0, b, rfl, h1.tch hc hL.1⟩
  · exact Or.inr ⟨h0, b, k, u, rfl, h1.tch hc hL.1, h2.tch hc hL.2.1, h3.tch hc hL.2.2⟩
theorem FnOp.fw {w w' : World} {v : Value} {o : Med.Op} (h : FnOp w v o) (hb : Below w.heap.size w w') : FnOp w' v o := h.tch (Tch.of_below hb (0 : Nat) []) ⟨by simp, by simp, by simp⟩
theorem FnOp.one {w : World} {v : Value} {o : Med.Op} (h : FnOp w v o) : v.oneCell' = true := by
  rcases h with ⟨h0, b, rfl, h1⟩ | ⟨h0, b, k, u, rfl, h1, h2, h3⟩ <;> rfl
/-- A list of pending operations: nil, or a block of its own. -/
def Fl (B : Zn) (w : World) (v : Value) (ops : List Med.Op) : Prop :=
  (v = .slice none 0 0 ∧ ops = []) ∨ ∃ g cap cs, v = .slice (some ⟨g, 0, none⟩) ops.length cap ∧ B.fr g ∧ Row w g 138 cs ∧ cs.size = cap ∧ cap ≤ maxLen ∧ ops.length ≤ cap ∧
    ∀ k (h : k < ops.length), ∃ u, cs[k]? = some u ∧ FnOp w u ops[k]
theorem Fl.nil_ (B : Zn) (w : World) : Fl B w (.slice none 0 0) [] := Or.inl ⟨rfl, rfl⟩
theorem Fl.tch {A B : Zn} {L : List TypeId} {w w' : World} {v : Value} {ops : List Med.Op} (h : Fl A w v ops) (hc : Tch B L w w') (hL : NoCap L) (h2 : 138 ∉ L) : Fl A w' v ops := by
  rcases h with h | ⟨g, cap, cs, rfl, hg, hr, hs, hm, hl, hk⟩
  · exact Or.inl h
  · refine Or.inr ⟨g, cap, cs, rfl, hg, hr.tch hc h2, hs, hm, hl, fun k h => ?_⟩
    obtain ⟨u, h3, h4⟩ := hk k h
    exact ⟨u, h3, h4.tch hc hL⟩
theorem Fl.fw {A : Zn} {w w' : World} {v : Value} {ops : List Med.Op} (h : Fl A w v ops) (hb : Below w.heap.size w w') : Fl A w' v ops := h.tch (Tch.of_below hb (0 : Nat) []) ⟨by simp, by simp, by simp⟩ (by simp)
theorem Fl.low {A A' : Zn} {w : World} {v : Value} {ops : List Med.Op} (h : Fl A w v ops) (hA : ∀ k, A.fr k → A'.fr k) : Fl A' w v ops := by
  rcases h with h | ⟨g, cap, cs, rfl, hg, h⟩
  · exact Or.inl h
  · exact Or.inr ⟨g, cap, cs, rfl, hA g hg, h⟩
theorem Fl.own {A : Zn} {w : World} {v : Value} {ops : List Med.Op} (h : Fl A w v ops) : ∀ k, v.ownBlock = some k → A.fr k ∧ Ty w k 138 := by
  rintro k hk
  rcases h with ⟨rfl, rfl⟩ | ⟨g, cap, cs, rfl, hb, h, _⟩
  · cases hk
  · injection hk with hk; subst hk; exact ⟨hb, h.ty⟩
theorem Fl.form {A : Zn} {w : World} {v : Value} {ops : List Med.Op} (h : Fl A w v ops) : ∃ p c, v = .slice p ops.length c ∧ ops.length ≤ c ∧ c ≤ maxLen := by
  rcases h with ⟨rfl, rfl⟩ | ⟨g, cap, cs, rfl, hg, hr, hs, hm, hl, hk⟩
  · exact ⟨_, _, rfl, Nat.le_refl _, Nat.zero_le _⟩
  · exact ⟨_, _, rfl, hl, hm⟩
theorem Fl.at_ {A : Zn} {w : World} {p : Option Addr} {n c : Nat} {ops : List Med.Op} (h : Fl A w (.slice p n c) ops) {k : Nat} (hk : k < ops.length) : ∃ g u, p = some ⟨g, 0, none⟩ ∧ w.cell? ⟨g, k, none⟩ = some u ∧ FnOp w u ops[k] := by
  rcases h with ⟨_, rfl⟩ | ⟨g, cap, cs, e, hg, hr, hs, hm, hl, hq⟩
  · exact absurd hk (Nat.not_lt_zero k)
  · injection e with e _ _
    obtain ⟨u, h3, h4⟩ := hq k hk
    exact ⟨g, u, e, by rw [hr.cell]; exact h3, h4⟩
theorem info_fn : (Try.prog.info? 138).map (fun i => (i.zero, i.size, i.bytes)) = some (some .nilFunc, 1, 8) := by kernel_rfl
theorem Fl.row {B : Zn} {w : World} {v : Value} {ops : List Med.Op} (h : Fl B w v ops) : ∃ xs, w.ownsRow 0 138 1 v ops.length xs ∧ xs.length = ops.length ∧ ∀ k (hk : k < ops.length), ∃ u, xs[k]? = some u ∧ FnOp w u ops[k] := by
  rcases h with ⟨rfl, rfl⟩ | ⟨g, cap, cs, rfl, hg, hr, hs, hm, hl, hc⟩
  · exact ⟨[], World.ownsRow_nil _ _ _ _, rfl, fun k hk => absurd hk (Nat.not_lt_zero k)⟩
  · refine ⟨cs.toList.take ops.length, ⟨by simp; omega, Or.inr ⟨g, cap, cs, rfl, Nat.zero_le _, hr, hl, hm, by omega, by simp⟩⟩, by simp; omega, fun k hk => ?_⟩
    obtain ⟨u, hu, ho⟩ := hc k hk
    exact ⟨u, by rw [List.getElem?_take_of_lt hk]; simpa using hu, ho⟩
theorem Fl.of_row {B : Zn} {w : World} {g cap n : Nat} {ops : List Med.Op} {xs : List Value} (hB : B.fr g) (hr : w.ownsRow 0 138 1 (.slice (some ⟨g, 0, none⟩) n cap) n xs) (hn : ops.length = n) (hxs : ∀ k (hk : k < ops.length), ∃ u, xs[k]? = some u ∧ FnOp w u ops[k]) :
    Fl B w (.slice (some ⟨g, 0, none⟩) n cap) ops := by
  subst hn
  obtain ⟨_, h⟩ := hr
  rcases h with ⟨h, _⟩ | ⟨g', cap', cur, hv', hb, hh, hle, hm, hs, ht⟩
  · cases h
  · injection hv' with hv1 hv2 hv3
    injection hv1 with hv1
    injection hv1 with hv1
    subst hv1 hv3
    refine Or.inr ⟨g, cap, cur, rfl, hB, hh, by omega, hm, hle, fun k hk => ?_⟩
    obtain ⟨u, h1, h2⟩ := hxs k hk
    refine ⟨u, ?_, h2⟩
    rw [← h1, ← ht, List.getElem?_take_of_lt (by omega)]; simp
/-- 'append(v, o)'. -/
theorem wp_push_F {B : Zn} {w : World} {o : Oper} {a : Act} {Kt : Act → World → Prop} {Q : Exit → Act → World → Prop} (s x : Operand)
    (ho : o.op = .call { callee := .builtin .append, args := #[s, x], argTypes := #[114, 114] })
    (v : Value) (ops : List Med.Op) (n b : Nat) (u : Value) (op : Med.Op) (hs : a.eval s = v) (hown : Fl B w v ops) (hn : ops.length = n) (hx : a.eval x = .slice (some ⟨b, 0, none⟩) 1 1) (hcell : w.cell? ⟨b, 0, none⟩ = some u)
    (hu : FnOp w u op) (hlen : n ≤ 100000) (hbase : B.top w)
    (h : ∀ g cap w', Fl B w' (.slice (some ⟨g, 0, none⟩) (n + 1) cap) (ops ++ [op]) → Tch B [138] w w' → Kt (a.put o.dst (.slice (some ⟨g, 0, none⟩) (n + 1) cap)) w') : o.wp Try.prog a w Kt Q := by
  subst hn
  obtain ⟨i, hi, hz, hsz, hby⟩ := info_parts info_fn
  obtain ⟨xs, hrow, hxl, hxs⟩ := hown.row
  refine wp_append_lies w s x _ ho 0 _ i _ 1 8 Try.underlying114 hi hz hsz hby rfl (by decide) v ops.length xs hs hrow ⟨b, 0, none⟩ 1 1 [u] hx rfl (fun j u' hj => ?_) (fun u' hu' => ?_) (by decide) (by unfold maxLen; omega) (by omega) (Nat.zero_le _) _ rfl fun g cap w' hown' hgrow hat _ => ?_
  · match j, hj with
    | 0, hj => simp at hj; subst hj; rw [Go.WideShapes.add_plain]; exact hcell
  · simp at hu'; subst hu'; exact hu.one
  · have hc : Tch B [138] w w' := Tch.grown hgrow hown.own (by simp)
    refine h g cap w' (Fl.of_row (hat.elim (fun e => (hown.own g e).1) (fun e => hbase g (by omega))) hown' (by simp) fun k hk => ?_) hc
    have nc : NoCap [138] := by unfold NoCap; decide
    rcases Nat.lt_or_ge k ops.length with hlt | hge
    · obtain ⟨u', h1, h2⟩ := hxs k hlt
      refine ⟨u', by rw [List.getElem?_append_left (by omega)]; exact h1, ?_⟩
      rw [List.getElem_append_left hlt]
      exact h2.tch hc nc
    · obtain rfl : k = ops.length := by simp at hk; omega
      refine ⟨u, by rw [← hxl]; simp, ?_⟩
      simp only [List.getElem_concat_length]
      exact hu.tch hc nc
theorem wpList_push_F {B : Zn} {w : World} {ops : Array Oper} {rest : List Oper} {o : Oper} {a : Act} {Q : Exit → Act → World → Prop} (hgd : o.guard = none) (s x : Operand)
    (ho : o.op = .call { callee := .builtin .append, args := #[s, x], argTypes := #[114, 114] })
    (v : Value) (L : List Med.Op) (n b : Nat) (u : Value) (op : Med.Op) (hs : a.eval s = v) (hown : Fl B w v L) (hn : L.length = n) (hx : a.eval x = .slice (some ⟨b, 0, none⟩) 1 1) (hcell : w.cell? ⟨b, 0, none⟩ = some u)
    (hu : FnOp w u op) (hlen : n ≤ 100000) (hbase : B.top w)
    (h : ∀ g cap w', Fl B w' (.slice (some ⟨g, 0, none⟩) (n + 1) cap) (L ++ [op]) → Tch B [138] w w' → wpList Try.prog ops Q rest (a.put o.dst (.slice (some ⟨g, 0, none⟩) (n + 1) cap)) w') : wpList Try.prog ops Q (o :: rest) a w :=
  wpList_plain hgd fun _ hK' => wp_push_F s x ho v L n b u op hs hown hn hx hcell hu hlen hbase fun g cap w' h1 h2 => hK' _ _ (h g cap w' h1 h2)
end Go.Proofs.Ytdjjihppaobbcaa
namespace Go.Proofs.Ytdjjihppaobbcaa
open Go Go.RowKit Med
set_option linter.unusedVariables false
set_option linter.unusedSimpArgs false
/-- The types of blocks that a cache of the program changes. -/
def tyP : List TypeId := [116, 135, 138]
/-- The types of blocks that a cache of the reference changes. -/
def tyR : List TypeId := [100, 126]
/-- A cache of the program: block K; its mutable blocks lie at B or above; sectors l, pending operations ops. -/
structure Ca (B : Zn) (w : World) (K D X c C Y d R Bn T S O : Nat) (v : Value) (l : List Sec) (ops : List Med.Op) : Prop where
  row : Row w K 116 #[.pointer (some ⟨D, 0, none⟩), v, .pointer (some ⟨C, 0, none⟩)]
  du : PMd w D X c R Bn T S O l
  co : PMd w C Y d R Bn T S O (Med.play R Bn T S O l ops)
  ne : X ≠ Y
  fl : Fl B w v ops
  low : B.fr K ∧ B.fr X ∧ B.fr Y
def Ce (B : Zn) (w : World) (K R Bn T S O : Nat) (l : List Sec) (ops : List Med.Op) : Prop := ∃ D X c C Y d v, Ca B w K D X c C Y d R Bn T S O v l ops
section
variable {A B : Zn} {L : List TypeId} {w w' : World} {K D X c C Y d R Bn T S O : Nat} {v : Value} {l : List Sec} {ops : List Med.Op}
theorem Ca.ex (h : Ca B w K D X c C Y d R Bn T S O v l ops) : Ce B w K R Bn T S O l ops := ⟨_, _, _, _, _, _, _, h⟩
theorem Ca.tch (h : Ca A w K D X c C Y d R Bn T S O v l ops) (hc : Tch B L w w') (hn : NoCap L) (h1 : 116 ∉ L) (h2 : 112 ∉ L) (h3 : 135 ∉ L) (h4 : 138 ∉ L) : Ca A w' K D X c C Y d R Bn T S O v l ops :=
  ⟨h.row.tch hc h1, Md.tch hc h.du h2 h3, Md.tch hc h.co h2 h3, h.ne, h.fl.tch hc hn h4, h.low⟩
theorem Ca.fw (h : Ca A w K D X c C Y d R Bn T S O v l ops) (hb : Below w.heap.size w w') : Ca A w' K D X c C Y d R Bn T S O v l ops :=
  h.tch (Tch.of_below hb (0 : Nat) []) ⟨by simp, by simp, by simp⟩ (by simp) (by simp) (by simp) (by simp)
/-- What the reference does leaves the program's cache. -/
theorem Ca.ref (h : Ca A w K D X c C Y d R Bn T S O v l ops) (hc : Tch B tyR w w') : Ca A w' K D X c C Y d R Bn T S O v l ops :=
  h.tch hc (by unfold NoCap; decide) (by decide) (by decide) (by decide) (by decide)
theorem Ca.low' (h : Ca A w K D X c C Y d R Bn T S O v l ops) (hA : ∀ k, A.fr k → B.fr k) : Ca B w K D X c C Y d R Bn T S O v l ops :=
  ⟨h.row, h.du, h.co, h.ne, h.fl.low hA, hA _ h.low.1, hA _ h.low.2.1, hA _ h.low.2.2⟩
theorem Ca.cells (h : Ca A w K D X c C Y d R Bn T S O v l ops) : w.cell? ⟨K, 0, none⟩ = some (.pointer (some ⟨D, 0, none⟩)) ∧ w.cell? ⟨K, 1, none⟩ = some v ∧ w.cell? ⟨K, 2, none⟩ = some (.pointer (some ⟨C, 0, none⟩)) := by
  refine ⟨?_, ?_, ?_⟩ <;> (rw [h.row.cell]; rfl)
theorem Ce.fw (h : Ce A w K R Bn T S O l ops) (hb : Below w.heap.size w w') : Ce A w' K R Bn T S O l ops := by obtain ⟨D, X, c, C, Y, d, v, h⟩ := h; exact ⟨D, X, c, C, Y, d, v, h.fw hb⟩
theorem Ce.ref (h : Ce A w K R Bn T S O l ops) (hc : Tch B tyR w w') : Ce A w' K R Bn T S O l ops := by obtain ⟨D, X, c, C, Y, d, v, h⟩ := h; exact ⟨D, X, c, C, Y, d, v, h.ref hc⟩
theorem Ce.low (h : Ce A w K R Bn T S O l ops) (hA : ∀ k, A.fr k → B.fr k) : Ce B w K R Bn T S O l ops := by obtain ⟨D, X, c, C, Y, d, v, h⟩ := h; exact ⟨D, X, c, C, Y, d, v, h.low' hA⟩
end
/-- A list of operations: nil, or a block of its own (at B or above); the bytes of its elements read by Q. -/
def Olx (Q : World → Value → List Nat → Prop) (B : Nat) (w : World) (v : Value) (L : List Med.Op) : Prop :=
  (v = .slice none 0 0 ∧ L = []) ∨ ∃ g cap cs, v = .slice (some ⟨g, 0, none⟩) L.length cap ∧ B ≤ g ∧ Row w g 103 cs ∧ cs.size = cap * 3 ∧ cap ≤ maxLen ∧ L.length ≤ cap ∧
    ∀ k (h : k < L.length), cs[k * 3]? = some (.bool L[k].erase) ∧ cs[k * 3 + 1]? = some (.int .i64 L[k].pos) ∧ ∃ u, cs[k * 3 + 2]? = some u ∧ Q w u L[k].bytes ∧ u.oneCell' = true
section
variable {Q : World → Value → List Nat → Prop} {A B : Nat} {Z : Zn} {Ls : List TypeId} {w w' : World} {v : Value} {L : List Med.Op}
theorem Olx.nil_ (B : Nat) (w : World) : Olx Q B w (.slice none 0 0) [] := Or.inl ⟨rfl, rfl⟩
theorem Olx.move (h : Olx Q A w v L) (hc : Tch Z Ls w w') (h1 : 103 ∉ Ls) (hQ : ∀ u l, Q w u l → Q w' u l) : Olx Q A w' v L := by
  rcases h with h | ⟨g, cap, cs, rfl, hg, hr, hs, hm, hl, hk⟩
  · exact Or.inl h
  · refine Or.inr ⟨g, cap, cs, rfl, hg, hr.tch hc h1, hs, hm, hl, fun k h => ?_⟩
    obtain ⟨h3, h4, u, h5, h6, h7⟩ := hk k h
    exact ⟨h3, h4, u, h5, hQ _ _ h6, h7⟩
theorem Olx.low (h : Olx Q A w v L) (hA : B ≤ A) : Olx Q B w v L := by
  rcases h with h | ⟨g, cap, cs, rfl, hg, h⟩
  · exact Or.inl h
  · exact Or.inr ⟨g, cap, cs, rfl, Nat.le_trans hA hg, h⟩
theorem Olx.ols (h : Olx Q A w v L) (hQ : ∀ u l, Q w u l → Bs w u l) : Ols w v L := by
  rcases h with ⟨rfl, rfl⟩ | ⟨g, cap, cs, rfl, hg, hr, hs, hm, hl, hk⟩
  · exact ⟨none, 0, rfl, ⟨Nat.le_refl _, by decide⟩, fun h => absurd h (Nat.lt_irrefl 0)⟩
  · refine ⟨_, cap, rfl, ⟨hl, hm⟩, fun _ => ⟨g, 0, rfl, fun k h => ?_⟩⟩
    obtain ⟨h3, h4, u, h5, h6, h7⟩ := hk k h
    rw [Nat.zero_add, hr.cell, hr.cell, hr.cell]
    exact ⟨h3, h4, u, h5, hQ _ _ h6⟩
theorem Olx.own (h : Olx Q A w v L) : ∀ k, v.ownBlock = some k → A ≤ k ∧ Ty w k 103 := by
  rintro k hk
  rcases h with ⟨rfl, rfl⟩ | ⟨g, cap, cs, rfl, hb, h, _⟩
  · cases hk
  · injection hk with hk; subst hk; exact ⟨hb, h.ty⟩
theorem Olx.form (h : Olx Q A w v L) : ∃ p c, v = .slice p L.length c ∧ L.length ≤ c ∧ c ≤ maxLen := by
  rcases h with ⟨rfl, rfl⟩ | ⟨g, cap, cs, rfl, hg, hr, hs, hm, hl, hk⟩
  · exact ⟨_, _, rfl, Nat.le_refl _, Nat.zero_le _⟩
  · exact ⟨_, _, rfl, hl, hm⟩
end
abbrev OlT := Olx BsT
theorem OlT.tch {A : Nat} {B : Zn} {Ls : List TypeId} {w w' : World} {v : Value} {L : List Med.Op} (h : OlT A w v L) (hc : Tch B Ls w w') (h1 : 103 ∉ Ls) (h2 : 5 ∉ Ls) : OlT A w' v L := h.move hc h1 fun _ _ k => k.tch hc h2
/-- A cache of the reference. -/
structure Ra (B : Zn) (w : World) (K M X c R Bn T S O : Nat) (v : Value) (l : List Sec) (ops : List Med.Op) : Prop where
  row : Row w K 100 #[.pointer (some ⟨M, 0, none⟩), v]
  md : RMd w M X c R Bn T S O l
  ol : OlT 0 w v ops
  low : B.fr K ∧ B.fr X
def Re (B : Zn) (w : World) (K R Bn T S O : Nat) (l : List Sec) (ops : List Med.Op) : Prop := ∃ M X c v, Ra B w K M X c R Bn T S O v l ops
section
variable {A B : Zn} {L : List TypeId} {w w' : World} {K M X c R Bn T S O : Nat} {v : Value} {l : List Sec} {ops : List Med.Op}
theorem Ra.ex (h : Ra B w K M X c R Bn T S O v l ops) : Re B w K R Bn T S O l ops := ⟨_, _, _, _, h⟩
theorem Ra.tch (h : Ra A w K M X c R Bn T S O v l ops) (hc : Tch B L w w') (h1 : 100 ∉ L) (h2 : 129 ∉ L) (h3 : 126 ∉ L) (h4 : 103 ∉ L) (h5 : 5 ∉ L) : Ra A w' K M X c R Bn T S O v l ops :=
  ⟨h.row.tch hc h1, Md.tch hc h.md h2 h3, h.ol.tch hc h4 h5, h.low⟩
theorem Ra.fw (h : Ra A w K M X c R Bn T S O v l ops) (hb : Below w.heap.size w w') : Ra A w' K M X c R Bn T S O v l ops :=
  h.tch (Tch.of_below hb (0 : Nat) []) (by simp) (by simp) (by simp) (by simp) (by simp)
theorem Ra.prog (h : Ra A w K M X c R Bn T S O v l ops) (hc : Tch B tyP w w') : Ra A w' K M X c R Bn T S O v l ops :=
  h.tch hc (by decide) (by decide) (by decide) (by decide) (by decide)
theorem Ra.low' (h : Ra A w K M X c R Bn T S O v l ops) (hA : ∀ k, A.fr k → B.fr k) : Ra B w K M X c R Bn T S O v l ops := ⟨h.row, h.md, h.ol, hA _ h.low.1, hA _ h.low.2⟩
theorem Ra.cells (h : Ra A w K M X c R Bn T S O v l ops) : w.cell? ⟨K, 0, none⟩ = some (.pointer (some ⟨M, 0, none⟩)) ∧ w.cell? ⟨K, 1, none⟩ = some v := by
  refine ⟨?_, ?_⟩ <;> (rw [h.row.cell]; rfl)
theorem Re.fw (h : Re A w K R Bn T S O l ops) (hb : Below w.heap.size w w') : Re A w' K R Bn T S O l ops := by obtain ⟨M, X, c, v, h⟩ := h; exact ⟨M, X, c, v, h.fw hb⟩
theorem Re.prog (h : Re A w K R Bn T S O l ops) (hc : Tch B tyP w w') : Re A w' K R Bn T S O l ops := by obtain ⟨M, X, c, v, h⟩ := h; exact ⟨M, X, c, v, h.prog hc⟩
theorem Re.low (h : Re A w K R Bn T S O l ops) (hA : ∀ k, A.fr k → B.fr k) : Re B w K R Bn T S O l ops := by obtain ⟨M, X, c, v, h⟩ := h; exact ⟨M, X, c, v, h.low' hA⟩
end
end Go.Proofs.Ytdjjihppaobbcaa
namespace Go.Proofs.Ytdjjihppaobbcaa
open Go Go.RowKit Med
set_option linter.unusedVariables false
set_option linter.unusedSimpArgs false
set_option maxHeartbeats 2000000 in
theorem er1_any {w : World} {M X c R B T S O : Nat} {l : List Sec} (h : PMd w M X c R B T S O l) (b : Nat) (x : Int) (hb : Row w b 3 #[.int .i64 x]) : Calls Try.prog 95 #[.pointer (some ⟨M, 0, none⟩), .pointer (some ⟨b, 0, none⟩)] w (wrPost 112 135 M X c R B T S O (erE B x) (er R B T S l x) w) := by
  have E := Lib.hid (per_any h x)
  have c0 : w.cell? ⟨b, 0, none⟩ = some (.int .i64 x) := by rw [hb.cell]; rfl
  clear h hb
  generalize erE B x = z at *
  generalize er R B T S l x = l2 at *
  go_enter Try.func95, Try.ntmps95
  go_wp2_with fail
  refine E.out.mono ?_
  rintro e w1 ⟨rfl, hq⟩
  have Q := Lib.hid hq
  clear hq
  go_wp2_with fail
  go_ret
  exact ⟨rfl, Q.out⟩
set_option maxHeartbeats 2000000 in
theorem wr1_any {w : World} {M X c R B T S O : Nat} {l : List Sec} (h : PMd w M X c R B T S O l) (b k : Nat) (u : Value) (x : Int) (d : List Nat) (hb : Row w b 3 #[.int .i64 x]) (hk : Row w k 60 #[u]) (hu : Bs w u d) : Calls Try.prog 93 #[.pointer (some ⟨M, 0, none⟩), .pointer (some ⟨b, 0, none⟩), .pointer (some ⟨k, 0, none⟩)] w (wrPost 112 135 M X c R B T S O (wrE l x d.length) (wr (Geo.shadow R B T S O x) l x d.length (strOf d)) w) := by
  have E := Lib.hid (pwr_any h x u d hu)
  have c0 : w.cell? ⟨b, 0, none⟩ = some (.int .i64 x) := by rw [hb.cell]; rfl
  have c1 : w.cell? ⟨k, 0, none⟩ = some u := by rw [hk.cell]; rfl
  obtain ⟨A, cc, rfl⟩ := hu.form
  clear h hb hk hu
  generalize wrE l x d.length = z at *
  generalize wr (Geo.shadow R B T S O x) l x d.length (strOf d) = l2 at *
  generalize d.length = m at *
  go_enter Try.func93, Try.ntmps93
  go_wp2_with fail
  refine E.out.mono ?_
  rintro e w1 ⟨rfl, hq⟩
  have Q := Lib.hid hq
  clear hq
  go_wp2_with fail
  go_ret
  exact ⟨rfl, Q.out⟩
/-- What an operation does to a medium. -/
def opPost (M X c R B T S O : Nat) (l : List Sec) (o : Med.Op) (w : World) (e : Ending) (w' : World) : Prop := wrPost 112 135 M X c R B T S O (opE B l o) (opL R B T S O l o) w e w'
theorem er1_op {w : World} {M X c R B T S O : Nat} {l : List Sec} (h : PMd w M X c R B T S O l) (o : Med.Op) (b : Nat) (ho : o.erase = true) (hb : Row w b 3 #[.int .i64 o.pos]) : Calls Try.prog 95 #[.pointer (some ⟨M, 0, none⟩), .pointer (some ⟨b, 0, none⟩)] w (opPost M X c R B T S O l o w) := by
  have := er1_any h b o.pos hb
  unfold opPost opE opL
  rw [if_pos ho, if_pos ho]
  exact this
theorem wr1_op {w : World} {M X c R B T S O : Nat} {l : List Sec} (h : PMd w M X c R B T S O l) (o : Med.Op) (b k : Nat) (u : Value) (ho : o.erase = false) (hb : Row w b 3 #[.int .i64 o.pos]) (hk : Row w k 60 #[u]) (hu : Bs w u o.bytes) : Calls Try.prog 93 #[.pointer (some ⟨M, 0, none⟩), .pointer (some ⟨b, 0, none⟩), .pointer (some ⟨k, 0, none⟩)] w (opPost M X c R B T S O l o w) := by
  have := wr1_any h b k u o.pos o.bytes hb hk hu
  unfold opPost opE opL
  rw [if_neg (by rw [ho]; decide), if_neg (by rw [ho]; decide)]
  exact this
/-- The append of nothing. -/
theorem append_none {P : Program} (w : World) (t ty e : TypeId) (i : TypeInfo) (ht : P.underlying t = some (.slice e)) (hi : P.info? e = some i) (ad : Addr) (n cap : Nat) (A : Option Addr) (c : Nat) (hc : n ≤ cap) :
    (Builtin.append_ #[t, t] ty #[.slice (some ad) n cap, .slice A 0 c]).run P w = .ok (.slice (some ad) n cap) w := by
  have h0 : ∀ b : Addr, (loadCells b 0).run P w = .ok #[] w := fun b => by simp [loadCells, loadCellsFrom]
  cases A with
  | none => simp [Builtin.append_, run_underlying ht, sizeOf, typeInfo, hi, Builtin.lenOf, Builtin.firstCells, hc, storeCells]
  | some b => simp [Builtin.append_, run_underlying ht, sizeOf, typeInfo, hi, Builtin.lenOf, Builtin.firstCells, hc, storeCells, h0]
theorem wp_append_none {P : Program} {t e : TypeId} {w : World} {o : Oper} {a : Act} {K : Act → World → Prop} {Q : Exit → Act → World → Prop} (s x : Operand) (i : TypeInfo) (ht : P.underlying t = some (.slice e)) (hi : P.info? e = some i)
    (ho : o.op = .call { callee := .builtin .append, args := #[s, x], argTypes := #[t, t] })
    (ad : Addr) (n cap : Nat) (A : Option Addr) (c : Nat) (hs : a.eval s = .slice (some ad) n cap) (hx : a.eval x = .slice A 0 c) (hc : n ≤ cap) (h : K (a.put o.dst (.slice (some ad) n cap)) w) : o.wp P a w K Q := by
  have hr := append_none (P := P) w t o.type e i ht hi ad n cap A c hc
  unfold Oper.wp execOp
  simp only [ho, resolve, invoke, builtin, Sem.run_bind, Sem.run_pure, Result.andThen_ok, List.map_toArray, List.map_cons, List.map_nil, hs, hx, hr]
  exact h
theorem run_build_e {P : Program} {tl ts : TypeId} {z : Value} {s b : Nat} (ht : P.underlying tl = some (.slice ts)) (info : (P.info? ts).map (fun i => (i.zero, i.size, i.bytes)) = some (some z, s, b)) (w : World) : (Instr.buildSlice tl 0 #[]).run P w = .ok (.slice (some ⟨w.heap.size, 0, none⟩) 0 0) (w.alloc (.cells #[] ts)) := by
  obtain ⟨i, hi, hzz⟩ := Option.map_eq_some_iff.1 info
  simp only [Prod.mk.injEq] at hzz
  obtain ⟨hz, hs, hb⟩ := hzz
  simp [Instr.buildSlice, run_underlying ht, sizeOf, typeInfo, hi, hs, zeroValue, hz, newRow, Instr.fill, Value.cells, show Array.range 0 = #[] from rfl]
theorem wp_build_e {P : Program} {tl ts : TypeId} {z : Value} {s b : Nat} (ht : P.underlying tl = some (.slice ts)) (info : (P.info? ts).map (fun i => (i.zero, i.size, i.bytes)) = some (some z, s, b)) {o : Oper} {a : Act} {w : World} {K : Act → World → Prop} {Q : Exit → Act → World → Prop} (ho : o.op = .buildSlice tl 0 #[])
    (hk : K (a.put o.dst (.slice (some ⟨w.heap.size, 0, none⟩) 0 0)) (w.alloc (.cells #[] ts))) : o.wp P a w K Q := by
  unfold Oper.wp
  simp only [execOp, ho, List.map_toArray, List.map_nil, Sem.run_bind, Sem.run_pure, Result.andThen_ok, run_build_e ht info w]
  exact hk
set_option maxRecDepth 100000 in
/-- 'append([]operation{}, x...)'. -/
theorem wp_copy_F {A : Zn} {B : Nat} {w : World} {o : Oper} {a : Act} {K : Act → World → Prop} {Q : Exit → Act → World → Prop} (s x : Operand)
    (ho : o.op = .call { callee := .builtin .append, args := #[s, x], argTypes := #[114, 114] })
    (b0 n c : Nat) (p : Option Addr) (ops : List Med.Op) (hs : a.eval s = .slice (some ⟨b0, 0, none⟩) 0 0) (hrow : Row w b0 138 #[]) (hx : a.eval x = .slice p n c) (hn : ops.length = n) (hF : Fl A w (.slice p n c) ops) (hlen : n ≤ 100000) (hB : B ≤ b0)
    (h : ∀ g cap w', Fl (B : Zn) w' (.slice (some ⟨g, 0, none⟩) n cap) ops → w.grownBy w' (some b0) → K (a.put o.dst (.slice (some ⟨g, 0, none⟩) n cap)) w') : o.wp Try.prog a w K Q := by
  subst hn
  obtain ⟨i, hi, hz, hsz, hby⟩ := info_parts info_fn
  by_cases h0 : ops.length = 0
  · obtain rfl : ops = [] := List.length_eq_zero_iff.1 h0
    exact wp_append_none s x i Try.underlying114 hi ho ⟨b0, 0, none⟩ 0 0 p c hs hx (Nat.le_refl _) (h b0 0 w (Or.inr ⟨b0, 0, #[], rfl, hB, hrow, rfl, Nat.zero_le _, Nat.le_refl _, fun k hk => absurd hk (Nat.not_lt_zero k)⟩) (World.grownBy.refl w _))
  · rcases hF with ⟨_, rfl⟩ | ⟨g, cap, cs, e, hg, hr, hsz2, hm, hl, hq⟩
    · exact absurd rfl h0
    · injection e with e1 e2 e3
      subst e1 e3
      have hown : w.ownsRow 0 138 1 (.slice (some ⟨b0, 0, none⟩) 0 0) 0 [] := ⟨rfl, Or.inr ⟨b0, 0, #[], rfl, Nat.zero_le _, hrow, Nat.le_refl 0, Nat.zero_le _, rfl, rfl⟩⟩
      have ht : ∀ k (hk : k < ops.length), ∃ u, (cs.toList.take ops.length)[k]? = some u ∧ FnOp w u ops[k] := fun k hk => by
        obtain ⟨u, h1, h2⟩ := hq k hk
        exact ⟨u, by rw [List.getElem?_take_of_lt hk]; simpa using h1, h2⟩
      have hlt : (cs.toList.take ops.length).length = ops.length := by simp; omega
      refine wp_append_lies w s x _ ho 0 _ i _ 1 8 Try.underlying114 hi hz hsz hby rfl (by decide) _ 0 [] hs hown ⟨g, 0, none⟩ ops.length c (cs.toList.take ops.length) hx (by omega) (fun j u hj => ?_) (fun u hu => ?_) (by omega) (by unfold maxLen; omega) (by omega) (by have := hrow.lt; omega) _ rfl fun g2 cap2 w' h1 h2 h3 h4 => ?_
      · rw [Go.WideShapes.add_plain, Nat.zero_add, hr.cell]
        have : j < ops.length := by have := (List.getElem?_eq_some_iff.1 hj).1; omega
        rw [List.getElem?_take_of_lt this] at hj
        simpa using hj
      · obtain ⟨k, hk, rfl⟩ := List.getElem_of_mem hu
        obtain ⟨u', h5, h6⟩ := ht k (by omega)
        rw [List.getElem?_eq_getElem hk] at h5
        injection h5 with h5
        rw [h5]; exact h6.one
      · rw [Nat.zero_add] at h1 ⊢
        rw [List.nil_append] at h1
        have hc : Tch (0 : Nat) [138] w w' := Tch.grown h2 (fun k hk => by injection hk with hk; subst hk; exact ⟨Nat.zero_le _, hrow.ty⟩) (by simp)
        have hg2 : B ≤ g2 := by
          rcases h3 with e | e
          · have e2 : b0 = g2 := Option.some.inj e
            omega
          · have := hrow.lt; omega
        exact h g2 cap2 w' (Fl.of_row hg2 h1 rfl fun k hk => by obtain ⟨u, h5, h6⟩ := ht k hk; exact ⟨u, h5, h6.tch hc (by unfold NoCap; decide)⟩) h2
def fcPost (ops : List Med.Op) (w : World) (e : Ending) (w' : World) : Prop := ∃ v, e = .returned v ∧ Fl (w.heap.size : Zn) w' v ops ∧ Below w.heap.size w w'
set_option maxHeartbeats 2000000 in
set_option maxRecDepth 100000 in
theorem bclone_any (v : Value) (l : List Nat) (w : World) (h : Bs w v l) (hl : l.length ≤ 1000) : Calls Try.prog 91 #[v] w (newB l w) := by
  obtain ⟨p, c, rfl⟩ := h.form
  have hA : p = none → c = 0 := by obtain ⟨p', c', e, _, _, h2, _⟩ := h; injection e with e1 e2 e3; subst e1 e3; exact h2
  obtain ⟨n, hn⟩ : ∃ n, l.length = n := ⟨_, rfl⟩
  rcases p with _ | ad
  · obtain rfl := hA rfl
    have h0 : l = [] := by
      rcases Nat.eq_zero_or_pos l.length with h0 | h0
      · exact List.length_eq_zero_iff.1 h0
      · obtain ⟨p', c', e, _, _, _, h2⟩ := h; obtain ⟨b, off, e2, _⟩ := h2 h0; injection e with e1 _ _; rw [← e1] at e2; cases e2
    subst h0
    have hnil := fun w => Lib.run_eql_slice_nil (P := Try.prog) w 60 5 none 0 0 0 0 Try.underlying60
    show Calls _ _ #[.slice none 0 0] _ _
    go_enter Try.func91, Try.ntmps91
    go_wp2_with fail
    go_ret
    exact ⟨_, rfl, OwB.nil_ _ _, Below.refl _ _⟩
  · have HN := Lib.hid hn
    rw [hn] at h ⊢
    have hnil := fun w => Lib.run_eql_slice_nil (P := Try.prog) w 60 5 (some ad) n c 0 0 Try.underlying60
    have MK := Lib.hid (OwB.made w (Nat.le_refl _))
    have HA := Lib.hid (show Bs (w.alloc (.cells #[] 5)) (.slice (some ad) n c) l from h.alloc _)
    have HL := Lib.hid hl
    clear h hl hA hn
    go_enter Try.func91, Try.ntmps91
    go_wp2_with (first | (refine wpList_plain rfl fun _ hK' => wpB_build_0 rfl (hK' _ _ ?_)) | (at_builtin; refine wp_app rfl _ _ rfl w.heap.size _ _ [] l rfl rfl MK.out HA.out (by have := HL.out; simp; omega) (by simp) ?_; intro x1 w1 hown1 hg1))
    have P := Lib.hid (And.intro (show OwB w1 w.heap.size x1 l from hown1) (((Below.refl w.heap.size w).alloc (Nat.le_refl _) _).trans hg1))
    clear hown1 hg1
    go_wp2_with fail
    go_ret
    exact ⟨_, rfl, P.out.1, P.out.2⟩
end Go.Proofs.Ytdjjihppaobbcaa
namespace Go.Proofs.Ytdjjihppaobbcaa
open Go Go.RowKit Med
set_option linter.unusedVariables false
set_option linter.unusedSimpArgs false
set_option maxHeartbeats 2000000 in
theorem cst_any {B : Zn} {w : World} {K R Bn T S O : Nat} {l : List Sec} {ops : List Med.Op} (h : Ce B w K R Bn T S O l ops) (a : Int) : Calls Try.prog 44 #[.pointer (some ⟨K, 0, none⟩), .int .i64 a] w (qPost (.int .i64 (st (Med.play R Bn T S O l ops) a)) w) := by
  obtain ⟨D, X, c, C, Y, d, v, h⟩ := h
  have E := Lib.hid (pst_any h.co a)
  obtain ⟨c0, c1, c2⟩ := h.cells
  clear h
  generalize st (Med.play R Bn T S O l ops) a = z at *
  clear c0 c1
  go_enter Try.func44, Try.ntmps44
  go_wp2_with fail
  refine E.out.mono ?_
  rintro e w' ⟨rfl, rfl⟩
  go_wp2_with fail
  go_ret
  exact ⟨rfl, rfl⟩
set_option maxHeartbeats 2000000 in
theorem crd_any {B : Zn} {w : World} {K R Bn T S O : Nat} {l : List Sec} {ops : List Med.Op} (h : Ce B w K R Bn T S O l ops) (a : Int) : Calls Try.prog 60 #[.pointer (some ⟨K, 0, none⟩), .int .i64 a] w (rdPost (rdE (Med.play R Bn T S O l ops) a) (rdB (Med.play R Bn T S O l ops) a) w) := by
  obtain ⟨D, X, c, C, Y, d, v, h⟩ := h
  have E := Lib.hid (prd_any h.co a)
  obtain ⟨c0, c1, c2⟩ := h.cells
  clear h
  generalize rdE (Med.play R Bn T S O l ops) a = z at *
  generalize rdB (Med.play R Bn T S O l ops) a = y at *
  clear c0 c1
  go_enter Try.func60, Try.ntmps60
  go_wp2_with fail
  refine E.out.mono ?_
  rintro e w1 ⟨u, rfl, hu, hb⟩
  have Q := Lib.hid (And.intro hu hb)
  obtain ⟨A, cc, rfl⟩ := hu.1.form
  clear hu hb
  go_wp2_with fail
  refine bodyPost_ret (results_tmp2 rfl _ _ _) rfl ?_
  exact ⟨_, rfl, Q.out.1, Q.out.2⟩
set_option maxHeartbeats 2000000 in
theorem cpe_any {B : Zn} {w : World} {K R Bn T S O : Nat} {l : List Sec} {ops : List Med.Op} (h : Ce B w K R Bn T S O l ops) : Calls Try.prog 43 #[.pointer (some ⟨K, 0, none⟩)] w (qPost (.int .i64 (ops.length : Int)) w) := by
  obtain ⟨D, X, c, C, Y, d, v, h⟩ := h
  obtain ⟨c0, c1, c2⟩ := h.cells
  obtain ⟨p, cc, rfl, _, _⟩ := h.fl.form
  clear h c0 c2
  generalize ops.length = n at *
  go_enter Try.func43, Try.ntmps43
  go_wp2_with fail
  go_ret
  exact ⟨rfl, rfl⟩
/-- What New and Clone return. -/
def cnPost (R Bn T S O : Nat) (l : List Sec) (ops : List Med.Op) (w : World) (e : Ending) (w' : World) : Prop := ∃ K, e = .returned (.pointer (some ⟨K, 0, none⟩)) ∧ Ce w.heap.size w' K R Bn T S O l ops ∧ Below w.heap.size w w'
set_option maxHeartbeats 2000000 in
theorem cnew_any {w : World} {M X c R B T S O : Nat} {l : List Sec} (h : PMd w M X c R B T S O l) : Calls Try.prog 41 #[.pointer (some ⟨M, 0, none⟩)] w (cnPost R B T S O l [] w) := by
  have E := Lib.hid (pcl_any h)
  have H := Lib.hid h
  clear h
  go_enter Try.func41, Try.ntmps41
  go_wp2_with fail
  refine E.out.mono ?_
  rintro e w1 ⟨M1, X1, c1, rfl, hm1, hb1, hw1⟩
  have P1 := Lib.hid (And.intro hm1 (And.intro hb1 hw1))
  have E2 := Lib.hid (pcl_any (H.out.fw hw1))
  clear hm1 hb1 hw1 E
  go_wp2_with fail
  refine E2.out.mono ?_
  rintro e w2 ⟨M2, X2, c2, rfl, hm2, hb2, hw2⟩
  have P2 := Lib.hid (And.intro hm2 (And.intro hb2 hw2))
  clear hm2 hb2 hw2 E2
  go_wp2_with fail
  go_ret
  obtain ⟨hm1, hb1, hw1⟩ := P1.out
  obtain ⟨hm2, hb2, hw2⟩ := P2.out
  have ba : Below w2.heap.size w2 (w2.alloc (.cells #[.pointer (some ⟨M1, 0, none⟩), .slice none 0 0, .pointer (some ⟨M2, 0, none⟩)] 116)) := (Below.refl _ _).alloc (Nat.le_refl _) _
  have s1 := hw1.size
  have s2 := hw2.size
  have l1 := hm1.sx.lt
  exact ⟨w2.heap.size, rfl, Ca.ex ⟨gr_new w2 _ _ rfl, (hm1.fw hw2).fw ba, hm2.fw ba, by omega, Fl.nil_ _ _, by omega⟩, (hw1.trans (hw2.mono s1)).trans (ba.mono (by omega))⟩
set_option maxHeartbeats 2000000 in
theorem cst_nil (a : Int) (w : World) : Calls Try.prog 44 #[.pointer none, .int .i64 a] w (qPost (.int .i64 0) w) := by
  go_enter Try.func44, Try.ntmps44
  go_wp2_with fail
  go_ret
  exact ⟨rfl, rfl⟩
set_option maxHeartbeats 2000000 in
theorem crd_nil (a : Int) (w : World) : Calls Try.prog 60 #[.pointer none, .int .i64 a] w (qPost (.tuple #[.slice none 0 0, .int .i64 8]) w) := by
  go_enter Try.func60, Try.ntmps60
  go_wp2_with fail
  refine bodyPost_ret (results_tmp2 rfl _ _ _) rfl ?_
  exact ⟨rfl, rfl⟩
set_option maxHeartbeats 2000000 in
theorem cpe_nil (w : World) : Calls Try.prog 43 #[.pointer none] w (qPost (.int .i64 0) w) := by
  go_enter Try.func43, Try.ntmps43
  go_wp2_with fail
  go_ret
  exact ⟨rfl, rfl⟩
set_option maxHeartbeats 2000000 in
theorem cnew_nil (w : World) : Calls Try.prog 41 #[.pointer none] w (qPost (.pointer none) w) := by
  go_enter Try.func41, Try.ntmps41
  go_wp2_with fail
  go_ret
  exact ⟨rfl, rfl⟩
/-- Nothing is returned, and nothing changes. -/
def q0Post (w : World) (e : Ending) (w' : World) : Prop := (∃ u, e = .returned u) ∧ w = w'
set_option maxHeartbeats 2000000 in
theorem cfl_nil (w : World) : Calls Try.prog 65 #[.pointer none] w (q0Post w) := by
  go_enter Try.func65, Try.ntmps65
  go_wp2_with fail
  go_end0
  exact ⟨⟨_, rfl⟩, rfl⟩
set_option maxHeartbeats 2000000 in
theorem ccu_nil (a : Int) (w : World) : Calls Try.prog 55 #[.pointer none, .int .i64 a] w (q0Post w) := by
  go_enter Try.func55, Try.ntmps55
  go_wp2_with fail
  go_end0
  exact ⟨⟨_, rfl⟩, rfl⟩
set_option maxHeartbeats 2000000 in
theorem cad_nil (u : Value) (hu : ∃ f a c, u = .func f a c) (w : World) : Calls Try.prog 92 #[.pointer none, u] w (qPost (.int .i64 8) w) := by
  obtain ⟨f, a, c, rfl⟩ := hu
  go_enter Try.func92, Try.ntmps92
  go_wp2_with fail
  go_ret
  exact ⟨rfl, rfl⟩
end Go.Proofs.Ytdjjihppaobbcaa
namespace Go.Proofs.Ytdjjihppaobbcaa
open Go Go.RowKit Med
set_option linter.unusedVariables false
set_option linter.unusedSimpArgs false
theorem opL_bad {R B T S O : Nat} {l : List Sec} {o : Med.Op} (h : opE B l o ≠ 0) : opL R B T S O l o = l := by
  unfold opE at h
  unfold opL
  split
  · rename_i h1
    rw [if_pos h1] at h
    unfold erE at h
    unfold er
    by_cases h2 : 0 ≤ o.pos ∧ o.pos < B
    · rw [if_pos h2] at h; exact absurd rfl h
    · rw [if_neg h2]
  · rename_i h1
    rw [if_neg h1] at h
    unfold wr
    rw [if_neg h]
/-- The pending operations behind an operation that returned e. -/
def app (ops : List Med.Op) (e : Int) (o : Med.Op) : List Med.Op := if e = 0 then ops ++ [o] else ops
theorem app_len (ops : List Med.Op) (e : Int) (o : Med.Op) : (app ops e o).length ≤ ops.length + 1 := by
  unfold app; split <;> simp
/-- What Write and Erase do. -/
def adPost (B : Zn) (K R Bn T S O : Nat) (l : List Sec) (ops : List Med.Op) (o : Med.Op) (w : World) (e : Ending) (w' : World) : Prop :=
  e = .returned (.int .i64 (opE Bn (Med.play R Bn T S O l ops) o)) ∧ Ce B w' K R Bn T S O l (app ops (opE Bn (Med.play R Bn T S O l ops) o) o) ∧ Tch B tyP w w'
theorem ad_no {B : Zn} {w w1 : World} {K D X c C Y d R Bn T S O : Nat} {v : Value} {l : List Sec} {ops : List Med.Op} {o : Med.Op} (h : Ca B w K D X c C Y d R Bn T S O v l ops)
    (hm : PMd w1 C Y d R Bn T S O (opL R Bn T S O (Med.play R Bn T S O l ops) o)) (hc : Chg (fun j => j = Y) w w1) :
    Tch B [135] w w1 ∧ Row w1 K 116 #[.pointer (some ⟨D, 0, none⟩), v, .pointer (some ⟨C, 0, none⟩)] ∧ PMd w1 D X c R Bn T S O l ∧ Fl B w1 v ops := by
  have t : Tch B [135] w w1 := Tch.of_one hc h.low.2.2 h.co.sx.ty (by simp)
  exact ⟨t, h.row.tch t (by decide), h.du.chg hc (fun e => ((h.du.row.ty).ne h.co.sx.ty (by decide)) e) h.ne, h.fl.tch t (by unfold NoCap; decide) (by decide)⟩
theorem tch_sub {B : Zn} {L : List TypeId} {w w' : World} (h : Tch B L w w') (hL : ∀ t ∈ L, t ∈ tyP) : Tch B tyP w w' := h.mono (fun _ h => h) hL

theorem cell_new1 (w : World) (u : Value) (t : TypeId) : (w.alloc (.cells #[u] t)).cell? ⟨w.heap.size, 0, none⟩ = some u := by
  rw [(gr_new w #[u] t rfl).cell]; rfl
theorem Row.go {w w' : World} {g : Nat} {t : TypeId} {cs : Array Value} (h : Row w g t cs) (hb : Below w.heap.size w w') : Row w' g t cs := h.below hb h.lt

set_option maxHeartbeats 4000000 in
set_option maxRecDepth 100000 in
theorem cad_er {B : Zn} {w : World} {K R Bn T S O : Nat} {l : List Sec} {ops : List Med.Op} (h : Ce B w K R Bn T S O l ops) (o : Med.Op) (b : Nat) (ho : o.erase = true) (hb : Row w b 3 #[.int .i64 o.pos]) (hn : ops.length ≤ 1000) (hT : B.top w) :
    Calls Try.prog 92 #[.pointer (some ⟨K, 0, none⟩), .func (.func 95) #[] #[.pointer (some ⟨b, 0, none⟩)]] w (adPost B K R Bn T S O l ops o w) := by
  obtain ⟨D, X, c, C, Y, d, v, h⟩ := h
  have FO : Hid (FnOp w (.func (.func 95) #[] #[.pointer (some ⟨b, 0, none⟩)]) o) := Lib.hid (Or.inl ⟨ho, b, rfl, hb⟩)
  have E := Lib.hid (er1_op h.co o b ho hb)
  obtain ⟨c0, c1, c2⟩ := h.cells
  have H := Lib.hid h
  have HN := Lib.hid hn
  have KL := Lib.hid h.row.lt
  have BK := Lib.hid h.low.1
  have HT := Lib.hid hT
  obtain ⟨z, hz⟩ : ∃ z, opE Bn (Med.play R Bn T S O l ops) o = z := ⟨_, rfl⟩
  have HZ := Lib.hid hz
  unfold opPost at E
  rw [hz] at E
  obtain ⟨l2, hl2⟩ : ∃ x, opL R Bn T S O (Med.play R Bn T S O l ops) o = x := ⟨_, rfl⟩
  have HL2 := Lib.hid hl2
  rw [hl2] at E
  unfold adPost
  rw [hz]
  clear h hn hT hz hl2 ho hb c0 c1
  go_enter Try.func92, Try.ntmps92
  go_wp2_with fail
  refine E.out.mono ?_
  rintro e w1 ⟨rfl, hm, hc⟩
  obtain ⟨t1, r1, du1, fl1⟩ := ad_no H.out (by rw [HL2.out]; exact hm) hc
  have T1 := Lib.hid t1
  have R1 := Lib.hid r1
  have DU := Lib.hid du1
  have FL := Lib.hid fl1
  have CO := Lib.hid hm
  have FO1 := Lib.hid (FO.out.tch t1 (by unfold NoCap; decide))
  have c1 : w1.cell? ⟨K, 1, none⟩ = some v := by rw [r1.cell]; rfl
  clear t1 r1 du1 fl1 hm hc c2 E FO
  by_cases h0 : z = 0
  · have Z0 := Lib.hid h0
    have d0 : ((z : Int) == 0) = true := by simp [h0]
    have FL2 := Lib.hid (FL.out.fw ((Below.refl _ w1).alloc (Nat.le_refl _) (.cells #[.func (.func 95) #[] #[.pointer (some ⟨b, 0, none⟩)]] 138)))
    have FO2 := Lib.hid (FO1.out.fw ((Below.refl _ w1).alloc (Nat.le_refl _) (.cells #[.func (.func 95) #[] #[.pointer (some ⟨b, 0, none⟩)]] 138)))
    have CN := Lib.hid (cell_new1 w1 (.func (.func 95) #[] #[.pointer (some ⟨b, 0, none⟩)]) 138)
    have BL := Lib.hid (show B.top (w1.alloc (.cells #[.func (.func 95) #[] #[.pointer (some ⟨b, 0, none⟩)]] 138)) from HT.out.up (by have := T1.out.size; simp; omega))
    clear h0
    go_wp2_with (at_builtin; refine wpList_push_F rfl _ _ rfl v ops _ w1.heap.size _ o rfl FL2.out rfl rfl CN.out FO2.out (by have := HN.out; omega) BL.out ?_; intro g cap w2 hf ht; have FL3 := Lib.hid hf; have T2 := Lib.hid ht; have R2 := Lib.hid ((R1.out.go ((Below.refl _ w1).alloc (Nat.le_refl _) (.cells #[.func (.func 95) #[] #[.pointer (some ⟨b, 0, none⟩)]] 138))).tch ht (by decide)); have f1 := R2.out.frozen 1; have q1 : w2.cell? ⟨K, 1, none⟩ = some v := (by rw [R2.out.cell]; rfl); clear hf ht)
    go_ret
    have ba : Below w1.heap.size w1 (w1.alloc (.cells #[.func (.func 95) #[] #[.pointer (some ⟨b, 0, none⟩)]] 138)) := (Below.refl _ w1).alloc (Nat.le_refl _) _
    have ts : Tch B [116] w2 (w2.setCell ⟨K, 1, none⟩ (.slice (some ⟨g, 0, none⟩) (ops.length + 1) cap)) := (Tch.refl _ _ _).set BK.out R2.out.ty (by simp) _
    have nc1 : NoCap [138] := by unfold NoCap; decide
    have nc2 : NoCap [116] := by unfold NoCap; decide
    refine ⟨rfl, ⟨D, X, c, C, Y, d, _, R2.out.store 1 _, Md.tch ts (Md.tch T2.out (DU.out.fw ba) (by decide) (by decide)) (by decide) (by decide), ?_, H.out.ne, ?_, H.out.low⟩, (tch_sub T1.out (by decide)).trans ((Tch.of_below ba _ _).trans ((tch_sub T2.out (by decide)).trans (tch_sub ts (by decide))))⟩
    · unfold app
      rw [if_pos Z0.out, play_snoc, HL2.out]
      exact Md.tch ts (Md.tch T2.out (CO.out.fw ba) (by decide) (by decide)) (by decide) (by decide)
    · unfold app
      rw [if_pos Z0.out]
      have := FL3.out.tch ts nc2 (by decide)
      rw [show ops.length + 1 = (ops ++ [o]).length by simp] at this ⊢
      exact this
  · have Z0 := Lib.hid h0
    have d0 : ((z : Int) == 0) = false := by simp [h0]
    clear h0
    go_wp2_with fail
    go_ret
    refine ⟨rfl, ⟨D, X, c, C, Y, d, _, R1.out, DU.out, ?_, H.out.ne, ?_, H.out.low⟩, tch_sub T1.out (by decide)⟩
    · unfold app
      rw [if_neg Z0.out]
      have := CO.out
      rw [← HL2.out, opL_bad (by rw [HZ.out]; exact Z0.out)] at this
      exact this
    · unfold app
      rw [if_neg Z0.out]
      exact FL.out

set_option maxHeartbeats 4000000 in
set_option maxRecDepth 100000 in
theorem cad_wr {B : Zn} {w : World} {K R Bn T S O : Nat} {l : List Sec} {ops : List Med.Op} (h : Ce B w K R Bn T S O l ops) (o : Med.Op) (b k : Nat) (u : Value) (ho : o.erase = false) (hb : Row w b 3 #[.int .i64 o.pos]) (hk : Row w k 60 #[u]) (hu : BsT w u o.bytes) (hn : ops.length ≤ 1000) (hT : B.top w) :
    Calls Try.prog 92 #[.pointer (some ⟨K, 0, none⟩), .func (.func 93) #[] #[.pointer (some ⟨b, 0, none⟩), .pointer (some ⟨k, 0, none⟩)]] w (adPost B K R Bn T S O l ops o w) := by
  obtain ⟨D, X, c, C, Y, d, v, h⟩ := h
  have FO : Hid (FnOp w (.func (.func 93) #[] #[.pointer (some ⟨b, 0, none⟩), .pointer (some ⟨k, 0, none⟩)]) o) := Lib.hid (Or.inr ⟨ho, b, k, u, rfl, hb, hk, hu⟩)
  have E := Lib.hid (wr1_op h.co o b k u ho hb hk hu.1)
  obtain ⟨c0, c1, c2⟩ := h.cells
  have H := Lib.hid h
  have HN := Lib.hid hn
  have KL := Lib.hid h.row.lt
  have BK := Lib.hid h.low.1
  have HT := Lib.hid hT
  obtain ⟨z, hz⟩ : ∃ z, opE Bn (Med.play R Bn T S O l ops) o = z := ⟨_, rfl⟩
  have HZ := Lib.hid hz
  unfold opPost at E
  rw [hz] at E
  obtain ⟨l2, hl2⟩ : ∃ x, opL R Bn T S O (Med.play R Bn T S O l ops) o = x := ⟨_, rfl⟩
  have HL2 := Lib.hid hl2
  rw [hl2] at E
  unfold adPost
  rw [hz]
  clear h hn hT hz hl2 ho hb hk hu c0 c1
  go_enter Try.func92, Try.ntmps92
  go_wp2_with fail
  refine E.out.mono ?_
  rintro e w1 ⟨rfl, hm, hc⟩
  obtain ⟨t1, r1, du1, fl1⟩ := ad_no H.out (by rw [HL2.out]; exact hm) hc
  have T1 := Lib.hid t1
  have R1 := Lib.hid r1
  have DU := Lib.hid du1
  have FL := Lib.hid fl1
  have CO := Lib.hid hm
  have FO1 := Lib.hid (FO.out.tch t1 (by unfold NoCap; decide))
  have c1 : w1.cell? ⟨K, 1, none⟩ = some v := by rw [r1.cell]; rfl
  clear t1 r1 du1 fl1 hm hc c2 E FO
  by_cases h0 : z = 0
  · have Z0 := Lib.hid h0
    have d0 : ((z : Int) == 0) = true := by simp [h0]
    have FL2 := Lib.hid (FL.out.fw ((Below.refl _ w1).alloc (Nat.le_refl _) (.cells #[.func (.func 93) #[] #[.pointer (some ⟨b, 0, none⟩), .pointer (some ⟨k, 0, none⟩)]] 138)))
    have FO2 := Lib.hid (FO1.out.fw ((Below.refl _ w1).alloc (Nat.le_refl _) (.cells #[.func (.func 93) #[] #[.pointer (some ⟨b, 0, none⟩), .pointer (some ⟨k, 0, none⟩)]] 138)))
    have CN := Lib.hid (cell_new1 w1 (.func (.func 93) #[] #[.pointer (some ⟨b, 0, none⟩), .pointer (some ⟨k, 0, none⟩)]) 138)
    have BL := Lib.hid (show B.top (w1.alloc (.cells #[.func (.func 93) #[] #[.pointer (some ⟨b, 0, none⟩), .pointer (some ⟨k, 0, none⟩)]] 138)) from HT.out.up (by have := T1.out.size; simp; omega))
    clear h0
    go_wp2_with (at_builtin; refine wpList_push_F rfl _ _ rfl v ops _ w1.heap.size _ o rfl FL2.out rfl rfl CN.out FO2.out (by have := HN.out; omega) BL.out ?_; intro g cap w2 hf ht; have FL3 := Lib.hid hf; have T2 := Lib.hid ht; have R2 := Lib.hid ((R1.out.go ((Below.refl _ w1).alloc (Nat.le_refl _) (.cells #[.func (.func 93) #[] #[.pointer (some ⟨b, 0, none⟩), .pointer (some ⟨k, 0, none⟩)]] 138))).tch ht (by decide)); have f1 := R2.out.frozen 1; have q1 : w2.cell? ⟨K, 1, none⟩ = some v := (by rw [R2.out.cell]; rfl); clear hf ht)
    go_ret
    have ba : Below w1.heap.size w1 (w1.alloc (.cells #[.func (.func 93) #[] #[.pointer (some ⟨b, 0, none⟩), .pointer (some ⟨k, 0, none⟩)]] 138)) := (Below.refl _ w1).alloc (Nat.le_refl _) _
    have ts : Tch B [116] w2 (w2.setCell ⟨K, 1, none⟩ (.slice (some ⟨g, 0, none⟩) (ops.length + 1) cap)) := (Tch.refl _ _ _).set BK.out R2.out.ty (by simp) _
    have nc1 : NoCap [138] := by unfold NoCap; decide
    have nc2 : NoCap [116] := by unfold NoCap; decide
    refine ⟨rfl, ⟨D, X, c, C, Y, d, _, R2.out.store 1 _, Md.tch ts (Md.tch T2.out (DU.out.fw ba) (by decide) (by decide)) (by decide) (by decide), ?_, H.out.ne, ?_, H.out.low⟩, (tch_sub T1.out (by decide)).trans ((Tch.of_below ba _ _).trans ((tch_sub T2.out (by decide)).trans (tch_sub ts (by decide))))⟩
    · unfold app
      rw [if_pos Z0.out, play_snoc, HL2.out]
      exact Md.tch ts (Md.tch T2.out (CO.out.fw ba) (by decide) (by decide)) (by decide) (by decide)
    · unfold app
      rw [if_pos Z0.out]
      have := FL3.out.tch ts nc2 (by decide)
      rw [show ops.length + 1 = (ops ++ [o]).length by simp] at this ⊢
      exact this
  · have Z0 := Lib.hid h0
    have d0 : ((z : Int) == 0) = false := by simp [h0]
    clear h0
    go_wp2_with fail
    go_ret
    refine ⟨rfl, ⟨D, X, c, C, Y, d, _, R1.out, DU.out, ?_, H.out.ne, ?_, H.out.low⟩, tch_sub T1.out (by decide)⟩
    · unfold app
      rw [if_neg Z0.out]
      have := CO.out
      rw [← HL2.out, opL_bad (by rw [HZ.out]; exact Z0.out)] at this
      exact this
    · unfold app
      rw [if_neg Z0.out]
      exact FL.out

end Go.Proofs.Ytdjjihppaobbcaa
namespace Go.Proofs.Ytdjjihppaobbcaa
open Go Go.RowKit Med
set_option linter.unusedVariables false
set_option linter.unusedSimpArgs false
theorem adPost.from {B : Zn} {K R Bn T S O : Nat} {l : List Sec} {ops : List Med.Op} {o : Med.Op} {w0 w : World} (hb : Below w0.heap.size w0 w) {e : Ending} {w' : World} (h : adPost B K R Bn T S O l ops o w e w') : adPost B K R Bn T S O l ops o w0 e w' :=
  ⟨h.1, h.2.1, (Tch.of_below hb _ _).trans h.2.2⟩
set_option maxHeartbeats 4000000 in
set_option maxRecDepth 100000 in
theorem cer_any {B : Zn} {w : World} {K R Bn T S O : Nat} {l : List Sec} {ops : List Med.Op} (h : Ce B w K R Bn T S O l ops) (x : Int) (b : List Nat) (hn : ops.length ≤ 1000) (hT : B.top w) :
    Calls Try.prog 69 #[.pointer (some ⟨K, 0, none⟩), .int .i64 x] w (adPost B K R Bn T S O l ops ⟨true, x, b⟩ w) := by
  obtain ⟨B0, hB0⟩ : ∃ B, w.heap.size = B := ⟨_, rfl⟩
  obtain ⟨W0, hW0⟩ : ∃ W, w.alloc (.cells #[.int .i64 x] 3) = W := ⟨_, rfl⟩
  have BW : Below w.heap.size w W0 := by subst hW0; exact (Below.refl _ _).alloc (Nat.le_refl _) _
  have R0 : Row W0 B0 3 #[.int .i64 x] := by subst hW0; exact gr_new w _ _ hB0
  have E := Lib.hid (cad_er (h.fw BW) ⟨true, x, b⟩ B0 rfl R0 hn (hT.up BW.size))
  have HBW := Lib.hid BW
  have HB0 := Lib.hid hB0
  have HW0 := Lib.hid hW0
  clear h hn hT hB0 hW0 BW R0
  go_enter Try.func69, Try.ntmps69
  go_wp2_with (first | rw [HB0.out] | rw [HW0.out])
  refine E.out.mono ?_
  rintro e w1 hq
  obtain ⟨rfl, hq2⟩ := id hq
  have Q := Lib.hid (adPost.from HBW.out hq)
  clear hq hq2
  generalize opE Bn (Med.play R Bn T S O l ops) ⟨true, x, b⟩ = z at *
  go_wp2_with fail
  go_ret
  exact Q.out
set_option maxHeartbeats 4000000 in
set_option maxRecDepth 100000 in
theorem cwr_any {B : Zn} {w : World} {K R Bn T S O : Nat} {l : List Sec} {ops : List Med.Op} (h : Ce B w K R Bn T S O l ops) (x : Int) (v : Value) (b : List Nat) (hv : Bs w v b) (hl : b.length ≤ 1000) (hn : ops.length ≤ 1000) (hT : B.top w) :
    Calls Try.prog 67 #[.pointer (some ⟨K, 0, none⟩), .int .i64 x, v] w (adPost B K R Bn T S O l ops ⟨false, x, b⟩ w) := by
  obtain ⟨B0, hB0⟩ : ∃ B, w.heap.size = B := ⟨_, rfl⟩
  obtain ⟨W0, hW0⟩ : ∃ W, w.alloc (.cells #[.int .i64 x] 3) = W := ⟨_, rfl⟩
  have BW : Below w.heap.size w W0 := by subst hW0; exact (Below.refl _ _).alloc (Nat.le_refl _) _
  have R0 : Row W0 B0 3 #[.int .i64 x] := by subst hW0; exact gr_new w _ _ hB0
  have C := Lib.hid (bclone_any v b W0 (hv.below BW) hl)
  have H := Lib.hid (h.fw BW)
  have HR := Lib.hid R0
  have HN := Lib.hid hn
  have HT := Lib.hid (hT.up BW.size)
  have HBW := Lib.hid BW
  have HB0 := Lib.hid hB0
  have HW0 := Lib.hid hW0
  obtain ⟨A, cc, rfl⟩ := hv.form
  clear h hn hT hB0 hW0 BW R0 hv
  go_enter Try.func67, Try.ntmps67
  go_wp2_with (first | rw [HB0.out] | rw [HW0.out])
  refine C.out.mono ?_
  rintro e w1 ⟨u, rfl, hu, hb⟩
  obtain ⟨A2, c2, rfl⟩ := hu.bs.form
  obtain ⟨m, hm⟩ : ∃ m, b.length = m := ⟨_, rfl⟩
  have HU := Lib.hid hu.bst
  have HB1 := Lib.hid hb
  rw [hm] at HU ⊢
  have HK : Hid (Row (w1.alloc (.cells #[.slice A2 m c2] 60)) w1.heap.size 60 #[.slice A2 m c2]) := Lib.hid (gr_new w1 _ _ rfl)
  have HB2 : Hid (Below w1.heap.size w1 (w1.alloc (.cells #[.slice A2 m c2] 60))) := Lib.hid ((Below.refl _ _).alloc (Nat.le_refl _) _)
  have E := Lib.hid (cad_wr ((H.out.fw hb).fw HB2.out) ⟨false, x, b⟩ B0 w1.heap.size (.slice A2 m c2) rfl ((HR.out.go hb).go HB2.out) HK.out (HU.out.tch (Tch.of_below HB2.out (0 : Nat) []) (by simp)) HN.out (HT.out.up (Nat.le_trans hb.size HB2.out.size)))
  have HBB := Lib.hid ((HBW.out.trans (hb.mono HBW.out.size)).trans (HB2.out.mono (Nat.le_trans HBW.out.size hb.size)))
  clear hu hb hm C HU
  go_wp2_with fail
  refine E.out.mono ?_
  rintro e w3 hq
  obtain ⟨rfl, hq2⟩ := id hq
  have Q := Lib.hid (adPost.from HBB.out hq)
  clear hq hq2
  generalize opE Bn (Med.play R Bn T S O l ops) ⟨false, x, b⟩ = z at *
  go_wp2_with fail
  go_ret
  exact Q.out
set_option maxHeartbeats 4000000 in
set_option maxRecDepth 100000 in
theorem cer_nil (x : Int) (w : World) : Calls Try.prog 69 #[.pointer none, .int .i64 x] w (gPost (.int .i64 8) w) := by
  have BW : Hid (Below w.heap.size w (w.alloc (.cells #[.int .i64 x] 3))) := Lib.hid ((Below.refl _ _).alloc (Nat.le_refl _) _)
  have E := Lib.hid (cad_nil (.func (.func 95) #[] #[.pointer (some ⟨w.heap.size, 0, none⟩)]) ⟨_, _, _, rfl⟩ (w.alloc (.cells #[.int .i64 x] 3)))
  go_enter Try.func69, Try.ntmps69
  go_wp2_with fail
  refine E.out.mono ?_
  rintro e w' ⟨rfl, rfl⟩
  go_wp2_with fail
  go_ret
  exact ⟨rfl, BW.out⟩
set_option maxHeartbeats 4000000 in
set_option maxRecDepth 100000 in
theorem cwr_nil (x : Int) (w : World) : Calls Try.prog 67 #[.pointer none, .int .i64 x, .slice none 0 0] w (gPost (.int .i64 8) w) := by
  have BW : Hid (Below w.heap.size w (w.alloc (.cells #[.int .i64 x] 3))) := Lib.hid ((Below.refl _ _).alloc (Nat.le_refl _) _)
  have C := Lib.hid (bclone_any (.slice none 0 0) [] (w.alloc (.cells #[.int .i64 x] 3)) (Bs.nil_ _) (by decide))
  go_enter Try.func67, Try.ntmps67
  go_wp2_with fail
  refine C.out.mono ?_
  rintro e w1 ⟨u, rfl, hu, hb⟩
  obtain ⟨A2, c2, rfl⟩ := hu.bs.form
  have B1 := Lib.hid ((BW.out.trans (hb.mono BW.out.size)).alloc (Nat.le_trans BW.out.size hb.size) (.cells #[.slice A2 ([] : List Nat).length c2] 60))
  have E := Lib.hid (cad_nil (.func (.func 93) #[] #[.pointer (some ⟨w.heap.size, 0, none⟩), .pointer (some ⟨w1.heap.size, 0, none⟩)]) ⟨_, _, _, rfl⟩ (w1.alloc (.cells #[.slice A2 ([] : List Nat).length c2] 60)))
  clear hu hb C
  generalize ([] : List Nat).length = m at *
  go_wp2_with fail
  refine E.out.mono ?_
  rintro e w' ⟨rfl, rfl⟩
  go_wp2_with fail
  go_ret
  exact ⟨rfl, B1.out⟩
end Go.Proofs.Ytdjjihppaobbcaa
