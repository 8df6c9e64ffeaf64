/- For GfmatrixAlgebra: pushing a row to an own list whose elements outlive writes to another block; the algebra of square matrices. -/
import Derived.Test.YtfhgalfdlkdliaaNc
import Derived.Test.YtfhgalfdlkdliaaMxr
import Derived.Test.YtfhgalfdlkdliaaBk
import Derived.Test.YtfhgalfdlkdliaaRr
namespace Go.Proofs.Ytfhgalfdlkdliaa
open Go Go.RowKit Lin
set_option linter.unusedVariables false

section
variable {α : Type} {R : World → Value → α → Prop}
/-- 'append(v, x)' beside another list, at the operation. -/
theorem wp_pushX {P : Program} {w : World} {o : Oper} {a : Act} {K : Act → World → Prop} {Q : Exit → Act → World → Prop} (s x : Operand) (t : TypeId)
    (ho : o.op = .call { callee := .builtin .append, args := #[s, x], argTypes := #[t, t] })
    (base : Nat) (e : TypeId) (i : TypeInfo) (z : Value) (bytes : Nat) (ht : P.underlying t = some (.slice e)) (hi : P.info? e = some i) (hz : i.zero = some z) (hsize : i.size = 1) (hby : i.bytes = bytes) (hzs : z.cells.size = 1)
    (v : Value) (pv : Option Nat) (l : List α) (hs : a.eval s = v) (hown : OwnX R w base e v pv l) (hpv : ∀ x, pv = some x → x < w.heap.size) (n : Nat) (hn : l.length = n)
    (b : Nat) (u : Value) (y : α) (hx : a.eval x = .slice (some ⟨b, 0, none⟩) 1 1) (hcell : w.cell? ⟨b, 0, none⟩ = some u) (h1 : u.oneCell' = true) (hu : OffS R w (fun x => v.ownBlock = some x ∨ pv = some x) u y)
    (h63 : n + 1 ≤ maxLen) (hbytes : (n + 1) * bytes ≤ 140737488355328) (hbase : base ≤ w.heap.size)
    (h : ∀ g cap w', OwnX R w' base e (.slice (some ⟨g, 0, none⟩) (n + 1) cap) pv (l ++ [y]) → w.grownBy w' v.ownBlock → (v.ownBlock = some g ∨ g = w.heap.size) → K (a.put o.dst (.slice (some ⟨g, 0, none⟩) (n + 1) cap)) w') : o.wp P a w K Q := by
  subst hn
  have hrow : ∃ xs, w.ownsRow base e 1 v l.length xs ∧ ∀ k (hk : k < l.length), ∃ u, xs[k]? = some u ∧ OffS R w (fun x => v.ownBlock = some x ∨ pv = some x) u l[k] := by
    rcases hown with ⟨rfl, rfl⟩ | ⟨g, cap, rfl, hb, hp, cs, hr, hs, hm, hl, hc⟩
    · exact ⟨[], World.ownsRow_nil _ _ _ _, fun k hk => absurd hk (Nat.not_lt_zero k)⟩
    · refine ⟨cs.toList.take l.length, ⟨by simp; omega, Or.inr ⟨g, cap, cs, rfl, hb, hr, hl, hm, by omega, by simp⟩⟩, fun k hk => ?_⟩
      obtain ⟨u, hu, ho⟩ := hc k hk
      exact ⟨u, by rw [List.getElem?_take_of_lt hk]; simpa using hu, ho⟩
  have hown' := hown.own
  obtain ⟨xs, hrow, hxs⟩ := hrow
  have hl : xs.length = l.length := by have := hrow.1; omega
  refine wp_append_lies w s x t ho base e i z 1 bytes ht hi hz hsize hby hzs (by decide) v l.length xs hs hrow ⟨b, 0, none⟩ 1 1 [u] hx rfl (fun j u' hj => ?_) (fun u' hu' => ?_) (by decide) h63 hbytes hbase _ rfl fun g cap w' hnew hgrow hat _ => ?_
  · match j, hj with
    | 0, hj => simp at hj; subst hj; rw [Go.WideShapes.add_plain]; exact hcell
  · simp at hu'; subst hu'; exact h1
  · refine h g cap w' ?_ hgrow hat
    have key : ∀ u y, OffS R w (fun x => v.ownBlock = some x ∨ pv = some x) u y → OffS R w' (fun x => (Value.slice (some ⟨g, 0, none⟩) (l.length + 1) cap).ownBlock = some x ∨ pv = some x) u y := by
      intro u y hu w'' k'
      refine hu w'' ⟨Nat.le_trans hgrow.size k'.1, fun p hp hn => ?_⟩
      have h1 : v.ownBlock ≠ some p.block := fun e => hn (Or.inl e)
      have h2 : pv ≠ some p.block := fun e => hn (Or.inr e)
      refine (k'.2 p (by have := hgrow.size; omega) ?_).trans (World.cell?_of_block (hgrow.block p.block hp fun e => h1 e.symm))
      rintro (e | e)
      · have e : some g = some p.block := e
        injection e with e
        rcases hat with hat | hat
        · exact h1 (by rw [hat, e])
        · omega
      · exact h2 e
    obtain ⟨_, hnew⟩ := hnew
    rcases hnew with ⟨hnew, _⟩ | ⟨g', cap', cur, hv, hb, hh, hle, hm, hs', ht'⟩
    · cases hnew
    · injection hv with hv1 hv2 hv3
      injection hv1 with hv1
      injection hv1 with hv1
      subst hv1 hv3
      refine Or.inr ⟨g, cap, by simp, hb, fun e => ?_, cur, hh, by omega, hm, by simp; omega, fun k hk => ?_⟩
      · rcases hat with hat | hat
        · exact (hown' g hat).2.2 e
        · have := hpv g e; omega
      · have hk' : k < l.length + 1 := by simpa using hk
        have h1 : cur[k]? = (xs ++ [u])[k]? := by
          rw [← ht', List.getElem?_take_of_lt (by omega)]; simp
        rcases Nat.lt_or_ge k l.length with hlt | hge
        · obtain ⟨u', hu', ho'⟩ := hxs k hlt
          refine ⟨u', by rw [h1, List.getElem?_append_left (by omega)]; exact hu', ?_⟩
          rw [List.getElem_append_left hlt]
          exact key _ _ ho'
        · obtain rfl : k = l.length := by omega
          refine ⟨u, by rw [h1, ← hl]; simp, ?_⟩
          simp only [List.getElem_concat_length]
          exact key _ _ hu
end
/-- 'append(x, y...)': x a row of the call's own, y any slice of bytes. -/
theorem wp_append_bs {P : Program} {w : World} {o : Oper} {a : Act} {K : Act → World → Prop} {Q : Exit → Act → World → Prop} (s x : Operand) (t : TypeId)
    (ho : o.op = .call { callee := .builtin .append, args := #[s, x], argTypes := #[t, t] })
    (base : Nat) (e : TypeId) (i : TypeInfo) (ht : P.underlying t = some (.slice e)) (hi : P.info? e = some i) (hz : i.zero = some (.int .u8 0)) (hsize : i.size = 1) (hby : i.bytes = 1)
    (v src : Value) (n : Nat) (xs : List Value) (hs : a.eval s = v) (hown : w.ownsRow base e 1 v n xs) (l : List Nat) (hx : a.eval x = src) (hsrc : Bs w src l)
    (h63 : n + l.length ≤ maxLen) (hbytes : n + l.length ≤ 140737488355328) (hbase : base ≤ w.heap.size) (hpos : 0 < l.length)
    (h : ∀ v' w', w'.ownsRow base e 1 v' (n + l.length) (xs ++ l.map bv) → w.grownBy w' v.ownBlock → K (a.put o.dst v') w') : o.wp P a w K Q := by
  obtain ⟨A, c, rfl, -, -, hA, hc⟩ := hsrc
  rcases A with _ | ad
  · have h0 : l.length = 0 := by
      rcases Nat.eq_zero_or_pos l.length with h0 | h0
      · exact h0
      · obtain ⟨b, off, h1, _⟩ := hc h0; cases h1
    obtain rfl : l = [] := List.length_eq_zero_iff.1 h0
    obtain rfl := hA rfl
    exact absurd hpos (Nat.lt_irrefl 0)
  · refine wp_append_own w s x t ho base e i _ 1 1 ht hi hz hsize hby rfl (by decide) v n xs hs hown ad l.length c (l.map bv) hx (by simp) (fun j u hu => ?_) bv_one h63 (by omega) hbase fun v' w' h1 h2 _ => h v' w' h1 h2
    have hj : j < l.length := by
      rcases Nat.lt_or_ge j l.length with h1 | h1
      · exact h1
      · rw [List.getElem?_eq_none (by simpa using h1)] at hu; cases hu
    obtain ⟨b, off, h1, hcell⟩ := hc (by omega)
    cases h1
    rw [getD_bv hj] at hu
    rw [Go.WideShapes.add_plain, hcell j hj]
    exact hu

theorem Row.rangeX {w : World} {g : Nat} {t : TypeId} {l : List Nat} (h : Row w g t (bcs l)) : w.rangeAt g 0 (l.map bv) := h.at8
/-- What a round keeps: the blocks below n₀, but for block g. -/
def Kb (g n₀ : Nat) (A B : World) : Prop := A.heap.size ≤ B.heap.size ∧ ∀ i, i < n₀ → i ≠ g → B.heap[i]? = A.heap[i]?
theorem Kb.refl (g n₀ : Nat) (w : World) : Kb g n₀ w w := ⟨Nat.le_refl _, fun _ _ _ => rfl⟩
theorem Kb.trans {g n₀ : Nat} {A B C : World} (h : Kb g n₀ A B) (k : Kb g n₀ B C) : Kb g n₀ A C := ⟨Nat.le_trans h.1 k.1, fun i hi hg => (k.2 i hi hg).trans (h.2 i hi hg)⟩
theorem Kb.cell {g n₀ : Nat} {A B : World} (h : Kb g n₀ A B) {p : Addr} (hp : p.block < n₀) (hg : p.block ≠ g) : B.cell? p = A.cell? p := World.cell?_of_block (h.2 _ hp hg)
theorem Kb.of_below {g n₀ : Nat} {A B : World} (h : Below n₀ A B) : Kb g n₀ A B := ⟨h.size, fun i hi _ => h.block i hi⟩
theorem Kb.set {g n₀ : Nat} {A B : World} (h : Kb g n₀ A B) (i : Nat) (u : Value) : Kb g n₀ A (B.setCell ⟨g, i, none⟩ u) :=
  ⟨Nat.le_trans h.1 (by simp [World.setCell]), fun j hj hg => (Below.heap_setCell B ⟨g, i, none⟩ u j hg).trans (h.2 j hj hg)⟩
theorem OwnX.kb {M : Nat} {w w' : World} {base : Nat} {e : TypeId} {v : Value} {l : List (List Nat)} (h : OwnX Bs w base e v (some M) l) (k : Kb M w.heap.size w w') : OwnX Bs w' base e v (some M) l := by
  rcases h with h | ⟨g, cap, hv, hg, hp, h⟩
  · exact Or.inl h
  · have hlt := h.lt
    obtain ⟨cs, hr, hs, hm, hl, hc⟩ := h
    refine Or.inr ⟨g, cap, hv, hg, hp, cs, (k.2 g hlt (fun e => hp (by rw [e]))).trans hr, hs, hm, hl, fun q hq => ?_⟩
    obtain ⟨u, hu, ho⟩ := hc q hq
    exact ⟨u, hu, ho.go ⟨k.1, fun p hp hn => k.cell hp fun e => hn (Or.inr (by rw [e]))⟩⟩
theorem OwnX.to {w w' : World} {base : Nat} {e : TypeId} {v : Value} {pv : Option Nat} {l : List (List Nat)} (h : OwnX Bs w base e v pv l) (hb : Below w.heap.size w w') : OwnX Bs w' base e v pv l := h.below hb (Nat.le_refl _)
theorem OwnX.low {w : World} {base : Nat} {e : TypeId} {v : Value} {pv : Option Nat} {l : List (List Nat)} (h : OwnX Bs w base e v pv l) : OwnX Bs w 0 e v pv l := by
  rcases h with h | ⟨g, cap, hv, hg, h⟩
  · exact Or.inl h
  · exact Or.inr ⟨g, cap, hv, Nat.zero_le _, h⟩
theorem cellTo {w w' : World} {a : Addr} {v : Value} (h : w.cell? a = some v) (hb : Below w.heap.size w w') : w'.cell? a = some v := (hb.cell (World.block_lt_of_cell? w a h)).trans h
theorem rowIsTo {w w' : World} {g n : Nat} {t : TypeId} {f : Nat → Value} (h : w.rowIs g t n f) (hb : Below w.heap.size w w') : w'.rowIs g t n f := h.of_block (hb.block g h.lt)
theorem rangeTo2 {w w' : World} {b off : Nat} {cs : List Value} (h : w.rangeAt b off cs) (hb : Below w.heap.size w w') : w'.rangeAt b off cs := fun j v hv => (hb.cell (World.block_lt_of_cell? w _ (h j v hv))).trans (h j v hv)
theorem rangeKb {M : Nat} {w w' : World} {b off : Nat} {cs : List Value} (h : w.rangeAt b off cs) (hb : Kb M w.heap.size w w') (hM : b ≠ M) : w'.rangeAt b off cs := fun j v hv => (hb.cell (World.block_lt_of_cell? w _ (h j v hv)) hM).trans (h j v hv)

/-- The matrices of the law. -/
def rowX (X : List Nat) (k i r : Nat) : List Nat := (List.range k).map fun t => X.getD (i * 36 + r * k + t) 0
def matX (X : List Nat) (k i r : Nat) : List (List Nat) := (List.range r).map (rowX X k i)
theorem matX_len (X : List Nat) (k i r : Nat) : (matX X k i r).length = r := by simp [matX]
theorem matX_succ (X : List Nat) (k i r : Nat) : matX X k i (r + 1) = matX X k i r ++ [rowX X k i r] := by simp [matX, List.range_succ]
theorem rowX_lt {X : List Nat} (h : ∀ x ∈ X, x < 256) (k i r : Nat) : ∀ x ∈ rowX X k i r, x < 256 := by
  intro x hx
  obtain ⟨t, _, rfl⟩ := List.mem_map.1 hx
  rcases Nat.lt_or_ge (i * 36 + r * k + t) X.length with hl | hl
  · rw [getD_in hl]; exact h _ (List.getElem_mem hl)
  · rw [getD_out hl]; decide
theorem matX_rect {X : List Nat} (h : ∀ x ∈ X, x < 256) (k i : Nat) : Rect k k (matX X k i k) :=
  ⟨matX_len X k i k, fun r hr => by
    unfold matX
    rw [range_getD _ _ _ _ hr]
    exact ⟨by simp [rowX], rowX_lt h k i r⟩⟩
theorem bs_rowX {w : World} {b k i r : Nat} {X : List Nat} (h : w.rangeAt b 0 (X.map bv)) (h8 : ∀ x ∈ X, x < 256) (hk : i * 36 + r * k + k ≤ X.length) (c : Nat) (hc : k ≤ c) (hm : c ≤ maxLen) : Bs w (.slice (some ⟨b, i * 36 + r * k, none⟩) k c) (rowX X k i r) := by
  have hl : (rowX X k i r).length = k := by simp [rowX]
  refine ⟨_, c, by rw [hl], by rw [hl]; exact ⟨hc, hm⟩, rowX_lt h8 k i r, fun h => (by cases h), fun _ => ⟨b, _, rfl, fun t ht => ?_⟩⟩
  rw [hl] at ht
  have := h (i * 36 + r * k + t) _ (getD_bv (l := X) (by omega))
  rw [Nat.zero_add] at this
  rw [this, rowX, range_getD _ _ _ _ ht]
theorem mul_assocL {k : Nat} {A B C : List (List Nat)} (hA : Rect k k A) (hB : Rect k k B) (hC : Rect k k C) : mulL k k k (mulL k k k A B) C = mulL k k k A (mulL k k k B C) := by
  have hAB := mulL_rect (c := k) hA B
  refine (mulL_rect hAB C).ext (mulL_rect hA _) fun i hi j hj => ?_
  rw [mulL_el hi hj, mulL_el hi hj]
  unfold mulE
  rw [xs_congr k _ (fun l => xs k fun m => Gf.mul (Gf.mul (el A i m) (el B m l)) (el C l j)) fun l hl => by
    rw [mulL_el hi hl]; exact xs_mul _ _ _ fun m _ => Gf.mul_lt _ _ (hA.by i m), xs_comm]
  refine xs_congr _ _ _ fun m hm => ?_
  rw [mulL_el hm hj, mulE, mul_xs]
  exact xs_congr _ _ _ fun l _ => Gf.mul_assoc _ _ _ (hA.by i m) (hB.by m l) (hC.by l j)
theorem mul_idL {k : Nat} {A : List (List Nat)} (hA : Rect k k A) : mulL k k k A (idL k) = A := by
  refine (mulL_rect hA _).ext hA fun i hi j hj => ?_
  rw [mulL_el hi hj, mulE, xs_single k j _ hj fun l hl hne => by
    show Gf.mul _ (el (idL k) l j) = 0
    rw [idL, gridL_el hl hj, if_neg fun e => hne e.symm, Gf.mul_zero]]
  show Gf.mul _ (el (idL k) j j) = _
  rw [idL, gridL_el hj hj, if_pos rfl, Gf.mul_one _ (hA.by i j)]
theorem trans_mulL {k : Nat} {A B : List (List Nat)} (hA : Rect k k A) (hB : Rect k k B) : transF k k (mulL k k k A B) = mulL k k k (transF k k B) (transF k k A) := by
  have hT := trans_rect (m := B) k k hB.by
  refine (trans_rect (m := mulL k k k A B) k k (mulL_rect hA B).by).ext (mulL_rect hT _) fun i hi j hj => ?_
  rw [mulL_el hi hj, mulE, trans_el k k hj hi, mulL_el hj hi, mulE]
  exact xs_congr _ _ _ fun l hl => by rw [trans_el k k hl hi, trans_el k k hj hl, Gf.mul_comm _ _ (hA.by j l) (hB.by l i)]

theorem Bs.offS {w : World} {v : Value} {l : List Nat} {S : Nat → Prop} (h : Bs w v l) (hg : ∀ k, v.ownBlock = some k → ¬ S k) : OffS Bs w S v l := by
  rintro w' k
  obtain ⟨A, c, rfl, hm, hl, hz, hc⟩ := h
  refine ⟨A, c, rfl, hm, hl, hz, fun hn => ?_⟩
  obtain ⟨b, off, rfl, hcell⟩ := hc hn
  refine ⟨b, off, rfl, fun j hj => ?_⟩
  rw [k.2 ⟨b, off + j, none⟩ (World.block_lt_of_cell? w _ (hcell j hj)) (hg b rfl)]
  exact hcell j hj
theorem push_row {w : World} {o : Oper} {a : Act} {K : Act → World → Prop} {Q : Exit → Act → World → Prop} (s x : Operand)
    (ho : o.op = .call { callee := .builtin .append, args := #[s, x], argTypes := #[25, 25] })
    (base M : Nat) (v : Value) (l : List (List Nat)) (n : Nat) (b : Nat) (u : Value) (y : List Nat) (hs : a.eval s = v) (hown : OwnX Bs w base 27 v (some M) l) (hM : M < w.heap.size) (hn : l.length = n)
    (hx : a.eval x = .slice (some ⟨b, 0, none⟩) 1 1) (hcell : w.cell? ⟨b, 0, none⟩ = some u) (h1 : u.oneCell' = true) (hu : Bs w u y) (hub : ∀ q, u.ownBlock = some q → v.ownBlock ≠ some q ∧ q ≠ M) (hl : n ≤ 1000) (hbase : base ≤ w.heap.size)
    (h : ∀ g cap w', OwnX Bs w' base 27 (.slice (some ⟨g, 0, none⟩) (n + 1) cap) (some M) (l ++ [y]) → w.grownBy w' v.ownBlock → (v.ownBlock = some g ∨ g = w.heap.size) → K (a.put o.dst (.slice (some ⟨g, 0, none⟩) (n + 1) cap)) w') : o.wp Try.prog a w K Q := by
  obtain ⟨i, hi, hzz⟩ := Option.map_eq_some_iff.1 info_bytes
  simp only [Prod.mk.injEq] at hzz
  obtain ⟨hz, hsz, hby⟩ := hzz
  exact wp_pushX s x _ ho base _ i _ 24 Try.underlying25 hi hz hsz hby rfl v (some M) l hs hown (fun q e => by cases e; exact hM) n hn b u y hx hcell h1
    (hu.offS fun k hk hS => by
      rcases hS with hS | hS
      · exact (hub k hk).1 hS
      · injection hS with hS
        exact (hub k hk).2 hS.symm) (by unfold maxLen; omega) (by omega) hbase h
theorem app_row {w : World} {o : Oper} {a : Act} {K : Act → World → Prop} {Q : Exit → Act → World → Prop} (s x : Operand)
    (ho : o.op = .call { callee := .builtin .append, args := #[s, x], argTypes := #[27, 27] })
    (lb : Nat) (src : Value) (l : List Nat) (n : Nat) (hs : a.eval s = .slice (some ⟨lb, 0, none⟩) 0 0) (hown : w.ownsRow lb 5 1 (.slice (some ⟨lb, 0, none⟩) 0 0) 0 []) (hx : a.eval x = src) (hsrc : Bs w src l) (hn : l.length = n) (h0 : 0 < n) (hl : n ≤ 1000) (hb : lb ≤ w.heap.size)
    (h : ∀ gr cr w', Bs w' (.slice (some ⟨gr, 0, none⟩) n cr) l → w.grownBy w' (some lb) → lb ≤ gr → K (a.put o.dst (.slice (some ⟨gr, 0, none⟩) n cr)) w') : o.wp Try.prog a w K Q := by
  subst hn
  obtain ⟨i, hi, hzz⟩ := Option.map_eq_some_iff.1 info_u8
  simp only [Prod.mk.injEq] at hzz
  obtain ⟨hz, hsz, hby⟩ := hzz
  refine wp_append_bs s x _ ho lb _ i Try.underlying27 hi hz hsz hby _ src 0 [] hs hown l hx hsrc (by unfold maxLen; omega) (by omega) hb h0 fun v' w' h1 h2 => ?_
  rw [Nat.zero_add, List.nil_append] at h1
  obtain ⟨g, cap, rfl, hg, -⟩ := h1.form h0
  exact h g cap w' (Bs.of_own h1 rfl hsrc.lt) h2 hg
def KbLe (g n₀ : Nat) (A B : World) : Prop := Kb g n₀ A B ∧ n₀ ≤ B.heap.size
theorem KbLe.to {g n₀ : Nat} {A B C : World} (h : KbLe g n₀ A B) (hb : Below B.heap.size B C) : KbLe g n₀ A C := ⟨h.1.trans (Kb.of_below (hb.mono h.2)), Nat.le_trans h.2 hb.size⟩
theorem Bs.to' {w w' : World} {v : Value} {l : List Nat} (h : Bs w v l) (hb : Below w.heap.size w w') : Bs w' v l := h.below hb
/-- Before round i of the outer loop. -/
def AOut (X : List Nat) (k M : Nat) (w wr : World) (i : Nat) : Prop := Below w.heap.size w wr ∧ wr.rangeAt w.heap.size 0 (X.map bv) ∧
  ∃ v : Nat → Value, wr.rowIs M 26 3 (fun j => if j < i then v j else .slice none 0 0) ∧ ∀ j, j < i → OwnX Bs wr 0 27 (v j) (some M) (matX X k j k)
/-- Before round r of the inner loop. -/
def AIn (X : List Nat) (k M : Nat) (w wo wr : World) (i r : Nat) (v : Nat → Value) : Prop := Below w.heap.size w wr ∧ KbLe M wo.heap.size wo wr ∧
  ∃ u : Value, wr.rowIs M 26 3 (fun j => if j < i then v j else if j = i then u else .slice none 0 0) ∧ OwnX Bs wr wo.heap.size 27 u (some M) (matX X k i r)
/-- In the law's words. -/
theorem mul_b (v v2 : Value) (a b m : List (List Nat)) (k : Nat) (w : World) (h : Ms w v a) (hR : Rect k k a) (h2 : Ms w v2 b) (hR2 : Rect k k b) (hk : 1 ≤ k ∧ k ≤ 6) (he : mulL k k k a b = m) : Calls Try.prog 13 #[v, v2] w (msTup m w) :=
  (mul_ok v v2 a b w h hR h2 hR2 (by omega) (by omega) (by omega) (by omega) (by omega) (by omega)).mono fun _ _ ⟨g, cap, e, _, hw, hb⟩ => ⟨_, e, he ▸ hw.sl, hb⟩
theorem ident_b (k : Nat) (w : World) (hk : 1 ≤ k ∧ k ≤ 6) : Calls Try.prog 14 #[.int .i64 (k : Int)] w (msTup (idL k) w) := identity_ok k w hk.1 (by omega)
theorem trans_b (v : Value) (a m : List (List Nat)) (k : Nat) (w : World) (h : Ms w v a) (hR : Rect k k a) (hk : 1 ≤ k ∧ k ≤ 6) (he : transF k k a = m) : Calls Try.prog 16 #[v] w (msTup m w) :=
  he ▸ trans_new v a w h hR (by omega) (by omega) (by omega) (by omega)
def bPost2 (v : Value) (w : World) (e : Ending) (w' : World) : Prop := e = .returned v ∧ Below w.heap.size w w'
theorem msame_t (v1 v2 : Value) (m1 m2 : List (List Nat)) (w : World) (h1 : Ms w v1 m1) (h2 : Ms w v2 m2) (he : m1 = m2) : Calls Try.prog 15 #[v1, v2] w (bPost2 (.bool true) w) :=
  (msame_any v1 v2 m1 m2 w h1 h2).mono fun _ _ ⟨e, hd⟩ => ⟨by rw [e, he]; simp, hd.below _⟩
theorem MsTo {w w' : World} {v : Value} {m : List (List Nat)} (h : Ms w v m) (hb : Below w.heap.size w w') : Ms w' v m := Sl.keeps Bs.keeps _ _ _ _ h (Below.toSame hb)
end Go.Proofs.Ytfhgalfdlkdliaa
