/- Slices of blocks; slices.Backward over one. -/
import Derived.Test.YtfhgalfdlkdliaaPa
import Derived.RangeFuncNested
import Derived.RangeFuncBox
import Derived.RangeFuncLeaves
import Derived.RangeFuncCalls
import Derived.Shelf.Abstract
import Derived.Shelf.RegionOpen
import Derived.OwnWalkIn
import Derived.TacticsInMore
import Derived.LoopNIn
import Derived.LoopIn
namespace Go.Proofs.Ytfhgalfdlkdliaa
open Go Go.RowKit Go.Shelf
set_option linter.unusedVariables false
attribute [local go_sem] Oper.semAt_some

/-- A whole row is read, inside a fence. -/
theorem wpListIn_load_mid {F : Fence} {n : Nat} {P : Program} {ops : Array Oper} {rest : List Oper} {op : Oper} {a : Act} {w : World} {Q : Exit → Act → World → Prop} (hgd : op.guard = none) (ty : TypeId) (x : Operand) (ho : op.op = .load ty x)
    (b o : Nat) (hx : a.eval x = .pointer (some ⟨b, o, none⟩)) (cs : List Value) (d : TypeDesc) (hc : w.rangeAt b o cs)
    (hu : P.underlying ty = some d) (hd : d.isRow = true) (hi : (P.info? ty).map (·.size) = some cs.length)
    (h : wpListIn F n P ops Q rest (a.put op.dst (.agg cs.toArray)) w) : wpListIn F n P ops Q (op :: rest) a w := by
  refine wpListIn_plain hgd fun K hK' => ?_
  unfold Oper.wpIn
  refine ⟨?_, ?_⟩
  · simp [Oper.about, ho]
  · rw [Oper.semAt_plain F _ _ (by rw [ho]; intro c hc'; cases hc')]
    simp only [execOp, ho, hx, Instr.loadAt, Instr.sureAddr, Sem.run_bind, Sem.run_pure, Result.andThen_ok, run_loadVar_mid w b o ty cs d hc hu hd hi]
    exact hK' _ _ h
theorem wpListIn_load8 {F : Fence} {n : Nat} {P : Program} {ops : Array Oper} {rest : List Oper} {op : Oper} {a : Act} {w : World} {Q : Exit → Act → World → Prop} (hgd : op.guard = none) (ty : TypeId) (x : Operand) (ho : op.op = .load ty x)
    (b o : Nat) (hx : a.eval x = .pointer (some ⟨b, o, none⟩)) (l : List Nat) (d : TypeDesc) (hc : At8 w b o l)
    (hu : P.underlying ty = some d) (hd : d.isRow = true) (hi : (P.info? ty).map (·.size) = some (bcs l).size)
    (h : wpListIn F n P ops Q rest (a.put op.dst (.agg (bcs l))) w) : wpListIn F n P ops Q (op :: rest) a w :=
  wpListIn_load_mid hgd ty x ho b o hx (l.map bv) d hc hu hd (by rw [hi, bcs_size, List.length_map]) h
theorem wpList_load8 {P : Program} {ops : Array Oper} {rest : List Oper} {op : Oper} {a : Act} {w : World} {Q : Exit → Act → World → Prop} (hgd : op.guard = none) (ty : TypeId) (x : Operand) (ho : op.op = .load ty x)
    (b o : Nat) (hx : a.eval x = .pointer (some ⟨b, o, none⟩)) (l : List Nat) (d : TypeDesc) (hc : At8 w b o l)
    (hu : P.underlying ty = some d) (hd : d.isRow = true) (hi : (P.info? ty).map (·.size) = some (bcs l).size)
    (h : wpList P ops Q rest (a.put op.dst (.agg (bcs l))) w) : wpList P ops Q (op :: rest) a w :=
  wpList_load_mid hgd ty x ho b o hx (l.map bv) d hc hu hd (by rw [hi, bcs_size, List.length_map]) h
/-- A whole row is written, inside a fence. -/
theorem wpListIn_store_mid {F : Fence} {n : Nat} {P : Program} {ops : Array Oper} {rest : List Oper} {op : Oper} {a : Act} {w : World} {Q : Exit → Act → World → Prop} (hgd : op.guard = none) (ty : TypeId) (x y : Operand) (ho : op.op = .store ty x y)
    (b o : Nat) (cells : Array Value) (hx : a.eval x = .pointer (some ⟨b, o, none⟩)) (hy : a.eval y = .agg cells)
    (ht : w.there b o cells.size) (hi : (P.info? ty).map (·.size) = some cells.size) (h1 : cells.all (·.oneCell') = true)
    (h : wpListIn F n P ops Q rest (a.put op.dst undef) (w.setCells b o cells.toList)) : wpListIn F n P ops Q (op :: rest) a w := by
  refine wpListIn_plain hgd fun K hK' => ?_
  unfold Oper.wpIn
  refine ⟨?_, ?_⟩
  · simp [Oper.about, ho]
  · rw [Oper.semAt_plain F _ _ (by rw [ho]; intro c hc'; cases hc')]
    simp only [execOp, ho, hx, hy, Instr.storeAt, Instr.sureAddr, Sem.run_bind, Sem.run_pure, Result.andThen_ok, run_storeVar_mid w b o ty cells ht hi h1]
    exact hK' _ _ h
theorem bcs_list (l : List Nat) : (bcs l).toList = l.map bv := by simp [bcs]
theorem wpListIn_store8 {F : Fence} {n : Nat} {P : Program} {ops : Array Oper} {rest : List Oper} {op : Oper} {a : Act} {w : World} {Q : Exit → Act → World → Prop} (hgd : op.guard = none) (ty : TypeId) (x y : Operand) (ho : op.op = .store ty x y)
    (b o : Nat) (l : List Nat) (hx : a.eval x = .pointer (some ⟨b, o, none⟩)) (hy : a.eval y = .agg (bcs l))
    (ht : w.there b o (bcs l).size) (hi : (P.info? ty).map (·.size) = some (bcs l).size)
    (h : wpListIn F n P ops Q rest (a.put op.dst undef) (w.setCells b o (l.map bv))) : wpListIn F n P ops Q (op :: rest) a w :=
  wpListIn_store_mid hgd ty x y ho b o (bcs l) hx hy ht hi (bcs_one l) (by rw [bcs_list]; exact h)
theorem wpList_store8 {P : Program} {ops : Array Oper} {rest : List Oper} {op : Oper} {a : Act} {w : World} {Q : Exit → Act → World → Prop} (hgd : op.guard = none) (ty : TypeId) (x y : Operand) (ho : op.op = .store ty x y)
    (b o : Nat) (l : List Nat) (hx : a.eval x = .pointer (some ⟨b, o, none⟩)) (hy : a.eval y = .agg (bcs l))
    (ht : w.there b o (bcs l).size) (hi : (P.info? ty).map (·.size) = some (bcs l).size)
    (h : wpList P ops Q rest (a.put op.dst undef) (w.setCells b o (l.map bv))) : wpList P ops Q (op :: rest) a w :=
  wpList_store_mid hgd ty x y ho b o (bcs l) hx hy ht hi (bcs_one l) (by rw [bcs_list]; exact h)
theorem wp_load8 {P : Program} {op : Oper} {a : Act} {w : World} {K : Act → World → Prop} {Q : Exit → Act → World → Prop} (ty : TypeId) (x : Operand) (ho : op.op = .load ty x)
    (b o : Nat) (hx : a.eval x = .pointer (some ⟨b, o, none⟩)) (l : List Nat) (d : TypeDesc) (hc : At8 w b o l)
    (hu : P.underlying ty = some d) (hd : d.isRow = true) (hi : (P.info? ty).map (·.size) = some (bcs l).size)
    (h : K (a.put op.dst (.agg (bcs l))) w) : op.wp P a w K Q :=
  wp_load_mid ty x ho b o hx (l.map bv) d hc hu hd (by rw [hi, bcs_size, List.length_map]) h
theorem wp_store8 {P : Program} {op : Oper} {a : Act} {w : World} {K : Act → World → Prop} {Q : Exit → Act → World → Prop} (ty : TypeId) (x y : Operand) (ho : op.op = .store ty x y)
    (b o : Nat) (l : List Nat) (hx : a.eval x = .pointer (some ⟨b, o, none⟩)) (hy : a.eval y = .agg (bcs l))
    (ht : w.there b o (bcs l).size) (hi : (P.info? ty).map (·.size) = some (bcs l).size)
    (h : K (a.put op.dst undef) (w.setCells b o (l.map bv))) : op.wp P a w K Q :=
  wp_store_mid ty x y ho b o (bcs l) hx hy ht hi (bcs_one l) (by rw [bcs_list]; exact h)
theorem yieldsIf_load8 {P : Program} {ops : Array Oper} {S : World → Prop} {op : Oper} {a : Act} (hw : Region.wanted op (yielded ops a.tmps) = true) (ty : TypeId) (x : Operand) (ho : op.op = .load ty x)
    (b o : Nat) (hx : a.eval x = .pointer (some ⟨b, o, none⟩)) (l : List Nat) (d : TypeDesc) (hS : ∀ w, S w → At8 w b o l)
    (hu : P.underlying ty = some d) (hd : d.isRow = true) (hi : (P.info? ty).map (·.size) = some (bcs l).size) : YieldsIf P ops S op (.agg (bcs l)) a :=
  yieldsIf_load_mid hw ty x ho b o hx (l.map bv) d hS hu hd (by rw [hi, bcs_size, List.length_map])
theorem size8 {l : List Nat} (h : l.length = 8) : (Try.prog.info? 44).map (·.size) = some (bcs l).size := by rw [bcs_size, h]; kernel_rfl
abbrev Blk := { l : List Nat // B8 l }
def zeroB : Blk := ⟨blk fun _ => 0, blk_ok fun _ _ => by decide⟩
def nth (D : List (List Nat)) (hD : ∀ d ∈ D, B8 d) (i : Nat) : Blk := ⟨D.getD i zeroB.1, by
  rcases Nat.lt_or_ge i D.length with h | h
  · rw [getD_in h]; exact hD _ (List.getElem_mem h)
  · rw [getD_out h]; exact zeroB.2⟩
theorem flat_len : ∀ {D : List (List Nat)}, (∀ d ∈ D, d.length = 8) → D.flatten.length = D.length * 8
  | [], _ => rfl
  | d :: r, h => by
    rw [List.flatten_cons, List.length_append, flat_len (fun x hx => h x (List.mem_cons_of_mem _ hx)), h d List.mem_cons_self, List.length_cons]; omega
theorem flat_at : ∀ {D : List (List Nat)}, (∀ d ∈ D, d.length = 8) → ∀ {i : Nat} (hi : i < D.length) {j : Nat}, j < 8 → D.flatten[i * 8 + j]? = D[i][j]?
  | d :: r, h, 0, _, j, hj => by
    rw [List.flatten_cons, Nat.zero_mul, Nat.zero_add, List.getElem?_append_left (by rw [h d List.mem_cons_self]; exact hj)]; rfl
  | d :: r, h, i + 1, hi, j, hj => by
    have h8 := h d List.mem_cons_self
    rw [List.flatten_cons, List.getElem?_append_right (by omega), h8]
    have := flat_at (fun x hx => h x (List.mem_cons_of_mem _ hx)) (i := i) (by simpa using hi) hj
    rw [show (i + 1) * 8 + j - 8 = i * 8 + j by omega, this]
    rfl
/-- The slice value `v` reads as the blocks `D`. -/
def Bl (w : World) (v : Value) (D : List (List Nat)) : Prop :=
  ∃ A c, v = .slice A D.length c ∧ (D.length ≤ c ∧ c ≤ maxLen) ∧ (∀ d ∈ D, B8 d) ∧ (A = none → c = 0) ∧
    (0 < D.length → ∃ b off, A = some ⟨b, off, none⟩ ∧ w.rangeAt b off (D.flatten.map bv))
section
variable {w w' : World} {v : Value} {D : List (List Nat)}
theorem Bl.form (h : Bl w v D) : ∃ A c, v = .slice A D.length c := by obtain ⟨A, c, h, _⟩ := h; exact ⟨A, c, h⟩
theorem Bl.ok (h : Bl w v D) : ∀ d ∈ D, B8 d := by obtain ⟨_, _, _, _, h, _⟩ := h; exact h
theorem Bl.keep (h : Bl w v D) (hk : ∀ p : Addr, p.block < w.heap.size → w'.cell? p = w.cell? p) : Bl w' v D := by
  obtain ⟨A, c, rfl, hm, hl, hz, hc⟩ := h
  refine ⟨A, c, rfl, hm, hl, hz, fun hn => ?_⟩
  obtain ⟨b, off, rfl, hcell⟩ := hc hn
  exact ⟨b, off, rfl, fun j v hv => by
    have := hcell j v hv
    rw [hk ⟨b, off + j, none⟩ (World.block_lt_of_cell? w _ this)]; exact this⟩
theorem Bl.below (h : Bl w v D) {B : Nat} (hb : Below B w w') (hB : w.heap.size ≤ B) : Bl w' v D := h.keep fun _ hp => hb.cell (by omega)
theorem Bl.alloc (h : Bl w v D) (o : Obj) : Bl (w.alloc o) v D := h.keep fun p hp => World.cell?_alloc_lt w o p hp
theorem Bl.nil_ (w : World) : Bl w (.slice none 0 0) [] := ⟨none, 0, rfl, ⟨by decide, by decide⟩, fun _ h => (by cases h), fun _ => rfl, fun h => absurd h (by decide)⟩
theorem range_at8 {b off : Nat} (h : w.rangeAt b off (D.flatten.map bv)) (hD : ∀ d ∈ D, B8 d) {i : Nat} (hi : i < D.length) : At8 w b (off + i * 8) D[i] := fun j v hv => by
  have hj : j < 8 := by
    have := (List.getElem?_eq_some_iff.1 hv).1
    rw [List.length_map, (hD _ (List.getElem_mem hi)).1] at this; exact this
  rw [Nat.add_assoc]
  refine h (i * 8 + j) v ?_
  rw [List.getElem?_map, flat_at (fun d hd => (hD d hd).1) hi hj, ← List.getElem?_map]; exact hv
theorem Bl.at_ (h : Bl w v D) (hn : 0 < D.length) : ∃ b off c, v = .slice (some ⟨b, off, none⟩) D.length c ∧ (D.length ≤ c ∧ c ≤ maxLen) ∧ b < w.heap.size ∧ w.rangeAt b off (D.flatten.map bv) := by
  obtain ⟨A, c, rfl, hm, hl, hz, hc⟩ := h
  obtain ⟨b, off, rfl, hcell⟩ := hc hn
  refine ⟨b, off, c, rfl, hm, ?_, hcell⟩
  have h8 := (hl _ (List.getElem_mem hn)).1
  exact World.block_lt_of_cell? w _ ((range_at8 hcell hl hn).cell (k := 0) (by omega))
end

/-- What a round keeps: the blocks below n₀, but for block g. -/
def Kpt (g n₀ : Nat) (A B : World) : Prop := A.heap.size ≤ B.heap.size ∧ ∀ i, i < n₀ → i ≠ g → B.heap[i]? = A.heap[i]?
theorem Kpt.refl (g n₀ : Nat) (w : World) : Kpt g n₀ w w := ⟨Nat.le_refl _, fun _ _ _ => rfl⟩
theorem Kpt.trans {g n₀ : Nat} {A B C : World} (h : Kpt g n₀ A B) (k : Kpt g n₀ B C) : Kpt g n₀ A C := ⟨Nat.le_trans h.1 k.1, fun i hi hg => (k.2 i hi hg).trans (h.2 i hi hg)⟩
theorem Kpt.cell {g n₀ : Nat} {A B : World} (h : Kpt g n₀ A B) {p : Addr} (hp : p.block < n₀) (hg : p.block ≠ g) : B.cell? p = A.cell? p := World.cell?_of_block (h.2 _ hp hg)
theorem Kpt.of_below {g n₀ : Nat} {A B : World} (h : Below n₀ A B) : Kpt g n₀ A B := ⟨h.size, fun i hi _ => h.block i hi⟩
theorem Kpt.put {g n₀ : Nat} {w : World} (hn : n₀ ≤ w.heap.size) (W : World) (l : Nat) (o o' : Obj) (hl : w.heap.size ≤ l) (h : W.heap[l]? = some o) (_ : o.isCells = false) (_ : o.isWalk = false) : Kpt g n₀ W (W.putObj l o') :=
  ⟨(grownBy_putObj' W l o').size, fun i hi _ => World.putObj_heap_other (by omega)⟩
theorem At8.kpt {w w' : World} {g n₀ b o : Nat} {l : List Nat} (h : At8 w b o l) (hk : Kpt g n₀ w w') (hb : b < n₀) (hg : b ≠ g) : At8 w' b o l := fun j v hv => (hk.cell (p := ⟨b, o + j, none⟩) hb hg).trans (h j v hv)
def upto {α : Type} (f : Nat → α) (k : Nat) : List α := (List.range k).map f
theorem upto_succ {α : Type} (f : Nat → α) (k : Nat) : upto f (k + 1) = upto f k ++ [f k] := by simp [upto, List.range_succ]
theorem upto_length {α : Type} (f : Nat → α) (k : Nat) : (upto f k).length = k := by simp [upto]
def enc2 (x : Nat × Blk) : Array Value := #[.int .i64 (x.1 : Int), .agg (bcs x.2.1)]

set_option maxRecDepth 100000 in
set_option maxHeartbeats 2000000 in
/-- The closure of slices.Backward. -/
theorem back1_in (F : Fence) (m : Nat) (hF : F.fn 56) (hro : F.round = none) (hm : 1 ≤ m) (l B n₀ g b off n cap : Nat) (z : Nat → Blk) (hn : n ≤ 64) (hb : b < n₀) (hbg : b ≠ g) (hBg : B ≠ g) (J Jx : List (Nat × Blk) → World → Prop)
    (hY : ∀ pre x W, J pre W → pre.length < n → YieldAt F (m - 1) Try.prog l #[.int .i64 (x.1 : Int), .agg (bcs x.2.1)] W fun e W' =>
      (e = .returned (.bool true) ∧ J (pre ++ [x]) W' ∧ Kpt g n₀ W W') ∨ (e = .returned (.bool false) ∧ Jx (pre ++ [x]) W'))
    (W : World) (hB : W.cell? ⟨B, 0, none⟩ = some (.slice (some ⟨b, off, none⟩) n cap)) (hBn : B < n₀) (hc : ∀ j, j < n → At8 W b (off + j * 8) (z j).1) (h0 : J [] W) :
    CallsIn F m Try.prog 56 #[.func (.yield l) #[] #[], .pointer (some ⟨B, 0, none⟩)] W fun e W' => (∃ v, e = .returned v) ∧
      ((∃ ys, ys = upto (fun j => (n - 1 - j, z (n - 1 - j))) n ∧ J ys W') ∨ (∃ pre, (∃ k, k ≤ n ∧ pre = upto (fun j => (n - 1 - j, z (n - 1 - j))) k) ∧ Jx pre W')) := by
  refine callsIn_of_wp Try.func56 rfl hF ?_ hro
  simp only [Try.ntmps56, List.size_toArray, List.length_cons, List.length_nil, Nat.reduceAdd, Nat.reduceSub, Array.replicate_succ, Array.replicate_zero, List.push_toArray, List.append_toArray, List.nil_append, List.cons_append]
  gi_wp2
  gi_loopw [3] (fun i wr => ∃ p : Nat, p ≤ n ∧ i = .int .i64 ((p : Int) - 1) ∧ Hid (J (upto (fun j => (n - 1 - j, z (n - 1 - j))) (n - p)) wr ∧ Kpt g n₀ W wr))
    (fun i _ => (intOf i + 1).toNat)
  case atStart =>
    refine ⟨n, Nat.le_refl _, by go_num, Lib.hid ⟨?_, Kpt.refl _ _ _⟩⟩
    rw [Nat.sub_self]; exact h0
  case round =>
    obtain ⟨p, hp, rfl, H⟩ := hrel
    rcases p with _ | p
    · obtain ⟨hJ, hbel⟩ := H.out
      rw [Nat.sub_zero] at hJ
      gi_wp2
      go_end0
      exact ⟨⟨_, rfl⟩, .inl ⟨_, rfl, hJ⟩⟩
    · obtain ⟨hJ, hbel⟩ := H.out
      have e1 : ((p + 1 : Nat) : Int) - 1 = (p : Int) := by omega
      rw [e1]
      have e2 : n - 1 - (n - (p + 1)) = p := by omega
      obtain ⟨fn, tmps, assign, body, hy, hR⟩ := hY _ (p, z p) wr hJ (by rw [upto_length]; omega)
      dsimp only at hy
      have hB' := (hbel.cell (p := ⟨B, 0, none⟩) hBn hBg).trans hB
      have hz := Lib.hid ((hc p (by omega)).kpt hbel hb hbg)
      have si := Lib.hid (size8 (z p).2.1)
      have hpI : (p : Int) < (n : Int) := by omega
      have HC := Lib.hid hc
      clear hc hB e1
      gi_wp2_with (refine wpListIn_load8 rfl _ _ rfl _ _ rfl _ _ hz.out Try.underlying44 rfl si.out ?_)
      refine hR.mono ?_
      rintro e W3 (⟨rfl, hJ3, hk3⟩ | ⟨rfl, hJx3⟩)
      · gi_wp2
        go_roundw
        case rel =>
          refine ⟨p, by omega, rfl, Lib.hid ⟨?_, hbel.trans hk3⟩⟩
          rw [show n - p = n - (p + 1) + 1 by omega, upto_succ, e2]; exact hJ3
        case measure => simp [intOf]
      · gi_wp2
        refine bodyPost_ret (results_none rfl _ _ _) rfl ?_
        refine ⟨⟨_, rfl⟩, .inr ⟨_, ⟨n - (p + 1) + 1, by omega, rfl⟩, ?_⟩⟩
        rw [upto_succ, e2]; exact hJx3
end Go.Proofs.Ytfhgalfdlkdliaa
