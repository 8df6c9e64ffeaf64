/- Law walk: DesignTwice. WRITTEN BY gen_Zc.py. -/
import Derived.Test.YtnnacofjogfkeaaDoorZb
namespace Go.Proofs.YtnnacofjogfkeaaDoor
open Go Go.RowKit Pl Co
set_option linter.unusedVariables false
set_option linter.unusedSimpArgs false

theorem bel_to {a A B : World} (h : Below a.heap.size a A) (hb : Below A.heap.size A B) : Below a.heap.size a B := h.trans (hb.mono h.size)
/-- A list of rows that a call builds: the values that lie in it. -/
def Cat (w : World) (base g cap : Nat) (us : List Value) : Prop := base ≤ g ∧ ∃ cs, Row w g 40 cs ∧ cs.size = cap ∧ cap ≤ maxLen ∧ us.length ≤ cap ∧ cs.toList.take us.length = us
theorem Cat.lt {w : World} {base g cap : Nat} {us : List Value} (h : Cat w base g cap us) : g < w.heap.size := by obtain ⟨_, cs, hr, _⟩ := h; exact hr.lt
theorem Cat.blk {w w' : World} {base g cap : Nat} {us : List Value} (h : Cat w base g cap us) (hb : w'.heap[g]? = w.heap[g]?) : Cat w' base g cap us := by
  obtain ⟨h1, cs, hr, h2⟩ := h
  exact ⟨h1, cs, hb.trans hr, h2⟩
theorem Cat.to {w w' : World} {base g cap : Nat} {us : List Value} (h : Cat w base g cap us) (hb : Below w.heap.size w w') : Cat w' base g cap us := h.blk (hb.block _ h.lt)
theorem Cat.oth {w : World} {base g cap : Nat} {us : List Value} (h : Cat w base g cap us) {p : Addr} (hp : g ≠ p.block) (u : Value) : Cat (w.setCell p u) base g cap us := h.blk (Below.heap_setCell w p u g hp)
theorem Cat.owns {w : World} {base g cap n : Nat} {us : List Value} (h : Cat w base g cap us) (hn : us.length = n) : w.ownsRow base 40 1 (.slice (some ⟨g, 0, none⟩) n cap) n us := by
  subst hn
  obtain ⟨h1, cs, hr, h2, h3, h4, h5⟩ := h
  exact ⟨by omega, Or.inr ⟨g, cap, cs, rfl, h1, hr, h4, h3, by omega, by rw [Nat.mul_one]; exact h5⟩⟩
theorem Cat.of {w : World} {base g cap n : Nat} {us : List Value} (hn : us.length = n) (h : w.ownsRow base 40 1 (.slice (some ⟨g, 0, none⟩) n cap) n us) : Cat w base g cap us := by
  subst hn
  obtain ⟨_, h⟩ := h
  rcases h with ⟨h, _⟩ | ⟨g', cap', cur, hv, hb, hh, hle, hm, hs, ht⟩
  · cases h
  · injection hv with hv1 hv2 hv3
    injection hv1 with hv1
    injection hv1 with hv1
    subst hv1 hv3
    exact ⟨hb, cur, hh, by omega, hm, hle, by rw [Nat.mul_one] at ht; exact ht⟩
theorem Cat.gs {w : World} {base g cap n : Nat} {us : List Value} {L : List (List Nat)} (h : Cat w base g cap us) (hn : us.length = n) (hL : L.length = n) (hr : ∀ k, k < n → Ns w (us.getD k undef) (L.getD k [])) : Gs w (.slice (some ⟨g, 0, none⟩) n cap) L := by
  obtain ⟨_, cs, hrow, h2, h3, h4, h5⟩ := h
  subst hL
  refine ⟨_, cap, rfl, ⟨by omega, h3⟩, fun h => (by cases h), fun _ => ⟨g, 0, rfl, fun k hk => ⟨us.getD k undef, ?_, by have := hr k hk; rwa [getD_in hk] at this⟩⟩⟩
  rw [Nat.zero_add, hrow.cell, ← Array.getElem?_toList, ← List.getElem?_take_of_lt (show k < us.length by omega), h5, List.getElem?_eq_getElem (by omega), getD_in (show k < us.length by omega)]
/-- The values that lie in a table. -/
theorem Gs.us {w : World} {b off n c : Nat} {L : List (List Nat)} (h : Gs w (.slice (some ⟨b, off, none⟩) n c) L) : ∃ us : List Value, us.length = n ∧ (∀ k, k < n → w.cell? ⟨b, off + k, none⟩ = some (us.getD k undef)) ∧ (∀ k, k < n → Ns w (us.getD k undef) (L.getD k [])) := by
  have key : ∀ k, k < n → ∃ u, w.cell? ⟨b, off + k, none⟩ = some u ∧ Ns w u (L.getD k []) := fun k hk => by
    obtain ⟨b', off', e, hc⟩ := h.cells.2.2.2 (by omega)
    injection e with e
    injection e with e1 e2
    subst e1 e2
    exact hc k hk
  have at_ : ∀ k, k < n → ((List.range n).map fun k => (w.cell? ⟨b, off + k, none⟩).getD undef).getD k undef = (w.cell? ⟨b, off + k, none⟩).getD undef := fun k hk => by
    simp [List.getD, hk]
  refine ⟨(List.range n).map fun k => (w.cell? ⟨b, off + k, none⟩).getD undef, by simp, fun k hk => ?_, fun k hk => ?_⟩
  · obtain ⟨u, hu, _⟩ := key k hk
    rw [at_ k hk, hu]; rfl
  · obtain ⟨u, hu, hn⟩ := key k hk
    rw [at_ k hk, hu]; exact hn
theorem run_build_00 (w : World) : (Instr.buildSlice 23 0 #[]).run Tryd.prog w = .ok (.slice (some ⟨w.heap.size, 0, none⟩) 0 0) (w.alloc (.cells #[] 40)) := by
  obtain ⟨i, hi, hzz⟩ := Option.map_eq_some_iff.1 info_rws
  simp only [Prod.mk.injEq] at hzz
  obtain ⟨hz, hs, hb⟩ := hzz
  simp [Instr.buildSlice, run_underlying Tryd.underlying23, sizeOf, typeInfo, hi, hs, zeroValue, hz, newRow, Instr.fill, Value.cells, show Array.range 0 = #[] from rfl]
theorem wp_build_00 {o : Oper} {a : Act} {w : World} {K : Act → World → Prop} {Q : Exit → Act → World → Prop} (ho : o.op = .buildSlice 23 0 #[])
    (hk : K (a.put o.dst (.slice (some ⟨w.heap.size, 0, none⟩) 0 0)) (w.alloc (.cells #[] 40))) : o.wp Tryd.prog a w K Q := by
  unfold Oper.wp
  simp only [execOp, ho, List.map_toArray, List.map_nil, Sem.run_bind, Sem.run_pure, Result.andThen_ok, run_build_00 w]
  exact hk
theorem wp_allocD {o : Oper} {a : Act} {w : World} {K : Act → World → Prop} {Q : Exit → Act → World → Prop} (ho : o.op = .alloc 25)
    (hk : K (a.put o.dst (.pointer (some ⟨w.heap.size, 0, none⟩))) (w.alloc (.cells #[.int .i64 0, .slice none 0 0] 25))) : o.wp Tryd.prog a w K Q := by
  have hr : (execOp a.eval o).run Tryd.prog w = .ok (.value (.pointer (some ⟨w.heap.size, 0, none⟩))) (w.alloc (.cells #[.int .i64 0, .slice none 0 0] 25)) := by
    unfold execOp
    rw [ho]
    kernel_rfl
  unfold Oper.wp
  rw [hr]
  exact hk
theorem run_append_0 {P : Program} (w : World) (t ty e : TypeId) (i : TypeInfo) (ht : P.underlying t = some (.slice e)) (hi : P.info? e = some i) (ad : Addr) (n cap : Nat) (A : Option Addr) (c : Nat) (hc : n ≤ cap) :
    (Builtin.append_ #[t, t] ty #[.slice (some ad) n cap, .slice A 0 c]).run P w = .ok (.slice (some ad) n cap) w := by
  have h0 : ∀ b : Addr, (loadCells b 0).run P w = .ok #[] w := fun b => by simp [loadCells, loadCellsFrom]
  cases A with
  | none => simp [Builtin.append_, run_underlying ht, sizeOf, typeInfo, hi, Builtin.lenOf, Builtin.firstCells, hc, storeCells]
  | some b => simp [Builtin.append_, run_underlying ht, sizeOf, typeInfo, hi, Builtin.lenOf, Builtin.firstCells, hc, storeCells, h0]
theorem wp_append_0 {w : World} {o : Oper} {a : Act} {K : Act → World → Prop} {Q : Exit → Act → World → Prop} (s x : Operand)
    (ho : o.op = .call { callee := .builtin .append, args := #[s, x], argTypes := #[23, 23] })
    (ad : Addr) (n cap : Nat) (A : Option Addr) (c : Nat) (hs : a.eval s = .slice (some ad) n cap) (hx : a.eval x = .slice A 0 c) (hc : n ≤ cap) (h : K (a.put o.dst (.slice (some ad) n cap)) w) : o.wp Tryd.prog a w K Q := by
  obtain ⟨i, hi, hz, hsz, hby⟩ := info_parts info_rws
  have hr := run_append_0 (P := Tryd.prog) w 23 o.type 40 i Tryd.underlying23 hi ad n cap A c hc
  unfold Oper.wp execOp
  simp only [ho, resolve, invoke, builtin, Sem.run_bind, Sem.run_pure, Result.andThen_ok, List.map_toArray, List.map_cons, List.map_nil, hs, hx, hr]
  exact h
theorem grown_self (w : World) (r : Option Nat) : w.grownBy w r := ⟨rfl, rfl, rfl, Nat.le_refl _, fun _ _ _ => rfl⟩
/-- 'append(v, x...)' of rows, x as long as it may be. -/
theorem wp_cat {w : World} {o : Oper} {a : Act} {K : Act → World → Prop} {Q : Exit → Act → World → Prop} (s x : Operand)
    (ho : o.op = .call { callee := .builtin .append, args := #[s, x], argTypes := #[23, 23] })
    (base g n cap : Nat) (us : List Value) (b off m c : Nat) (vs : List Value) (n' : Nat) (hn' : n + m = n') (hs : a.eval s = .slice (some ⟨g, 0, none⟩) n cap) (hcat : Cat w base g cap us) (hn : us.length = n) (hx : a.eval x = .slice (some ⟨b, off, none⟩) m c) (hm : vs.length = m)
    (hcell : ∀ k, k < m → w.cell? ⟨b, off + k, none⟩ = some (vs.getD k undef)) (hone : ∀ u ∈ vs, u.oneCell' = true) (hlen : n' ≤ 100000) (hbase : base ≤ w.heap.size)
    (h : ∀ g' cap' w', Cat w' base g' cap' (us ++ vs) → w.grownBy w' (some g) → (g' = g ∨ g' = w.heap.size) → K (a.put o.dst (.slice (some ⟨g', 0, none⟩) n' cap')) w') : o.wp Tryd.prog a w K Q := by
  by_cases h0 : m = 0
  · subst h0
    obtain rfl : vs = [] := List.length_eq_zero_iff.1 hm
    obtain rfl : n = n' := by omega
    refine wp_append_0 s x ho _ n cap _ c hs hx (by obtain ⟨_, cs, _, h2, h3, h4, _⟩ := hcat; omega) (h g cap w (by rw [List.append_nil]; exact hcat) (grown_self w _) (.inl rfl))
  · obtain ⟨i, hi, hz, hsz, hby⟩ := info_parts info_rws
    refine wp_append_lies w s x _ ho base _ i _ 1 24 Tryd.underlying23 hi hz hsz hby rfl (by decide) _ n us hs (hcat.owns hn) ⟨b, off, none⟩ m c vs hx (by omega) (fun j u hj => ?_) hone (by omega) (by unfold maxLen; omega) (by omega) hbase _ rfl fun g' cap' w' h1 h2 h3 _ => ?_
    · have hlt := (List.getElem?_eq_some_iff.1 hj).1
      rw [List.getElem?_eq_getElem hlt] at hj
      rw [Go.WideShapes.add_plain, hcell j (by omega), getD_in hlt, Option.some.inj hj]
    · subst hn'
      exact h g' cap' w' (Cat.of (by rw [List.length_append]; omega) h1) h2 (by rcases h3 with h3 | h3; exact .inl (by injection h3 with h3; exact h3.symm); exact .inr h3)
/-- A slice to its end. -/
theorem slice_from {b o n c i : Nat} (hi : i ≤ n) (hc : n ≤ c) : ∃ o2 c2, (∀ w, (Instr.slice 23 (.slice (some ⟨b, o, none⟩) n c) (some (.int .i64 (i : Int))) none none).run Tryd.prog w = .ok (.slice (some ⟨b, o2, none⟩) (n - i) c2) w) ∧ (i < n → o2 = o + i) := by
  have hel : Tryd.prog.elem 23 = 40 := by kernel_rfl
  obtain ⟨ii, hii, hz, hsz, hby⟩ := info_parts info_rws
  have key : ∀ w, (Instr.slice 23 (.slice (some ⟨b, o, none⟩) n c) (some (.int .i64 (i : Int))) none none).run Tryd.prog w = .ok (sliced (some ⟨b, o, none⟩) i n c 1) w := fun w => by
    rw [run_slice_l w 23 (some ⟨b, o, none⟩) n c (by rw [hel]; exact Tryd.underlying23) .i64 (i : Int) (by omega) (by omega), hel]
    simp [sizeOf, typeInfo, hii, hsz, Result.andThen]
  by_cases h : c = i
  · refine ⟨o, c - i, fun w => ?_, fun h2 => by omega⟩
    rw [key w]; unfold sliced; rw [if_pos h]
  · refine ⟨o + i, c - i, fun w => ?_, fun h2 => rfl⟩
    rw [key w]; unfold sliced; rw [if_neg h, Nat.mul_one]; simp [Go.WideShapes.add_plain]
theorem twice_rows {us : List Value} {L : List (List Nat)} {w : World} {n : Nat} (hu : us.length = n) (hL : L.length = n) (h : ∀ k, k < n → Ns w (us.getD k undef) (L.getD k [])) : ∀ k, k < n + n → Ns w ((us ++ us).getD k undef) ((L ++ L).getD k []) := by
  intro k hk
  rw [List.getD_eq_getElem?_getD, List.getD_eq_getElem?_getD]
  by_cases hlt : k < n
  · rw [List.getElem?_append_left (by omega), List.getElem?_append_left (by omega), ← List.getD_eq_getElem?_getD, ← List.getD_eq_getElem?_getD]; exact h k hlt
  · rw [List.getElem?_append_right (by omega), List.getElem?_append_right (by omega), ← List.getD_eq_getElem?_getD, ← List.getD_eq_getElem?_getD, hu, hL]; exact h (k - n) (by omega)
theorem less_rows {us : List Value} {L : List (List Nat)} {w : World} {n i : Nat} (hi : i < n) (hu : us.length = n) (hL : L.length = n) (h : ∀ k, k < n → Ns w (us.getD k undef) (L.getD k [])) : ∀ k, k < n - 1 → Ns w ((us.take i ++ us.drop (i + 1)).getD k undef) ((L.take i ++ L.drop (i + 1)).getD k []) := by
  intro k hk
  have l1 : (us.take i).length = i := by rw [List.length_take]; omega
  have l2 : (L.take i).length = i := by rw [List.length_take]; omega
  rw [List.getD_eq_getElem?_getD, List.getD_eq_getElem?_getD]
  by_cases hlt : k < i
  · rw [List.getElem?_append_left (by omega), List.getElem?_append_left (by omega), List.getElem?_take_of_lt hlt, List.getElem?_take_of_lt hlt, ← List.getD_eq_getElem?_getD, ← List.getD_eq_getElem?_getD]; exact h k (by omega)
  · rw [List.getElem?_append_right (by omega), List.getElem?_append_right (by omega), l1, l2, List.getElem?_drop, List.getElem?_drop, ← List.getD_eq_getElem?_getD, ← List.getD_eq_getElem?_getD]; exact h _ (by omega)
theorem less_nobal {v k r l i : Nat} {L : List (List Nat)} (h : Bal v L k r l) (hi : i < L.length) (hkv : k ≤ v) (h1 : k = v → L.length = 1) : ∀ n r l, ¬ Bal v (L.take i ++ L.drop (i + 1)) n r l := by
  intro n r' l' hb
  by_cases e : k = v
  · have h2 := hb.groups.1
    have h3 := h1 e
    rw [List.length_append, List.length_take, List.length_drop] at h2
    omega
  · exact not_bal h hi (by omega) hb
theorem one_of {w : World} {v : Value} {l : List Nat} (h : Ns w v l) : v.oneCell' = true := by obtain ⟨A, c, rfl⟩ := slform h; rfl

set_option maxHeartbeats 16000000 in
set_option maxRecDepth 100000 in
theorem twicelaw_walk (n u : Nat) (w : World) (hK : Kd w) (hP : Pd w) (hn : n < 65536) (hu : u < 256) : Calls Tryd.prog 9 #[.int .u16 (n : Int), .int .u8 (u : Int)] w (lawPost w) := by
  have AW := Lib.hid (awake7 w hK hP)
  have SM := Lib.hid fun W => small_any n W hn
  clear hK hP hn
  go_enter Tryd.func9, Tryd.ntmps9
  go_wp2_with fail
  refine AW.out.mono ?_
  rintro e z1 ⟨rfl, hb1⟩
  have B1 := Lib.hid hb1
  clear hb1 AW
  go_wp2_with fail
  refine (SM.out z1).mono ?_
  rintro e z2 ⟨v, k, rfl, ⟨k2, kv, v8⟩, hb2⟩
  have B2 := Lib.hid (B1.out.trans (hb2.mono B1.out.size))
  have c70 := ch_small v v8 k kv
  have c0 := ch_pos kv
  have BAL := Lib.hid (bal_comb (v := v) (k := k) (by omega) (by omega) k2 kv (by omega))
  have LN := Lib.hid (comb_len v v k)
  have L1 := Lib.hid (show k = v → (comb v v k).length = 1 from fun e => by rw [comb_len, e, ch_self])
  have r70 := ch_small (v - 1) (by omega) (k - 1) (by omega)
  have l70 := ch_small (v - 2) (by omega) (k - 2) (by omega)
  have CO := Lib.hid fun W => complete_le (v := v) (k := k) W k2 kv (by omega) (by omega)
  obtain ⟨r, hr⟩ : ∃ r, ch (v - 1) (k - 1) = r := ⟨_, rfl⟩
  obtain ⟨l, hl⟩ : ∃ l, ch (v - 2) (k - 2) = l := ⟨_, rfl⟩
  obtain ⟨c, hc⟩ : ∃ c, ch v k = c := ⟨_, rfl⟩
  rw [hr, hl] at BAL
  rw [hr] at r70
  rw [hl] at l70
  rw [hc] at LN c70 c0
  obtain ⟨L, hL⟩ : ∃ L, comb v v k = L := ⟨_, rfl⟩
  rw [hL] at BAL LN CO L1
  clear hb2 SM hr hl hc hL
  go_wp2_with fail
  refine (CO.out z2).mono ?_
  rintro e z3 ⟨uu, rfl, hg, hb3⟩
  obtain ⟨A1, k1, rfl⟩ := slform hg
  rw [LN.out] at hg ⊢
  obtain ⟨b1, o1, rfl, -⟩ := hg.cells.2.2.2 c0
  have ck1 := hg.cells.2.1
  have B3 := Lib.hid (B2.out.trans (hb3.mono B2.out.size))
  have G3 := Lib.hid hg
  have hba : Below z3.heap.size z3 (z3.alloc (.cells #[.int .i64 (v : Int), .slice (some ⟨b1, o1, none⟩) c k1] 25)) := (Below.refl _ _).alloc (Nat.le_refl _) _
  have RD := Lib.hid (row_new' z3 #[.int .i64 (v : Int), .slice (some ⟨b1, o1, none⟩) c k1] 25)
  clear hb3 hg CO
  unfold dv
  go_wp2_with fail
  obtain ⟨D, hD⟩ : ∃ D, z3.heap.size = D := ⟨_, rfl⟩
  obtain ⟨y, hy⟩ : ∃ y, (z3.alloc (.cells #[.int .i64 (v : Int), .slice (some ⟨b1, o1, none⟩) c k1] 25)) = y := ⟨_, rfl⟩
  rw [hy] at RD hba ⊢
  have GY := Lib.hid (G3.out.to hba)
  have BY := Lib.hid (B3.out.trans (hba.mono B3.out.size))
  rw [hD] at RD ⊢
  have CK : Hid (Calls Tryd.prog 16 #[.agg #[.int .i64 (v : Int), .slice (some ⟨b1, o1, none⟩) c k1]] y (bel (.tuple #[.int .i64 (r : Int), .int .i64 (l : Int), .int .i64 0]) y)) := Lib.hid (check_bal BAL.out _ y GY.out)
  clear hba hy hD G3 B3
  refine CK.out.mono ?_
  rintro e z4 ⟨rfl, hb4⟩
  have B4 := Lib.hid (BY.out.trans (hb4.mono BY.out.size))
  have G4 := Lib.hid (GY.out.to hb4)
  have R4 := Lib.hid (RD.out.go hb4)
  obtain ⟨us, hul, huc, hun⟩ := G4.out.us
  have UL := Lib.hid hul
  have UC := Lib.hid fun W (hw : Below z4.heap.size z4 W) k (hk : k < c) => cell7 (huc k hk) hw
  have UN := Lib.hid fun W (hw : Below z4.heap.size z4 W) k (hk : k < c) => (hun k hk).to hw
  have UO := Lib.hid (show ∀ x ∈ us, x.oneCell' = true from fun x hx => by
    obtain ⟨j, hj, rfl⟩ := List.getElem_of_mem hx
    have := one_of (hun j (by omega))
    rwa [getD_in hj] at this)
  have e0 : z4.cell? ⟨D, 0, none⟩ = some (.int .i64 (v : Int)) := R4.out.cell 0
  have e1 : z4.cell? ⟨D, 1, none⟩ = some (.slice (some ⟨b1, o1, none⟩) c k1) := R4.out.cell 1
  have cI : ((c : Int) == 0) = false := by rw [beq_eq_false_iff_ne]; omega
  have cJ : ¬ (c : Int) = 0 := by omega
  have Y4 : Hid (Below z4.heap.size z4 z4) := Lib.hid (Below.refl _ _)
  have CC := Lib.hid (And.intro c70 c0)
  clear hb4 CK hul huc hun
  go_wp2_with fail
  clear e0 e1 cI cJ
  refine wp_region_held (P := Tryd.prog) (S := (fun w' : World => w'.cell? ⟨D, 1, none⟩ = some (.slice (some ⟨b1, o1, none⟩) c k1))) rfl ?_
  change wpAnyH _ _ _ _ _ _ _ _ z4.drew
  have zhz2 : Below z4.heap.size z4 z4.drew := (Below.refl z4.heap.size z4).drew
  generalize z4.drew = zwz1 at zhz2 ⊢
  have zhq3 : Below z4.heap.size z4 zwz1 := zhz2
  have zR_4 := Lib.hid (Row.go R4.out zhq3)
  have zY_5 := Lib.hid (bel_to Y4.out zhq3)
  have zHB_6 : Hid (Below w.heap.size w zwz1) := Lib.hid (B4.out.trans (zhq3.mono B4.out.size))
  clear zhq3
  clear zhz2
  have zhS7 : (fun w' : World => w'.cell? ⟨D, 1, none⟩ = some (.slice (some ⟨b1, o1, none⟩) c k1)) zwz1 := zR_4.out.cell 1
  refine takeD (i := 0) (v := .int .i64 (v : Int)) (some 52) rfl rfl (by kernel_rfl) (by kernel_rfl) (by kernel_rfl) (fun _ _ _ h => h) (Or.inl ⟨by rfl, by rintro w' -; go_simp⟩) zhS7 ?_
  simp only [Act.put, List.setIfInBounds_toArray, List.set_cons_zero, List.set_cons_succ]
  refine takeD (i := 2) (v := .pointer (some ⟨D, 1, none⟩)) (some 54) rfl rfl (by kernel_rfl) (by kernel_rfl) (by kernel_rfl) (fun _ _ _ h => h) (Or.inl ⟨by rfl, by rintro w' -; go_simp⟩) zhS7 ?_
  simp only [Act.put, List.setIfInBounds_toArray, List.set_cons_zero, List.set_cons_succ]
  refine takeD (i := 3) (v := .slice (some ⟨b1, o1, none⟩) c k1) (some 55) rfl rfl (by kernel_rfl) (by kernel_rfl) (by kernel_rfl) (fun _ _ _ h => h) (Or.inl ⟨by rfl, by rintro w' h; have hc := h; go_simp⟩) zhS7 ?_
  simp only [Act.put, List.setIfInBounds_toArray, List.set_cons_zero, List.set_cons_succ]
  refine takeD (i := 5) (v := .pointer (some ⟨D, 1, none⟩)) (some 57) rfl rfl (by kernel_rfl) (by kernel_rfl) (by kernel_rfl) (fun _ _ _ h => h) (Or.inl ⟨by rfl, by rintro w' -; go_simp⟩) zhS7 ?_
  simp only [Act.put, List.setIfInBounds_toArray, List.set_cons_zero, List.set_cons_succ]
  refine takeD (i := 6) (v := .slice (some ⟨b1, o1, none⟩) c k1) (some 58) rfl rfl (by kernel_rfl) (by kernel_rfl) (by kernel_rfl) (fun _ _ _ h => h) (Or.inl ⟨by rfl, by rintro w' h; have hc := h; go_simp⟩) zhS7 ?_
  simp only [Act.put, List.setIfInBounds_toArray, List.set_cons_zero, List.set_cons_succ]
  refine wpAnyH_ready (rs := [1, 9]) (by kernel_rfl) (by simp) ?_
  refine AllReadyH.cons rfl (fun K hK => ?_) (AllReadyH.cons rfl (fun K hK => ?_) AllReadyH.nil)
  · have HzK8 := Lib.hid hK
    clear hK
    rw [if_pos (by rfl)]
    refine wp_build_00 rfl ?_
    obtain ⟨ba, hb0⟩ : ∃ e, zwz1.heap.size = e := ⟨_, rfl⟩
    have hbx : Below zwz1.heap.size zwz1 (zwz1.alloc (.cells #[] 40)) := (Below.refl _ _).alloc (Nat.le_refl _) _
    have CT : Hid (Cat (zwz1.alloc (.cells #[] 40)) ba ba 0 []) := Lib.hid ⟨Nat.le_refl _, #[], by rw [← hb0]; exact row_new' zwz1 #[] 40, rfl, Nat.zero_le _, Nat.le_refl 0, rfl⟩
    have BB : Hid (ba ≤ (zwz1.alloc (.cells #[] 40)).heap.size) := Lib.hid (by rw [World.size_alloc]; omega)
    obtain ⟨zx9, hxb⟩ : ∃ q, zwz1.alloc (.cells #[] 40) = q := ⟨_, rfl⟩
    rw [hxb] at hbx CT BB
    rw [hb0, hxb]
    have HB0 : Hid (z4.heap.size ≤ ba) := Lib.hid (by have := zY_5.out.size; omega)
    have HW0 : Hid (w.heap.size ≤ ba) := Lib.hid (by have := zHB_6.out.size; omega)
    have zhq10 : Below zwz1.heap.size zwz1 zx9 := hbx
    have zR_11 := Lib.hid (Row.go zR_4.out zhq10)
    have zY_12 := Lib.hid (bel_to zY_5.out zhq10)
    have zHB_13 : Hid (Below w.heap.size w zx9) := Lib.hid (zHB_6.out.trans (zhq10.mono zHB_6.out.size))
    clear zhq10
    clear hbx hxb hb0
    have zhS14 : (fun w' : World => w'.cell? ⟨D, 1, none⟩ = some (.slice (some ⟨b1, o1, none⟩) c k1)) zx9 := zR_11.out.cell 1
    refine HzK8.out _ _ zhS14 fun _ => ?_
    try simp only [Act.put, List.setIfInBounds_toArray, List.set_cons_zero, List.set_cons_succ]
    refine wpAnyH_ready (rs := [4, 9]) (by kernel_rfl) (by simp) ?_
    refine AllReadyH.cons rfl (fun K hK => ?_) (AllReadyH.cons rfl (fun K hK => ?_) AllReadyH.nil)
    · have HzK15 := Lib.hid hK
      clear hK
      rw [if_pos (by rfl)]
      refine wp_cat (.tmp 53) (.tmp 55) rfl ba ba (0) 0 ([]) b1 (o1) (c) k1 (us) (c) (by skip; omega) rfl CT.out rfl rfl UL.out (fun k hk => UC.out _ zY_12.out k hk) UO.out (by have := CC.out; omega) BB.out ?_
      intro ga1 qa1 zx16 ho hg hat
      have hbo := CT.out.1
      have Y1a : Hid (Below z4.heap.size z4 zx16) := Lib.hid (zY_12.out.grown hg zY_12.out.size (fun j e => by cases e; have := HB0.out; omega))
      have W1a : Hid (Below w.heap.size w zx16) := Lib.hid (zHB_13.out.grown hg zHB_13.out.size (fun j e => by cases e; have := HW0.out; omega))
      have R1a := Lib.hid (zR_11.out.gr hg (fun e => by have e2 := Option.some.inj e; have := (show D < z4.heap.size from R4.out.lt); have := HB0.out; omega))
      have S1a : Hid (ba ≤ zx16.heap.size) := Lib.hid (Nat.le_trans BB.out hg.size)
      have O1a := Lib.hid ho
      clear ho hg hat hbo
      have LEN1a : Hid ((([]) ++ (us)).length = c) := Lib.hid (by rw [List.length_append, List.length_nil, show (us).length = c from UL.out] <;> (skip; omega))
      have zhS17 : (fun w' : World => w'.cell? ⟨D, 1, none⟩ = some (.slice (some ⟨b1, o1, none⟩) c k1)) zx16 := R1a.out.cell 1
      refine HzK15.out _ _ zhS17 fun _ => ?_
      try simp only [Act.put, List.setIfInBounds_toArray, List.set_cons_zero, List.set_cons_succ]
      refine wpAnyH_ready (rs := [7, 9]) (by kernel_rfl) (by simp) ?_
      refine AllReadyH.cons rfl (fun K hK => ?_) (AllReadyH.cons rfl (fun K hK => ?_) AllReadyH.nil)
      · have HzK18 := Lib.hid hK
        clear hK
        rw [if_pos (by rfl)]
        refine wp_cat (.tmp 56) (.tmp 58) rfl ba ga1 (c) qa1 (([]) ++ (us)) b1 (o1) (c) k1 (us) (c + c) (by skip; omega) rfl O1a.out LEN1a.out rfl UL.out (fun k hk => UC.out _ Y1a.out k hk) UO.out (by have := CC.out; omega) S1a.out ?_
        intro ga2 qa2 zx19 ho hg hat
        have hbo := O1a.out.1
        have Y2a : Hid (Below z4.heap.size z4 zx19) := Lib.hid (Y1a.out.grown hg Y1a.out.size (fun j e => by cases e; have := HB0.out; omega))
        have W2a : Hid (Below w.heap.size w zx19) := Lib.hid (W1a.out.grown hg W1a.out.size (fun j e => by cases e; have := HW0.out; omega))
        have R2a := Lib.hid (R1a.out.gr hg (fun e => by have e2 := Option.some.inj e; have := (show D < z4.heap.size from R4.out.lt); have := HB0.out; omega))
        have S2a : Hid (ba ≤ zx19.heap.size) := Lib.hid (Nat.le_trans S1a.out hg.size)
        have O2a := Lib.hid ho
        clear ho hg hat hbo
        have LEN2a : Hid (((([]) ++ (us)) ++ (us)).length = c + c) := Lib.hid (by rw [List.length_append, LEN1a.out, show (us).length = c from UL.out] <;> (skip; omega))
        have zhS20 : (fun w' : World => w'.cell? ⟨D, 1, none⟩ = some (.slice (some ⟨b1, o1, none⟩) c k1)) zx19 := R2a.out.cell 1
        refine HzK18.out _ _ zhS20 fun _ => ?_
        try simp only [Act.put, List.setIfInBounds_toArray, List.set_cons_zero, List.set_cons_succ]
        refine takeD (i := 8) (v := .agg #[.int .i64 (v : Int), .slice (some ⟨ga2, 0, none⟩) (c + c) qa2]) (some 60) rfl rfl (by kernel_rfl) (by kernel_rfl) (by kernel_rfl) (fun _ _ _ h => h) (Or.inl ⟨by rfl, by rintro w' -; go_simp⟩) zhS20 ?_
        simp only [Act.put, List.setIfInBounds_toArray, List.set_cons_zero, List.set_cons_succ]
        refine wpAnyH_ready (rs := [9]) (by kernel_rfl) (by simp) ?_
        refine AllReadyH.cons rfl (fun zK21 hzK21 => ?_) AllReadyH.nil
        have HzK21 := Lib.hid hzK21
        clear hzK21
        rw [if_pos (by rfl)]
        refine wp_allocD rfl ?_
        obtain ⟨D2, hD2⟩ : ∃ e, zx19.heap.size = e := ⟨_, rfl⟩
        have hbx : Below zx19.heap.size zx19 (zx19.alloc (.cells #[.int .i64 0, .slice none 0 0] 25)) := (Below.refl _ _).alloc (Nat.le_refl _) _
        have RQ := Lib.hid (row_new' zx19 #[.int .i64 0, .slice none 0 0] 25)
        rw [hD2] at RQ
        have DLa : Hid (D < D2) := Lib.hid (by have := R2a.out.lt; omega)
        have HWD2 : Hid (w.heap.size ≤ D2) := Lib.hid (by have := W2a.out.size; omega)
        have HZD2 : Hid (z4.heap.size ≤ D2) := Lib.hid (by have := Y2a.out.size; omega)
        have NE : Hid (ga2 ≠ D2) := Lib.hid (by have := O2a.out.lt; omega)
        obtain ⟨zx22, hxb⟩ : ∃ q, zx19.alloc (.cells #[.int .i64 0, .slice none 0 0] 25) = q := ⟨_, rfl⟩
        rw [hxb] at hbx RQ
        rw [hD2, hxb]
        have zhq23 : Below zx19.heap.size zx19 zx22 := hbx
        have zR_24 := Lib.hid (Row.go R2a.out zhq23)
        have zY_25 := Lib.hid (bel_to Y2a.out zhq23)
        have zO_26 := Lib.hid (Cat.to O2a.out zhq23)
        have zBB_27 := Lib.hid (Nat.le_trans S2a.out (Below.size zhq23))
        have zHB_28 : Hid (Below w.heap.size w zx22) := Lib.hid (W2a.out.trans (zhq23.mono W2a.out.size))
        clear zhq23
        clear hbx hxb hD2
        have zhS29 : (fun w' : World => w'.cell? ⟨D, 1, none⟩ = some (.slice (some ⟨b1, o1, none⟩) c k1)) zx22 := zR_24.out.cell 1
        refine HzK21.out _ _ zhS29 fun _ => ?_
        try simp only [Act.put, List.setIfInBounds_toArray, List.set_cons_zero, List.set_cons_succ]
        refine wpAnyH_ready (rs := [10]) (by kernel_rfl) (by simp) ?_
        refine AllReadyH.cons rfl (fun zK30 hzK30 => ?_) AllReadyH.nil
        have HzK30 := Lib.hid hzK30
        clear hzK30
        rw [if_pos (by rfl)]
        have cc := (show _ = some _ from RQ.out.cell 0)
        have ff := RQ.out.frozen 0
        have cd := (show _ = some _ from RQ.out.cell 1)
        have fg := RQ.out.frozen 1
        go_simp
        clear cc ff cd fg
        have FB := Lib.hid ((zHB_28.out.setCell (p := ⟨D2, 0, none⟩) HWD2.out (.int .i64 (v : Int))).setCell (p := ⟨D2, 1, none⟩) HWD2.out (.slice (some ⟨ga2, 0, none⟩) (c + c) qa2))
        have FY := Lib.hid ((zY_25.out.setCell (p := ⟨D2, 0, none⟩) HZD2.out (.int .i64 (v : Int))).setCell (p := ⟨D2, 1, none⟩) HZD2.out (.slice (some ⟨ga2, 0, none⟩) (c + c) qa2))
        have FR := Lib.hid ((zR_24.out.oth (k := D2) (by have := DLa.out; omega) 0 (.int .i64 (v : Int))).oth (k := D2) (by have := DLa.out; omega) 1 (.slice (some ⟨ga2, 0, none⟩) (c + c) qa2))
        have FQ := Lib.hid ((RQ.out.store 0 (.int .i64 (v : Int))).store 1 (.slice (some ⟨ga2, 0, none⟩) (c + c) qa2))
        have FO := Lib.hid ((zO_26.out.oth (p := ⟨D2, 0, none⟩) NE.out (.int .i64 (v : Int))).oth (p := ⟨D2, 1, none⟩) NE.out (.slice (some ⟨ga2, 0, none⟩) (c + c) qa2))
        obtain ⟨Va, hV⟩ : ∃ V, ((zx22.setCell ⟨D2, 0, none⟩ (.int .i64 (v : Int))).setCell ⟨D2, 1, none⟩ (.slice (some ⟨ga2, 0, none⟩) (c + c) qa2)) = V := ⟨_, rfl⟩
        rw [hV] at FB FY FR FQ FO ⊢
        clear hV
        have FBa := FB
        have FYa := FY
        have FRa := FR
        have FQa := FQ
        have FOa := FO
        clear FB FY FR FQ FO
        have zhS31 : (fun w' : World => w'.cell? ⟨D, 1, none⟩ = some (.slice (some ⟨b1, o1, none⟩) c k1)) Va := FRa.out.cell 1
        refine HzK30.out _ _ zhS31 fun _ => ?_
        refine wpAnyH_done (by kernel_rfl) ?_ _
        have BT := Lib.hid (bal_twice BAL.out (by rw [LN.out]; have := CC.out; omega))
        have GT : Hid (Gs Va (.slice (some ⟨ga2, 0, none⟩) (c + c) qa2) (L ++ L)) := Lib.hid (by have h := FOa.out; rw [List.nil_append] at h; exact h.gs (by rw [List.length_append, UL.out]) (by rw [List.length_append, LN.out]) (twice_rows UL.out LN.out (UN.out _ FYa.out)))
        have CK2 : Hid (Calls Tryd.prog 16 #[.agg #[.int .i64 (v : Int), .slice (some ⟨ga2, 0, none⟩) (c + c) qa2]] Va (bel (.tuple #[.int .i64 ((2 * r : Nat) : Int), .int .i64 ((2 * l : Nat) : Int), .int .i64 0]) Va)) := Lib.hid (check_bal BT.out _ Va GT.out)
        have e0 := (show _ = some _ from FQa.out.cell 0)
        have e1 := (show _ = some _ from FQa.out.cell 1)
        clear BT GT
        go_wp2_with fail
        refine CK2.out.mono ?_
        rintro e zx33 ⟨rfl, zhb32⟩
        have zhq34 : Below Va.heap.size Va zx33 := zhb32
        have zR_35 := Lib.hid (Row.go FRa.out zhq34)
        have zY_36 := Lib.hid (bel_to FYa.out zhq34)
        have zHB_37 : Hid (Below w.heap.size w zx33) := Lib.hid (FBa.out.trans (zhq34.mono FBa.out.size))
        clear zhq34
        clear zhb32 e0 e1 CK2
        have e1 := (show _ = some _ from zR_35.out.cell 1)
        obtain ⟨i, hi⟩ : ∃ i, u % c = i := ⟨_, rfl⟩
        have ic : i < c := by rw [← hi]; exact Nat.mod_lt _ CC.out.2
        have ei : (u : Int).tmod (c : Int) = (i : Int) := by rw [← hi]; exact (Int.ofNat_tmod u c).symm
        have ei' : (u : Int) % (c : Int) = (i : Int) := by rw [← hi]; rfl
        have vi : IntKind.i64.wrap (i : Int) = (i : Int) := by have := CC.out; rw [IntKind.wrap_i64]; omega
        have vu : IntKind.i64.wrap (u : Int) = (u : Int) := by rw [IntKind.wrap_i64]; omega
        have vi' : wrap64 (i : Int) = (i : Int) := by have := CC.out; rw [IntWalk.wrap64_in _ ⟨by omega, by omega⟩]
        have cJ : ¬ (c : Int) = 0 := by have := CC.out; omega
        clear hi
        go_wp2_with fail
        clear e1 ei ei' vi vu vi' cJ
        obtain ⟨j, hj⟩ : ∃ j, i + 1 = j := ⟨_, rfl⟩
        have ej : (i : Int) + 1 = (j : Int) := by omega
        have vj : IntKind.i64.wrap (j : Int) = (j : Int) := by have := CC.out; rw [IntKind.wrap_i64]; omega
        have JL := Lib.hid hj
        obtain ⟨o2, k2', SLF, ho2⟩ := slice_from (b := b1) (o := o1) (n := c) (c := k1) (i := j) (by omega) ck1
        obtain ⟨m2, hm2⟩ : ∃ m, c - j = m := ⟨_, rfl⟩
        rw [hm2] at SLF
        have M2 := Lib.hid hm2
        have O2 := Lib.hid ho2
        have SF := Lib.hid SLF
        have UTL : Hid ((us.take i).length = i) := Lib.hid (by rw [List.length_take, UL.out]; omega)
        have UDL : Hid ((us.drop j).length = m2) := Lib.hid (by rw [List.length_drop, UL.out, M2.out])
        have UTC := Lib.hid (show ∀ W, Below z4.heap.size z4 W → ∀ q, q < i → W.cell? ⟨b1, o1 + q, none⟩ = some ((us.take i).getD q undef) from fun W hW q hq => by rw [UC.out W hW q (by omega), List.getD_eq_getElem?_getD, List.getD_eq_getElem?_getD, List.getElem?_take_of_lt hq])
        have UDC := Lib.hid (show ∀ W, Below z4.heap.size z4 W → ∀ q, q < m2 → W.cell? ⟨b1, o2 + q, none⟩ = some ((us.drop j).getD q undef) from fun W hW q hq => by have h := UC.out W hW (j + q) (by have := M2.out; omega); rw [O2.out (by have := M2.out; omega), List.getD_eq_getElem?_getD, List.getElem?_drop, ← List.getD_eq_getElem?_getD, Nat.add_assoc]; exact h)
        have UTO := Lib.hid (show ∀ x ∈ us.take i, x.oneCell' = true from fun x hx => UO.out x (List.mem_of_mem_take hx))
        have UDO := Lib.hid (show ∀ x ∈ us.drop j, x.oneCell' = true from fun x hx => UO.out x (List.mem_of_mem_drop hx))
        have IC := Lib.hid ic
        have iI : (i : Int) ≤ (k1 : Int) := by omega
        clear SLF hm2 ho2 hj
        refine wp_region_held (P := Tryd.prog) (S := (fun w' : World => w'.cell? ⟨D, 1, none⟩ = some (.slice (some ⟨b1, o1, none⟩) c k1))) rfl ?_
        change wpAnyH _ _ _ _ _ _ _ _ zx33.drew
        have zhz39 : Below zx33.heap.size zx33 zx33.drew := (Below.refl zx33.heap.size zx33).drew
        generalize zx33.drew = zwz38 at zhz39 ⊢
        have zhq40 : Below zx33.heap.size zx33 zwz38 := zhz39
        have zR_41 := Lib.hid (Row.go zR_35.out zhq40)
        have zY_42 := Lib.hid (bel_to zY_36.out zhq40)
        have zHB_43 : Hid (Below w.heap.size w zwz38) := Lib.hid (zHB_37.out.trans (zhq40.mono zHB_37.out.size))
        clear zhq40
        clear zhz39
        have zhS44 : (fun w' : World => w'.cell? ⟨D, 1, none⟩ = some (.slice (some ⟨b1, o1, none⟩) c k1)) zwz38 := zR_41.out.cell 1
        refine takeD (i := 0) (v := .int .i64 (v : Int)) (some 73) rfl rfl (by kernel_rfl) (by kernel_rfl) (by kernel_rfl) (fun _ _ _ h => h) (Or.inl ⟨by rfl, by rintro w' -; go_simp⟩) zhS44 ?_
        simp only [Act.put, List.setIfInBounds_toArray, List.set_cons_zero, List.set_cons_succ]
        refine takeD (i := 2) (v := .pointer (some ⟨D, 1, none⟩)) (some 75) rfl rfl (by kernel_rfl) (by kernel_rfl) (by kernel_rfl) (fun _ _ _ h => h) (Or.inl ⟨by rfl, by rintro w' -; go_simp⟩) zhS44 ?_
        simp only [Act.put, List.setIfInBounds_toArray, List.set_cons_zero, List.set_cons_succ]
        refine takeD (i := 3) (v := .slice (some ⟨b1, o1, none⟩) c k1) (some 76) rfl rfl (by kernel_rfl) (by kernel_rfl) (by kernel_rfl) (fun _ _ _ h => h) (Or.inl ⟨by rfl, by rintro w' h; have hc := h; go_simp⟩) zhS44 ?_
        simp only [Act.put, List.setIfInBounds_toArray, List.set_cons_zero, List.set_cons_succ]
        refine takeD (i := 4) (v := .int .i64 (i : Int)) (some 77) rfl rfl (by kernel_rfl) (by kernel_rfl) (by kernel_rfl) (fun _ _ _ h => h) (Or.inl ⟨by rfl, by rintro w' -; go_simp⟩) zhS44 ?_
        simp only [Act.put, List.setIfInBounds_toArray, List.set_cons_zero, List.set_cons_succ]
        refine takeD (i := 5) (v := .slice (some ⟨b1, o1, none⟩) i k1) (some 78) rfl rfl (by kernel_rfl) (by kernel_rfl) (by kernel_rfl) (fun _ _ _ h => h) (Or.inl ⟨by rfl, by rintro w' -; go_simp⟩) zhS44 ?_
        simp only [Act.put, List.setIfInBounds_toArray, List.set_cons_zero, List.set_cons_succ]
        refine takeD (i := 7) (v := .pointer (some ⟨D, 1, none⟩)) (some 80) rfl rfl (by kernel_rfl) (by kernel_rfl) (by kernel_rfl) (fun _ _ _ h => h) (Or.inl ⟨by rfl, by rintro w' -; go_simp⟩) zhS44 ?_
        simp only [Act.put, List.setIfInBounds_toArray, List.set_cons_zero, List.set_cons_succ]
        refine takeD (i := 8) (v := .slice (some ⟨b1, o1, none⟩) c k1) (some 81) rfl rfl (by kernel_rfl) (by kernel_rfl) (by kernel_rfl) (fun _ _ _ h => h) (Or.inl ⟨by rfl, by rintro w' h; have hc := h; go_simp⟩) zhS44 ?_
        simp only [Act.put, List.setIfInBounds_toArray, List.set_cons_zero, List.set_cons_succ]
        refine takeD (i := 9) (v := .int .i64 (i : Int)) (some 82) rfl rfl (by kernel_rfl) (by kernel_rfl) (by kernel_rfl) (fun _ _ _ h => h) (Or.inl ⟨by rfl, by rintro w' -; go_simp⟩) zhS44 ?_
        simp only [Act.put, List.setIfInBounds_toArray, List.set_cons_zero, List.set_cons_succ]
        refine takeD (i := 10) (v := .int .i64 (j : Int)) (some 83) rfl rfl (by kernel_rfl) (by kernel_rfl) (by kernel_rfl) (fun _ _ _ h => h) (Or.inl ⟨by rfl, by rintro w' -; go_simp⟩) zhS44 ?_
        simp only [Act.put, List.setIfInBounds_toArray, List.set_cons_zero, List.set_cons_succ]
        refine takeD (i := 11) (v := .slice (some ⟨b1, o2, none⟩) m2 k2') (some 84) rfl rfl (by kernel_rfl) (by kernel_rfl) (by kernel_rfl) (fun _ _ _ h => h) (Or.inl ⟨by rfl, by rintro w' -; have hc := SF.out w'; go_simp⟩) zhS44 ?_
        simp only [Act.put, List.setIfInBounds_toArray, List.set_cons_zero, List.set_cons_succ]
        refine wpAnyH_ready (rs := [1, 14]) (by kernel_rfl) (by simp) ?_
        refine AllReadyH.cons rfl (fun K hK => ?_) (AllReadyH.cons rfl (fun K hK => ?_) AllReadyH.nil)
        · have HzK45 := Lib.hid hK
          clear hK
          rw [if_pos (by rfl)]
          refine wp_build_00 rfl ?_
          obtain ⟨bb, hb0⟩ : ∃ e, zwz38.heap.size = e := ⟨_, rfl⟩
          have hbx : Below zwz38.heap.size zwz38 (zwz38.alloc (.cells #[] 40)) := (Below.refl _ _).alloc (Nat.le_refl _) _
          have CT : Hid (Cat (zwz38.alloc (.cells #[] 40)) bb bb 0 []) := Lib.hid ⟨Nat.le_refl _, #[], by rw [← hb0]; exact row_new' zwz38 #[] 40, rfl, Nat.zero_le _, Nat.le_refl 0, rfl⟩
          have BB : Hid (bb ≤ (zwz38.alloc (.cells #[] 40)).heap.size) := Lib.hid (by rw [World.size_alloc]; omega)
          obtain ⟨zx46, hxb⟩ : ∃ q, zwz38.alloc (.cells #[] 40) = q := ⟨_, rfl⟩
          rw [hxb] at hbx CT BB
          rw [hb0, hxb]
          have HB0 : Hid (z4.heap.size ≤ bb) := Lib.hid (by have := zY_42.out.size; omega)
          have HW0 : Hid (w.heap.size ≤ bb) := Lib.hid (by have := zHB_43.out.size; omega)
          have zhq47 : Below zwz38.heap.size zwz38 zx46 := hbx
          have zR_48 := Lib.hid (Row.go zR_41.out zhq47)
          have zY_49 := Lib.hid (bel_to zY_42.out zhq47)
          have zHB_50 : Hid (Below w.heap.size w zx46) := Lib.hid (zHB_43.out.trans (zhq47.mono zHB_43.out.size))
          clear zhq47
          clear hbx hxb hb0
          have zhS51 : (fun w' : World => w'.cell? ⟨D, 1, none⟩ = some (.slice (some ⟨b1, o1, none⟩) c k1)) zx46 := zR_48.out.cell 1
          refine HzK45.out _ _ zhS51 fun _ => ?_
          try simp only [Act.put, List.setIfInBounds_toArray, List.set_cons_zero, List.set_cons_succ]
          refine wpAnyH_ready (rs := [6, 14]) (by kernel_rfl) (by simp) ?_
          refine AllReadyH.cons rfl (fun K hK => ?_) (AllReadyH.cons rfl (fun K hK => ?_) AllReadyH.nil)
          · have HzK52 := Lib.hid hK
            clear hK
            rw [if_pos (by rfl)]
            refine wp_cat (.tmp 74) (.tmp 78) rfl bb bb (0) 0 ([]) b1 (o1) (i) k1 (us.take i) (i) (by have := JL.out; have := M2.out; have := IC.out; omega) rfl CT.out rfl rfl UTL.out (fun q hq => UTC.out _ zY_49.out q hq) UTO.out (by have := CC.out; omega) BB.out ?_
            intro gb1 qb1 zx53 ho hg hat
            have hbo := CT.out.1
            have Y1b : Hid (Below z4.heap.size z4 zx53) := Lib.hid (zY_49.out.grown hg zY_49.out.size (fun j e => by cases e; have := HB0.out; omega))
            have W1b : Hid (Below w.heap.size w zx53) := Lib.hid (zHB_50.out.grown hg zHB_50.out.size (fun j e => by cases e; have := HW0.out; omega))
            have R1b := Lib.hid (zR_48.out.gr hg (fun e => by have e2 := Option.some.inj e; have := (show D < z4.heap.size from R4.out.lt); have := HB0.out; omega))
            have S1b : Hid (bb ≤ zx53.heap.size) := Lib.hid (Nat.le_trans BB.out hg.size)
            have O1b := Lib.hid ho
            clear ho hg hat hbo
            have LEN1b : Hid ((([]) ++ (us.take i)).length = i) := Lib.hid (by rw [List.length_append, List.length_nil, show (us.take i).length = i from UTL.out] <;> (have := JL.out; have := M2.out; have := IC.out; omega))
            have zhS54 : (fun w' : World => w'.cell? ⟨D, 1, none⟩ = some (.slice (some ⟨b1, o1, none⟩) c k1)) zx53 := R1b.out.cell 1
            refine HzK52.out _ _ zhS54 fun _ => ?_
            try simp only [Act.put, List.setIfInBounds_toArray, List.set_cons_zero, List.set_cons_succ]
            refine wpAnyH_ready (rs := [12, 14]) (by kernel_rfl) (by simp) ?_
            refine AllReadyH.cons rfl (fun K hK => ?_) (AllReadyH.cons rfl (fun K hK => ?_) AllReadyH.nil)
            · have HzK55 := Lib.hid hK
              clear hK
              rw [if_pos (by rfl)]
              refine wp_cat (.tmp 79) (.tmp 84) rfl bb gb1 (i) qb1 (([]) ++ (us.take i)) b1 (o2) (m2) k2' (us.drop j) (c - 1) (by have := JL.out; have := M2.out; have := IC.out; omega) rfl O1b.out LEN1b.out rfl UDL.out (fun q hq => UDC.out _ Y1b.out q hq) UDO.out (by have := CC.out; omega) S1b.out ?_
              intro gb2 qb2 zx56 ho hg hat
              have hbo := O1b.out.1
              have Y2b : Hid (Below z4.heap.size z4 zx56) := Lib.hid (Y1b.out.grown hg Y1b.out.size (fun j e => by cases e; have := HB0.out; omega))
              have W2b : Hid (Below w.heap.size w zx56) := Lib.hid (W1b.out.grown hg W1b.out.size (fun j e => by cases e; have := HW0.out; omega))
              have R2b := Lib.hid (R1b.out.gr hg (fun e => by have e2 := Option.some.inj e; have := (show D < z4.heap.size from R4.out.lt); have := HB0.out; omega))
              have S2b : Hid (bb ≤ zx56.heap.size) := Lib.hid (Nat.le_trans S1b.out hg.size)
              have O2b := Lib.hid ho
              clear ho hg hat hbo
              have LEN2b : Hid (((([]) ++ (us.take i)) ++ (us.drop j)).length = c - 1) := Lib.hid (by rw [List.length_append, LEN1b.out, show (us.drop j).length = m2 from UDL.out] <;> (have := JL.out; have := M2.out; have := IC.out; omega))
              have zhS57 : (fun w' : World => w'.cell? ⟨D, 1, none⟩ = some (.slice (some ⟨b1, o1, none⟩) c k1)) zx56 := R2b.out.cell 1
              refine HzK55.out _ _ zhS57 fun _ => ?_
              try simp only [Act.put, List.setIfInBounds_toArray, List.set_cons_zero, List.set_cons_succ]
              refine takeD (i := 13) (v := .agg #[.int .i64 (v : Int), .slice (some ⟨gb2, 0, none⟩) (c - 1) qb2]) (some 86) rfl rfl (by kernel_rfl) (by kernel_rfl) (by kernel_rfl) (fun _ _ _ h => h) (Or.inl ⟨by rfl, by rintro w' -; go_simp⟩) zhS57 ?_
              simp only [Act.put, List.setIfInBounds_toArray, List.set_cons_zero, List.set_cons_succ]
              refine wpAnyH_ready (rs := [14]) (by kernel_rfl) (by simp) ?_
              refine AllReadyH.cons rfl (fun zK58 hzK58 => ?_) AllReadyH.nil
              have HzK58 := Lib.hid hzK58
              clear hzK58
              rw [if_pos (by rfl)]
              refine wp_allocD rfl ?_
              obtain ⟨D3, hD3⟩ : ∃ e, zx56.heap.size = e := ⟨_, rfl⟩
              have hbx : Below zx56.heap.size zx56 (zx56.alloc (.cells #[.int .i64 0, .slice none 0 0] 25)) := (Below.refl _ _).alloc (Nat.le_refl _) _
              have RQ := Lib.hid (row_new' zx56 #[.int .i64 0, .slice none 0 0] 25)
              rw [hD3] at RQ
              have DLb : Hid (D < D3) := Lib.hid (by have := R2b.out.lt; omega)
              have HWD3 : Hid (w.heap.size ≤ D3) := Lib.hid (by have := W2b.out.size; omega)
              have HZD3 : Hid (z4.heap.size ≤ D3) := Lib.hid (by have := Y2b.out.size; omega)
              have NE : Hid (gb2 ≠ D3) := Lib.hid (by have := O2b.out.lt; omega)
              obtain ⟨zx59, hxb⟩ : ∃ q, zx56.alloc (.cells #[.int .i64 0, .slice none 0 0] 25) = q := ⟨_, rfl⟩
              rw [hxb] at hbx RQ
              rw [hD3, hxb]
              have zhq60 : Below zx56.heap.size zx56 zx59 := hbx
              have zR_61 := Lib.hid (Row.go R2b.out zhq60)
              have zY_62 := Lib.hid (bel_to Y2b.out zhq60)
              have zO_63 := Lib.hid (Cat.to O2b.out zhq60)
              have zBB_64 := Lib.hid (Nat.le_trans S2b.out (Below.size zhq60))
              have zHB_65 : Hid (Below w.heap.size w zx59) := Lib.hid (W2b.out.trans (zhq60.mono W2b.out.size))
              clear zhq60
              clear hbx hxb hD3
              have zhS66 : (fun w' : World => w'.cell? ⟨D, 1, none⟩ = some (.slice (some ⟨b1, o1, none⟩) c k1)) zx59 := zR_61.out.cell 1
              refine HzK58.out _ _ zhS66 fun _ => ?_
              try simp only [Act.put, List.setIfInBounds_toArray, List.set_cons_zero, List.set_cons_succ]
              refine wpAnyH_ready (rs := [15]) (by kernel_rfl) (by simp) ?_
              refine AllReadyH.cons rfl (fun zK67 hzK67 => ?_) AllReadyH.nil
              have HzK67 := Lib.hid hzK67
              clear hzK67
              rw [if_pos (by rfl)]
              have cc := (show _ = some _ from RQ.out.cell 0)
              have ff := RQ.out.frozen 0
              have cd := (show _ = some _ from RQ.out.cell 1)
              have fg := RQ.out.frozen 1
              go_simp
              clear cc ff cd fg
              have FB := Lib.hid ((zHB_65.out.setCell (p := ⟨D3, 0, none⟩) HWD3.out (.int .i64 (v : Int))).setCell (p := ⟨D3, 1, none⟩) HWD3.out (.slice (some ⟨gb2, 0, none⟩) (c - 1) qb2))
              have FY := Lib.hid ((zY_62.out.setCell (p := ⟨D3, 0, none⟩) HZD3.out (.int .i64 (v : Int))).setCell (p := ⟨D3, 1, none⟩) HZD3.out (.slice (some ⟨gb2, 0, none⟩) (c - 1) qb2))
              have FR := Lib.hid ((zR_61.out.oth (k := D3) (by have := DLb.out; omega) 0 (.int .i64 (v : Int))).oth (k := D3) (by have := DLb.out; omega) 1 (.slice (some ⟨gb2, 0, none⟩) (c - 1) qb2))
              have FQ := Lib.hid ((RQ.out.store 0 (.int .i64 (v : Int))).store 1 (.slice (some ⟨gb2, 0, none⟩) (c - 1) qb2))
              have FO := Lib.hid ((zO_63.out.oth (p := ⟨D3, 0, none⟩) NE.out (.int .i64 (v : Int))).oth (p := ⟨D3, 1, none⟩) NE.out (.slice (some ⟨gb2, 0, none⟩) (c - 1) qb2))
              obtain ⟨Vb, hV⟩ : ∃ V, ((zx59.setCell ⟨D3, 0, none⟩ (.int .i64 (v : Int))).setCell ⟨D3, 1, none⟩ (.slice (some ⟨gb2, 0, none⟩) (c - 1) qb2)) = V := ⟨_, rfl⟩
              rw [hV] at FB FY FR FQ FO ⊢
              clear hV
              have FBb := FB
              have FYb := FY
              have FRb := FR
              have FQb := FQ
              have FOb := FO
              clear FB FY FR FQ FO
              have zhS68 : (fun w' : World => w'.cell? ⟨D, 1, none⟩ = some (.slice (some ⟨b1, o1, none⟩) c k1)) Vb := FRb.out.cell 1
              refine HzK67.out _ _ zhS68 fun _ => ?_
              refine wpAnyH_done (by kernel_rfl) ?_ _
              have GT : Hid (Gs Vb (.slice (some ⟨gb2, 0, none⟩) (c - 1) qb2) (L.take i ++ L.drop (i + 1))) := Lib.hid (by have h := FOb.out; rw [List.nil_append, ← JL.out] at h; exact h.gs (by rw [List.length_append, List.length_take, List.length_drop, UL.out]; have := IC.out; omega) (by rw [List.length_append, List.length_take, List.length_drop, LN.out]; have := IC.out; omega) (less_rows IC.out UL.out LN.out (UN.out _ FYb.out)))
              have CK3 : Hid (Calls Tryd.prog 16 #[.agg #[.int .i64 (v : Int), .slice (some ⟨gb2, 0, none⟩) (c - 1) qb2]] Vb (bel (.tuple #[.int .i64 0, .int .i64 0, .int .i64 5]) Vb)) := Lib.hid (check_nobal (less_nobal BAL.out (by rw [LN.out]; exact IC.out) kv L1.out) _ Vb GT.out)
              have e0 := (show _ = some _ from FQb.out.cell 0)
              have e1 := (show _ = some _ from FQb.out.cell 1)
              clear GT
              go_wp2_with fail
              refine CK3.out.mono ?_
              rintro e zx70 ⟨rfl, zhb69⟩
              have zhq71 : Below Vb.heap.size Vb zx70 := zhb69
              have zR_72 := Lib.hid (Row.go FRb.out zhq71)
              have zY_73 := Lib.hid (bel_to FYb.out zhq71)
              have zHB_74 : Hid (Below w.heap.size w zx70) := Lib.hid (FBb.out.trans (zhq71.mono FBb.out.size))
              clear zhq71
              clear zhb69 e0 e1 CK3
              have w1 : IntKind.i64.wrap (2 * (r : Int)) = ((2 * r : Nat) : Int) := by rw [IntKind.wrap_i64]; omega
              have w2 : IntKind.i64.wrap (2 * (l : Int)) = ((2 * l : Nat) : Int) := by rw [IntKind.wrap_i64]; omega
              have w3 : wrap64 (2 * (r : Int)) = ((2 * r : Nat) : Int) := by rw [IntWalk.wrap64_in _ ⟨by omega, by omega⟩]; omega
              have w4 : wrap64 (2 * (l : Int)) = ((2 * l : Nat) : Int) := by rw [IntWalk.wrap64_in _ ⟨by omega, by omega⟩]; omega
              go_wp2_with fail
              go_ret
              exact ⟨rfl, zHB_74.out⟩
            · have HzK55 := Lib.hid hK
              clear hK
              rw [if_pos (by rfl)]
              refine wp_allocD rfl ?_
              obtain ⟨D3, hD3⟩ : ∃ e, zx53.heap.size = e := ⟨_, rfl⟩
              have hbx : Below zx53.heap.size zx53 (zx53.alloc (.cells #[.int .i64 0, .slice none 0 0] 25)) := (Below.refl _ _).alloc (Nat.le_refl _) _
              have RQ := Lib.hid (row_new' zx53 #[.int .i64 0, .slice none 0 0] 25)
              rw [hD3] at RQ
              have DLb : Hid (D < D3) := Lib.hid (by have := R1b.out.lt; omega)
              have HWD3 : Hid (w.heap.size ≤ D3) := Lib.hid (by have := W1b.out.size; omega)
              have HZD3 : Hid (z4.heap.size ≤ D3) := Lib.hid (by have := Y1b.out.size; omega)
              have NE : Hid (gb1 ≠ D3) := Lib.hid (by have := O1b.out.lt; omega)
              obtain ⟨zx56, hxb⟩ : ∃ q, zx53.alloc (.cells #[.int .i64 0, .slice none 0 0] 25) = q := ⟨_, rfl⟩
              rw [hxb] at hbx RQ
              rw [hD3, hxb]
              have zhq57 : Below zx53.heap.size zx53 zx56 := hbx
              have zR_58 := Lib.hid (Row.go R1b.out zhq57)
              have zY_59 := Lib.hid (bel_to Y1b.out zhq57)
              have zO_60 := Lib.hid (Cat.to O1b.out zhq57)
              have zBB_61 := Lib.hid (Nat.le_trans S1b.out (Below.size zhq57))
              have zHB_62 : Hid (Below w.heap.size w zx56) := Lib.hid (W1b.out.trans (zhq57.mono W1b.out.size))
              clear zhq57
              clear hbx hxb hD3
              have zhS63 : (fun w' : World => w'.cell? ⟨D, 1, none⟩ = some (.slice (some ⟨b1, o1, none⟩) c k1)) zx56 := zR_58.out.cell 1
              refine HzK55.out _ _ zhS63 fun _ => ?_
              try simp only [Act.put, List.setIfInBounds_toArray, List.set_cons_zero, List.set_cons_succ]
              refine wpAnyH_ready (rs := [12]) (by kernel_rfl) (by simp) ?_
              refine AllReadyH.cons rfl (fun zK64 hzK64 => ?_) AllReadyH.nil
              have HzK64 := Lib.hid hzK64
              clear hzK64
              rw [if_pos (by rfl)]
              refine wp_cat (.tmp 79) (.tmp 84) rfl bb gb1 (i) qb1 (([]) ++ (us.take i)) b1 (o2) (m2) k2' (us.drop j) (c - 1) (by have := JL.out; have := M2.out; have := IC.out; omega) rfl zO_60.out LEN1b.out rfl UDL.out (fun q hq => UDC.out _ zY_59.out q hq) UDO.out (by have := CC.out; omega) zBB_61.out ?_
              intro gb2 qb2 zx65 ho hg hat
              have hbo := zO_60.out.1
              have Y2b : Hid (Below z4.heap.size z4 zx65) := Lib.hid (zY_59.out.grown hg zY_59.out.size (fun j e => by cases e; have := HB0.out; omega))
              have W2b : Hid (Below w.heap.size w zx65) := Lib.hid (zHB_62.out.grown hg zHB_62.out.size (fun j e => by cases e; have := HW0.out; omega))
              have R2b := Lib.hid (zR_58.out.gr hg (fun e => by have e2 := Option.some.inj e; have := (show D < z4.heap.size from R4.out.lt); have := HB0.out; omega))
              have S2b : Hid (bb ≤ zx65.heap.size) := Lib.hid (Nat.le_trans zBB_61.out hg.size)
              have O2b := Lib.hid ho
              have Q2b := Lib.hid (RQ.out.gr hg (fun e => NE.out (Option.some.inj e).symm))
              have NE2 : Hid (gb2 ≠ D3) := Lib.hid (by have h1 := RQ.out.lt; have h2 := NE.out; rcases hat with h | h; exact h ▸ h2; omega)
              clear ho hg hat hbo
              have LEN2b : Hid (((([]) ++ (us.take i)) ++ (us.drop j)).length = c - 1) := Lib.hid (by rw [List.length_append, LEN1b.out, show (us.drop j).length = m2 from UDL.out] <;> (have := JL.out; have := M2.out; have := IC.out; omega))
              have zhS66 : (fun w' : World => w'.cell? ⟨D, 1, none⟩ = some (.slice (some ⟨b1, o1, none⟩) c k1)) zx65 := R2b.out.cell 1
              refine HzK64.out _ _ zhS66 fun _ => ?_
              try simp only [Act.put, List.setIfInBounds_toArray, List.set_cons_zero, List.set_cons_succ]
              refine takeD (i := 13) (v := .agg #[.int .i64 (v : Int), .slice (some ⟨gb2, 0, none⟩) (c - 1) qb2]) (some 86) rfl rfl (by kernel_rfl) (by kernel_rfl) (by kernel_rfl) (fun _ _ _ h => h) (Or.inl ⟨by rfl, by rintro w' -; go_simp⟩) zhS66 ?_
              simp only [Act.put, List.setIfInBounds_toArray, List.set_cons_zero, List.set_cons_succ]
              refine wpAnyH_ready (rs := [15]) (by kernel_rfl) (by simp) ?_
              refine AllReadyH.cons rfl (fun zK67 hzK67 => ?_) AllReadyH.nil
              have HzK67 := Lib.hid hzK67
              clear hzK67
              rw [if_pos (by rfl)]
              have cc := (show _ = some _ from Q2b.out.cell 0)
              have ff := Q2b.out.frozen 0
              have cd := (show _ = some _ from Q2b.out.cell 1)
              have fg := Q2b.out.frozen 1
              go_simp
              clear cc ff cd fg
              have FB := Lib.hid ((W2b.out.setCell (p := ⟨D3, 0, none⟩) HWD3.out (.int .i64 (v : Int))).setCell (p := ⟨D3, 1, none⟩) HWD3.out (.slice (some ⟨gb2, 0, none⟩) (c - 1) qb2))
              have FY := Lib.hid ((Y2b.out.setCell (p := ⟨D3, 0, none⟩) HZD3.out (.int .i64 (v : Int))).setCell (p := ⟨D3, 1, none⟩) HZD3.out (.slice (some ⟨gb2, 0, none⟩) (c - 1) qb2))
              have FR := Lib.hid ((R2b.out.oth (k := D3) (by have := DLb.out; omega) 0 (.int .i64 (v : Int))).oth (k := D3) (by have := DLb.out; omega) 1 (.slice (some ⟨gb2, 0, none⟩) (c - 1) qb2))
              have FQ := Lib.hid ((Q2b.out.store 0 (.int .i64 (v : Int))).store 1 (.slice (some ⟨gb2, 0, none⟩) (c - 1) qb2))
              have FO := Lib.hid ((O2b.out.oth (p := ⟨D3, 0, none⟩) NE2.out (.int .i64 (v : Int))).oth (p := ⟨D3, 1, none⟩) NE2.out (.slice (some ⟨gb2, 0, none⟩) (c - 1) qb2))
              obtain ⟨Vb, hV⟩ : ∃ V, ((zx65.setCell ⟨D3, 0, none⟩ (.int .i64 (v : Int))).setCell ⟨D3, 1, none⟩ (.slice (some ⟨gb2, 0, none⟩) (c - 1) qb2)) = V := ⟨_, rfl⟩
              rw [hV] at FB FY FR FQ FO ⊢
              clear hV
              have FBb := FB
              have FYb := FY
              have FRb := FR
              have FQb := FQ
              have FOb := FO
              clear FB FY FR FQ FO
              have zhS68 : (fun w' : World => w'.cell? ⟨D, 1, none⟩ = some (.slice (some ⟨b1, o1, none⟩) c k1)) Vb := FRb.out.cell 1
              refine HzK67.out _ _ zhS68 fun _ => ?_
              refine wpAnyH_done (by kernel_rfl) ?_ _
              have GT : Hid (Gs Vb (.slice (some ⟨gb2, 0, none⟩) (c - 1) qb2) (L.take i ++ L.drop (i + 1))) := Lib.hid (by have h := FOb.out; rw [List.nil_append, ← JL.out] at h; exact h.gs (by rw [List.length_append, List.length_take, List.length_drop, UL.out]; have := IC.out; omega) (by rw [List.length_append, List.length_take, List.length_drop, LN.out]; have := IC.out; omega) (less_rows IC.out UL.out LN.out (UN.out _ FYb.out)))
              have CK3 : Hid (Calls Tryd.prog 16 #[.agg #[.int .i64 (v : Int), .slice (some ⟨gb2, 0, none⟩) (c - 1) qb2]] Vb (bel (.tuple #[.int .i64 0, .int .i64 0, .int .i64 5]) Vb)) := Lib.hid (check_nobal (less_nobal BAL.out (by rw [LN.out]; exact IC.out) kv L1.out) _ Vb GT.out)
              have e0 := (show _ = some _ from FQb.out.cell 0)
              have e1 := (show _ = some _ from FQb.out.cell 1)
              clear GT
              go_wp2_with fail
              refine CK3.out.mono ?_
              rintro e zx70 ⟨rfl, zhb69⟩
              have zhq71 : Below Vb.heap.size Vb zx70 := zhb69
              have zR_72 := Lib.hid (Row.go FRb.out zhq71)
              have zY_73 := Lib.hid (bel_to FYb.out zhq71)
              have zHB_74 : Hid (Below w.heap.size w zx70) := Lib.hid (FBb.out.trans (zhq71.mono FBb.out.size))
              clear zhq71
              clear zhb69 e0 e1 CK3
              have w1 : IntKind.i64.wrap (2 * (r : Int)) = ((2 * r : Nat) : Int) := by rw [IntKind.wrap_i64]; omega
              have w2 : IntKind.i64.wrap (2 * (l : Int)) = ((2 * l : Nat) : Int) := by rw [IntKind.wrap_i64]; omega
              have w3 : wrap64 (2 * (r : Int)) = ((2 * r : Nat) : Int) := by rw [IntWalk.wrap64_in _ ⟨by omega, by omega⟩]; omega
              have w4 : wrap64 (2 * (l : Int)) = ((2 * l : Nat) : Int) := by rw [IntWalk.wrap64_in _ ⟨by omega, by omega⟩]; omega
              go_wp2_with fail
              go_ret
              exact ⟨rfl, zHB_74.out⟩
          · have HzK52 := Lib.hid hK
            clear hK
            rw [if_pos (by rfl)]
            refine wp_allocD rfl ?_
            obtain ⟨D3, hD3⟩ : ∃ e, zx46.heap.size = e := ⟨_, rfl⟩
            have hbx : Below zx46.heap.size zx46 (zx46.alloc (.cells #[.int .i64 0, .slice none 0 0] 25)) := (Below.refl _ _).alloc (Nat.le_refl _) _
            have RQ := Lib.hid (row_new' zx46 #[.int .i64 0, .slice none 0 0] 25)
            rw [hD3] at RQ
            have DLb : Hid (D < D3) := Lib.hid (by have := zR_48.out.lt; omega)
            have HWD3 : Hid (w.heap.size ≤ D3) := Lib.hid (by have := zHB_50.out.size; omega)
            have HZD3 : Hid (z4.heap.size ≤ D3) := Lib.hid (by have := zY_49.out.size; omega)
            have NE : Hid (bb ≠ D3) := Lib.hid (by have := CT.out.lt; omega)
            obtain ⟨zx53, hxb⟩ : ∃ q, zx46.alloc (.cells #[.int .i64 0, .slice none 0 0] 25) = q := ⟨_, rfl⟩
            rw [hxb] at hbx RQ
            rw [hD3, hxb]
            have zhq54 : Below zx46.heap.size zx46 zx53 := hbx
            have zR_55 := Lib.hid (Row.go zR_48.out zhq54)
            have zY_56 := Lib.hid (bel_to zY_49.out zhq54)
            have zO_57 := Lib.hid (Cat.to CT.out zhq54)
            have zBB_58 := Lib.hid (Nat.le_trans BB.out (Below.size zhq54))
            have zHB_59 : Hid (Below w.heap.size w zx53) := Lib.hid (zHB_50.out.trans (zhq54.mono zHB_50.out.size))
            clear zhq54
            clear hbx hxb hD3
            have zhS60 : (fun w' : World => w'.cell? ⟨D, 1, none⟩ = some (.slice (some ⟨b1, o1, none⟩) c k1)) zx53 := zR_55.out.cell 1
            refine HzK52.out _ _ zhS60 fun _ => ?_
            try simp only [Act.put, List.setIfInBounds_toArray, List.set_cons_zero, List.set_cons_succ]
            refine wpAnyH_ready (rs := [6]) (by kernel_rfl) (by simp) ?_
            refine AllReadyH.cons rfl (fun zK61 hzK61 => ?_) AllReadyH.nil
            have HzK61 := Lib.hid hzK61
            clear hzK61
            rw [if_pos (by rfl)]
            refine wp_cat (.tmp 74) (.tmp 78) rfl bb bb (0) 0 ([]) b1 (o1) (i) k1 (us.take i) (i) (by have := JL.out; have := M2.out; have := IC.out; omega) rfl zO_57.out rfl rfl UTL.out (fun q hq => UTC.out _ zY_56.out q hq) UTO.out (by have := CC.out; omega) zBB_58.out ?_
            intro gb1 qb1 zx62 ho hg hat
            have hbo := zO_57.out.1
            have Y1b : Hid (Below z4.heap.size z4 zx62) := Lib.hid (zY_56.out.grown hg zY_56.out.size (fun j e => by cases e; have := HB0.out; omega))
            have W1b : Hid (Below w.heap.size w zx62) := Lib.hid (zHB_59.out.grown hg zHB_59.out.size (fun j e => by cases e; have := HW0.out; omega))
            have R1b := Lib.hid (zR_55.out.gr hg (fun e => by have e2 := Option.some.inj e; have := (show D < z4.heap.size from R4.out.lt); have := HB0.out; omega))
            have S1b : Hid (bb ≤ zx62.heap.size) := Lib.hid (Nat.le_trans zBB_58.out hg.size)
            have O1b := Lib.hid ho
            have Q1b := Lib.hid (RQ.out.gr hg (fun e => NE.out (Option.some.inj e).symm))
            have NE1 : Hid (gb1 ≠ D3) := Lib.hid (by have h1 := RQ.out.lt; have h2 := NE.out; rcases hat with h | h; exact h ▸ h2; omega)
            clear ho hg hat hbo
            have LEN1b : Hid ((([]) ++ (us.take i)).length = i) := Lib.hid (by rw [List.length_append, List.length_nil, show (us.take i).length = i from UTL.out] <;> (have := JL.out; have := M2.out; have := IC.out; omega))
            have zhS63 : (fun w' : World => w'.cell? ⟨D, 1, none⟩ = some (.slice (some ⟨b1, o1, none⟩) c k1)) zx62 := R1b.out.cell 1
            refine HzK61.out _ _ zhS63 fun _ => ?_
            try simp only [Act.put, List.setIfInBounds_toArray, List.set_cons_zero, List.set_cons_succ]
            refine wpAnyH_ready (rs := [12]) (by kernel_rfl) (by simp) ?_
            refine AllReadyH.cons rfl (fun zK64 hzK64 => ?_) AllReadyH.nil
            have HzK64 := Lib.hid hzK64
            clear hzK64
            rw [if_pos (by rfl)]
            refine wp_cat (.tmp 79) (.tmp 84) rfl bb gb1 (i) qb1 (([]) ++ (us.take i)) b1 (o2) (m2) k2' (us.drop j) (c - 1) (by have := JL.out; have := M2.out; have := IC.out; omega) rfl O1b.out LEN1b.out rfl UDL.out (fun q hq => UDC.out _ Y1b.out q hq) UDO.out (by have := CC.out; omega) S1b.out ?_
            intro gb2 qb2 zx65 ho hg hat
            have hbo := O1b.out.1
            have Y2b : Hid (Below z4.heap.size z4 zx65) := Lib.hid (Y1b.out.grown hg Y1b.out.size (fun j e => by cases e; have := HB0.out; omega))
            have W2b : Hid (Below w.heap.size w zx65) := Lib.hid (W1b.out.grown hg W1b.out.size (fun j e => by cases e; have := HW0.out; omega))
            have R2b := Lib.hid (R1b.out.gr hg (fun e => by have e2 := Option.some.inj e; have := (show D < z4.heap.size from R4.out.lt); have := HB0.out; omega))
            have S2b : Hid (bb ≤ zx65.heap.size) := Lib.hid (Nat.le_trans S1b.out hg.size)
            have O2b := Lib.hid ho
            have Q2b := Lib.hid (Q1b.out.gr hg (fun e => NE1.out (Option.some.inj e).symm))
            have NE2 : Hid (gb2 ≠ D3) := Lib.hid (by have h1 := Q1b.out.lt; have h2 := NE1.out; rcases hat with h | h; exact h ▸ h2; omega)
            clear ho hg hat hbo
            have LEN2b : Hid (((([]) ++ (us.take i)) ++ (us.drop j)).length = c - 1) := Lib.hid (by rw [List.length_append, LEN1b.out, show (us.drop j).length = m2 from UDL.out] <;> (have := JL.out; have := M2.out; have := IC.out; omega))
            have zhS66 : (fun w' : World => w'.cell? ⟨D, 1, none⟩ = some (.slice (some ⟨b1, o1, none⟩) c k1)) zx65 := R2b.out.cell 1
            refine HzK64.out _ _ zhS66 fun _ => ?_
            try simp only [Act.put, List.setIfInBounds_toArray, List.set_cons_zero, List.set_cons_succ]
            refine takeD (i := 13) (v := .agg #[.int .i64 (v : Int), .slice (some ⟨gb2, 0, none⟩) (c - 1) qb2]) (some 86) rfl rfl (by kernel_rfl) (by kernel_rfl) (by kernel_rfl) (fun _ _ _ h => h) (Or.inl ⟨by rfl, by rintro w' -; go_simp⟩) zhS66 ?_
            simp only [Act.put, List.setIfInBounds_toArray, List.set_cons_zero, List.set_cons_succ]
            refine wpAnyH_ready (rs := [15]) (by kernel_rfl) (by simp) ?_
            refine AllReadyH.cons rfl (fun zK67 hzK67 => ?_) AllReadyH.nil
            have HzK67 := Lib.hid hzK67
            clear hzK67
            rw [if_pos (by rfl)]
            have cc := (show _ = some _ from Q2b.out.cell 0)
            have ff := Q2b.out.frozen 0
            have cd := (show _ = some _ from Q2b.out.cell 1)
            have fg := Q2b.out.frozen 1
            go_simp
            clear cc ff cd fg
            have FB := Lib.hid ((W2b.out.setCell (p := ⟨D3, 0, none⟩) HWD3.out (.int .i64 (v : Int))).setCell (p := ⟨D3, 1, none⟩) HWD3.out (.slice (some ⟨gb2, 0, none⟩) (c - 1) qb2))
            have FY := Lib.hid ((Y2b.out.setCell (p := ⟨D3, 0, none⟩) HZD3.out (.int .i64 (v : Int))).setCell (p := ⟨D3, 1, none⟩) HZD3.out (.slice (some ⟨gb2, 0, none⟩) (c - 1) qb2))
            have FR := Lib.hid ((R2b.out.oth (k := D3) (by have := DLb.out; omega) 0 (.int .i64 (v : Int))).oth (k := D3) (by have := DLb.out; omega) 1 (.slice (some ⟨gb2, 0, none⟩) (c - 1) qb2))
            have FQ := Lib.hid ((Q2b.out.store 0 (.int .i64 (v : Int))).store 1 (.slice (some ⟨gb2, 0, none⟩) (c - 1) qb2))
            have FO := Lib.hid ((O2b.out.oth (p := ⟨D3, 0, none⟩) NE2.out (.int .i64 (v : Int))).oth (p := ⟨D3, 1, none⟩) NE2.out (.slice (some ⟨gb2, 0, none⟩) (c - 1) qb2))
            obtain ⟨Vb, hV⟩ : ∃ V, ((zx65.setCell ⟨D3, 0, none⟩ (.int .i64 (v : Int))).setCell ⟨D3, 1, none⟩ (.slice (some ⟨gb2, 0, none⟩) (c - 1) qb2)) = V := ⟨_, rfl⟩
            rw [hV] at FB FY FR FQ FO ⊢
            clear hV
            have FBb := FB
            have FYb := FY
            have FRb := FR
            have FQb := FQ
            have FOb := FO
            clear FB FY FR FQ FO
            have zhS68 : (fun w' : World => w'.cell? ⟨D, 1, none⟩ = some (.slice (some ⟨b1, o1, none⟩) c k1)) Vb := FRb.out.cell 1
            refine HzK67.out _ _ zhS68 fun _ => ?_
            refine wpAnyH_done (by kernel_rfl) ?_ _
            have GT : Hid (Gs Vb (.slice (some ⟨gb2, 0, none⟩) (c - 1) qb2) (L.take i ++ L.drop (i + 1))) := Lib.hid (by have h := FOb.out; rw [List.nil_append, ← JL.out] at h; exact h.gs (by rw [List.length_append, List.length_take, List.length_drop, UL.out]; have := IC.out; omega) (by rw [List.length_append, List.length_take, List.length_drop, LN.out]; have := IC.out; omega) (less_rows IC.out UL.out LN.out (UN.out _ FYb.out)))
            have CK3 : Hid (Calls Tryd.prog 16 #[.agg #[.int .i64 (v : Int), .slice (some ⟨gb2, 0, none⟩) (c - 1) qb2]] Vb (bel (.tuple #[.int .i64 0, .int .i64 0, .int .i64 5]) Vb)) := Lib.hid (check_nobal (less_nobal BAL.out (by rw [LN.out]; exact IC.out) kv L1.out) _ Vb GT.out)
            have e0 := (show _ = some _ from FQb.out.cell 0)
            have e1 := (show _ = some _ from FQb.out.cell 1)
            clear GT
            go_wp2_with fail
            refine CK3.out.mono ?_
            rintro e zx70 ⟨rfl, zhb69⟩
            have zhq71 : Below Vb.heap.size Vb zx70 := zhb69
            have zR_72 := Lib.hid (Row.go FRb.out zhq71)
            have zY_73 := Lib.hid (bel_to FYb.out zhq71)
            have zHB_74 : Hid (Below w.heap.size w zx70) := Lib.hid (FBb.out.trans (zhq71.mono FBb.out.size))
            clear zhq71
            clear zhb69 e0 e1 CK3
            have w1 : IntKind.i64.wrap (2 * (r : Int)) = ((2 * r : Nat) : Int) := by rw [IntKind.wrap_i64]; omega
            have w2 : IntKind.i64.wrap (2 * (l : Int)) = ((2 * l : Nat) : Int) := by rw [IntKind.wrap_i64]; omega
            have w3 : wrap64 (2 * (r : Int)) = ((2 * r : Nat) : Int) := by rw [IntWalk.wrap64_in _ ⟨by omega, by omega⟩]; omega
            have w4 : wrap64 (2 * (l : Int)) = ((2 * l : Nat) : Int) := by rw [IntWalk.wrap64_in _ ⟨by omega, by omega⟩]; omega
            go_wp2_with fail
            go_ret
            exact ⟨rfl, zHB_74.out⟩
        · have HzK45 := Lib.hid hK
          clear hK
          rw [if_pos (by rfl)]
          refine wp_allocD rfl ?_
          obtain ⟨D3, hD3⟩ : ∃ e, zwz38.heap.size = e := ⟨_, rfl⟩
          have hbx : Below zwz38.heap.size zwz38 (zwz38.alloc (.cells #[.int .i64 0, .slice none 0 0] 25)) := (Below.refl _ _).alloc (Nat.le_refl _) _
          have RQ := Lib.hid (row_new' zwz38 #[.int .i64 0, .slice none 0 0] 25)
          rw [hD3] at RQ
          have DLb : Hid (D < D3) := Lib.hid (by have := zR_41.out.lt; omega)
          have HWD3 : Hid (w.heap.size ≤ D3) := Lib.hid (by have := zHB_43.out.size; omega)
          have HZD3 : Hid (z4.heap.size ≤ D3) := Lib.hid (by have := zY_42.out.size; omega)
          obtain ⟨zx46, hxb⟩ : ∃ q, zwz38.alloc (.cells #[.int .i64 0, .slice none 0 0] 25) = q := ⟨_, rfl⟩
          rw [hxb] at hbx RQ
          rw [hD3, hxb]
          have zhq47 : Below zwz38.heap.size zwz38 zx46 := hbx
          have zR_48 := Lib.hid (Row.go zR_41.out zhq47)
          have zY_49 := Lib.hid (bel_to zY_42.out zhq47)
          have zHB_50 : Hid (Below w.heap.size w zx46) := Lib.hid (zHB_43.out.trans (zhq47.mono zHB_43.out.size))
          clear zhq47
          clear hbx hxb hD3
          have zhS51 : (fun w' : World => w'.cell? ⟨D, 1, none⟩ = some (.slice (some ⟨b1, o1, none⟩) c k1)) zx46 := zR_48.out.cell 1
          refine HzK45.out _ _ zhS51 fun _ => ?_
          try simp only [Act.put, List.setIfInBounds_toArray, List.set_cons_zero, List.set_cons_succ]
          refine wpAnyH_ready (rs := [1]) (by kernel_rfl) (by simp) ?_
          refine AllReadyH.cons rfl (fun zK52 hzK52 => ?_) AllReadyH.nil
          have HzK52 := Lib.hid hzK52
          clear hzK52
          rw [if_pos (by rfl)]
          refine wp_build_00 rfl ?_
          obtain ⟨bb, hb0⟩ : ∃ e, zx46.heap.size = e := ⟨_, rfl⟩
          have hbx : Below zx46.heap.size zx46 (zx46.alloc (.cells #[] 40)) := (Below.refl _ _).alloc (Nat.le_refl _) _
          have CT : Hid (Cat (zx46.alloc (.cells #[] 40)) bb bb 0 []) := Lib.hid ⟨Nat.le_refl _, #[], by rw [← hb0]; exact row_new' zx46 #[] 40, rfl, Nat.zero_le _, Nat.le_refl 0, rfl⟩
          have NE : Hid (bb ≠ D3) := Lib.hid (by have := RQ.out.lt; omega)
          have BB : Hid (bb ≤ (zx46.alloc (.cells #[] 40)).heap.size) := Lib.hid (by rw [World.size_alloc]; omega)
          obtain ⟨zx53, hxb⟩ : ∃ q, zx46.alloc (.cells #[] 40) = q := ⟨_, rfl⟩
          rw [hxb] at hbx CT BB
          rw [hb0, hxb]
          have HB0 : Hid (z4.heap.size ≤ bb) := Lib.hid (by have := zY_49.out.size; omega)
          have HW0 : Hid (w.heap.size ≤ bb) := Lib.hid (by have := zHB_50.out.size; omega)
          have zhq54 : Below zx46.heap.size zx46 zx53 := hbx
          have zR_55 := Lib.hid (Row.go zR_48.out zhq54)
          have zY_56 := Lib.hid (bel_to zY_49.out zhq54)
          have zQ_57 := Lib.hid (Row.go RQ.out zhq54)
          have zHB_58 : Hid (Below w.heap.size w zx53) := Lib.hid (zHB_50.out.trans (zhq54.mono zHB_50.out.size))
          clear zhq54
          clear hbx hxb hb0
          have zhS59 : (fun w' : World => w'.cell? ⟨D, 1, none⟩ = some (.slice (some ⟨b1, o1, none⟩) c k1)) zx53 := zR_55.out.cell 1
          refine HzK52.out _ _ zhS59 fun _ => ?_
          try simp only [Act.put, List.setIfInBounds_toArray, List.set_cons_zero, List.set_cons_succ]
          refine wpAnyH_ready (rs := [6]) (by kernel_rfl) (by simp) ?_
          refine AllReadyH.cons rfl (fun zK60 hzK60 => ?_) AllReadyH.nil
          have HzK60 := Lib.hid hzK60
          clear hzK60
          rw [if_pos (by rfl)]
          refine wp_cat (.tmp 74) (.tmp 78) rfl bb bb (0) 0 ([]) b1 (o1) (i) k1 (us.take i) (i) (by have := JL.out; have := M2.out; have := IC.out; omega) rfl CT.out rfl rfl UTL.out (fun q hq => UTC.out _ zY_56.out q hq) UTO.out (by have := CC.out; omega) BB.out ?_
          intro gb1 qb1 zx61 ho hg hat
          have hbo := CT.out.1
          have Y1b : Hid (Below z4.heap.size z4 zx61) := Lib.hid (zY_56.out.grown hg zY_56.out.size (fun j e => by cases e; have := HB0.out; omega))
          have W1b : Hid (Below w.heap.size w zx61) := Lib.hid (zHB_58.out.grown hg zHB_58.out.size (fun j e => by cases e; have := HW0.out; omega))
          have R1b := Lib.hid (zR_55.out.gr hg (fun e => by have e2 := Option.some.inj e; have := (show D < z4.heap.size from R4.out.lt); have := HB0.out; omega))
          have S1b : Hid (bb ≤ zx61.heap.size) := Lib.hid (Nat.le_trans BB.out hg.size)
          have O1b := Lib.hid ho
          have Q1b := Lib.hid (zQ_57.out.gr hg (fun e => NE.out (Option.some.inj e).symm))
          have NE1 : Hid (gb1 ≠ D3) := Lib.hid (by have h1 := zQ_57.out.lt; have h2 := NE.out; rcases hat with h | h; exact h ▸ h2; omega)
          clear ho hg hat hbo
          have LEN1b : Hid ((([]) ++ (us.take i)).length = i) := Lib.hid (by rw [List.length_append, List.length_nil, show (us.take i).length = i from UTL.out] <;> (have := JL.out; have := M2.out; have := IC.out; omega))
          have zhS62 : (fun w' : World => w'.cell? ⟨D, 1, none⟩ = some (.slice (some ⟨b1, o1, none⟩) c k1)) zx61 := R1b.out.cell 1
          refine HzK60.out _ _ zhS62 fun _ => ?_
          try simp only [Act.put, List.setIfInBounds_toArray, List.set_cons_zero, List.set_cons_succ]
          refine wpAnyH_ready (rs := [12]) (by kernel_rfl) (by simp) ?_
          refine AllReadyH.cons rfl (fun zK63 hzK63 => ?_) AllReadyH.nil
          have HzK63 := Lib.hid hzK63
          clear hzK63
          rw [if_pos (by rfl)]
          refine wp_cat (.tmp 79) (.tmp 84) rfl bb gb1 (i) qb1 (([]) ++ (us.take i)) b1 (o2) (m2) k2' (us.drop j) (c - 1) (by have := JL.out; have := M2.out; have := IC.out; omega) rfl O1b.out LEN1b.out rfl UDL.out (fun q hq => UDC.out _ Y1b.out q hq) UDO.out (by have := CC.out; omega) S1b.out ?_
          intro gb2 qb2 zx64 ho hg hat
          have hbo := O1b.out.1
          have Y2b : Hid (Below z4.heap.size z4 zx64) := Lib.hid (Y1b.out.grown hg Y1b.out.size (fun j e => by cases e; have := HB0.out; omega))
          have W2b : Hid (Below w.heap.size w zx64) := Lib.hid (W1b.out.grown hg W1b.out.size (fun j e => by cases e; have := HW0.out; omega))
          have R2b := Lib.hid (R1b.out.gr hg (fun e => by have e2 := Option.some.inj e; have := (show D < z4.heap.size from R4.out.lt); have := HB0.out; omega))
          have S2b : Hid (bb ≤ zx64.heap.size) := Lib.hid (Nat.le_trans S1b.out hg.size)
          have O2b := Lib.hid ho
          have Q2b := Lib.hid (Q1b.out.gr hg (fun e => NE1.out (Option.some.inj e).symm))
          have NE2 : Hid (gb2 ≠ D3) := Lib.hid (by have h1 := Q1b.out.lt; have h2 := NE1.out; rcases hat with h | h; exact h ▸ h2; omega)
          clear ho hg hat hbo
          have LEN2b : Hid (((([]) ++ (us.take i)) ++ (us.drop j)).length = c - 1) := Lib.hid (by rw [List.length_append, LEN1b.out, show (us.drop j).length = m2 from UDL.out] <;> (have := JL.out; have := M2.out; have := IC.out; omega))
          have zhS65 : (fun w' : World => w'.cell? ⟨D, 1, none⟩ = some (.slice (some ⟨b1, o1, none⟩) c k1)) zx64 := R2b.out.cell 1
          refine HzK63.out _ _ zhS65 fun _ => ?_
          try simp only [Act.put, List.setIfInBounds_toArray, List.set_cons_zero, List.set_cons_succ]
          refine takeD (i := 13) (v := .agg #[.int .i64 (v : Int), .slice (some ⟨gb2, 0, none⟩) (c - 1) qb2]) (some 86) rfl rfl (by kernel_rfl) (by kernel_rfl) (by kernel_rfl) (fun _ _ _ h => h) (Or.inl ⟨by rfl, by rintro w' -; go_simp⟩) zhS65 ?_
          simp only [Act.put, List.setIfInBounds_toArray, List.set_cons_zero, List.set_cons_succ]
          refine wpAnyH_ready (rs := [15]) (by kernel_rfl) (by simp) ?_
          refine AllReadyH.cons rfl (fun zK66 hzK66 => ?_) AllReadyH.nil
          have HzK66 := Lib.hid hzK66
          clear hzK66
          rw [if_pos (by rfl)]
          have cc := (show _ = some _ from Q2b.out.cell 0)
          have ff := Q2b.out.frozen 0
          have cd := (show _ = some _ from Q2b.out.cell 1)
          have fg := Q2b.out.frozen 1
          go_simp
          clear cc ff cd fg
          have FB := Lib.hid ((W2b.out.setCell (p := ⟨D3, 0, none⟩) HWD3.out (.int .i64 (v : Int))).setCell (p := ⟨D3, 1, none⟩) HWD3.out (.slice (some ⟨gb2, 0, none⟩) (c - 1) qb2))
          have FY := Lib.hid ((Y2b.out.setCell (p := ⟨D3, 0, none⟩) HZD3.out (.int .i64 (v : Int))).setCell (p := ⟨D3, 1, none⟩) HZD3.out (.slice (some ⟨gb2, 0, none⟩) (c - 1) qb2))
          have FR := Lib.hid ((R2b.out.oth (k := D3) (by have := DLb.out; omega) 0 (.int .i64 (v : Int))).oth (k := D3) (by have := DLb.out; omega) 1 (.slice (some ⟨gb2, 0, none⟩) (c - 1) qb2))
          have FQ := Lib.hid ((Q2b.out.store 0 (.int .i64 (v : Int))).store 1 (.slice (some ⟨gb2, 0, none⟩) (c - 1) qb2))
          have FO := Lib.hid ((O2b.out.oth (p := ⟨D3, 0, none⟩) NE2.out (.int .i64 (v : Int))).oth (p := ⟨D3, 1, none⟩) NE2.out (.slice (some ⟨gb2, 0, none⟩) (c - 1) qb2))
          obtain ⟨Vb, hV⟩ : ∃ V, ((zx64.setCell ⟨D3, 0, none⟩ (.int .i64 (v : Int))).setCell ⟨D3, 1, none⟩ (.slice (some ⟨gb2, 0, none⟩) (c - 1) qb2)) = V := ⟨_, rfl⟩
          rw [hV] at FB FY FR FQ FO ⊢
          clear hV
          have FBb := FB
          have FYb := FY
          have FRb := FR
          have FQb := FQ
          have FOb := FO
          clear FB FY FR FQ FO
          have zhS67 : (fun w' : World => w'.cell? ⟨D, 1, none⟩ = some (.slice (some ⟨b1, o1, none⟩) c k1)) Vb := FRb.out.cell 1
          refine HzK66.out _ _ zhS67 fun _ => ?_
          refine wpAnyH_done (by kernel_rfl) ?_ _
          have GT : Hid (Gs Vb (.slice (some ⟨gb2, 0, none⟩) (c - 1) qb2) (L.take i ++ L.drop (i + 1))) := Lib.hid (by have h := FOb.out; rw [List.nil_append, ← JL.out] at h; exact h.gs (by rw [List.length_append, List.length_take, List.length_drop, UL.out]; have := IC.out; omega) (by rw [List.length_append, List.length_take, List.length_drop, LN.out]; have := IC.out; omega) (less_rows IC.out UL.out LN.out (UN.out _ FYb.out)))
          have CK3 : Hid (Calls Tryd.prog 16 #[.agg #[.int .i64 (v : Int), .slice (some ⟨gb2, 0, none⟩) (c - 1) qb2]] Vb (bel (.tuple #[.int .i64 0, .int .i64 0, .int .i64 5]) Vb)) := Lib.hid (check_nobal (less_nobal BAL.out (by rw [LN.out]; exact IC.out) kv L1.out) _ Vb GT.out)
          have e0 := (show _ = some _ from FQb.out.cell 0)
          have e1 := (show _ = some _ from FQb.out.cell 1)
          clear GT
          go_wp2_with fail
          refine CK3.out.mono ?_
          rintro e zx69 ⟨rfl, zhb68⟩
          have zhq70 : Below Vb.heap.size Vb zx69 := zhb68
          have zR_71 := Lib.hid (Row.go FRb.out zhq70)
          have zY_72 := Lib.hid (bel_to FYb.out zhq70)
          have zHB_73 : Hid (Below w.heap.size w zx69) := Lib.hid (FBb.out.trans (zhq70.mono FBb.out.size))
          clear zhq70
          clear zhb68 e0 e1 CK3
          have w1 : IntKind.i64.wrap (2 * (r : Int)) = ((2 * r : Nat) : Int) := by rw [IntKind.wrap_i64]; omega
          have w2 : IntKind.i64.wrap (2 * (l : Int)) = ((2 * l : Nat) : Int) := by rw [IntKind.wrap_i64]; omega
          have w3 : wrap64 (2 * (r : Int)) = ((2 * r : Nat) : Int) := by rw [IntWalk.wrap64_in _ ⟨by omega, by omega⟩]; omega
          have w4 : wrap64 (2 * (l : Int)) = ((2 * l : Nat) : Int) := by rw [IntWalk.wrap64_in _ ⟨by omega, by omega⟩]; omega
          go_wp2_with fail
          go_ret
          exact ⟨rfl, zHB_73.out⟩
      · have HzK18 := Lib.hid hK
        clear hK
        rw [if_pos (by rfl)]
        refine wp_allocD rfl ?_
        obtain ⟨D2, hD2⟩ : ∃ e, zx16.heap.size = e := ⟨_, rfl⟩
        have hbx : Below zx16.heap.size zx16 (zx16.alloc (.cells #[.int .i64 0, .slice none 0 0] 25)) := (Below.refl _ _).alloc (Nat.le_refl _) _
        have RQ := Lib.hid (row_new' zx16 #[.int .i64 0, .slice none 0 0] 25)
        rw [hD2] at RQ
        have DLa : Hid (D < D2) := Lib.hid (by have := R1a.out.lt; omega)
        have HWD2 : Hid (w.heap.size ≤ D2) := Lib.hid (by have := W1a.out.size; omega)
        have HZD2 : Hid (z4.heap.size ≤ D2) := Lib.hid (by have := Y1a.out.size; omega)
        have NE : Hid (ga1 ≠ D2) := Lib.hid (by have := O1a.out.lt; omega)
        obtain ⟨zx19, hxb⟩ : ∃ q, zx16.alloc (.cells #[.int .i64 0, .slice none 0 0] 25) = q := ⟨_, rfl⟩
        rw [hxb] at hbx RQ
        rw [hD2, hxb]
        have zhq20 : Below zx16.heap.size zx16 zx19 := hbx
        have zR_21 := Lib.hid (Row.go R1a.out zhq20)
        have zY_22 := Lib.hid (bel_to Y1a.out zhq20)
        have zO_23 := Lib.hid (Cat.to O1a.out zhq20)
        have zBB_24 := Lib.hid (Nat.le_trans S1a.out (Below.size zhq20))
        have zHB_25 : Hid (Below w.heap.size w zx19) := Lib.hid (W1a.out.trans (zhq20.mono W1a.out.size))
        clear zhq20
        clear hbx hxb hD2
        have zhS26 : (fun w' : World => w'.cell? ⟨D, 1, none⟩ = some (.slice (some ⟨b1, o1, none⟩) c k1)) zx19 := zR_21.out.cell 1
        refine HzK18.out _ _ zhS26 fun _ => ?_
        try simp only [Act.put, List.setIfInBounds_toArray, List.set_cons_zero, List.set_cons_succ]
        refine wpAnyH_ready (rs := [7]) (by kernel_rfl) (by simp) ?_
        refine AllReadyH.cons rfl (fun zK27 hzK27 => ?_) AllReadyH.nil
        have HzK27 := Lib.hid hzK27
        clear hzK27
        rw [if_pos (by rfl)]
        refine wp_cat (.tmp 56) (.tmp 58) rfl ba ga1 (c) qa1 (([]) ++ (us)) b1 (o1) (c) k1 (us) (c + c) (by skip; omega) rfl zO_23.out LEN1a.out rfl UL.out (fun k hk => UC.out _ zY_22.out k hk) UO.out (by have := CC.out; omega) zBB_24.out ?_
        intro ga2 qa2 zx28 ho hg hat
        have hbo := zO_23.out.1
        have Y2a : Hid (Below z4.heap.size z4 zx28) := Lib.hid (zY_22.out.grown hg zY_22.out.size (fun j e => by cases e; have := HB0.out; omega))
        have W2a : Hid (Below w.heap.size w zx28) := Lib.hid (zHB_25.out.grown hg zHB_25.out.size (fun j e => by cases e; have := HW0.out; omega))
        have R2a := Lib.hid (zR_21.out.gr hg (fun e => by have e2 := Option.some.inj e; have := (show D < z4.heap.size from R4.out.lt); have := HB0.out; omega))
        have S2a : Hid (ba ≤ zx28.heap.size) := Lib.hid (Nat.le_trans zBB_24.out hg.size)
        have O2a := Lib.hid ho
        have Q2a := Lib.hid (RQ.out.gr hg (fun e => NE.out (Option.some.inj e).symm))
        have NE2 : Hid (ga2 ≠ D2) := Lib.hid (by have h1 := RQ.out.lt; have h2 := NE.out; rcases hat with h | h; exact h ▸ h2; omega)
        clear ho hg hat hbo
        have LEN2a : Hid (((([]) ++ (us)) ++ (us)).length = c + c) := Lib.hid (by rw [List.length_append, LEN1a.out, show (us).length = c from UL.out] <;> (skip; omega))
        have zhS29 : (fun w' : World => w'.cell? ⟨D, 1, none⟩ = some (.slice (some ⟨b1, o1, none⟩) c k1)) zx28 := R2a.out.cell 1
        refine HzK27.out _ _ zhS29 fun _ => ?_
        try simp only [Act.put, List.setIfInBounds_toArray, List.set_cons_zero, List.set_cons_succ]
        refine takeD (i := 8) (v := .agg #[.int .i64 (v : Int), .slice (some ⟨ga2, 0, none⟩) (c + c) qa2]) (some 60) rfl rfl (by kernel_rfl) (by kernel_rfl) (by kernel_rfl) (fun _ _ _ h => h) (Or.inl ⟨by rfl, by rintro w' -; go_simp⟩) zhS29 ?_
        simp only [Act.put, List.setIfInBounds_toArray, List.set_cons_zero, List.set_cons_succ]
        refine wpAnyH_ready (rs := [10]) (by kernel_rfl) (by simp) ?_
        refine AllReadyH.cons rfl (fun zK30 hzK30 => ?_) AllReadyH.nil
        have HzK30 := Lib.hid hzK30
        clear hzK30
        rw [if_pos (by rfl)]
        have cc := (show _ = some _ from Q2a.out.cell 0)
        have ff := Q2a.out.frozen 0
        have cd := (show _ = some _ from Q2a.out.cell 1)
        have fg := Q2a.out.frozen 1
        go_simp
        clear cc ff cd fg
        have FB := Lib.hid ((W2a.out.setCell (p := ⟨D2, 0, none⟩) HWD2.out (.int .i64 (v : Int))).setCell (p := ⟨D2, 1, none⟩) HWD2.out (.slice (some ⟨ga2, 0, none⟩) (c + c) qa2))
        have FY := Lib.hid ((Y2a.out.setCell (p := ⟨D2, 0, none⟩) HZD2.out (.int .i64 (v : Int))).setCell (p := ⟨D2, 1, none⟩) HZD2.out (.slice (some ⟨ga2, 0, none⟩) (c + c) qa2))
        have FR := Lib.hid ((R2a.out.oth (k := D2) (by have := DLa.out; omega) 0 (.int .i64 (v : Int))).oth (k := D2) (by have := DLa.out; omega) 1 (.slice (some ⟨ga2, 0, none⟩) (c + c) qa2))
        have FQ := Lib.hid ((Q2a.out.store 0 (.int .i64 (v : Int))).store 1 (.slice (some ⟨ga2, 0, none⟩) (c + c) qa2))
        have FO := Lib.hid ((O2a.out.oth (p := ⟨D2, 0, none⟩) NE2.out (.int .i64 (v : Int))).oth (p := ⟨D2, 1, none⟩) NE2.out (.slice (some ⟨ga2, 0, none⟩) (c + c) qa2))
        obtain ⟨Va, hV⟩ : ∃ V, ((zx28.setCell ⟨D2, 0, none⟩ (.int .i64 (v : Int))).setCell ⟨D2, 1, none⟩ (.slice (some ⟨ga2, 0, none⟩) (c + c) qa2)) = V := ⟨_, rfl⟩
        rw [hV] at FB FY FR FQ FO ⊢
        clear hV
        have FBa := FB
        have FYa := FY
        have FRa := FR
        have FQa := FQ
        have FOa := FO
        clear FB FY FR FQ FO
        have zhS31 : (fun w' : World => w'.cell? ⟨D, 1, none⟩ = some (.slice (some ⟨b1, o1, none⟩) c k1)) Va := FRa.out.cell 1
        refine HzK30.out _ _ zhS31 fun _ => ?_
        refine wpAnyH_done (by kernel_rfl) ?_ _
        have BT := Lib.hid (bal_twice BAL.out (by rw [LN.out]; have := CC.out; omega))
        have GT : Hid (Gs Va (.slice (some ⟨ga2, 0, none⟩) (c + c) qa2) (L ++ L)) := Lib.hid (by have h := FOa.out; rw [List.nil_append] at h; exact h.gs (by rw [List.length_append, UL.out]) (by rw [List.length_append, LN.out]) (twice_rows UL.out LN.out (UN.out _ FYa.out)))
        have CK2 : Hid (Calls Tryd.prog 16 #[.agg #[.int .i64 (v : Int), .slice (some ⟨ga2, 0, none⟩) (c + c) qa2]] Va (bel (.tuple #[.int .i64 ((2 * r : Nat) : Int), .int .i64 ((2 * l : Nat) : Int), .int .i64 0]) Va)) := Lib.hid (check_bal BT.out _ Va GT.out)
        have e0 := (show _ = some _ from FQa.out.cell 0)
        have e1 := (show _ = some _ from FQa.out.cell 1)
        clear BT GT
        go_wp2_with fail
        refine CK2.out.mono ?_
        rintro e zx33 ⟨rfl, zhb32⟩
        have zhq34 : Below Va.heap.size Va zx33 := zhb32
        have zR_35 := Lib.hid (Row.go FRa.out zhq34)
        have zY_36 := Lib.hid (bel_to FYa.out zhq34)
        have zHB_37 : Hid (Below w.heap.size w zx33) := Lib.hid (FBa.out.trans (zhq34.mono FBa.out.size))
        clear zhq34
        clear zhb32 e0 e1 CK2
        have e1 := (show _ = some _ from zR_35.out.cell 1)
        obtain ⟨i, hi⟩ : ∃ i, u % c = i := ⟨_, rfl⟩
        have ic : i < c := by rw [← hi]; exact Nat.mod_lt _ CC.out.2
        have ei : (u : Int).tmod (c : Int) = (i : Int) := by rw [← hi]; exact (Int.ofNat_tmod u c).symm
        have ei' : (u : Int) % (c : Int) = (i : Int) := by rw [← hi]; rfl
        have vi : IntKind.i64.wrap (i : Int) = (i : Int) := by have := CC.out; rw [IntKind.wrap_i64]; omega
        have vu : IntKind.i64.wrap (u : Int) = (u : Int) := by rw [IntKind.wrap_i64]; omega
        have vi' : wrap64 (i : Int) = (i : Int) := by have := CC.out; rw [IntWalk.wrap64_in _ ⟨by omega, by omega⟩]
        have cJ : ¬ (c : Int) = 0 := by have := CC.out; omega
        clear hi
        go_wp2_with fail
        clear e1 ei ei' vi vu vi' cJ
        obtain ⟨j, hj⟩ : ∃ j, i + 1 = j := ⟨_, rfl⟩
        have ej : (i : Int) + 1 = (j : Int) := by omega
        have vj : IntKind.i64.wrap (j : Int) = (j : Int) := by have := CC.out; rw [IntKind.wrap_i64]; omega
        have JL := Lib.hid hj
        obtain ⟨o2, k2', SLF, ho2⟩ := slice_from (b := b1) (o := o1) (n := c) (c := k1) (i := j) (by omega) ck1
        obtain ⟨m2, hm2⟩ : ∃ m, c - j = m := ⟨_, rfl⟩
        rw [hm2] at SLF
        have M2 := Lib.hid hm2
        have O2 := Lib.hid ho2
        have SF := Lib.hid SLF
        have UTL : Hid ((us.take i).length = i) := Lib.hid (by rw [List.length_take, UL.out]; omega)
        have UDL : Hid ((us.drop j).length = m2) := Lib.hid (by rw [List.length_drop, UL.out, M2.out])
        have UTC := Lib.hid (show ∀ W, Below z4.heap.size z4 W → ∀ q, q < i → W.cell? ⟨b1, o1 + q, none⟩ = some ((us.take i).getD q undef) from fun W hW q hq => by rw [UC.out W hW q (by omega), List.getD_eq_getElem?_getD, List.getD_eq_getElem?_getD, List.getElem?_take_of_lt hq])
        have UDC := Lib.hid (show ∀ W, Below z4.heap.size z4 W → ∀ q, q < m2 → W.cell? ⟨b1, o2 + q, none⟩ = some ((us.drop j).getD q undef) from fun W hW q hq => by have h := UC.out W hW (j + q) (by have := M2.out; omega); rw [O2.out (by have := M2.out; omega), List.getD_eq_getElem?_getD, List.getElem?_drop, ← List.getD_eq_getElem?_getD, Nat.add_assoc]; exact h)
        have UTO := Lib.hid (show ∀ x ∈ us.take i, x.oneCell' = true from fun x hx => UO.out x (List.mem_of_mem_take hx))
        have UDO := Lib.hid (show ∀ x ∈ us.drop j, x.oneCell' = true from fun x hx => UO.out x (List.mem_of_mem_drop hx))
        have IC := Lib.hid ic
        have iI : (i : Int) ≤ (k1 : Int) := by omega
        clear SLF hm2 ho2 hj
        refine wp_region_held (P := Tryd.prog) (S := (fun w' : World => w'.cell? ⟨D, 1, none⟩ = some (.slice (some ⟨b1, o1, none⟩) c k1))) rfl ?_
        change wpAnyH _ _ _ _ _ _ _ _ zx33.drew
        have zhz39 : Below zx33.heap.size zx33 zx33.drew := (Below.refl zx33.heap.size zx33).drew
        generalize zx33.drew = zwz38 at zhz39 ⊢
        have zhq40 : Below zx33.heap.size zx33 zwz38 := zhz39
        have zR_41 := Lib.hid (Row.go zR_35.out zhq40)
        have zY_42 := Lib.hid (bel_to zY_36.out zhq40)
        have zHB_43 : Hid (Below w.heap.size w zwz38) := Lib.hid (zHB_37.out.trans (zhq40.mono zHB_37.out.size))
        clear zhq40
        clear zhz39
        have zhS44 : (fun w' : World => w'.cell? ⟨D, 1, none⟩ = some (.slice (some ⟨b1, o1, none⟩) c k1)) zwz38 := zR_41.out.cell 1
        refine takeD (i := 0) (v := .int .i64 (v : Int)) (some 73) rfl rfl (by kernel_rfl) (by kernel_rfl) (by kernel_rfl) (fun _ _ _ h => h) (Or.inl ⟨by rfl, by rintro w' -; go_simp⟩) zhS44 ?_
        simp only [Act.put, List.setIfInBounds_toArray, List.set_cons_zero, List.set_cons_succ]
        refine takeD (i := 2) (v := .pointer (some ⟨D, 1, none⟩)) (some 75) rfl rfl (by kernel_rfl) (by kernel_rfl) (by kernel_rfl) (fun _ _ _ h => h) (Or.inl ⟨by rfl, by rintro w' -; go_simp⟩) zhS44 ?_
        simp only [Act.put, List.setIfInBounds_toArray, List.set_cons_zero, List.set_cons_succ]
        refine takeD (i := 3) (v := .slice (some ⟨b1, o1, none⟩) c k1) (some 76) rfl rfl (by kernel_rfl) (by kernel_rfl) (by kernel_rfl) (fun _ _ _ h => h) (Or.inl ⟨by rfl, by rintro w' h; have hc := h; go_simp⟩) zhS44 ?_
        simp only [Act.put, List.setIfInBounds_toArray, List.set_cons_zero, List.set_cons_succ]
        refine takeD (i := 4) (v := .int .i64 (i : Int)) (some 77) rfl rfl (by kernel_rfl) (by kernel_rfl) (by kernel_rfl) (fun _ _ _ h => h) (Or.inl ⟨by rfl, by rintro w' -; go_simp⟩) zhS44 ?_
        simp only [Act.put, List.setIfInBounds_toArray, List.set_cons_zero, List.set_cons_succ]
        refine takeD (i := 5) (v := .slice (some ⟨b1, o1, none⟩) i k1) (some 78) rfl rfl (by kernel_rfl) (by kernel_rfl) (by kernel_rfl) (fun _ _ _ h => h) (Or.inl ⟨by rfl, by rintro w' -; go_simp⟩) zhS44 ?_
        simp only [Act.put, List.setIfInBounds_toArray, List.set_cons_zero, List.set_cons_succ]
        refine takeD (i := 7) (v := .pointer (some ⟨D, 1, none⟩)) (some 80) rfl rfl (by kernel_rfl) (by kernel_rfl) (by kernel_rfl) (fun _ _ _ h => h) (Or.inl ⟨by rfl, by rintro w' -; go_simp⟩) zhS44 ?_
        simp only [Act.put, List.setIfInBounds_toArray, List.set_cons_zero, List.set_cons_succ]
        refine takeD (i := 8) (v := .slice (some ⟨b1, o1, none⟩) c k1) (some 81) rfl rfl (by kernel_rfl) (by kernel_rfl) (by kernel_rfl) (fun _ _ _ h => h) (Or.inl ⟨by rfl, by rintro w' h; have hc := h; go_simp⟩) zhS44 ?_
        simp only [Act.put, List.setIfInBounds_toArray, List.set_cons_zero, List.set_cons_succ]
        refine takeD (i := 9) (v := .int .i64 (i : Int)) (some 82) rfl rfl (by kernel_rfl) (by kernel_rfl) (by kernel_rfl) (fun _ _ _ h => h) (Or.inl ⟨by rfl, by rintro w' -; go_simp⟩) zhS44 ?_
        simp only [Act.put, List.setIfInBounds_toArray, List.set_cons_zero, List.set_cons_succ]
        refine takeD (i := 10) (v := .int .i64 (j : Int)) (some 83) rfl rfl (by kernel_rfl) (by kernel_rfl) (by kernel_rfl) (fun _ _ _ h => h) (Or.inl ⟨by rfl, by rintro w' -; go_simp⟩) zhS44 ?_
        simp only [Act.put, List.setIfInBounds_toArray, List.set_cons_zero, List.set_cons_succ]
        refine takeD (i := 11) (v := .slice (some ⟨b1, o2, none⟩) m2 k2') (some 84) rfl rfl (by kernel_rfl) (by kernel_rfl) (by kernel_rfl) (fun _ _ _ h => h) (Or.inl ⟨by rfl, by rintro w' -; have hc := SF.out w'; go_simp⟩) zhS44 ?_
        simp only [Act.put, List.setIfInBounds_toArray, List.set_cons_zero, List.set_cons_succ]
        refine wpAnyH_ready (rs := [1, 14]) (by kernel_rfl) (by simp) ?_
        refine AllReadyH.cons rfl (fun K hK => ?_) (AllReadyH.cons rfl (fun K hK => ?_) AllReadyH.nil)
        · have HzK45 := Lib.hid hK
          clear hK
          rw [if_pos (by rfl)]
          refine wp_build_00 rfl ?_
          obtain ⟨bb, hb0⟩ : ∃ e, zwz38.heap.size = e := ⟨_, rfl⟩
          have hbx : Below zwz38.heap.size zwz38 (zwz38.alloc (.cells #[] 40)) := (Below.refl _ _).alloc (Nat.le_refl _) _
          have CT : Hid (Cat (zwz38.alloc (.cells #[] 40)) bb bb 0 []) := Lib.hid ⟨Nat.le_refl _, #[], by rw [← hb0]; exact row_new' zwz38 #[] 40, rfl, Nat.zero_le _, Nat.le_refl 0, rfl⟩
          have BB : Hid (bb ≤ (zwz38.alloc (.cells #[] 40)).heap.size) := Lib.hid (by rw [World.size_alloc]; omega)
          obtain ⟨zx46, hxb⟩ : ∃ q, zwz38.alloc (.cells #[] 40) = q := ⟨_, rfl⟩
          rw [hxb] at hbx CT BB
          rw [hb0, hxb]
          have HB0 : Hid (z4.heap.size ≤ bb) := Lib.hid (by have := zY_42.out.size; omega)
          have HW0 : Hid (w.heap.size ≤ bb) := Lib.hid (by have := zHB_43.out.size; omega)
          have zhq47 : Below zwz38.heap.size zwz38 zx46 := hbx
          have zR_48 := Lib.hid (Row.go zR_41.out zhq47)
          have zY_49 := Lib.hid (bel_to zY_42.out zhq47)
          have zHB_50 : Hid (Below w.heap.size w zx46) := Lib.hid (zHB_43.out.trans (zhq47.mono zHB_43.out.size))
          clear zhq47
          clear hbx hxb hb0
          have zhS51 : (fun w' : World => w'.cell? ⟨D, 1, none⟩ = some (.slice (some ⟨b1, o1, none⟩) c k1)) zx46 := zR_48.out.cell 1
          refine HzK45.out _ _ zhS51 fun _ => ?_
          try simp only [Act.put, List.setIfInBounds_toArray, List.set_cons_zero, List.set_cons_succ]
          refine wpAnyH_ready (rs := [6, 14]) (by kernel_rfl) (by simp) ?_
          refine AllReadyH.cons rfl (fun K hK => ?_) (AllReadyH.cons rfl (fun K hK => ?_) AllReadyH.nil)
          · have HzK52 := Lib.hid hK
            clear hK
            rw [if_pos (by rfl)]
            refine wp_cat (.tmp 74) (.tmp 78) rfl bb bb (0) 0 ([]) b1 (o1) (i) k1 (us.take i) (i) (by have := JL.out; have := M2.out; have := IC.out; omega) rfl CT.out rfl rfl UTL.out (fun q hq => UTC.out _ zY_49.out q hq) UTO.out (by have := CC.out; omega) BB.out ?_
            intro gb1 qb1 zx53 ho hg hat
            have hbo := CT.out.1
            have Y1b : Hid (Below z4.heap.size z4 zx53) := Lib.hid (zY_49.out.grown hg zY_49.out.size (fun j e => by cases e; have := HB0.out; omega))
            have W1b : Hid (Below w.heap.size w zx53) := Lib.hid (zHB_50.out.grown hg zHB_50.out.size (fun j e => by cases e; have := HW0.out; omega))
            have R1b := Lib.hid (zR_48.out.gr hg (fun e => by have e2 := Option.some.inj e; have := (show D < z4.heap.size from R4.out.lt); have := HB0.out; omega))
            have S1b : Hid (bb ≤ zx53.heap.size) := Lib.hid (Nat.le_trans BB.out hg.size)
            have O1b := Lib.hid ho
            clear ho hg hat hbo
            have LEN1b : Hid ((([]) ++ (us.take i)).length = i) := Lib.hid (by rw [List.length_append, List.length_nil, show (us.take i).length = i from UTL.out] <;> (have := JL.out; have := M2.out; have := IC.out; omega))
            have zhS54 : (fun w' : World => w'.cell? ⟨D, 1, none⟩ = some (.slice (some ⟨b1, o1, none⟩) c k1)) zx53 := R1b.out.cell 1
            refine HzK52.out _ _ zhS54 fun _ => ?_
            try simp only [Act.put, List.setIfInBounds_toArray, List.set_cons_zero, List.set_cons_succ]
            refine wpAnyH_ready (rs := [12, 14]) (by kernel_rfl) (by simp) ?_
            refine AllReadyH.cons rfl (fun K hK => ?_) (AllReadyH.cons rfl (fun K hK => ?_) AllReadyH.nil)
            · have HzK55 := Lib.hid hK
              clear hK
              rw [if_pos (by rfl)]
              refine wp_cat (.tmp 79) (.tmp 84) rfl bb gb1 (i) qb1 (([]) ++ (us.take i)) b1 (o2) (m2) k2' (us.drop j) (c - 1) (by have := JL.out; have := M2.out; have := IC.out; omega) rfl O1b.out LEN1b.out rfl UDL.out (fun q hq => UDC.out _ Y1b.out q hq) UDO.out (by have := CC.out; omega) S1b.out ?_
              intro gb2 qb2 zx56 ho hg hat
              have hbo := O1b.out.1
              have Y2b : Hid (Below z4.heap.size z4 zx56) := Lib.hid (Y1b.out.grown hg Y1b.out.size (fun j e => by cases e; have := HB0.out; omega))
              have W2b : Hid (Below w.heap.size w zx56) := Lib.hid (W1b.out.grown hg W1b.out.size (fun j e => by cases e; have := HW0.out; omega))
              have R2b := Lib.hid (R1b.out.gr hg (fun e => by have e2 := Option.some.inj e; have := (show D < z4.heap.size from R4.out.lt); have := HB0.out; omega))
              have S2b : Hid (bb ≤ zx56.heap.size) := Lib.hid (Nat.le_trans S1b.out hg.size)
              have O2b := Lib.hid ho
              clear ho hg hat hbo
              have LEN2b : Hid (((([]) ++ (us.take i)) ++ (us.drop j)).length = c - 1) := Lib.hid (by rw [List.length_append, LEN1b.out, show (us.drop j).length = m2 from UDL.out] <;> (have := JL.out; have := M2.out; have := IC.out; omega))
              have zhS57 : (fun w' : World => w'.cell? ⟨D, 1, none⟩ = some (.slice (some ⟨b1, o1, none⟩) c k1)) zx56 := R2b.out.cell 1
              refine HzK55.out _ _ zhS57 fun _ => ?_
              try simp only [Act.put, List.setIfInBounds_toArray, List.set_cons_zero, List.set_cons_succ]
              refine takeD (i := 13) (v := .agg #[.int .i64 (v : Int), .slice (some ⟨gb2, 0, none⟩) (c - 1) qb2]) (some 86) rfl rfl (by kernel_rfl) (by kernel_rfl) (by kernel_rfl) (fun _ _ _ h => h) (Or.inl ⟨by rfl, by rintro w' -; go_simp⟩) zhS57 ?_
              simp only [Act.put, List.setIfInBounds_toArray, List.set_cons_zero, List.set_cons_succ]
              refine wpAnyH_ready (rs := [14]) (by kernel_rfl) (by simp) ?_
              refine AllReadyH.cons rfl (fun zK58 hzK58 => ?_) AllReadyH.nil
              have HzK58 := Lib.hid hzK58
              clear hzK58
              rw [if_pos (by rfl)]
              refine wp_allocD rfl ?_
              obtain ⟨D3, hD3⟩ : ∃ e, zx56.heap.size = e := ⟨_, rfl⟩
              have hbx : Below zx56.heap.size zx56 (zx56.alloc (.cells #[.int .i64 0, .slice none 0 0] 25)) := (Below.refl _ _).alloc (Nat.le_refl _) _
              have RQ := Lib.hid (row_new' zx56 #[.int .i64 0, .slice none 0 0] 25)
              rw [hD3] at RQ
              have DLb : Hid (D < D3) := Lib.hid (by have := R2b.out.lt; omega)
              have HWD3 : Hid (w.heap.size ≤ D3) := Lib.hid (by have := W2b.out.size; omega)
              have HZD3 : Hid (z4.heap.size ≤ D3) := Lib.hid (by have := Y2b.out.size; omega)
              have NE : Hid (gb2 ≠ D3) := Lib.hid (by have := O2b.out.lt; omega)
              obtain ⟨zx59, hxb⟩ : ∃ q, zx56.alloc (.cells #[.int .i64 0, .slice none 0 0] 25) = q := ⟨_, rfl⟩
              rw [hxb] at hbx RQ
              rw [hD3, hxb]
              have zhq60 : Below zx56.heap.size zx56 zx59 := hbx
              have zR_61 := Lib.hid (Row.go R2b.out zhq60)
              have zY_62 := Lib.hid (bel_to Y2b.out zhq60)
              have zO_63 := Lib.hid (Cat.to O2b.out zhq60)
              have zBB_64 := Lib.hid (Nat.le_trans S2b.out (Below.size zhq60))
              have zHB_65 : Hid (Below w.heap.size w zx59) := Lib.hid (W2b.out.trans (zhq60.mono W2b.out.size))
              clear zhq60
              clear hbx hxb hD3
              have zhS66 : (fun w' : World => w'.cell? ⟨D, 1, none⟩ = some (.slice (some ⟨b1, o1, none⟩) c k1)) zx59 := zR_61.out.cell 1
              refine HzK58.out _ _ zhS66 fun _ => ?_
              try simp only [Act.put, List.setIfInBounds_toArray, List.set_cons_zero, List.set_cons_succ]
              refine wpAnyH_ready (rs := [15]) (by kernel_rfl) (by simp) ?_
              refine AllReadyH.cons rfl (fun zK67 hzK67 => ?_) AllReadyH.nil
              have HzK67 := Lib.hid hzK67
              clear hzK67
              rw [if_pos (by rfl)]
              have cc := (show _ = some _ from RQ.out.cell 0)
              have ff := RQ.out.frozen 0
              have cd := (show _ = some _ from RQ.out.cell 1)
              have fg := RQ.out.frozen 1
              go_simp
              clear cc ff cd fg
              have FB := Lib.hid ((zHB_65.out.setCell (p := ⟨D3, 0, none⟩) HWD3.out (.int .i64 (v : Int))).setCell (p := ⟨D3, 1, none⟩) HWD3.out (.slice (some ⟨gb2, 0, none⟩) (c - 1) qb2))
              have FY := Lib.hid ((zY_62.out.setCell (p := ⟨D3, 0, none⟩) HZD3.out (.int .i64 (v : Int))).setCell (p := ⟨D3, 1, none⟩) HZD3.out (.slice (some ⟨gb2, 0, none⟩) (c - 1) qb2))
              have FR := Lib.hid ((zR_61.out.oth (k := D3) (by have := DLb.out; omega) 0 (.int .i64 (v : Int))).oth (k := D3) (by have := DLb.out; omega) 1 (.slice (some ⟨gb2, 0, none⟩) (c - 1) qb2))
              have FQ := Lib.hid ((RQ.out.store 0 (.int .i64 (v : Int))).store 1 (.slice (some ⟨gb2, 0, none⟩) (c - 1) qb2))
              have FO := Lib.hid ((zO_63.out.oth (p := ⟨D3, 0, none⟩) NE.out (.int .i64 (v : Int))).oth (p := ⟨D3, 1, none⟩) NE.out (.slice (some ⟨gb2, 0, none⟩) (c - 1) qb2))
              obtain ⟨Vb, hV⟩ : ∃ V, ((zx59.setCell ⟨D3, 0, none⟩ (.int .i64 (v : Int))).setCell ⟨D3, 1, none⟩ (.slice (some ⟨gb2, 0, none⟩) (c - 1) qb2)) = V := ⟨_, rfl⟩
              rw [hV] at FB FY FR FQ FO ⊢
              clear hV
              have FBb := FB
              have FYb := FY
              have FRb := FR
              have FQb := FQ
              have FOb := FO
              clear FB FY FR FQ FO
              have zhS68 : (fun w' : World => w'.cell? ⟨D, 1, none⟩ = some (.slice (some ⟨b1, o1, none⟩) c k1)) Vb := FRb.out.cell 1
              refine HzK67.out _ _ zhS68 fun _ => ?_
              refine wpAnyH_done (by kernel_rfl) ?_ _
              have GT : Hid (Gs Vb (.slice (some ⟨gb2, 0, none⟩) (c - 1) qb2) (L.take i ++ L.drop (i + 1))) := Lib.hid (by have h := FOb.out; rw [List.nil_append, ← JL.out] at h; exact h.gs (by rw [List.length_append, List.length_take, List.length_drop, UL.out]; have := IC.out; omega) (by rw [List.length_append, List.length_take, List.length_drop, LN.out]; have := IC.out; omega) (less_rows IC.out UL.out LN.out (UN.out _ FYb.out)))
              have CK3 : Hid (Calls Tryd.prog 16 #[.agg #[.int .i64 (v : Int), .slice (some ⟨gb2, 0, none⟩) (c - 1) qb2]] Vb (bel (.tuple #[.int .i64 0, .int .i64 0, .int .i64 5]) Vb)) := Lib.hid (check_nobal (less_nobal BAL.out (by rw [LN.out]; exact IC.out) kv L1.out) _ Vb GT.out)
              have e0 := (show _ = some _ from FQb.out.cell 0)
              have e1 := (show _ = some _ from FQb.out.cell 1)
              clear GT
              go_wp2_with fail
              refine CK3.out.mono ?_
              rintro e zx70 ⟨rfl, zhb69⟩
              have zhq71 : Below Vb.heap.size Vb zx70 := zhb69
              have zR_72 := Lib.hid (Row.go FRb.out zhq71)
              have zY_73 := Lib.hid (bel_to FYb.out zhq71)
              have zHB_74 : Hid (Below w.heap.size w zx70) := Lib.hid (FBb.out.trans (zhq71.mono FBb.out.size))
              clear zhq71
              clear zhb69 e0 e1 CK3
              have w1 : IntKind.i64.wrap (2 * (r : Int)) = ((2 * r : Nat) : Int) := by rw [IntKind.wrap_i64]; omega
              have w2 : IntKind.i64.wrap (2 * (l : Int)) = ((2 * l : Nat) : Int) := by rw [IntKind.wrap_i64]; omega
              have w3 : wrap64 (2 * (r : Int)) = ((2 * r : Nat) : Int) := by rw [IntWalk.wrap64_in _ ⟨by omega, by omega⟩]; omega
              have w4 : wrap64 (2 * (l : Int)) = ((2 * l : Nat) : Int) := by rw [IntWalk.wrap64_in _ ⟨by omega, by omega⟩]; omega
              go_wp2_with fail
              go_ret
              exact ⟨rfl, zHB_74.out⟩
            · have HzK55 := Lib.hid hK
              clear hK
              rw [if_pos (by rfl)]
              refine wp_allocD rfl ?_
              obtain ⟨D3, hD3⟩ : ∃ e, zx53.heap.size = e := ⟨_, rfl⟩
              have hbx : Below zx53.heap.size zx53 (zx53.alloc (.cells #[.int .i64 0, .slice none 0 0] 25)) := (Below.refl _ _).alloc (Nat.le_refl _) _
              have RQ := Lib.hid (row_new' zx53 #[.int .i64 0, .slice none 0 0] 25)
              rw [hD3] at RQ
              have DLb : Hid (D < D3) := Lib.hid (by have := R1b.out.lt; omega)
              have HWD3 : Hid (w.heap.size ≤ D3) := Lib.hid (by have := W1b.out.size; omega)
              have HZD3 : Hid (z4.heap.size ≤ D3) := Lib.hid (by have := Y1b.out.size; omega)
              have NE : Hid (gb1 ≠ D3) := Lib.hid (by have := O1b.out.lt; omega)
              obtain ⟨zx56, hxb⟩ : ∃ q, zx53.alloc (.cells #[.int .i64 0, .slice none 0 0] 25) = q := ⟨_, rfl⟩
              rw [hxb] at hbx RQ
              rw [hD3, hxb]
              have zhq57 : Below zx53.heap.size zx53 zx56 := hbx
              have zR_58 := Lib.hid (Row.go R1b.out zhq57)
              have zY_59 := Lib.hid (bel_to Y1b.out zhq57)
              have zO_60 := Lib.hid (Cat.to O1b.out zhq57)
              have zBB_61 := Lib.hid (Nat.le_trans S1b.out (Below.size zhq57))
              have zHB_62 : Hid (Below w.heap.size w zx56) := Lib.hid (W1b.out.trans (zhq57.mono W1b.out.size))
              clear zhq57
              clear hbx hxb hD3
              have zhS63 : (fun w' : World => w'.cell? ⟨D, 1, none⟩ = some (.slice (some ⟨b1, o1, none⟩) c k1)) zx56 := zR_58.out.cell 1
              refine HzK55.out _ _ zhS63 fun _ => ?_
              try simp only [Act.put, List.setIfInBounds_toArray, List.set_cons_zero, List.set_cons_succ]
              refine wpAnyH_ready (rs := [12]) (by kernel_rfl) (by simp) ?_
              refine AllReadyH.cons rfl (fun zK64 hzK64 => ?_) AllReadyH.nil
              have HzK64 := Lib.hid hzK64
              clear hzK64
              rw [if_pos (by rfl)]
              refine wp_cat (.tmp 79) (.tmp 84) rfl bb gb1 (i) qb1 (([]) ++ (us.take i)) b1 (o2) (m2) k2' (us.drop j) (c - 1) (by have := JL.out; have := M2.out; have := IC.out; omega) rfl zO_60.out LEN1b.out rfl UDL.out (fun q hq => UDC.out _ zY_59.out q hq) UDO.out (by have := CC.out; omega) zBB_61.out ?_
              intro gb2 qb2 zx65 ho hg hat
              have hbo := zO_60.out.1
              have Y2b : Hid (Below z4.heap.size z4 zx65) := Lib.hid (zY_59.out.grown hg zY_59.out.size (fun j e => by cases e; have := HB0.out; omega))
              have W2b : Hid (Below w.heap.size w zx65) := Lib.hid (zHB_62.out.grown hg zHB_62.out.size (fun j e => by cases e; have := HW0.out; omega))
              have R2b := Lib.hid (zR_58.out.gr hg (fun e => by have e2 := Option.some.inj e; have := (show D < z4.heap.size from R4.out.lt); have := HB0.out; omega))
              have S2b : Hid (bb ≤ zx65.heap.size) := Lib.hid (Nat.le_trans zBB_61.out hg.size)
              have O2b := Lib.hid ho
              have Q2b := Lib.hid (RQ.out.gr hg (fun e => NE.out (Option.some.inj e).symm))
              have NE2 : Hid (gb2 ≠ D3) := Lib.hid (by have h1 := RQ.out.lt; have h2 := NE.out; rcases hat with h | h; exact h ▸ h2; omega)
              clear ho hg hat hbo
              have LEN2b : Hid (((([]) ++ (us.take i)) ++ (us.drop j)).length = c - 1) := Lib.hid (by rw [List.length_append, LEN1b.out, show (us.drop j).length = m2 from UDL.out] <;> (have := JL.out; have := M2.out; have := IC.out; omega))
              have zhS66 : (fun w' : World => w'.cell? ⟨D, 1, none⟩ = some (.slice (some ⟨b1, o1, none⟩) c k1)) zx65 := R2b.out.cell 1
              refine HzK64.out _ _ zhS66 fun _ => ?_
              try simp only [Act.put, List.setIfInBounds_toArray, List.set_cons_zero, List.set_cons_succ]
              refine takeD (i := 13) (v := .agg #[.int .i64 (v : Int), .slice (some ⟨gb2, 0, none⟩) (c - 1) qb2]) (some 86) rfl rfl (by kernel_rfl) (by kernel_rfl) (by kernel_rfl) (fun _ _ _ h => h) (Or.inl ⟨by rfl, by rintro w' -; go_simp⟩) zhS66 ?_
              simp only [Act.put, List.setIfInBounds_toArray, List.set_cons_zero, List.set_cons_succ]
              refine wpAnyH_ready (rs := [15]) (by kernel_rfl) (by simp) ?_
              refine AllReadyH.cons rfl (fun zK67 hzK67 => ?_) AllReadyH.nil
              have HzK67 := Lib.hid hzK67
              clear hzK67
              rw [if_pos (by rfl)]
              have cc := (show _ = some _ from Q2b.out.cell 0)
              have ff := Q2b.out.frozen 0
              have cd := (show _ = some _ from Q2b.out.cell 1)
              have fg := Q2b.out.frozen 1
              go_simp
              clear cc ff cd fg
              have FB := Lib.hid ((W2b.out.setCell (p := ⟨D3, 0, none⟩) HWD3.out (.int .i64 (v : Int))).setCell (p := ⟨D3, 1, none⟩) HWD3.out (.slice (some ⟨gb2, 0, none⟩) (c - 1) qb2))
              have FY := Lib.hid ((Y2b.out.setCell (p := ⟨D3, 0, none⟩) HZD3.out (.int .i64 (v : Int))).setCell (p := ⟨D3, 1, none⟩) HZD3.out (.slice (some ⟨gb2, 0, none⟩) (c - 1) qb2))
              have FR := Lib.hid ((R2b.out.oth (k := D3) (by have := DLb.out; omega) 0 (.int .i64 (v : Int))).oth (k := D3) (by have := DLb.out; omega) 1 (.slice (some ⟨gb2, 0, none⟩) (c - 1) qb2))
              have FQ := Lib.hid ((Q2b.out.store 0 (.int .i64 (v : Int))).store 1 (.slice (some ⟨gb2, 0, none⟩) (c - 1) qb2))
              have FO := Lib.hid ((O2b.out.oth (p := ⟨D3, 0, none⟩) NE2.out (.int .i64 (v : Int))).oth (p := ⟨D3, 1, none⟩) NE2.out (.slice (some ⟨gb2, 0, none⟩) (c - 1) qb2))
              obtain ⟨Vb, hV⟩ : ∃ V, ((zx65.setCell ⟨D3, 0, none⟩ (.int .i64 (v : Int))).setCell ⟨D3, 1, none⟩ (.slice (some ⟨gb2, 0, none⟩) (c - 1) qb2)) = V := ⟨_, rfl⟩
              rw [hV] at FB FY FR FQ FO ⊢
              clear hV
              have FBb := FB
              have FYb := FY
              have FRb := FR
              have FQb := FQ
              have FOb := FO
              clear FB FY FR FQ FO
              have zhS68 : (fun w' : World => w'.cell? ⟨D, 1, none⟩ = some (.slice (some ⟨b1, o1, none⟩) c k1)) Vb := FRb.out.cell 1
              refine HzK67.out _ _ zhS68 fun _ => ?_
              refine wpAnyH_done (by kernel_rfl) ?_ _
              have GT : Hid (Gs Vb (.slice (some ⟨gb2, 0, none⟩) (c - 1) qb2) (L.take i ++ L.drop (i + 1))) := Lib.hid (by have h := FOb.out; rw [List.nil_append, ← JL.out] at h; exact h.gs (by rw [List.length_append, List.length_take, List.length_drop, UL.out]; have := IC.out; omega) (by rw [List.length_append, List.length_take, List.length_drop, LN.out]; have := IC.out; omega) (less_rows IC.out UL.out LN.out (UN.out _ FYb.out)))
              have CK3 : Hid (Calls Tryd.prog 16 #[.agg #[.int .i64 (v : Int), .slice (some ⟨gb2, 0, none⟩) (c - 1) qb2]] Vb (bel (.tuple #[.int .i64 0, .int .i64 0, .int .i64 5]) Vb)) := Lib.hid (check_nobal (less_nobal BAL.out (by rw [LN.out]; exact IC.out) kv L1.out) _ Vb GT.out)
              have e0 := (show _ = some _ from FQb.out.cell 0)
              have e1 := (show _ = some _ from FQb.out.cell 1)
              clear GT
              go_wp2_with fail
              refine CK3.out.mono ?_
              rintro e zx70 ⟨rfl, zhb69⟩
              have zhq71 : Below Vb.heap.size Vb zx70 := zhb69
              have zR_72 := Lib.hid (Row.go FRb.out zhq71)
              have zY_73 := Lib.hid (bel_to FYb.out zhq71)
              have zHB_74 : Hid (Below w.heap.size w zx70) := Lib.hid (FBb.out.trans (zhq71.mono FBb.out.size))
              clear zhq71
              clear zhb69 e0 e1 CK3
              have w1 : IntKind.i64.wrap (2 * (r : Int)) = ((2 * r : Nat) : Int) := by rw [IntKind.wrap_i64]; omega
              have w2 : IntKind.i64.wrap (2 * (l : Int)) = ((2 * l : Nat) : Int) := by rw [IntKind.wrap_i64]; omega
              have w3 : wrap64 (2 * (r : Int)) = ((2 * r : Nat) : Int) := by rw [IntWalk.wrap64_in _ ⟨by omega, by omega⟩]; omega
              have w4 : wrap64 (2 * (l : Int)) = ((2 * l : Nat) : Int) := by rw [IntWalk.wrap64_in _ ⟨by omega, by omega⟩]; omega
              go_wp2_with fail
              go_ret
              exact ⟨rfl, zHB_74.out⟩
          · have HzK52 := Lib.hid hK
            clear hK
            rw [if_pos (by rfl)]
            refine wp_allocD rfl ?_
            obtain ⟨D3, hD3⟩ : ∃ e, zx46.heap.size = e := ⟨_, rfl⟩
            have hbx : Below zx46.heap.size zx46 (zx46.alloc (.cells #[.int .i64 0, .slice none 0 0] 25)) := (Below.refl _ _).alloc (Nat.le_refl _) _
            have RQ := Lib.hid (row_new' zx46 #[.int .i64 0, .slice none 0 0] 25)
            rw [hD3] at RQ
            have DLb : Hid (D < D3) := Lib.hid (by have := zR_48.out.lt; omega)
            have HWD3 : Hid (w.heap.size ≤ D3) := Lib.hid (by have := zHB_50.out.size; omega)
            have HZD3 : Hid (z4.heap.size ≤ D3) := Lib.hid (by have := zY_49.out.size; omega)
            have NE : Hid (bb ≠ D3) := Lib.hid (by have := CT.out.lt; omega)
            obtain ⟨zx53, hxb⟩ : ∃ q, zx46.alloc (.cells #[.int .i64 0, .slice none 0 0] 25) = q := ⟨_, rfl⟩
            rw [hxb] at hbx RQ
            rw [hD3, hxb]
            have zhq54 : Below zx46.heap.size zx46 zx53 := hbx
            have zR_55 := Lib.hid (Row.go zR_48.out zhq54)
            have zY_56 := Lib.hid (bel_to zY_49.out zhq54)
            have zO_57 := Lib.hid (Cat.to CT.out zhq54)
            have zBB_58 := Lib.hid (Nat.le_trans BB.out (Below.size zhq54))
            have zHB_59 : Hid (Below w.heap.size w zx53) := Lib.hid (zHB_50.out.trans (zhq54.mono zHB_50.out.size))
            clear zhq54
            clear hbx hxb hD3
            have zhS60 : (fun w' : World => w'.cell? ⟨D, 1, none⟩ = some (.slice (some ⟨b1, o1, none⟩) c k1)) zx53 := zR_55.out.cell 1
            refine HzK52.out _ _ zhS60 fun _ => ?_
            try simp only [Act.put, List.setIfInBounds_toArray, List.set_cons_zero, List.set_cons_succ]
            refine wpAnyH_ready (rs := [6]) (by kernel_rfl) (by simp) ?_
            refine AllReadyH.cons rfl (fun zK61 hzK61 => ?_) AllReadyH.nil
            have HzK61 := Lib.hid hzK61
            clear hzK61
            rw [if_pos (by rfl)]
            refine wp_cat (.tmp 74) (.tmp 78) rfl bb bb (0) 0 ([]) b1 (o1) (i) k1 (us.take i) (i) (by have := JL.out; have := M2.out; have := IC.out; omega) rfl zO_57.out rfl rfl UTL.out (fun q hq => UTC.out _ zY_56.out q hq) UTO.out (by have := CC.out; omega) zBB_58.out ?_
            intro gb1 qb1 zx62 ho hg hat
            have hbo := zO_57.out.1
            have Y1b : Hid (Below z4.heap.size z4 zx62) := Lib.hid (zY_56.out.grown hg zY_56.out.size (fun j e => by cases e; have := HB0.out; omega))
            have W1b : Hid (Below w.heap.size w zx62) := Lib.hid (zHB_59.out.grown hg zHB_59.out.size (fun j e => by cases e; have := HW0.out; omega))
            have R1b := Lib.hid (zR_55.out.gr hg (fun e => by have e2 := Option.some.inj e; have := (show D < z4.heap.size from R4.out.lt); have := HB0.out; omega))
            have S1b : Hid (bb ≤ zx62.heap.size) := Lib.hid (Nat.le_trans zBB_58.out hg.size)
            have O1b := Lib.hid ho
            have Q1b := Lib.hid (RQ.out.gr hg (fun e => NE.out (Option.some.inj e).symm))
            have NE1 : Hid (gb1 ≠ D3) := Lib.hid (by have h1 := RQ.out.lt; have h2 := NE.out; rcases hat with h | h; exact h ▸ h2; omega)
            clear ho hg hat hbo
            have LEN1b : Hid ((([]) ++ (us.take i)).length = i) := Lib.hid (by rw [List.length_append, List.length_nil, show (us.take i).length = i from UTL.out] <;> (have := JL.out; have := M2.out; have := IC.out; omega))
            have zhS63 : (fun w' : World => w'.cell? ⟨D, 1, none⟩ = some (.slice (some ⟨b1, o1, none⟩) c k1)) zx62 := R1b.out.cell 1
            refine HzK61.out _ _ zhS63 fun _ => ?_
            try simp only [Act.put, List.setIfInBounds_toArray, List.set_cons_zero, List.set_cons_succ]
            refine wpAnyH_ready (rs := [12]) (by kernel_rfl) (by simp) ?_
            refine AllReadyH.cons rfl (fun zK64 hzK64 => ?_) AllReadyH.nil
            have HzK64 := Lib.hid hzK64
            clear hzK64
            rw [if_pos (by rfl)]
            refine wp_cat (.tmp 79) (.tmp 84) rfl bb gb1 (i) qb1 (([]) ++ (us.take i)) b1 (o2) (m2) k2' (us.drop j) (c - 1) (by have := JL.out; have := M2.out; have := IC.out; omega) rfl O1b.out LEN1b.out rfl UDL.out (fun q hq => UDC.out _ Y1b.out q hq) UDO.out (by have := CC.out; omega) S1b.out ?_
            intro gb2 qb2 zx65 ho hg hat
            have hbo := O1b.out.1
            have Y2b : Hid (Below z4.heap.size z4 zx65) := Lib.hid (Y1b.out.grown hg Y1b.out.size (fun j e => by cases e; have := HB0.out; omega))
            have W2b : Hid (Below w.heap.size w zx65) := Lib.hid (W1b.out.grown hg W1b.out.size (fun j e => by cases e; have := HW0.out; omega))
            have R2b := Lib.hid (R1b.out.gr hg (fun e => by have e2 := Option.some.inj e; have := (show D < z4.heap.size from R4.out.lt); have := HB0.out; omega))
            have S2b : Hid (bb ≤ zx65.heap.size) := Lib.hid (Nat.le_trans S1b.out hg.size)
            have O2b := Lib.hid ho
            have Q2b := Lib.hid (Q1b.out.gr hg (fun e => NE1.out (Option.some.inj e).symm))
            have NE2 : Hid (gb2 ≠ D3) := Lib.hid (by have h1 := Q1b.out.lt; have h2 := NE1.out; rcases hat with h | h; exact h ▸ h2; omega)
            clear ho hg hat hbo
            have LEN2b : Hid (((([]) ++ (us.take i)) ++ (us.drop j)).length = c - 1) := Lib.hid (by rw [List.length_append, LEN1b.out, show (us.drop j).length = m2 from UDL.out] <;> (have := JL.out; have := M2.out; have := IC.out; omega))
            have zhS66 : (fun w' : World => w'.cell? ⟨D, 1, none⟩ = some (.slice (some ⟨b1, o1, none⟩) c k1)) zx65 := R2b.out.cell 1
            refine HzK64.out _ _ zhS66 fun _ => ?_
            try simp only [Act.put, List.setIfInBounds_toArray, List.set_cons_zero, List.set_cons_succ]
            refine takeD (i := 13) (v := .agg #[.int .i64 (v : Int), .slice (some ⟨gb2, 0, none⟩) (c - 1) qb2]) (some 86) rfl rfl (by kernel_rfl) (by kernel_rfl) (by kernel_rfl) (fun _ _ _ h => h) (Or.inl ⟨by rfl, by rintro w' -; go_simp⟩) zhS66 ?_
            simp only [Act.put, List.setIfInBounds_toArray, List.set_cons_zero, List.set_cons_succ]
            refine wpAnyH_ready (rs := [15]) (by kernel_rfl) (by simp) ?_
            refine AllReadyH.cons rfl (fun zK67 hzK67 => ?_) AllReadyH.nil
            have HzK67 := Lib.hid hzK67
            clear hzK67
            rw [if_pos (by rfl)]
            have cc := (show _ = some _ from Q2b.out.cell 0)
            have ff := Q2b.out.frozen 0
            have cd := (show _ = some _ from Q2b.out.cell 1)
            have fg := Q2b.out.frozen 1
            go_simp
            clear cc ff cd fg
            have FB := Lib.hid ((W2b.out.setCell (p := ⟨D3, 0, none⟩) HWD3.out (.int .i64 (v : Int))).setCell (p := ⟨D3, 1, none⟩) HWD3.out (.slice (some ⟨gb2, 0, none⟩) (c - 1) qb2))
            have FY := Lib.hid ((Y2b.out.setCell (p := ⟨D3, 0, none⟩) HZD3.out (.int .i64 (v : Int))).setCell (p := ⟨D3, 1, none⟩) HZD3.out (.slice (some ⟨gb2, 0, none⟩) (c - 1) qb2))
            have FR := Lib.hid ((R2b.out.oth (k := D3) (by have := DLb.out; omega) 0 (.int .i64 (v : Int))).oth (k := D3) (by have := DLb.out; omega) 1 (.slice (some ⟨gb2, 0, none⟩) (c - 1) qb2))
            have FQ := Lib.hid ((Q2b.out.store 0 (.int .i64 (v : Int))).store 1 (.slice (some ⟨gb2, 0, none⟩) (c - 1) qb2))
            have FO := Lib.hid ((O2b.out.oth (p := ⟨D3, 0, none⟩) NE2.out (.int .i64 (v : Int))).oth (p := ⟨D3, 1, none⟩) NE2.out (.slice (some ⟨gb2, 0, none⟩) (c - 1) qb2))
            obtain ⟨Vb, hV⟩ : ∃ V, ((zx65.setCell ⟨D3, 0, none⟩ (.int .i64 (v : Int))).setCell ⟨D3, 1, none⟩ (.slice (some ⟨gb2, 0, none⟩) (c - 1) qb2)) = V := ⟨_, rfl⟩
            rw [hV] at FB FY FR FQ FO ⊢
            clear hV
            have FBb := FB
            have FYb := FY
            have FRb := FR
            have FQb := FQ
            have FOb := FO
            clear FB FY FR FQ FO
            have zhS68 : (fun w' : World => w'.cell? ⟨D, 1, none⟩ = some (.slice (some ⟨b1, o1, none⟩) c k1)) Vb := FRb.out.cell 1
            refine HzK67.out _ _ zhS68 fun _ => ?_
            refine wpAnyH_done (by kernel_rfl) ?_ _
            have GT : Hid (Gs Vb (.slice (some ⟨gb2, 0, none⟩) (c - 1) qb2) (L.take i ++ L.drop (i + 1))) := Lib.hid (by have h := FOb.out; rw [List.nil_append, ← JL.out] at h; exact h.gs (by rw [List.length_append, List.length_take, List.length_drop, UL.out]; have := IC.out; omega) (by rw [List.length_append, List.length_take, List.length_drop, LN.out]; have := IC.out; omega) (less_rows IC.out UL.out LN.out (UN.out _ FYb.out)))
            have CK3 : Hid (Calls Tryd.prog 16 #[.agg #[.int .i64 (v : Int), .slice (some ⟨gb2, 0, none⟩) (c - 1) qb2]] Vb (bel (.tuple #[.int .i64 0, .int .i64 0, .int .i64 5]) Vb)) := Lib.hid (check_nobal (less_nobal BAL.out (by rw [LN.out]; exact IC.out) kv L1.out) _ Vb GT.out)
            have e0 := (show _ = some _ from FQb.out.cell 0)
            have e1 := (show _ = some _ from FQb.out.cell 1)
            clear GT
            go_wp2_with fail
            refine CK3.out.mono ?_
            rintro e zx70 ⟨rfl, zhb69⟩
            have zhq71 : Below Vb.heap.size Vb zx70 := zhb69
            have zR_72 := Lib.hid (Row.go FRb.out zhq71)
            have zY_73 := Lib.hid (bel_to FYb.out zhq71)
            have zHB_74 : Hid (Below w.heap.size w zx70) := Lib.hid (FBb.out.trans (zhq71.mono FBb.out.size))
            clear zhq71
            clear zhb69 e0 e1 CK3
            have w1 : IntKind.i64.wrap (2 * (r : Int)) = ((2 * r : Nat) : Int) := by rw [IntKind.wrap_i64]; omega
            have w2 : IntKind.i64.wrap (2 * (l : Int)) = ((2 * l : Nat) : Int) := by rw [IntKind.wrap_i64]; omega
            have w3 : wrap64 (2 * (r : Int)) = ((2 * r : Nat) : Int) := by rw [IntWalk.wrap64_in _ ⟨by omega, by omega⟩]; omega
            have w4 : wrap64 (2 * (l : Int)) = ((2 * l : Nat) : Int) := by rw [IntWalk.wrap64_in _ ⟨by omega, by omega⟩]; omega
            go_wp2_with fail
            go_ret
            exact ⟨rfl, zHB_74.out⟩
        · have HzK45 := Lib.hid hK
          clear hK
          rw [if_pos (by rfl)]
          refine wp_allocD rfl ?_
          obtain ⟨D3, hD3⟩ : ∃ e, zwz38.heap.size = e := ⟨_, rfl⟩
          have hbx : Below zwz38.heap.size zwz38 (zwz38.alloc (.cells #[.int .i64 0, .slice none 0 0] 25)) := (Below.refl _ _).alloc (Nat.le_refl _) _
          have RQ := Lib.hid (row_new' zwz38 #[.int .i64 0, .slice none 0 0] 25)
          rw [hD3] at RQ
          have DLb : Hid (D < D3) := Lib.hid (by have := zR_41.out.lt; omega)
          have HWD3 : Hid (w.heap.size ≤ D3) := Lib.hid (by have := zHB_43.out.size; omega)
          have HZD3 : Hid (z4.heap.size ≤ D3) := Lib.hid (by have := zY_42.out.size; omega)
          obtain ⟨zx46, hxb⟩ : ∃ q, zwz38.alloc (.cells #[.int .i64 0, .slice none 0 0] 25) = q := ⟨_, rfl⟩
          rw [hxb] at hbx RQ
          rw [hD3, hxb]
          have zhq47 : Below zwz38.heap.size zwz38 zx46 := hbx
          have zR_48 := Lib.hid (Row.go zR_41.out zhq47)
          have zY_49 := Lib.hid (bel_to zY_42.out zhq47)
          have zHB_50 : Hid (Below w.heap.size w zx46) := Lib.hid (zHB_43.out.trans (zhq47.mono zHB_43.out.size))
          clear zhq47
          clear hbx hxb hD3
          have zhS51 : (fun w' : World => w'.cell? ⟨D, 1, none⟩ = some (.slice (some ⟨b1, o1, none⟩) c k1)) zx46 := zR_48.out.cell 1
          refine HzK45.out _ _ zhS51 fun _ => ?_
          try simp only [Act.put, List.setIfInBounds_toArray, List.set_cons_zero, List.set_cons_succ]
          refine wpAnyH_ready (rs := [1]) (by kernel_rfl) (by simp) ?_
          refine AllReadyH.cons rfl (fun zK52 hzK52 => ?_) AllReadyH.nil
          have HzK52 := Lib.hid hzK52
          clear hzK52
          rw [if_pos (by rfl)]
          refine wp_build_00 rfl ?_
          obtain ⟨bb, hb0⟩ : ∃ e, zx46.heap.size = e := ⟨_, rfl⟩
          have hbx : Below zx46.heap.size zx46 (zx46.alloc (.cells #[] 40)) := (Below.refl _ _).alloc (Nat.le_refl _) _
          have CT : Hid (Cat (zx46.alloc (.cells #[] 40)) bb bb 0 []) := Lib.hid ⟨Nat.le_refl _, #[], by rw [← hb0]; exact row_new' zx46 #[] 40, rfl, Nat.zero_le _, Nat.le_refl 0, rfl⟩
          have NE : Hid (bb ≠ D3) := Lib.hid (by have := RQ.out.lt; omega)
          have BB : Hid (bb ≤ (zx46.alloc (.cells #[] 40)).heap.size) := Lib.hid (by rw [World.size_alloc]; omega)
          obtain ⟨zx53, hxb⟩ : ∃ q, zx46.alloc (.cells #[] 40) = q := ⟨_, rfl⟩
          rw [hxb] at hbx CT BB
          rw [hb0, hxb]
          have HB0 : Hid (z4.heap.size ≤ bb) := Lib.hid (by have := zY_49.out.size; omega)
          have HW0 : Hid (w.heap.size ≤ bb) := Lib.hid (by have := zHB_50.out.size; omega)
          have zhq54 : Below zx46.heap.size zx46 zx53 := hbx
          have zR_55 := Lib.hid (Row.go zR_48.out zhq54)
          have zY_56 := Lib.hid (bel_to zY_49.out zhq54)
          have zQ_57 := Lib.hid (Row.go RQ.out zhq54)
          have zHB_58 : Hid (Below w.heap.size w zx53) := Lib.hid (zHB_50.out.trans (zhq54.mono zHB_50.out.size))
          clear zhq54
          clear hbx hxb hb0
          have zhS59 : (fun w' : World => w'.cell? ⟨D, 1, none⟩ = some (.slice (some ⟨b1, o1, none⟩) c k1)) zx53 := zR_55.out.cell 1
          refine HzK52.out _ _ zhS59 fun _ => ?_
          try simp only [Act.put, List.setIfInBounds_toArray, List.set_cons_zero, List.set_cons_succ]
          refine wpAnyH_ready (rs := [6]) (by kernel_rfl) (by simp) ?_
          refine AllReadyH.cons rfl (fun zK60 hzK60 => ?_) AllReadyH.nil
          have HzK60 := Lib.hid hzK60
          clear hzK60
          rw [if_pos (by rfl)]
          refine wp_cat (.tmp 74) (.tmp 78) rfl bb bb (0) 0 ([]) b1 (o1) (i) k1 (us.take i) (i) (by have := JL.out; have := M2.out; have := IC.out; omega) rfl CT.out rfl rfl UTL.out (fun q hq => UTC.out _ zY_56.out q hq) UTO.out (by have := CC.out; omega) BB.out ?_
          intro gb1 qb1 zx61 ho hg hat
          have hbo := CT.out.1
          have Y1b : Hid (Below z4.heap.size z4 zx61) := Lib.hid (zY_56.out.grown hg zY_56.out.size (fun j e => by cases e; have := HB0.out; omega))
          have W1b : Hid (Below w.heap.size w zx61) := Lib.hid (zHB_58.out.grown hg zHB_58.out.size (fun j e => by cases e; have := HW0.out; omega))
          have R1b := Lib.hid (zR_55.out.gr hg (fun e => by have e2 := Option.some.inj e; have := (show D < z4.heap.size from R4.out.lt); have := HB0.out; omega))
          have S1b : Hid (bb ≤ zx61.heap.size) := Lib.hid (Nat.le_trans BB.out hg.size)
          have O1b := Lib.hid ho
          have Q1b := Lib.hid (zQ_57.out.gr hg (fun e => NE.out (Option.some.inj e).symm))
          have NE1 : Hid (gb1 ≠ D3) := Lib.hid (by have h1 := zQ_57.out.lt; have h2 := NE.out; rcases hat with h | h; exact h ▸ h2; omega)
          clear ho hg hat hbo
          have LEN1b : Hid ((([]) ++ (us.take i)).length = i) := Lib.hid (by rw [List.length_append, List.length_nil, show (us.take i).length = i from UTL.out] <;> (have := JL.out; have := M2.out; have := IC.out; omega))
          have zhS62 : (fun w' : World => w'.cell? ⟨D, 1, none⟩ = some (.slice (some ⟨b1, o1, none⟩) c k1)) zx61 := R1b.out.cell 1
          refine HzK60.out _ _ zhS62 fun _ => ?_
          try simp only [Act.put, List.setIfInBounds_toArray, List.set_cons_zero, List.set_cons_succ]
          refine wpAnyH_ready (rs := [12]) (by kernel_rfl) (by simp) ?_
          refine AllReadyH.cons rfl (fun zK63 hzK63 => ?_) AllReadyH.nil
          have HzK63 := Lib.hid hzK63
          clear hzK63
          rw [if_pos (by rfl)]
          refine wp_cat (.tmp 79) (.tmp 84) rfl bb gb1 (i) qb1 (([]) ++ (us.take i)) b1 (o2) (m2) k2' (us.drop j) (c - 1) (by have := JL.out; have := M2.out; have := IC.out; omega) rfl O1b.out LEN1b.out rfl UDL.out (fun q hq => UDC.out _ Y1b.out q hq) UDO.out (by have := CC.out; omega) S1b.out ?_
          intro gb2 qb2 zx64 ho hg hat
          have hbo := O1b.out.1
          have Y2b : Hid (Below z4.heap.size z4 zx64) := Lib.hid (Y1b.out.grown hg Y1b.out.size (fun j e => by cases e; have := HB0.out; omega))
          have W2b : Hid (Below w.heap.size w zx64) := Lib.hid (W1b.out.grown hg W1b.out.size (fun j e => by cases e; have := HW0.out; omega))
          have R2b := Lib.hid (R1b.out.gr hg (fun e => by have e2 := Option.some.inj e; have := (show D < z4.heap.size from R4.out.lt); have := HB0.out; omega))
          have S2b : Hid (bb ≤ zx64.heap.size) := Lib.hid (Nat.le_trans S1b.out hg.size)
          have O2b := Lib.hid ho
          have Q2b := Lib.hid (Q1b.out.gr hg (fun e => NE1.out (Option.some.inj e).symm))
          have NE2 : Hid (gb2 ≠ D3) := Lib.hid (by have h1 := Q1b.out.lt; have h2 := NE1.out; rcases hat with h | h; exact h ▸ h2; omega)
          clear ho hg hat hbo
          have LEN2b : Hid (((([]) ++ (us.take i)) ++ (us.drop j)).length = c - 1) := Lib.hid (by rw [List.length_append, LEN1b.out, show (us.drop j).length = m2 from UDL.out] <;> (have := JL.out; have := M2.out; have := IC.out; omega))
          have zhS65 : (fun w' : World => w'.cell? ⟨D, 1, none⟩ = some (.slice (some ⟨b1, o1, none⟩) c k1)) zx64 := R2b.out.cell 1
          refine HzK63.out _ _ zhS65 fun _ => ?_
          try simp only [Act.put, List.setIfInBounds_toArray, List.set_cons_zero, List.set_cons_succ]
          refine takeD (i := 13) (v := .agg #[.int .i64 (v : Int), .slice (some ⟨gb2, 0, none⟩) (c - 1) qb2]) (some 86) rfl rfl (by kernel_rfl) (by kernel_rfl) (by kernel_rfl) (fun _ _ _ h => h) (Or.inl ⟨by rfl, by rintro w' -; go_simp⟩) zhS65 ?_
          simp only [Act.put, List.setIfInBounds_toArray, List.set_cons_zero, List.set_cons_succ]
          refine wpAnyH_ready (rs := [15]) (by kernel_rfl) (by simp) ?_
          refine AllReadyH.cons rfl (fun zK66 hzK66 => ?_) AllReadyH.nil
          have HzK66 := Lib.hid hzK66
          clear hzK66
          rw [if_pos (by rfl)]
          have cc := (show _ = some _ from Q2b.out.cell 0)
          have ff := Q2b.out.frozen 0
          have cd := (show _ = some _ from Q2b.out.cell 1)
          have fg := Q2b.out.frozen 1
          go_simp
          clear cc ff cd fg
          have FB := Lib.hid ((W2b.out.setCell (p := ⟨D3, 0, none⟩) HWD3.out (.int .i64 (v : Int))).setCell (p := ⟨D3, 1, none⟩) HWD3.out (.slice (some ⟨gb2, 0, none⟩) (c - 1) qb2))
          have FY := Lib.hid ((Y2b.out.setCell (p := ⟨D3, 0, none⟩) HZD3.out (.int .i64 (v : Int))).setCell (p := ⟨D3, 1, none⟩) HZD3.out (.slice (some ⟨gb2, 0, none⟩) (c - 1) qb2))
          have FR := Lib.hid ((R2b.out.oth (k := D3) (by have := DLb.out; omega) 0 (.int .i64 (v : Int))).oth (k := D3) (by have := DLb.out; omega) 1 (.slice (some ⟨gb2, 0, none⟩) (c - 1) qb2))
          have FQ := Lib.hid ((Q2b.out.store 0 (.int .i64 (v : Int))).store 1 (.slice (some ⟨gb2, 0, none⟩) (c - 1) qb2))
          have FO := Lib.hid ((O2b.out.oth (p := ⟨D3, 0, none⟩) NE2.out (.int .i64 (v : Int))).oth (p := ⟨D3, 1, none⟩) NE2.out (.slice (some ⟨gb2, 0, none⟩) (c - 1) qb2))
          obtain ⟨Vb, hV⟩ : ∃ V, ((zx64.setCell ⟨D3, 0, none⟩ (.int .i64 (v : Int))).setCell ⟨D3, 1, none⟩ (.slice (some ⟨gb2, 0, none⟩) (c - 1) qb2)) = V := ⟨_, rfl⟩
          rw [hV] at FB FY FR FQ FO ⊢
          clear hV
          have FBb := FB
          have FYb := FY
          have FRb := FR
          have FQb := FQ
          have FOb := FO
          clear FB FY FR FQ FO
          have zhS67 : (fun w' : World => w'.cell? ⟨D, 1, none⟩ = some (.slice (some ⟨b1, o1, none⟩) c k1)) Vb := FRb.out.cell 1
          refine HzK66.out _ _ zhS67 fun _ => ?_
          refine wpAnyH_done (by kernel_rfl) ?_ _
          have GT : Hid (Gs Vb (.slice (some ⟨gb2, 0, none⟩) (c - 1) qb2) (L.take i ++ L.drop (i + 1))) := Lib.hid (by have h := FOb.out; rw [List.nil_append, ← JL.out] at h; exact h.gs (by rw [List.length_append, List.length_take, List.length_drop, UL.out]; have := IC.out; omega) (by rw [List.length_append, List.length_take, List.length_drop, LN.out]; have := IC.out; omega) (less_rows IC.out UL.out LN.out (UN.out _ FYb.out)))
          have CK3 : Hid (Calls Tryd.prog 16 #[.agg #[.int .i64 (v : Int), .slice (some ⟨gb2, 0, none⟩) (c - 1) qb2]] Vb (bel (.tuple #[.int .i64 0, .int .i64 0, .int .i64 5]) Vb)) := Lib.hid (check_nobal (less_nobal BAL.out (by rw [LN.out]; exact IC.out) kv L1.out) _ Vb GT.out)
          have e0 := (show _ = some _ from FQb.out.cell 0)
          have e1 := (show _ = some _ from FQb.out.cell 1)
          clear GT
          go_wp2_with fail
          refine CK3.out.mono ?_
          rintro e zx69 ⟨rfl, zhb68⟩
          have zhq70 : Below Vb.heap.size Vb zx69 := zhb68
          have zR_71 := Lib.hid (Row.go FRb.out zhq70)
          have zY_72 := Lib.hid (bel_to FYb.out zhq70)
          have zHB_73 : Hid (Below w.heap.size w zx69) := Lib.hid (FBb.out.trans (zhq70.mono FBb.out.size))
          clear zhq70
          clear zhb68 e0 e1 CK3
          have w1 : IntKind.i64.wrap (2 * (r : Int)) = ((2 * r : Nat) : Int) := by rw [IntKind.wrap_i64]; omega
          have w2 : IntKind.i64.wrap (2 * (l : Int)) = ((2 * l : Nat) : Int) := by rw [IntKind.wrap_i64]; omega
          have w3 : wrap64 (2 * (r : Int)) = ((2 * r : Nat) : Int) := by rw [IntWalk.wrap64_in _ ⟨by omega, by omega⟩]; omega
          have w4 : wrap64 (2 * (l : Int)) = ((2 * l : Nat) : Int) := by rw [IntWalk.wrap64_in _ ⟨by omega, by omega⟩]; omega
          go_wp2_with fail
          go_ret
          exact ⟨rfl, zHB_73.out⟩
    · have HzK15 := Lib.hid hK
      clear hK
      rw [if_pos (by rfl)]
      refine wp_allocD rfl ?_
      obtain ⟨D2, hD2⟩ : ∃ e, zx9.heap.size = e := ⟨_, rfl⟩
      have hbx : Below zx9.heap.size zx9 (zx9.alloc (.cells #[.int .i64 0, .slice none 0 0] 25)) := (Below.refl _ _).alloc (Nat.le_refl _) _
      have RQ := Lib.hid (row_new' zx9 #[.int .i64 0, .slice none 0 0] 25)
      rw [hD2] at RQ
      have DLa : Hid (D < D2) := Lib.hid (by have := zR_11.out.lt; omega)
      have HWD2 : Hid (w.heap.size ≤ D2) := Lib.hid (by have := zHB_13.out.size; omega)
      have HZD2 : Hid (z4.heap.size ≤ D2) := Lib.hid (by have := zY_12.out.size; omega)
      have NE : Hid (ba ≠ D2) := Lib.hid (by have := CT.out.lt; omega)
      obtain ⟨zx16, hxb⟩ : ∃ q, zx9.alloc (.cells #[.int .i64 0, .slice none 0 0] 25) = q := ⟨_, rfl⟩
      rw [hxb] at hbx RQ
      rw [hD2, hxb]
      have zhq17 : Below zx9.heap.size zx9 zx16 := hbx
      have zR_18 := Lib.hid (Row.go zR_11.out zhq17)
      have zY_19 := Lib.hid (bel_to zY_12.out zhq17)
      have zO_20 := Lib.hid (Cat.to CT.out zhq17)
      have zBB_21 := Lib.hid (Nat.le_trans BB.out (Below.size zhq17))
      have zHB_22 : Hid (Below w.heap.size w zx16) := Lib.hid (zHB_13.out.trans (zhq17.mono zHB_13.out.size))
      clear zhq17
      clear hbx hxb hD2
      have zhS23 : (fun w' : World => w'.cell? ⟨D, 1, none⟩ = some (.slice (some ⟨b1, o1, none⟩) c k1)) zx16 := zR_18.out.cell 1
      refine HzK15.out _ _ zhS23 fun _ => ?_
      try simp only [Act.put, List.setIfInBounds_toArray, List.set_cons_zero, List.set_cons_succ]
      refine wpAnyH_ready (rs := [4]) (by kernel_rfl) (by simp) ?_
      refine AllReadyH.cons rfl (fun zK24 hzK24 => ?_) AllReadyH.nil
      have HzK24 := Lib.hid hzK24
      clear hzK24
      rw [if_pos (by rfl)]
      refine wp_cat (.tmp 53) (.tmp 55) rfl ba ba (0) 0 ([]) b1 (o1) (c) k1 (us) (c) (by skip; omega) rfl zO_20.out rfl rfl UL.out (fun k hk => UC.out _ zY_19.out k hk) UO.out (by have := CC.out; omega) zBB_21.out ?_
      intro ga1 qa1 zx25 ho hg hat
      have hbo := zO_20.out.1
      have Y1a : Hid (Below z4.heap.size z4 zx25) := Lib.hid (zY_19.out.grown hg zY_19.out.size (fun j e => by cases e; have := HB0.out; omega))
      have W1a : Hid (Below w.heap.size w zx25) := Lib.hid (zHB_22.out.grown hg zHB_22.out.size (fun j e => by cases e; have := HW0.out; omega))
      have R1a := Lib.hid (zR_18.out.gr hg (fun e => by have e2 := Option.some.inj e; have := (show D < z4.heap.size from R4.out.lt); have := HB0.out; omega))
      have S1a : Hid (ba ≤ zx25.heap.size) := Lib.hid (Nat.le_trans zBB_21.out hg.size)
      have O1a := Lib.hid ho
      have Q1a := Lib.hid (RQ.out.gr hg (fun e => NE.out (Option.some.inj e).symm))
      have NE1 : Hid (ga1 ≠ D2) := Lib.hid (by have h1 := RQ.out.lt; have h2 := NE.out; rcases hat with h | h; exact h ▸ h2; omega)
      clear ho hg hat hbo
      have LEN1a : Hid ((([]) ++ (us)).length = c) := Lib.hid (by rw [List.length_append, List.length_nil, show (us).length = c from UL.out] <;> (skip; omega))
      have zhS26 : (fun w' : World => w'.cell? ⟨D, 1, none⟩ = some (.slice (some ⟨b1, o1, none⟩) c k1)) zx25 := R1a.out.cell 1
      refine HzK24.out _ _ zhS26 fun _ => ?_
      try simp only [Act.put, List.setIfInBounds_toArray, List.set_cons_zero, List.set_cons_succ]
      refine wpAnyH_ready (rs := [7]) (by kernel_rfl) (by simp) ?_
      refine AllReadyH.cons rfl (fun zK27 hzK27 => ?_) AllReadyH.nil
      have HzK27 := Lib.hid hzK27
      clear hzK27
      rw [if_pos (by rfl)]
      refine wp_cat (.tmp 56) (.tmp 58) rfl ba ga1 (c) qa1 (([]) ++ (us)) b1 (o1) (c) k1 (us) (c + c) (by skip; omega) rfl O1a.out LEN1a.out rfl UL.out (fun k hk => UC.out _ Y1a.out k hk) UO.out (by have := CC.out; omega) S1a.out ?_
      intro ga2 qa2 zx28 ho hg hat
      have hbo := O1a.out.1
      have Y2a : Hid (Below z4.heap.size z4 zx28) := Lib.hid (Y1a.out.grown hg Y1a.out.size (fun j e => by cases e; have := HB0.out; omega))
      have W2a : Hid (Below w.heap.size w zx28) := Lib.hid (W1a.out.grown hg W1a.out.size (fun j e => by cases e; have := HW0.out; omega))
      have R2a := Lib.hid (R1a.out.gr hg (fun e => by have e2 := Option.some.inj e; have := (show D < z4.heap.size from R4.out.lt); have := HB0.out; omega))
      have S2a : Hid (ba ≤ zx28.heap.size) := Lib.hid (Nat.le_trans S1a.out hg.size)
      have O2a := Lib.hid ho
      have Q2a := Lib.hid (Q1a.out.gr hg (fun e => NE1.out (Option.some.inj e).symm))
      have NE2 : Hid (ga2 ≠ D2) := Lib.hid (by have h1 := Q1a.out.lt; have h2 := NE1.out; rcases hat with h | h; exact h ▸ h2; omega)
      clear ho hg hat hbo
      have LEN2a : Hid (((([]) ++ (us)) ++ (us)).length = c + c) := Lib.hid (by rw [List.length_append, LEN1a.out, show (us).length = c from UL.out] <;> (skip; omega))
      have zhS29 : (fun w' : World => w'.cell? ⟨D, 1, none⟩ = some (.slice (some ⟨b1, o1, none⟩) c k1)) zx28 := R2a.out.cell 1
      refine HzK27.out _ _ zhS29 fun _ => ?_
      try simp only [Act.put, List.setIfInBounds_toArray, List.set_cons_zero, List.set_cons_succ]
      refine takeD (i := 8) (v := .agg #[.int .i64 (v : Int), .slice (some ⟨ga2, 0, none⟩) (c + c) qa2]) (some 60) rfl rfl (by kernel_rfl) (by kernel_rfl) (by kernel_rfl) (fun _ _ _ h => h) (Or.inl ⟨by rfl, by rintro w' -; go_simp⟩) zhS29 ?_
      simp only [Act.put, List.setIfInBounds_toArray, List.set_cons_zero, List.set_cons_succ]
      refine wpAnyH_ready (rs := [10]) (by kernel_rfl) (by simp) ?_
      refine AllReadyH.cons rfl (fun zK30 hzK30 => ?_) AllReadyH.nil
      have HzK30 := Lib.hid hzK30
      clear hzK30
      rw [if_pos (by rfl)]
      have cc := (show _ = some _ from Q2a.out.cell 0)
      have ff := Q2a.out.frozen 0
      have cd := (show _ = some _ from Q2a.out.cell 1)
      have fg := Q2a.out.frozen 1
      go_simp
      clear cc ff cd fg
      have FB := Lib.hid ((W2a.out.setCell (p := ⟨D2, 0, none⟩) HWD2.out (.int .i64 (v : Int))).setCell (p := ⟨D2, 1, none⟩) HWD2.out (.slice (some ⟨ga2, 0, none⟩) (c + c) qa2))
      have FY := Lib.hid ((Y2a.out.setCell (p := ⟨D2, 0, none⟩) HZD2.out (.int .i64 (v : Int))).setCell (p := ⟨D2, 1, none⟩) HZD2.out (.slice (some ⟨ga2, 0, none⟩) (c + c) qa2))
      have FR := Lib.hid ((R2a.out.oth (k := D2) (by have := DLa.out; omega) 0 (.int .i64 (v : Int))).oth (k := D2) (by have := DLa.out; omega) 1 (.slice (some ⟨ga2, 0, none⟩) (c + c) qa2))
      have FQ := Lib.hid ((Q2a.out.store 0 (.int .i64 (v : Int))).store 1 (.slice (some ⟨ga2, 0, none⟩) (c + c) qa2))
      have FO := Lib.hid ((O2a.out.oth (p := ⟨D2, 0, none⟩) NE2.out (.int .i64 (v : Int))).oth (p := ⟨D2, 1, none⟩) NE2.out (.slice (some ⟨ga2, 0, none⟩) (c + c) qa2))
      obtain ⟨Va, hV⟩ : ∃ V, ((zx28.setCell ⟨D2, 0, none⟩ (.int .i64 (v : Int))).setCell ⟨D2, 1, none⟩ (.slice (some ⟨ga2, 0, none⟩) (c + c) qa2)) = V := ⟨_, rfl⟩
      rw [hV] at FB FY FR FQ FO ⊢
      clear hV
      have FBa := FB
      have FYa := FY
      have FRa := FR
      have FQa := FQ
      have FOa := FO
      clear FB FY FR FQ FO
      have zhS31 : (fun w' : World => w'.cell? ⟨D, 1, none⟩ = some (.slice (some ⟨b1, o1, none⟩) c k1)) Va := FRa.out.cell 1
      refine HzK30.out _ _ zhS31 fun _ => ?_
      refine wpAnyH_done (by kernel_rfl) ?_ _
      have BT := Lib.hid (bal_twice BAL.out (by rw [LN.out]; have := CC.out; omega))
      have GT : Hid (Gs Va (.slice (some ⟨ga2, 0, none⟩) (c + c) qa2) (L ++ L)) := Lib.hid (by have h := FOa.out; rw [List.nil_append] at h; exact h.gs (by rw [List.length_append, UL.out]) (by rw [List.length_append, LN.out]) (twice_rows UL.out LN.out (UN.out _ FYa.out)))
      have CK2 : Hid (Calls Tryd.prog 16 #[.agg #[.int .i64 (v : Int), .slice (some ⟨ga2, 0, none⟩) (c + c) qa2]] Va (bel (.tuple #[.int .i64 ((2 * r : Nat) : Int), .int .i64 ((2 * l : Nat) : Int), .int .i64 0]) Va)) := Lib.hid (check_bal BT.out _ Va GT.out)
      have e0 := (show _ = some _ from FQa.out.cell 0)
      have e1 := (show _ = some _ from FQa.out.cell 1)
      clear BT GT
      go_wp2_with fail
      refine CK2.out.mono ?_
      rintro e zx33 ⟨rfl, zhb32⟩
      have zhq34 : Below Va.heap.size Va zx33 := zhb32
      have zR_35 := Lib.hid (Row.go FRa.out zhq34)
      have zY_36 := Lib.hid (bel_to FYa.out zhq34)
      have zHB_37 : Hid (Below w.heap.size w zx33) := Lib.hid (FBa.out.trans (zhq34.mono FBa.out.size))
      clear zhq34
      clear zhb32 e0 e1 CK2
      have e1 := (show _ = some _ from zR_35.out.cell 1)
      obtain ⟨i, hi⟩ : ∃ i, u % c = i := ⟨_, rfl⟩
      have ic : i < c := by rw [← hi]; exact Nat.mod_lt _ CC.out.2
      have ei : (u : Int).tmod (c : Int) = (i : Int) := by rw [← hi]; exact (Int.ofNat_tmod u c).symm
      have ei' : (u : Int) % (c : Int) = (i : Int) := by rw [← hi]; rfl
      have vi : IntKind.i64.wrap (i : Int) = (i : Int) := by have := CC.out; rw [IntKind.wrap_i64]; omega
      have vu : IntKind.i64.wrap (u : Int) = (u : Int) := by rw [IntKind.wrap_i64]; omega
      have vi' : wrap64 (i : Int) = (i : Int) := by have := CC.out; rw [IntWalk.wrap64_in _ ⟨by omega, by omega⟩]
      have cJ : ¬ (c : Int) = 0 := by have := CC.out; omega
      clear hi
      go_wp2_with fail
      clear e1 ei ei' vi vu vi' cJ
      obtain ⟨j, hj⟩ : ∃ j, i + 1 = j := ⟨_, rfl⟩
      have ej : (i : Int) + 1 = (j : Int) := by omega
      have vj : IntKind.i64.wrap (j : Int) = (j : Int) := by have := CC.out; rw [IntKind.wrap_i64]; omega
      have JL := Lib.hid hj
      obtain ⟨o2, k2', SLF, ho2⟩ := slice_from (b := b1) (o := o1) (n := c) (c := k1) (i := j) (by omega) ck1
      obtain ⟨m2, hm2⟩ : ∃ m, c - j = m := ⟨_, rfl⟩
      rw [hm2] at SLF
      have M2 := Lib.hid hm2
      have O2 := Lib.hid ho2
      have SF := Lib.hid SLF
      have UTL : Hid ((us.take i).length = i) := Lib.hid (by rw [List.length_take, UL.out]; omega)
      have UDL : Hid ((us.drop j).length = m2) := Lib.hid (by rw [List.length_drop, UL.out, M2.out])
      have UTC := Lib.hid (show ∀ W, Below z4.heap.size z4 W → ∀ q, q < i → W.cell? ⟨b1, o1 + q, none⟩ = some ((us.take i).getD q undef) from fun W hW q hq => by rw [UC.out W hW q (by omega), List.getD_eq_getElem?_getD, List.getD_eq_getElem?_getD, List.getElem?_take_of_lt hq])
      have UDC := Lib.hid (show ∀ W, Below z4.heap.size z4 W → ∀ q, q < m2 → W.cell? ⟨b1, o2 + q, none⟩ = some ((us.drop j).getD q undef) from fun W hW q hq => by have h := UC.out W hW (j + q) (by have := M2.out; omega); rw [O2.out (by have := M2.out; omega), List.getD_eq_getElem?_getD, List.getElem?_drop, ← List.getD_eq_getElem?_getD, Nat.add_assoc]; exact h)
      have UTO := Lib.hid (show ∀ x ∈ us.take i, x.oneCell' = true from fun x hx => UO.out x (List.mem_of_mem_take hx))
      have UDO := Lib.hid (show ∀ x ∈ us.drop j, x.oneCell' = true from fun x hx => UO.out x (List.mem_of_mem_drop hx))
      have IC := Lib.hid ic
      have iI : (i : Int) ≤ (k1 : Int) := by omega
      clear SLF hm2 ho2 hj
      refine wp_region_held (P := Tryd.prog) (S := (fun w' : World => w'.cell? ⟨D, 1, none⟩ = some (.slice (some ⟨b1, o1, none⟩) c k1))) rfl ?_
      change wpAnyH _ _ _ _ _ _ _ _ zx33.drew
      have zhz39 : Below zx33.heap.size zx33 zx33.drew := (Below.refl zx33.heap.size zx33).drew
      generalize zx33.drew = zwz38 at zhz39 ⊢
      have zhq40 : Below zx33.heap.size zx33 zwz38 := zhz39
      have zR_41 := Lib.hid (Row.go zR_35.out zhq40)
      have zY_42 := Lib.hid (bel_to zY_36.out zhq40)
      have zHB_43 : Hid (Below w.heap.size w zwz38) := Lib.hid (zHB_37.out.trans (zhq40.mono zHB_37.out.size))
      clear zhq40
      clear zhz39
      have zhS44 : (fun w' : World => w'.cell? ⟨D, 1, none⟩ = some (.slice (some ⟨b1, o1, none⟩) c k1)) zwz38 := zR_41.out.cell 1
      refine takeD (i := 0) (v := .int .i64 (v : Int)) (some 73) rfl rfl (by kernel_rfl) (by kernel_rfl) (by kernel_rfl) (fun _ _ _ h => h) (Or.inl ⟨by rfl, by rintro w' -; go_simp⟩) zhS44 ?_
      simp only [Act.put, List.setIfInBounds_toArray, List.set_cons_zero, List.set_cons_succ]
      refine takeD (i := 2) (v := .pointer (some ⟨D, 1, none⟩)) (some 75) rfl rfl (by kernel_rfl) (by kernel_rfl) (by kernel_rfl) (fun _ _ _ h => h) (Or.inl ⟨by rfl, by rintro w' -; go_simp⟩) zhS44 ?_
      simp only [Act.put, List.setIfInBounds_toArray, List.set_cons_zero, List.set_cons_succ]
      refine takeD (i := 3) (v := .slice (some ⟨b1, o1, none⟩) c k1) (some 76) rfl rfl (by kernel_rfl) (by kernel_rfl) (by kernel_rfl) (fun _ _ _ h => h) (Or.inl ⟨by rfl, by rintro w' h; have hc := h; go_simp⟩) zhS44 ?_
      simp only [Act.put, List.setIfInBounds_toArray, List.set_cons_zero, List.set_cons_succ]
      refine takeD (i := 4) (v := .int .i64 (i : Int)) (some 77) rfl rfl (by kernel_rfl) (by kernel_rfl) (by kernel_rfl) (fun _ _ _ h => h) (Or.inl ⟨by rfl, by rintro w' -; go_simp⟩) zhS44 ?_
      simp only [Act.put, List.setIfInBounds_toArray, List.set_cons_zero, List.set_cons_succ]
      refine takeD (i := 5) (v := .slice (some ⟨b1, o1, none⟩) i k1) (some 78) rfl rfl (by kernel_rfl) (by kernel_rfl) (by kernel_rfl) (fun _ _ _ h => h) (Or.inl ⟨by rfl, by rintro w' -; go_simp⟩) zhS44 ?_
      simp only [Act.put, List.setIfInBounds_toArray, List.set_cons_zero, List.set_cons_succ]
      refine takeD (i := 7) (v := .pointer (some ⟨D, 1, none⟩)) (some 80) rfl rfl (by kernel_rfl) (by kernel_rfl) (by kernel_rfl) (fun _ _ _ h => h) (Or.inl ⟨by rfl, by rintro w' -; go_simp⟩) zhS44 ?_
      simp only [Act.put, List.setIfInBounds_toArray, List.set_cons_zero, List.set_cons_succ]
      refine takeD (i := 8) (v := .slice (some ⟨b1, o1, none⟩) c k1) (some 81) rfl rfl (by kernel_rfl) (by kernel_rfl) (by kernel_rfl) (fun _ _ _ h => h) (Or.inl ⟨by rfl, by rintro w' h; have hc := h; go_simp⟩) zhS44 ?_
      simp only [Act.put, List.setIfInBounds_toArray, List.set_cons_zero, List.set_cons_succ]
      refine takeD (i := 9) (v := .int .i64 (i : Int)) (some 82) rfl rfl (by kernel_rfl) (by kernel_rfl) (by kernel_rfl) (fun _ _ _ h => h) (Or.inl ⟨by rfl, by rintro w' -; go_simp⟩) zhS44 ?_
      simp only [Act.put, List.setIfInBounds_toArray, List.set_cons_zero, List.set_cons_succ]
      refine takeD (i := 10) (v := .int .i64 (j : Int)) (some 83) rfl rfl (by kernel_rfl) (by kernel_rfl) (by kernel_rfl) (fun _ _ _ h => h) (Or.inl ⟨by rfl, by rintro w' -; go_simp⟩) zhS44 ?_
      simp only [Act.put, List.setIfInBounds_toArray, List.set_cons_zero, List.set_cons_succ]
      refine takeD (i := 11) (v := .slice (some ⟨b1, o2, none⟩) m2 k2') (some 84) rfl rfl (by kernel_rfl) (by kernel_rfl) (by kernel_rfl) (fun _ _ _ h => h) (Or.inl ⟨by rfl, by rintro w' -; have hc := SF.out w'; go_simp⟩) zhS44 ?_
      simp only [Act.put, List.setIfInBounds_toArray, List.set_cons_zero, List.set_cons_succ]
      refine wpAnyH_ready (rs := [1, 14]) (by kernel_rfl) (by simp) ?_
      refine AllReadyH.cons rfl (fun K hK => ?_) (AllReadyH.cons rfl (fun K hK => ?_) AllReadyH.nil)
      · have HzK45 := Lib.hid hK
        clear hK
        rw [if_pos (by rfl)]
        refine wp_build_00 rfl ?_
        obtain ⟨bb, hb0⟩ : ∃ e, zwz38.heap.size = e := ⟨_, rfl⟩
        have hbx : Below zwz38.heap.size zwz38 (zwz38.alloc (.cells #[] 40)) := (Below.refl _ _).alloc (Nat.le_refl _) _
        have CT : Hid (Cat (zwz38.alloc (.cells #[] 40)) bb bb 0 []) := Lib.hid ⟨Nat.le_refl _, #[], by rw [← hb0]; exact row_new' zwz38 #[] 40, rfl, Nat.zero_le _, Nat.le_refl 0, rfl⟩
        have BB : Hid (bb ≤ (zwz38.alloc (.cells #[] 40)).heap.size) := Lib.hid (by rw [World.size_alloc]; omega)
        obtain ⟨zx46, hxb⟩ : ∃ q, zwz38.alloc (.cells #[] 40) = q := ⟨_, rfl⟩
        rw [hxb] at hbx CT BB
        rw [hb0, hxb]
        have HB0 : Hid (z4.heap.size ≤ bb) := Lib.hid (by have := zY_42.out.size; omega)
        have HW0 : Hid (w.heap.size ≤ bb) := Lib.hid (by have := zHB_43.out.size; omega)
        have zhq47 : Below zwz38.heap.size zwz38 zx46 := hbx
        have zR_48 := Lib.hid (Row.go zR_41.out zhq47)
        have zY_49 := Lib.hid (bel_to zY_42.out zhq47)
        have zHB_50 : Hid (Below w.heap.size w zx46) := Lib.hid (zHB_43.out.trans (zhq47.mono zHB_43.out.size))
        clear zhq47
        clear hbx hxb hb0
        have zhS51 : (fun w' : World => w'.cell? ⟨D, 1, none⟩ = some (.slice (some ⟨b1, o1, none⟩) c k1)) zx46 := zR_48.out.cell 1
        refine HzK45.out _ _ zhS51 fun _ => ?_
        try simp only [Act.put, List.setIfInBounds_toArray, List.set_cons_zero, List.set_cons_succ]
        refine wpAnyH_ready (rs := [6, 14]) (by kernel_rfl) (by simp) ?_
        refine AllReadyH.cons rfl (fun K hK => ?_) (AllReadyH.cons rfl (fun K hK => ?_) AllReadyH.nil)
        · have HzK52 := Lib.hid hK
          clear hK
          rw [if_pos (by rfl)]
          refine wp_cat (.tmp 74) (.tmp 78) rfl bb bb (0) 0 ([]) b1 (o1) (i) k1 (us.take i) (i) (by have := JL.out; have := M2.out; have := IC.out; omega) rfl CT.out rfl rfl UTL.out (fun q hq => UTC.out _ zY_49.out q hq) UTO.out (by have := CC.out; omega) BB.out ?_
          intro gb1 qb1 zx53 ho hg hat
          have hbo := CT.out.1
          have Y1b : Hid (Below z4.heap.size z4 zx53) := Lib.hid (zY_49.out.grown hg zY_49.out.size (fun j e => by cases e; have := HB0.out; omega))
          have W1b : Hid (Below w.heap.size w zx53) := Lib.hid (zHB_50.out.grown hg zHB_50.out.size (fun j e => by cases e; have := HW0.out; omega))
          have R1b := Lib.hid (zR_48.out.gr hg (fun e => by have e2 := Option.some.inj e; have := (show D < z4.heap.size from R4.out.lt); have := HB0.out; omega))
          have S1b : Hid (bb ≤ zx53.heap.size) := Lib.hid (Nat.le_trans BB.out hg.size)
          have O1b := Lib.hid ho
          clear ho hg hat hbo
          have LEN1b : Hid ((([]) ++ (us.take i)).length = i) := Lib.hid (by rw [List.length_append, List.length_nil, show (us.take i).length = i from UTL.out] <;> (have := JL.out; have := M2.out; have := IC.out; omega))
          have zhS54 : (fun w' : World => w'.cell? ⟨D, 1, none⟩ = some (.slice (some ⟨b1, o1, none⟩) c k1)) zx53 := R1b.out.cell 1
          refine HzK52.out _ _ zhS54 fun _ => ?_
          try simp only [Act.put, List.setIfInBounds_toArray, List.set_cons_zero, List.set_cons_succ]
          refine wpAnyH_ready (rs := [12, 14]) (by kernel_rfl) (by simp) ?_
          refine AllReadyH.cons rfl (fun K hK => ?_) (AllReadyH.cons rfl (fun K hK => ?_) AllReadyH.nil)
          · have HzK55 := Lib.hid hK
            clear hK
            rw [if_pos (by rfl)]
            refine wp_cat (.tmp 79) (.tmp 84) rfl bb gb1 (i) qb1 (([]) ++ (us.take i)) b1 (o2) (m2) k2' (us.drop j) (c - 1) (by have := JL.out; have := M2.out; have := IC.out; omega) rfl O1b.out LEN1b.out rfl UDL.out (fun q hq => UDC.out _ Y1b.out q hq) UDO.out (by have := CC.out; omega) S1b.out ?_
            intro gb2 qb2 zx56 ho hg hat
            have hbo := O1b.out.1
            have Y2b : Hid (Below z4.heap.size z4 zx56) := Lib.hid (Y1b.out.grown hg Y1b.out.size (fun j e => by cases e; have := HB0.out; omega))
            have W2b : Hid (Below w.heap.size w zx56) := Lib.hid (W1b.out.grown hg W1b.out.size (fun j e => by cases e; have := HW0.out; omega))
            have R2b := Lib.hid (R1b.out.gr hg (fun e => by have e2 := Option.some.inj e; have := (show D < z4.heap.size from R4.out.lt); have := HB0.out; omega))
            have S2b : Hid (bb ≤ zx56.heap.size) := Lib.hid (Nat.le_trans S1b.out hg.size)
            have O2b := Lib.hid ho
            clear ho hg hat hbo
            have LEN2b : Hid (((([]) ++ (us.take i)) ++ (us.drop j)).length = c - 1) := Lib.hid (by rw [List.length_append, LEN1b.out, show (us.drop j).length = m2 from UDL.out] <;> (have := JL.out; have := M2.out; have := IC.out; omega))
            have zhS57 : (fun w' : World => w'.cell? ⟨D, 1, none⟩ = some (.slice (some ⟨b1, o1, none⟩) c k1)) zx56 := R2b.out.cell 1
            refine HzK55.out _ _ zhS57 fun _ => ?_
            try simp only [Act.put, List.setIfInBounds_toArray, List.set_cons_zero, List.set_cons_succ]
            refine takeD (i := 13) (v := .agg #[.int .i64 (v : Int), .slice (some ⟨gb2, 0, none⟩) (c - 1) qb2]) (some 86) rfl rfl (by kernel_rfl) (by kernel_rfl) (by kernel_rfl) (fun _ _ _ h => h) (Or.inl ⟨by rfl, by rintro w' -; go_simp⟩) zhS57 ?_
            simp only [Act.put, List.setIfInBounds_toArray, List.set_cons_zero, List.set_cons_succ]
            refine wpAnyH_ready (rs := [14]) (by kernel_rfl) (by simp) ?_
            refine AllReadyH.cons rfl (fun zK58 hzK58 => ?_) AllReadyH.nil
            have HzK58 := Lib.hid hzK58
            clear hzK58
            rw [if_pos (by rfl)]
            refine wp_allocD rfl ?_
            obtain ⟨D3, hD3⟩ : ∃ e, zx56.heap.size = e := ⟨_, rfl⟩
            have hbx : Below zx56.heap.size zx56 (zx56.alloc (.cells #[.int .i64 0, .slice none 0 0] 25)) := (Below.refl _ _).alloc (Nat.le_refl _) _
            have RQ := Lib.hid (row_new' zx56 #[.int .i64 0, .slice none 0 0] 25)
            rw [hD3] at RQ
            have DLb : Hid (D < D3) := Lib.hid (by have := R2b.out.lt; omega)
            have HWD3 : Hid (w.heap.size ≤ D3) := Lib.hid (by have := W2b.out.size; omega)
            have HZD3 : Hid (z4.heap.size ≤ D3) := Lib.hid (by have := Y2b.out.size; omega)
            have NE : Hid (gb2 ≠ D3) := Lib.hid (by have := O2b.out.lt; omega)
            obtain ⟨zx59, hxb⟩ : ∃ q, zx56.alloc (.cells #[.int .i64 0, .slice none 0 0] 25) = q := ⟨_, rfl⟩
            rw [hxb] at hbx RQ
            rw [hD3, hxb]
            have zhq60 : Below zx56.heap.size zx56 zx59 := hbx
            have zR_61 := Lib.hid (Row.go R2b.out zhq60)
            have zY_62 := Lib.hid (bel_to Y2b.out zhq60)
            have zO_63 := Lib.hid (Cat.to O2b.out zhq60)
            have zBB_64 := Lib.hid (Nat.le_trans S2b.out (Below.size zhq60))
            have zHB_65 : Hid (Below w.heap.size w zx59) := Lib.hid (W2b.out.trans (zhq60.mono W2b.out.size))
            clear zhq60
            clear hbx hxb hD3
            have zhS66 : (fun w' : World => w'.cell? ⟨D, 1, none⟩ = some (.slice (some ⟨b1, o1, none⟩) c k1)) zx59 := zR_61.out.cell 1
            refine HzK58.out _ _ zhS66 fun _ => ?_
            try simp only [Act.put, List.setIfInBounds_toArray, List.set_cons_zero, List.set_cons_succ]
            refine wpAnyH_ready (rs := [15]) (by kernel_rfl) (by simp) ?_
            refine AllReadyH.cons rfl (fun zK67 hzK67 => ?_) AllReadyH.nil
            have HzK67 := Lib.hid hzK67
            clear hzK67
            rw [if_pos (by rfl)]
            have cc := (show _ = some _ from RQ.out.cell 0)
            have ff := RQ.out.frozen 0
            have cd := (show _ = some _ from RQ.out.cell 1)
            have fg := RQ.out.frozen 1
            go_simp
            clear cc ff cd fg
            have FB := Lib.hid ((zHB_65.out.setCell (p := ⟨D3, 0, none⟩) HWD3.out (.int .i64 (v : Int))).setCell (p := ⟨D3, 1, none⟩) HWD3.out (.slice (some ⟨gb2, 0, none⟩) (c - 1) qb2))
            have FY := Lib.hid ((zY_62.out.setCell (p := ⟨D3, 0, none⟩) HZD3.out (.int .i64 (v : Int))).setCell (p := ⟨D3, 1, none⟩) HZD3.out (.slice (some ⟨gb2, 0, none⟩) (c - 1) qb2))
            have FR := Lib.hid ((zR_61.out.oth (k := D3) (by have := DLb.out; omega) 0 (.int .i64 (v : Int))).oth (k := D3) (by have := DLb.out; omega) 1 (.slice (some ⟨gb2, 0, none⟩) (c - 1) qb2))
            have FQ := Lib.hid ((RQ.out.store 0 (.int .i64 (v : Int))).store 1 (.slice (some ⟨gb2, 0, none⟩) (c - 1) qb2))
            have FO := Lib.hid ((zO_63.out.oth (p := ⟨D3, 0, none⟩) NE.out (.int .i64 (v : Int))).oth (p := ⟨D3, 1, none⟩) NE.out (.slice (some ⟨gb2, 0, none⟩) (c - 1) qb2))
            obtain ⟨Vb, hV⟩ : ∃ V, ((zx59.setCell ⟨D3, 0, none⟩ (.int .i64 (v : Int))).setCell ⟨D3, 1, none⟩ (.slice (some ⟨gb2, 0, none⟩) (c - 1) qb2)) = V := ⟨_, rfl⟩
            rw [hV] at FB FY FR FQ FO ⊢
            clear hV
            have FBb := FB
            have FYb := FY
            have FRb := FR
            have FQb := FQ
            have FOb := FO
            clear FB FY FR FQ FO
            have zhS68 : (fun w' : World => w'.cell? ⟨D, 1, none⟩ = some (.slice (some ⟨b1, o1, none⟩) c k1)) Vb := FRb.out.cell 1
            refine HzK67.out _ _ zhS68 fun _ => ?_
            refine wpAnyH_done (by kernel_rfl) ?_ _
            have GT : Hid (Gs Vb (.slice (some ⟨gb2, 0, none⟩) (c - 1) qb2) (L.take i ++ L.drop (i + 1))) := Lib.hid (by have h := FOb.out; rw [List.nil_append, ← JL.out] at h; exact h.gs (by rw [List.length_append, List.length_take, List.length_drop, UL.out]; have := IC.out; omega) (by rw [List.length_append, List.length_take, List.length_drop, LN.out]; have := IC.out; omega) (less_rows IC.out UL.out LN.out (UN.out _ FYb.out)))
            have CK3 : Hid (Calls Tryd.prog 16 #[.agg #[.int .i64 (v : Int), .slice (some ⟨gb2, 0, none⟩) (c - 1) qb2]] Vb (bel (.tuple #[.int .i64 0, .int .i64 0, .int .i64 5]) Vb)) := Lib.hid (check_nobal (less_nobal BAL.out (by rw [LN.out]; exact IC.out) kv L1.out) _ Vb GT.out)
            have e0 := (show _ = some _ from FQb.out.cell 0)
            have e1 := (show _ = some _ from FQb.out.cell 1)
            clear GT
            go_wp2_with fail
            refine CK3.out.mono ?_
            rintro e zx70 ⟨rfl, zhb69⟩
            have zhq71 : Below Vb.heap.size Vb zx70 := zhb69
            have zR_72 := Lib.hid (Row.go FRb.out zhq71)
            have zY_73 := Lib.hid (bel_to FYb.out zhq71)
            have zHB_74 : Hid (Below w.heap.size w zx70) := Lib.hid (FBb.out.trans (zhq71.mono FBb.out.size))
            clear zhq71
            clear zhb69 e0 e1 CK3
            have w1 : IntKind.i64.wrap (2 * (r : Int)) = ((2 * r : Nat) : Int) := by rw [IntKind.wrap_i64]; omega
            have w2 : IntKind.i64.wrap (2 * (l : Int)) = ((2 * l : Nat) : Int) := by rw [IntKind.wrap_i64]; omega
            have w3 : wrap64 (2 * (r : Int)) = ((2 * r : Nat) : Int) := by rw [IntWalk.wrap64_in _ ⟨by omega, by omega⟩]; omega
            have w4 : wrap64 (2 * (l : Int)) = ((2 * l : Nat) : Int) := by rw [IntWalk.wrap64_in _ ⟨by omega, by omega⟩]; omega
            go_wp2_with fail
            go_ret
            exact ⟨rfl, zHB_74.out⟩
          · have HzK55 := Lib.hid hK
            clear hK
            rw [if_pos (by rfl)]
            refine wp_allocD rfl ?_
            obtain ⟨D3, hD3⟩ : ∃ e, zx53.heap.size = e := ⟨_, rfl⟩
            have hbx : Below zx53.heap.size zx53 (zx53.alloc (.cells #[.int .i64 0, .slice none 0 0] 25)) := (Below.refl _ _).alloc (Nat.le_refl _) _
            have RQ := Lib.hid (row_new' zx53 #[.int .i64 0, .slice none 0 0] 25)
            rw [hD3] at RQ
            have DLb : Hid (D < D3) := Lib.hid (by have := R1b.out.lt; omega)
            have HWD3 : Hid (w.heap.size ≤ D3) := Lib.hid (by have := W1b.out.size; omega)
            have HZD3 : Hid (z4.heap.size ≤ D3) := Lib.hid (by have := Y1b.out.size; omega)
            have NE : Hid (gb1 ≠ D3) := Lib.hid (by have := O1b.out.lt; omega)
            obtain ⟨zx56, hxb⟩ : ∃ q, zx53.alloc (.cells #[.int .i64 0, .slice none 0 0] 25) = q := ⟨_, rfl⟩
            rw [hxb] at hbx RQ
            rw [hD3, hxb]
            have zhq57 : Below zx53.heap.size zx53 zx56 := hbx
            have zR_58 := Lib.hid (Row.go R1b.out zhq57)
            have zY_59 := Lib.hid (bel_to Y1b.out zhq57)
            have zO_60 := Lib.hid (Cat.to O1b.out zhq57)
            have zBB_61 := Lib.hid (Nat.le_trans S1b.out (Below.size zhq57))
            have zHB_62 : Hid (Below w.heap.size w zx56) := Lib.hid (W1b.out.trans (zhq57.mono W1b.out.size))
            clear zhq57
            clear hbx hxb hD3
            have zhS63 : (fun w' : World => w'.cell? ⟨D, 1, none⟩ = some (.slice (some ⟨b1, o1, none⟩) c k1)) zx56 := zR_58.out.cell 1
            refine HzK55.out _ _ zhS63 fun _ => ?_
            try simp only [Act.put, List.setIfInBounds_toArray, List.set_cons_zero, List.set_cons_succ]
            refine wpAnyH_ready (rs := [12]) (by kernel_rfl) (by simp) ?_
            refine AllReadyH.cons rfl (fun zK64 hzK64 => ?_) AllReadyH.nil
            have HzK64 := Lib.hid hzK64
            clear hzK64
            rw [if_pos (by rfl)]
            refine wp_cat (.tmp 79) (.tmp 84) rfl bb gb1 (i) qb1 (([]) ++ (us.take i)) b1 (o2) (m2) k2' (us.drop j) (c - 1) (by have := JL.out; have := M2.out; have := IC.out; omega) rfl zO_60.out LEN1b.out rfl UDL.out (fun q hq => UDC.out _ zY_59.out q hq) UDO.out (by have := CC.out; omega) zBB_61.out ?_
            intro gb2 qb2 zx65 ho hg hat
            have hbo := zO_60.out.1
            have Y2b : Hid (Below z4.heap.size z4 zx65) := Lib.hid (zY_59.out.grown hg zY_59.out.size (fun j e => by cases e; have := HB0.out; omega))
            have W2b : Hid (Below w.heap.size w zx65) := Lib.hid (zHB_62.out.grown hg zHB_62.out.size (fun j e => by cases e; have := HW0.out; omega))
            have R2b := Lib.hid (zR_58.out.gr hg (fun e => by have e2 := Option.some.inj e; have := (show D < z4.heap.size from R4.out.lt); have := HB0.out; omega))
            have S2b : Hid (bb ≤ zx65.heap.size) := Lib.hid (Nat.le_trans zBB_61.out hg.size)
            have O2b := Lib.hid ho
            have Q2b := Lib.hid (RQ.out.gr hg (fun e => NE.out (Option.some.inj e).symm))
            have NE2 : Hid (gb2 ≠ D3) := Lib.hid (by have h1 := RQ.out.lt; have h2 := NE.out; rcases hat with h | h; exact h ▸ h2; omega)
            clear ho hg hat hbo
            have LEN2b : Hid (((([]) ++ (us.take i)) ++ (us.drop j)).length = c - 1) := Lib.hid (by rw [List.length_append, LEN1b.out, show (us.drop j).length = m2 from UDL.out] <;> (have := JL.out; have := M2.out; have := IC.out; omega))
            have zhS66 : (fun w' : World => w'.cell? ⟨D, 1, none⟩ = some (.slice (some ⟨b1, o1, none⟩) c k1)) zx65 := R2b.out.cell 1
            refine HzK64.out _ _ zhS66 fun _ => ?_
            try simp only [Act.put, List.setIfInBounds_toArray, List.set_cons_zero, List.set_cons_succ]
            refine takeD (i := 13) (v := .agg #[.int .i64 (v : Int), .slice (some ⟨gb2, 0, none⟩) (c - 1) qb2]) (some 86) rfl rfl (by kernel_rfl) (by kernel_rfl) (by kernel_rfl) (fun _ _ _ h => h) (Or.inl ⟨by rfl, by rintro w' -; go_simp⟩) zhS66 ?_
            simp only [Act.put, List.setIfInBounds_toArray, List.set_cons_zero, List.set_cons_succ]
            refine wpAnyH_ready (rs := [15]) (by kernel_rfl) (by simp) ?_
            refine AllReadyH.cons rfl (fun zK67 hzK67 => ?_) AllReadyH.nil
            have HzK67 := Lib.hid hzK67
            clear hzK67
            rw [if_pos (by rfl)]
            have cc := (show _ = some _ from Q2b.out.cell 0)
            have ff := Q2b.out.frozen 0
            have cd := (show _ = some _ from Q2b.out.cell 1)
            have fg := Q2b.out.frozen 1
            go_simp
            clear cc ff cd fg
            have FB := Lib.hid ((W2b.out.setCell (p := ⟨D3, 0, none⟩) HWD3.out (.int .i64 (v : Int))).setCell (p := ⟨D3, 1, none⟩) HWD3.out (.slice (some ⟨gb2, 0, none⟩) (c - 1) qb2))
            have FY := Lib.hid ((Y2b.out.setCell (p := ⟨D3, 0, none⟩) HZD3.out (.int .i64 (v : Int))).setCell (p := ⟨D3, 1, none⟩) HZD3.out (.slice (some ⟨gb2, 0, none⟩) (c - 1) qb2))
            have FR := Lib.hid ((R2b.out.oth (k := D3) (by have := DLb.out; omega) 0 (.int .i64 (v : Int))).oth (k := D3) (by have := DLb.out; omega) 1 (.slice (some ⟨gb2, 0, none⟩) (c - 1) qb2))
            have FQ := Lib.hid ((Q2b.out.store 0 (.int .i64 (v : Int))).store 1 (.slice (some ⟨gb2, 0, none⟩) (c - 1) qb2))
            have FO := Lib.hid ((O2b.out.oth (p := ⟨D3, 0, none⟩) NE2.out (.int .i64 (v : Int))).oth (p := ⟨D3, 1, none⟩) NE2.out (.slice (some ⟨gb2, 0, none⟩) (c - 1) qb2))
            obtain ⟨Vb, hV⟩ : ∃ V, ((zx65.setCell ⟨D3, 0, none⟩ (.int .i64 (v : Int))).setCell ⟨D3, 1, none⟩ (.slice (some ⟨gb2, 0, none⟩) (c - 1) qb2)) = V := ⟨_, rfl⟩
            rw [hV] at FB FY FR FQ FO ⊢
            clear hV
            have FBb := FB
            have FYb := FY
            have FRb := FR
            have FQb := FQ
            have FOb := FO
            clear FB FY FR FQ FO
            have zhS68 : (fun w' : World => w'.cell? ⟨D, 1, none⟩ = some (.slice (some ⟨b1, o1, none⟩) c k1)) Vb := FRb.out.cell 1
            refine HzK67.out _ _ zhS68 fun _ => ?_
            refine wpAnyH_done (by kernel_rfl) ?_ _
            have GT : Hid (Gs Vb (.slice (some ⟨gb2, 0, none⟩) (c - 1) qb2) (L.take i ++ L.drop (i + 1))) := Lib.hid (by have h := FOb.out; rw [List.nil_append, ← JL.out] at h; exact h.gs (by rw [List.length_append, List.length_take, List.length_drop, UL.out]; have := IC.out; omega) (by rw [List.length_append, List.length_take, List.length_drop, LN.out]; have := IC.out; omega) (less_rows IC.out UL.out LN.out (UN.out _ FYb.out)))
            have CK3 : Hid (Calls Tryd.prog 16 #[.agg #[.int .i64 (v : Int), .slice (some ⟨gb2, 0, none⟩) (c - 1) qb2]] Vb (bel (.tuple #[.int .i64 0, .int .i64 0, .int .i64 5]) Vb)) := Lib.hid (check_nobal (less_nobal BAL.out (by rw [LN.out]; exact IC.out) kv L1.out) _ Vb GT.out)
            have e0 := (show _ = some _ from FQb.out.cell 0)
            have e1 := (show _ = some _ from FQb.out.cell 1)
            clear GT
            go_wp2_with fail
            refine CK3.out.mono ?_
            rintro e zx70 ⟨rfl, zhb69⟩
            have zhq71 : Below Vb.heap.size Vb zx70 := zhb69
            have zR_72 := Lib.hid (Row.go FRb.out zhq71)
            have zY_73 := Lib.hid (bel_to FYb.out zhq71)
            have zHB_74 : Hid (Below w.heap.size w zx70) := Lib.hid (FBb.out.trans (zhq71.mono FBb.out.size))
            clear zhq71
            clear zhb69 e0 e1 CK3
            have w1 : IntKind.i64.wrap (2 * (r : Int)) = ((2 * r : Nat) : Int) := by rw [IntKind.wrap_i64]; omega
            have w2 : IntKind.i64.wrap (2 * (l : Int)) = ((2 * l : Nat) : Int) := by rw [IntKind.wrap_i64]; omega
            have w3 : wrap64 (2 * (r : Int)) = ((2 * r : Nat) : Int) := by rw [IntWalk.wrap64_in _ ⟨by omega, by omega⟩]; omega
            have w4 : wrap64 (2 * (l : Int)) = ((2 * l : Nat) : Int) := by rw [IntWalk.wrap64_in _ ⟨by omega, by omega⟩]; omega
            go_wp2_with fail
            go_ret
            exact ⟨rfl, zHB_74.out⟩
        · have HzK52 := Lib.hid hK
          clear hK
          rw [if_pos (by rfl)]
          refine wp_allocD rfl ?_
          obtain ⟨D3, hD3⟩ : ∃ e, zx46.heap.size = e := ⟨_, rfl⟩
          have hbx : Below zx46.heap.size zx46 (zx46.alloc (.cells #[.int .i64 0, .slice none 0 0] 25)) := (Below.refl _ _).alloc (Nat.le_refl _) _
          have RQ := Lib.hid (row_new' zx46 #[.int .i64 0, .slice none 0 0] 25)
          rw [hD3] at RQ
          have DLb : Hid (D < D3) := Lib.hid (by have := zR_48.out.lt; omega)
          have HWD3 : Hid (w.heap.size ≤ D3) := Lib.hid (by have := zHB_50.out.size; omega)
          have HZD3 : Hid (z4.heap.size ≤ D3) := Lib.hid (by have := zY_49.out.size; omega)
          have NE : Hid (bb ≠ D3) := Lib.hid (by have := CT.out.lt; omega)
          obtain ⟨zx53, hxb⟩ : ∃ q, zx46.alloc (.cells #[.int .i64 0, .slice none 0 0] 25) = q := ⟨_, rfl⟩
          rw [hxb] at hbx RQ
          rw [hD3, hxb]
          have zhq54 : Below zx46.heap.size zx46 zx53 := hbx
          have zR_55 := Lib.hid (Row.go zR_48.out zhq54)
          have zY_56 := Lib.hid (bel_to zY_49.out zhq54)
          have zO_57 := Lib.hid (Cat.to CT.out zhq54)
          have zBB_58 := Lib.hid (Nat.le_trans BB.out (Below.size zhq54))
          have zHB_59 : Hid (Below w.heap.size w zx53) := Lib.hid (zHB_50.out.trans (zhq54.mono zHB_50.out.size))
          clear zhq54
          clear hbx hxb hD3
          have zhS60 : (fun w' : World => w'.cell? ⟨D, 1, none⟩ = some (.slice (some ⟨b1, o1, none⟩) c k1)) zx53 := zR_55.out.cell 1
          refine HzK52.out _ _ zhS60 fun _ => ?_
          try simp only [Act.put, List.setIfInBounds_toArray, List.set_cons_zero, List.set_cons_succ]
          refine wpAnyH_ready (rs := [6]) (by kernel_rfl) (by simp) ?_
          refine AllReadyH.cons rfl (fun zK61 hzK61 => ?_) AllReadyH.nil
          have HzK61 := Lib.hid hzK61
          clear hzK61
          rw [if_pos (by rfl)]
          refine wp_cat (.tmp 74) (.tmp 78) rfl bb bb (0) 0 ([]) b1 (o1) (i) k1 (us.take i) (i) (by have := JL.out; have := M2.out; have := IC.out; omega) rfl zO_57.out rfl rfl UTL.out (fun q hq => UTC.out _ zY_56.out q hq) UTO.out (by have := CC.out; omega) zBB_58.out ?_
          intro gb1 qb1 zx62 ho hg hat
          have hbo := zO_57.out.1
          have Y1b : Hid (Below z4.heap.size z4 zx62) := Lib.hid (zY_56.out.grown hg zY_56.out.size (fun j e => by cases e; have := HB0.out; omega))
          have W1b : Hid (Below w.heap.size w zx62) := Lib.hid (zHB_59.out.grown hg zHB_59.out.size (fun j e => by cases e; have := HW0.out; omega))
          have R1b := Lib.hid (zR_55.out.gr hg (fun e => by have e2 := Option.some.inj e; have := (show D < z4.heap.size from R4.out.lt); have := HB0.out; omega))
          have S1b : Hid (bb ≤ zx62.heap.size) := Lib.hid (Nat.le_trans zBB_58.out hg.size)
          have O1b := Lib.hid ho
          have Q1b := Lib.hid (RQ.out.gr hg (fun e => NE.out (Option.some.inj e).symm))
          have NE1 : Hid (gb1 ≠ D3) := Lib.hid (by have h1 := RQ.out.lt; have h2 := NE.out; rcases hat with h | h; exact h ▸ h2; omega)
          clear ho hg hat hbo
          have LEN1b : Hid ((([]) ++ (us.take i)).length = i) := Lib.hid (by rw [List.length_append, List.length_nil, show (us.take i).length = i from UTL.out] <;> (have := JL.out; have := M2.out; have := IC.out; omega))
          have zhS63 : (fun w' : World => w'.cell? ⟨D, 1, none⟩ = some (.slice (some ⟨b1, o1, none⟩) c k1)) zx62 := R1b.out.cell 1
          refine HzK61.out _ _ zhS63 fun _ => ?_
          try simp only [Act.put, List.setIfInBounds_toArray, List.set_cons_zero, List.set_cons_succ]
          refine wpAnyH_ready (rs := [12]) (by kernel_rfl) (by simp) ?_
          refine AllReadyH.cons rfl (fun zK64 hzK64 => ?_) AllReadyH.nil
          have HzK64 := Lib.hid hzK64
          clear hzK64
          rw [if_pos (by rfl)]
          refine wp_cat (.tmp 79) (.tmp 84) rfl bb gb1 (i) qb1 (([]) ++ (us.take i)) b1 (o2) (m2) k2' (us.drop j) (c - 1) (by have := JL.out; have := M2.out; have := IC.out; omega) rfl O1b.out LEN1b.out rfl UDL.out (fun q hq => UDC.out _ Y1b.out q hq) UDO.out (by have := CC.out; omega) S1b.out ?_
          intro gb2 qb2 zx65 ho hg hat
          have hbo := O1b.out.1
          have Y2b : Hid (Below z4.heap.size z4 zx65) := Lib.hid (Y1b.out.grown hg Y1b.out.size (fun j e => by cases e; have := HB0.out; omega))
          have W2b : Hid (Below w.heap.size w zx65) := Lib.hid (W1b.out.grown hg W1b.out.size (fun j e => by cases e; have := HW0.out; omega))
          have R2b := Lib.hid (R1b.out.gr hg (fun e => by have e2 := Option.some.inj e; have := (show D < z4.heap.size from R4.out.lt); have := HB0.out; omega))
          have S2b : Hid (bb ≤ zx65.heap.size) := Lib.hid (Nat.le_trans S1b.out hg.size)
          have O2b := Lib.hid ho
          have Q2b := Lib.hid (Q1b.out.gr hg (fun e => NE1.out (Option.some.inj e).symm))
          have NE2 : Hid (gb2 ≠ D3) := Lib.hid (by have h1 := Q1b.out.lt; have h2 := NE1.out; rcases hat with h | h; exact h ▸ h2; omega)
          clear ho hg hat hbo
          have LEN2b : Hid (((([]) ++ (us.take i)) ++ (us.drop j)).length = c - 1) := Lib.hid (by rw [List.length_append, LEN1b.out, show (us.drop j).length = m2 from UDL.out] <;> (have := JL.out; have := M2.out; have := IC.out; omega))
          have zhS66 : (fun w' : World => w'.cell? ⟨D, 1, none⟩ = some (.slice (some ⟨b1, o1, none⟩) c k1)) zx65 := R2b.out.cell 1
          refine HzK64.out _ _ zhS66 fun _ => ?_
          try simp only [Act.put, List.setIfInBounds_toArray, List.set_cons_zero, List.set_cons_succ]
          refine takeD (i := 13) (v := .agg #[.int .i64 (v : Int), .slice (some ⟨gb2, 0, none⟩) (c - 1) qb2]) (some 86) rfl rfl (by kernel_rfl) (by kernel_rfl) (by kernel_rfl) (fun _ _ _ h => h) (Or.inl ⟨by rfl, by rintro w' -; go_simp⟩) zhS66 ?_
          simp only [Act.put, List.setIfInBounds_toArray, List.set_cons_zero, List.set_cons_succ]
          refine wpAnyH_ready (rs := [15]) (by kernel_rfl) (by simp) ?_
          refine AllReadyH.cons rfl (fun zK67 hzK67 => ?_) AllReadyH.nil
          have HzK67 := Lib.hid hzK67
          clear hzK67
          rw [if_pos (by rfl)]
          have cc := (show _ = some _ from Q2b.out.cell 0)
          have ff := Q2b.out.frozen 0
          have cd := (show _ = some _ from Q2b.out.cell 1)
          have fg := Q2b.out.frozen 1
          go_simp
          clear cc ff cd fg
          have FB := Lib.hid ((W2b.out.setCell (p := ⟨D3, 0, none⟩) HWD3.out (.int .i64 (v : Int))).setCell (p := ⟨D3, 1, none⟩) HWD3.out (.slice (some ⟨gb2, 0, none⟩) (c - 1) qb2))
          have FY := Lib.hid ((Y2b.out.setCell (p := ⟨D3, 0, none⟩) HZD3.out (.int .i64 (v : Int))).setCell (p := ⟨D3, 1, none⟩) HZD3.out (.slice (some ⟨gb2, 0, none⟩) (c - 1) qb2))
          have FR := Lib.hid ((R2b.out.oth (k := D3) (by have := DLb.out; omega) 0 (.int .i64 (v : Int))).oth (k := D3) (by have := DLb.out; omega) 1 (.slice (some ⟨gb2, 0, none⟩) (c - 1) qb2))
          have FQ := Lib.hid ((Q2b.out.store 0 (.int .i64 (v : Int))).store 1 (.slice (some ⟨gb2, 0, none⟩) (c - 1) qb2))
          have FO := Lib.hid ((O2b.out.oth (p := ⟨D3, 0, none⟩) NE2.out (.int .i64 (v : Int))).oth (p := ⟨D3, 1, none⟩) NE2.out (.slice (some ⟨gb2, 0, none⟩) (c - 1) qb2))
          obtain ⟨Vb, hV⟩ : ∃ V, ((zx65.setCell ⟨D3, 0, none⟩ (.int .i64 (v : Int))).setCell ⟨D3, 1, none⟩ (.slice (some ⟨gb2, 0, none⟩) (c - 1) qb2)) = V := ⟨_, rfl⟩
          rw [hV] at FB FY FR FQ FO ⊢
          clear hV
          have FBb := FB
          have FYb := FY
          have FRb := FR
          have FQb := FQ
          have FOb := FO
          clear FB FY FR FQ FO
          have zhS68 : (fun w' : World => w'.cell? ⟨D, 1, none⟩ = some (.slice (some ⟨b1, o1, none⟩) c k1)) Vb := FRb.out.cell 1
          refine HzK67.out _ _ zhS68 fun _ => ?_
          refine wpAnyH_done (by kernel_rfl) ?_ _
          have GT : Hid (Gs Vb (.slice (some ⟨gb2, 0, none⟩) (c - 1) qb2) (L.take i ++ L.drop (i + 1))) := Lib.hid (by have h := FOb.out; rw [List.nil_append, ← JL.out] at h; exact h.gs (by rw [List.length_append, List.length_take, List.length_drop, UL.out]; have := IC.out; omega) (by rw [List.length_append, List.length_take, List.length_drop, LN.out]; have := IC.out; omega) (less_rows IC.out UL.out LN.out (UN.out _ FYb.out)))
          have CK3 : Hid (Calls Tryd.prog 16 #[.agg #[.int .i64 (v : Int), .slice (some ⟨gb2, 0, none⟩) (c - 1) qb2]] Vb (bel (.tuple #[.int .i64 0, .int .i64 0, .int .i64 5]) Vb)) := Lib.hid (check_nobal (less_nobal BAL.out (by rw [LN.out]; exact IC.out) kv L1.out) _ Vb GT.out)
          have e0 := (show _ = some _ from FQb.out.cell 0)
          have e1 := (show _ = some _ from FQb.out.cell 1)
          clear GT
          go_wp2_with fail
          refine CK3.out.mono ?_
          rintro e zx70 ⟨rfl, zhb69⟩
          have zhq71 : Below Vb.heap.size Vb zx70 := zhb69
          have zR_72 := Lib.hid (Row.go FRb.out zhq71)
          have zY_73 := Lib.hid (bel_to FYb.out zhq71)
          have zHB_74 : Hid (Below w.heap.size w zx70) := Lib.hid (FBb.out.trans (zhq71.mono FBb.out.size))
          clear zhq71
          clear zhb69 e0 e1 CK3
          have w1 : IntKind.i64.wrap (2 * (r : Int)) = ((2 * r : Nat) : Int) := by rw [IntKind.wrap_i64]; omega
          have w2 : IntKind.i64.wrap (2 * (l : Int)) = ((2 * l : Nat) : Int) := by rw [IntKind.wrap_i64]; omega
          have w3 : wrap64 (2 * (r : Int)) = ((2 * r : Nat) : Int) := by rw [IntWalk.wrap64_in _ ⟨by omega, by omega⟩]; omega
          have w4 : wrap64 (2 * (l : Int)) = ((2 * l : Nat) : Int) := by rw [IntWalk.wrap64_in _ ⟨by omega, by omega⟩]; omega
          go_wp2_with fail
          go_ret
          exact ⟨rfl, zHB_74.out⟩
      · have HzK45 := Lib.hid hK
        clear hK
        rw [if_pos (by rfl)]
        refine wp_allocD rfl ?_
        obtain ⟨D3, hD3⟩ : ∃ e, zwz38.heap.size = e := ⟨_, rfl⟩
        have hbx : Below zwz38.heap.size zwz38 (zwz38.alloc (.cells #[.int .i64 0, .slice none 0 0] 25)) := (Below.refl _ _).alloc (Nat.le_refl _) _
        have RQ := Lib.hid (row_new' zwz38 #[.int .i64 0, .slice none 0 0] 25)
        rw [hD3] at RQ
        have DLb : Hid (D < D3) := Lib.hid (by have := zR_41.out.lt; omega)
        have HWD3 : Hid (w.heap.size ≤ D3) := Lib.hid (by have := zHB_43.out.size; omega)
        have HZD3 : Hid (z4.heap.size ≤ D3) := Lib.hid (by have := zY_42.out.size; omega)
        obtain ⟨zx46, hxb⟩ : ∃ q, zwz38.alloc (.cells #[.int .i64 0, .slice none 0 0] 25) = q := ⟨_, rfl⟩
        rw [hxb] at hbx RQ
        rw [hD3, hxb]
        have zhq47 : Below zwz38.heap.size zwz38 zx46 := hbx
        have zR_48 := Lib.hid (Row.go zR_41.out zhq47)
        have zY_49 := Lib.hid (bel_to zY_42.out zhq47)
        have zHB_50 : Hid (Below w.heap.size w zx46) := Lib.hid (zHB_43.out.trans (zhq47.mono zHB_43.out.size))
        clear zhq47
        clear hbx hxb hD3
        have zhS51 : (fun w' : World => w'.cell? ⟨D, 1, none⟩ = some (.slice (some ⟨b1, o1, none⟩) c k1)) zx46 := zR_48.out.cell 1
        refine HzK45.out _ _ zhS51 fun _ => ?_
        try simp only [Act.put, List.setIfInBounds_toArray, List.set_cons_zero, List.set_cons_succ]
        refine wpAnyH_ready (rs := [1]) (by kernel_rfl) (by simp) ?_
        refine AllReadyH.cons rfl (fun zK52 hzK52 => ?_) AllReadyH.nil
        have HzK52 := Lib.hid hzK52
        clear hzK52
        rw [if_pos (by rfl)]
        refine wp_build_00 rfl ?_
        obtain ⟨bb, hb0⟩ : ∃ e, zx46.heap.size = e := ⟨_, rfl⟩
        have hbx : Below zx46.heap.size zx46 (zx46.alloc (.cells #[] 40)) := (Below.refl _ _).alloc (Nat.le_refl _) _
        have CT : Hid (Cat (zx46.alloc (.cells #[] 40)) bb bb 0 []) := Lib.hid ⟨Nat.le_refl _, #[], by rw [← hb0]; exact row_new' zx46 #[] 40, rfl, Nat.zero_le _, Nat.le_refl 0, rfl⟩
        have NE : Hid (bb ≠ D3) := Lib.hid (by have := RQ.out.lt; omega)
        have BB : Hid (bb ≤ (zx46.alloc (.cells #[] 40)).heap.size) := Lib.hid (by rw [World.size_alloc]; omega)
        obtain ⟨zx53, hxb⟩ : ∃ q, zx46.alloc (.cells #[] 40) = q := ⟨_, rfl⟩
        rw [hxb] at hbx CT BB
        rw [hb0, hxb]
        have HB0 : Hid (z4.heap.size ≤ bb) := Lib.hid (by have := zY_49.out.size; omega)
        have HW0 : Hid (w.heap.size ≤ bb) := Lib.hid (by have := zHB_50.out.size; omega)
        have zhq54 : Below zx46.heap.size zx46 zx53 := hbx
        have zR_55 := Lib.hid (Row.go zR_48.out zhq54)
        have zY_56 := Lib.hid (bel_to zY_49.out zhq54)
        have zQ_57 := Lib.hid (Row.go RQ.out zhq54)
        have zHB_58 : Hid (Below w.heap.size w zx53) := Lib.hid (zHB_50.out.trans (zhq54.mono zHB_50.out.size))
        clear zhq54
        clear hbx hxb hb0
        have zhS59 : (fun w' : World => w'.cell? ⟨D, 1, none⟩ = some (.slice (some ⟨b1, o1, none⟩) c k1)) zx53 := zR_55.out.cell 1
        refine HzK52.out _ _ zhS59 fun _ => ?_
        try simp only [Act.put, List.setIfInBounds_toArray, List.set_cons_zero, List.set_cons_succ]
        refine wpAnyH_ready (rs := [6]) (by kernel_rfl) (by simp) ?_
        refine AllReadyH.cons rfl (fun zK60 hzK60 => ?_) AllReadyH.nil
        have HzK60 := Lib.hid hzK60
        clear hzK60
        rw [if_pos (by rfl)]
        refine wp_cat (.tmp 74) (.tmp 78) rfl bb bb (0) 0 ([]) b1 (o1) (i) k1 (us.take i) (i) (by have := JL.out; have := M2.out; have := IC.out; omega) rfl CT.out rfl rfl UTL.out (fun q hq => UTC.out _ zY_56.out q hq) UTO.out (by have := CC.out; omega) BB.out ?_
        intro gb1 qb1 zx61 ho hg hat
        have hbo := CT.out.1
        have Y1b : Hid (Below z4.heap.size z4 zx61) := Lib.hid (zY_56.out.grown hg zY_56.out.size (fun j e => by cases e; have := HB0.out; omega))
        have W1b : Hid (Below w.heap.size w zx61) := Lib.hid (zHB_58.out.grown hg zHB_58.out.size (fun j e => by cases e; have := HW0.out; omega))
        have R1b := Lib.hid (zR_55.out.gr hg (fun e => by have e2 := Option.some.inj e; have := (show D < z4.heap.size from R4.out.lt); have := HB0.out; omega))
        have S1b : Hid (bb ≤ zx61.heap.size) := Lib.hid (Nat.le_trans BB.out hg.size)
        have O1b := Lib.hid ho
        have Q1b := Lib.hid (zQ_57.out.gr hg (fun e => NE.out (Option.some.inj e).symm))
        have NE1 : Hid (gb1 ≠ D3) := Lib.hid (by have h1 := zQ_57.out.lt; have h2 := NE.out; rcases hat with h | h; exact h ▸ h2; omega)
        clear ho hg hat hbo
        have LEN1b : Hid ((([]) ++ (us.take i)).length = i) := Lib.hid (by rw [List.length_append, List.length_nil, show (us.take i).length = i from UTL.out] <;> (have := JL.out; have := M2.out; have := IC.out; omega))
        have zhS62 : (fun w' : World => w'.cell? ⟨D, 1, none⟩ = some (.slice (some ⟨b1, o1, none⟩) c k1)) zx61 := R1b.out.cell 1
        refine HzK60.out _ _ zhS62 fun _ => ?_
        try simp only [Act.put, List.setIfInBounds_toArray, List.set_cons_zero, List.set_cons_succ]
        refine wpAnyH_ready (rs := [12]) (by kernel_rfl) (by simp) ?_
        refine AllReadyH.cons rfl (fun zK63 hzK63 => ?_) AllReadyH.nil
        have HzK63 := Lib.hid hzK63
        clear hzK63
        rw [if_pos (by rfl)]
        refine wp_cat (.tmp 79) (.tmp 84) rfl bb gb1 (i) qb1 (([]) ++ (us.take i)) b1 (o2) (m2) k2' (us.drop j) (c - 1) (by have := JL.out; have := M2.out; have := IC.out; omega) rfl O1b.out LEN1b.out rfl UDL.out (fun q hq => UDC.out _ Y1b.out q hq) UDO.out (by have := CC.out; omega) S1b.out ?_
        intro gb2 qb2 zx64 ho hg hat
        have hbo := O1b.out.1
        have Y2b : Hid (Below z4.heap.size z4 zx64) := Lib.hid (Y1b.out.grown hg Y1b.out.size (fun j e => by cases e; have := HB0.out; omega))
        have W2b : Hid (Below w.heap.size w zx64) := Lib.hid (W1b.out.grown hg W1b.out.size (fun j e => by cases e; have := HW0.out; omega))
        have R2b := Lib.hid (R1b.out.gr hg (fun e => by have e2 := Option.some.inj e; have := (show D < z4.heap.size from R4.out.lt); have := HB0.out; omega))
        have S2b : Hid (bb ≤ zx64.heap.size) := Lib.hid (Nat.le_trans S1b.out hg.size)
        have O2b := Lib.hid ho
        have Q2b := Lib.hid (Q1b.out.gr hg (fun e => NE1.out (Option.some.inj e).symm))
        have NE2 : Hid (gb2 ≠ D3) := Lib.hid (by have h1 := Q1b.out.lt; have h2 := NE1.out; rcases hat with h | h; exact h ▸ h2; omega)
        clear ho hg hat hbo
        have LEN2b : Hid (((([]) ++ (us.take i)) ++ (us.drop j)).length = c - 1) := Lib.hid (by rw [List.length_append, LEN1b.out, show (us.drop j).length = m2 from UDL.out] <;> (have := JL.out; have := M2.out; have := IC.out; omega))
        have zhS65 : (fun w' : World => w'.cell? ⟨D, 1, none⟩ = some (.slice (some ⟨b1, o1, none⟩) c k1)) zx64 := R2b.out.cell 1
        refine HzK63.out _ _ zhS65 fun _ => ?_
        try simp only [Act.put, List.setIfInBounds_toArray, List.set_cons_zero, List.set_cons_succ]
        refine takeD (i := 13) (v := .agg #[.int .i64 (v : Int), .slice (some ⟨gb2, 0, none⟩) (c - 1) qb2]) (some 86) rfl rfl (by kernel_rfl) (by kernel_rfl) (by kernel_rfl) (fun _ _ _ h => h) (Or.inl ⟨by rfl, by rintro w' -; go_simp⟩) zhS65 ?_
        simp only [Act.put, List.setIfInBounds_toArray, List.set_cons_zero, List.set_cons_succ]
        refine wpAnyH_ready (rs := [15]) (by kernel_rfl) (by simp) ?_
        refine AllReadyH.cons rfl (fun zK66 hzK66 => ?_) AllReadyH.nil
        have HzK66 := Lib.hid hzK66
        clear hzK66
        rw [if_pos (by rfl)]
        have cc := (show _ = some _ from Q2b.out.cell 0)
        have ff := Q2b.out.frozen 0
        have cd := (show _ = some _ from Q2b.out.cell 1)
        have fg := Q2b.out.frozen 1
        go_simp
        clear cc ff cd fg
        have FB := Lib.hid ((W2b.out.setCell (p := ⟨D3, 0, none⟩) HWD3.out (.int .i64 (v : Int))).setCell (p := ⟨D3, 1, none⟩) HWD3.out (.slice (some ⟨gb2, 0, none⟩) (c - 1) qb2))
        have FY := Lib.hid ((Y2b.out.setCell (p := ⟨D3, 0, none⟩) HZD3.out (.int .i64 (v : Int))).setCell (p := ⟨D3, 1, none⟩) HZD3.out (.slice (some ⟨gb2, 0, none⟩) (c - 1) qb2))
        have FR := Lib.hid ((R2b.out.oth (k := D3) (by have := DLb.out; omega) 0 (.int .i64 (v : Int))).oth (k := D3) (by have := DLb.out; omega) 1 (.slice (some ⟨gb2, 0, none⟩) (c - 1) qb2))
        have FQ := Lib.hid ((Q2b.out.store 0 (.int .i64 (v : Int))).store 1 (.slice (some ⟨gb2, 0, none⟩) (c - 1) qb2))
        have FO := Lib.hid ((O2b.out.oth (p := ⟨D3, 0, none⟩) NE2.out (.int .i64 (v : Int))).oth (p := ⟨D3, 1, none⟩) NE2.out (.slice (some ⟨gb2, 0, none⟩) (c - 1) qb2))
        obtain ⟨Vb, hV⟩ : ∃ V, ((zx64.setCell ⟨D3, 0, none⟩ (.int .i64 (v : Int))).setCell ⟨D3, 1, none⟩ (.slice (some ⟨gb2, 0, none⟩) (c - 1) qb2)) = V := ⟨_, rfl⟩
        rw [hV] at FB FY FR FQ FO ⊢
        clear hV
        have FBb := FB
        have FYb := FY
        have FRb := FR
        have FQb := FQ
        have FOb := FO
        clear FB FY FR FQ FO
        have zhS67 : (fun w' : World => w'.cell? ⟨D, 1, none⟩ = some (.slice (some ⟨b1, o1, none⟩) c k1)) Vb := FRb.out.cell 1
        refine HzK66.out _ _ zhS67 fun _ => ?_
        refine wpAnyH_done (by kernel_rfl) ?_ _
        have GT : Hid (Gs Vb (.slice (some ⟨gb2, 0, none⟩) (c - 1) qb2) (L.take i ++ L.drop (i + 1))) := Lib.hid (by have h := FOb.out; rw [List.nil_append, ← JL.out] at h; exact h.gs (by rw [List.length_append, List.length_take, List.length_drop, UL.out]; have := IC.out; omega) (by rw [List.length_append, List.length_take, List.length_drop, LN.out]; have := IC.out; omega) (less_rows IC.out UL.out LN.out (UN.out _ FYb.out)))
        have CK3 : Hid (Calls Tryd.prog 16 #[.agg #[.int .i64 (v : Int), .slice (some ⟨gb2, 0, none⟩) (c - 1) qb2]] Vb (bel (.tuple #[.int .i64 0, .int .i64 0, .int .i64 5]) Vb)) := Lib.hid (check_nobal (less_nobal BAL.out (by rw [LN.out]; exact IC.out) kv L1.out) _ Vb GT.out)
        have e0 := (show _ = some _ from FQb.out.cell 0)
        have e1 := (show _ = some _ from FQb.out.cell 1)
        clear GT
        go_wp2_with fail
        refine CK3.out.mono ?_
        rintro e zx69 ⟨rfl, zhb68⟩
        have zhq70 : Below Vb.heap.size Vb zx69 := zhb68
        have zR_71 := Lib.hid (Row.go FRb.out zhq70)
        have zY_72 := Lib.hid (bel_to FYb.out zhq70)
        have zHB_73 : Hid (Below w.heap.size w zx69) := Lib.hid (FBb.out.trans (zhq70.mono FBb.out.size))
        clear zhq70
        clear zhb68 e0 e1 CK3
        have w1 : IntKind.i64.wrap (2 * (r : Int)) = ((2 * r : Nat) : Int) := by rw [IntKind.wrap_i64]; omega
        have w2 : IntKind.i64.wrap (2 * (l : Int)) = ((2 * l : Nat) : Int) := by rw [IntKind.wrap_i64]; omega
        have w3 : wrap64 (2 * (r : Int)) = ((2 * r : Nat) : Int) := by rw [IntWalk.wrap64_in _ ⟨by omega, by omega⟩]; omega
        have w4 : wrap64 (2 * (l : Int)) = ((2 * l : Nat) : Int) := by rw [IntWalk.wrap64_in _ ⟨by omega, by omega⟩]; omega
        go_wp2_with fail
        go_ret
        exact ⟨rfl, zHB_73.out⟩
  · have HzK8 := Lib.hid hK
    clear hK
    rw [if_pos (by rfl)]
    refine wp_allocD rfl ?_
    obtain ⟨D2, hD2⟩ : ∃ e, zwz1.heap.size = e := ⟨_, rfl⟩
    have hbx : Below zwz1.heap.size zwz1 (zwz1.alloc (.cells #[.int .i64 0, .slice none 0 0] 25)) := (Below.refl _ _).alloc (Nat.le_refl _) _
    have RQ := Lib.hid (row_new' zwz1 #[.int .i64 0, .slice none 0 0] 25)
    rw [hD2] at RQ
    have DLa : Hid (D < D2) := Lib.hid (by have := zR_4.out.lt; omega)
    have HWD2 : Hid (w.heap.size ≤ D2) := Lib.hid (by have := zHB_6.out.size; omega)
    have HZD2 : Hid (z4.heap.size ≤ D2) := Lib.hid (by have := zY_5.out.size; omega)
    obtain ⟨zx9, hxb⟩ : ∃ q, zwz1.alloc (.cells #[.int .i64 0, .slice none 0 0] 25) = q := ⟨_, rfl⟩
    rw [hxb] at hbx RQ
    rw [hD2, hxb]
    have zhq10 : Below zwz1.heap.size zwz1 zx9 := hbx
    have zR_11 := Lib.hid (Row.go zR_4.out zhq10)
    have zY_12 := Lib.hid (bel_to zY_5.out zhq10)
    have zHB_13 : Hid (Below w.heap.size w zx9) := Lib.hid (zHB_6.out.trans (zhq10.mono zHB_6.out.size))
    clear zhq10
    clear hbx hxb hD2
    have zhS14 : (fun w' : World => w'.cell? ⟨D, 1, none⟩ = some (.slice (some ⟨b1, o1, none⟩) c k1)) zx9 := zR_11.out.cell 1
    refine HzK8.out _ _ zhS14 fun _ => ?_
    try simp only [Act.put, List.setIfInBounds_toArray, List.set_cons_zero, List.set_cons_succ]
    refine wpAnyH_ready (rs := [1]) (by kernel_rfl) (by simp) ?_
    refine AllReadyH.cons rfl (fun zK15 hzK15 => ?_) AllReadyH.nil
    have HzK15 := Lib.hid hzK15
    clear hzK15
    rw [if_pos (by rfl)]
    refine wp_build_00 rfl ?_
    obtain ⟨ba, hb0⟩ : ∃ e, zx9.heap.size = e := ⟨_, rfl⟩
    have hbx : Below zx9.heap.size zx9 (zx9.alloc (.cells #[] 40)) := (Below.refl _ _).alloc (Nat.le_refl _) _
    have CT : Hid (Cat (zx9.alloc (.cells #[] 40)) ba ba 0 []) := Lib.hid ⟨Nat.le_refl _, #[], by rw [← hb0]; exact row_new' zx9 #[] 40, rfl, Nat.zero_le _, Nat.le_refl 0, rfl⟩
    have NE : Hid (ba ≠ D2) := Lib.hid (by have := RQ.out.lt; omega)
    have BB : Hid (ba ≤ (zx9.alloc (.cells #[] 40)).heap.size) := Lib.hid (by rw [World.size_alloc]; omega)
    obtain ⟨zx16, hxb⟩ : ∃ q, zx9.alloc (.cells #[] 40) = q := ⟨_, rfl⟩
    rw [hxb] at hbx CT BB
    rw [hb0, hxb]
    have HB0 : Hid (z4.heap.size ≤ ba) := Lib.hid (by have := zY_12.out.size; omega)
    have HW0 : Hid (w.heap.size ≤ ba) := Lib.hid (by have := zHB_13.out.size; omega)
    have zhq17 : Below zx9.heap.size zx9 zx16 := hbx
    have zR_18 := Lib.hid (Row.go zR_11.out zhq17)
    have zY_19 := Lib.hid (bel_to zY_12.out zhq17)
    have zQ_20 := Lib.hid (Row.go RQ.out zhq17)
    have zHB_21 : Hid (Below w.heap.size w zx16) := Lib.hid (zHB_13.out.trans (zhq17.mono zHB_13.out.size))
    clear zhq17
    clear hbx hxb hb0
    have zhS22 : (fun w' : World => w'.cell? ⟨D, 1, none⟩ = some (.slice (some ⟨b1, o1, none⟩) c k1)) zx16 := zR_18.out.cell 1
    refine HzK15.out _ _ zhS22 fun _ => ?_
    try simp only [Act.put, List.setIfInBounds_toArray, List.set_cons_zero, List.set_cons_succ]
    refine wpAnyH_ready (rs := [4]) (by kernel_rfl) (by simp) ?_
    refine AllReadyH.cons rfl (fun zK23 hzK23 => ?_) AllReadyH.nil
    have HzK23 := Lib.hid hzK23
    clear hzK23
    rw [if_pos (by rfl)]
    refine wp_cat (.tmp 53) (.tmp 55) rfl ba ba (0) 0 ([]) b1 (o1) (c) k1 (us) (c) (by skip; omega) rfl CT.out rfl rfl UL.out (fun k hk => UC.out _ zY_19.out k hk) UO.out (by have := CC.out; omega) BB.out ?_
    intro ga1 qa1 zx24 ho hg hat
    have hbo := CT.out.1
    have Y1a : Hid (Below z4.heap.size z4 zx24) := Lib.hid (zY_19.out.grown hg zY_19.out.size (fun j e => by cases e; have := HB0.out; omega))
    have W1a : Hid (Below w.heap.size w zx24) := Lib.hid (zHB_21.out.grown hg zHB_21.out.size (fun j e => by cases e; have := HW0.out; omega))
    have R1a := Lib.hid (zR_18.out.gr hg (fun e => by have e2 := Option.some.inj e; have := (show D < z4.heap.size from R4.out.lt); have := HB0.out; omega))
    have S1a : Hid (ba ≤ zx24.heap.size) := Lib.hid (Nat.le_trans BB.out hg.size)
    have O1a := Lib.hid ho
    have Q1a := Lib.hid (zQ_20.out.gr hg (fun e => NE.out (Option.some.inj e).symm))
    have NE1 : Hid (ga1 ≠ D2) := Lib.hid (by have h1 := zQ_20.out.lt; have h2 := NE.out; rcases hat with h | h; exact h ▸ h2; omega)
    clear ho hg hat hbo
    have LEN1a : Hid ((([]) ++ (us)).length = c) := Lib.hid (by rw [List.length_append, List.length_nil, show (us).length = c from UL.out] <;> (skip; omega))
    have zhS25 : (fun w' : World => w'.cell? ⟨D, 1, none⟩ = some (.slice (some ⟨b1, o1, none⟩) c k1)) zx24 := R1a.out.cell 1
    refine HzK23.out _ _ zhS25 fun _ => ?_
    try simp only [Act.put, List.setIfInBounds_toArray, List.set_cons_zero, List.set_cons_succ]
    refine wpAnyH_ready (rs := [7]) (by kernel_rfl) (by simp) ?_
    refine AllReadyH.cons rfl (fun zK26 hzK26 => ?_) AllReadyH.nil
    have HzK26 := Lib.hid hzK26
    clear hzK26
    rw [if_pos (by rfl)]
    refine wp_cat (.tmp 56) (.tmp 58) rfl ba ga1 (c) qa1 (([]) ++ (us)) b1 (o1) (c) k1 (us) (c + c) (by skip; omega) rfl O1a.out LEN1a.out rfl UL.out (fun k hk => UC.out _ Y1a.out k hk) UO.out (by have := CC.out; omega) S1a.out ?_
    intro ga2 qa2 zx27 ho hg hat
    have hbo := O1a.out.1
    have Y2a : Hid (Below z4.heap.size z4 zx27) := Lib.hid (Y1a.out.grown hg Y1a.out.size (fun j e => by cases e; have := HB0.out; omega))
    have W2a : Hid (Below w.heap.size w zx27) := Lib.hid (W1a.out.grown hg W1a.out.size (fun j e => by cases e; have := HW0.out; omega))
    have R2a := Lib.hid (R1a.out.gr hg (fun e => by have e2 := Option.some.inj e; have := (show D < z4.heap.size from R4.out.lt); have := HB0.out; omega))
    have S2a : Hid (ba ≤ zx27.heap.size) := Lib.hid (Nat.le_trans S1a.out hg.size)
    have O2a := Lib.hid ho
    have Q2a := Lib.hid (Q1a.out.gr hg (fun e => NE1.out (Option.some.inj e).symm))
    have NE2 : Hid (ga2 ≠ D2) := Lib.hid (by have h1 := Q1a.out.lt; have h2 := NE1.out; rcases hat with h | h; exact h ▸ h2; omega)
    clear ho hg hat hbo
    have LEN2a : Hid (((([]) ++ (us)) ++ (us)).length = c + c) := Lib.hid (by rw [List.length_append, LEN1a.out, show (us).length = c from UL.out] <;> (skip; omega))
    have zhS28 : (fun w' : World => w'.cell? ⟨D, 1, none⟩ = some (.slice (some ⟨b1, o1, none⟩) c k1)) zx27 := R2a.out.cell 1
    refine HzK26.out _ _ zhS28 fun _ => ?_
    try simp only [Act.put, List.setIfInBounds_toArray, List.set_cons_zero, List.set_cons_succ]
    refine takeD (i := 8) (v := .agg #[.int .i64 (v : Int), .slice (some ⟨ga2, 0, none⟩) (c + c) qa2]) (some 60) rfl rfl (by kernel_rfl) (by kernel_rfl) (by kernel_rfl) (fun _ _ _ h => h) (Or.inl ⟨by rfl, by rintro w' -; go_simp⟩) zhS28 ?_
    simp only [Act.put, List.setIfInBounds_toArray, List.set_cons_zero, List.set_cons_succ]
    refine wpAnyH_ready (rs := [10]) (by kernel_rfl) (by simp) ?_
    refine AllReadyH.cons rfl (fun zK29 hzK29 => ?_) AllReadyH.nil
    have HzK29 := Lib.hid hzK29
    clear hzK29
    rw [if_pos (by rfl)]
    have cc := (show _ = some _ from Q2a.out.cell 0)
    have ff := Q2a.out.frozen 0
    have cd := (show _ = some _ from Q2a.out.cell 1)
    have fg := Q2a.out.frozen 1
    go_simp
    clear cc ff cd fg
    have FB := Lib.hid ((W2a.out.setCell (p := ⟨D2, 0, none⟩) HWD2.out (.int .i64 (v : Int))).setCell (p := ⟨D2, 1, none⟩) HWD2.out (.slice (some ⟨ga2, 0, none⟩) (c + c) qa2))
    have FY := Lib.hid ((Y2a.out.setCell (p := ⟨D2, 0, none⟩) HZD2.out (.int .i64 (v : Int))).setCell (p := ⟨D2, 1, none⟩) HZD2.out (.slice (some ⟨ga2, 0, none⟩) (c + c) qa2))
    have FR := Lib.hid ((R2a.out.oth (k := D2) (by have := DLa.out; omega) 0 (.int .i64 (v : Int))).oth (k := D2) (by have := DLa.out; omega) 1 (.slice (some ⟨ga2, 0, none⟩) (c + c) qa2))
    have FQ := Lib.hid ((Q2a.out.store 0 (.int .i64 (v : Int))).store 1 (.slice (some ⟨ga2, 0, none⟩) (c + c) qa2))
    have FO := Lib.hid ((O2a.out.oth (p := ⟨D2, 0, none⟩) NE2.out (.int .i64 (v : Int))).oth (p := ⟨D2, 1, none⟩) NE2.out (.slice (some ⟨ga2, 0, none⟩) (c + c) qa2))
    obtain ⟨Va, hV⟩ : ∃ V, ((zx27.setCell ⟨D2, 0, none⟩ (.int .i64 (v : Int))).setCell ⟨D2, 1, none⟩ (.slice (some ⟨ga2, 0, none⟩) (c + c) qa2)) = V := ⟨_, rfl⟩
    rw [hV] at FB FY FR FQ FO ⊢
    clear hV
    have FBa := FB
    have FYa := FY
    have FRa := FR
    have FQa := FQ
    have FOa := FO
    clear FB FY FR FQ FO
    have zhS30 : (fun w' : World => w'.cell? ⟨D, 1, none⟩ = some (.slice (some ⟨b1, o1, none⟩) c k1)) Va := FRa.out.cell 1
    refine HzK29.out _ _ zhS30 fun _ => ?_
    refine wpAnyH_done (by kernel_rfl) ?_ _
    have BT := Lib.hid (bal_twice BAL.out (by rw [LN.out]; have := CC.out; omega))
    have GT : Hid (Gs Va (.slice (some ⟨ga2, 0, none⟩) (c + c) qa2) (L ++ L)) := Lib.hid (by have h := FOa.out; rw [List.nil_append] at h; exact h.gs (by rw [List.length_append, UL.out]) (by rw [List.length_append, LN.out]) (twice_rows UL.out LN.out (UN.out _ FYa.out)))
    have CK2 : Hid (Calls Tryd.prog 16 #[.agg #[.int .i64 (v : Int), .slice (some ⟨ga2, 0, none⟩) (c + c) qa2]] Va (bel (.tuple #[.int .i64 ((2 * r : Nat) : Int), .int .i64 ((2 * l : Nat) : Int), .int .i64 0]) Va)) := Lib.hid (check_bal BT.out _ Va GT.out)
    have e0 := (show _ = some _ from FQa.out.cell 0)
    have e1 := (show _ = some _ from FQa.out.cell 1)
    clear BT GT
    go_wp2_with fail
    refine CK2.out.mono ?_
    rintro e zx32 ⟨rfl, zhb31⟩
    have zhq33 : Below Va.heap.size Va zx32 := zhb31
    have zR_34 := Lib.hid (Row.go FRa.out zhq33)
    have zY_35 := Lib.hid (bel_to FYa.out zhq33)
    have zHB_36 : Hid (Below w.heap.size w zx32) := Lib.hid (FBa.out.trans (zhq33.mono FBa.out.size))
    clear zhq33
    clear zhb31 e0 e1 CK2
    have e1 := (show _ = some _ from zR_34.out.cell 1)
    obtain ⟨i, hi⟩ : ∃ i, u % c = i := ⟨_, rfl⟩
    have ic : i < c := by rw [← hi]; exact Nat.mod_lt _ CC.out.2
    have ei : (u : Int).tmod (c : Int) = (i : Int) := by rw [← hi]; exact (Int.ofNat_tmod u c).symm
    have ei' : (u : Int) % (c : Int) = (i : Int) := by rw [← hi]; rfl
    have vi : IntKind.i64.wrap (i : Int) = (i : Int) := by have := CC.out; rw [IntKind.wrap_i64]; omega
    have vu : IntKind.i64.wrap (u : Int) = (u : Int) := by rw [IntKind.wrap_i64]; omega
    have vi' : wrap64 (i : Int) = (i : Int) := by have := CC.out; rw [IntWalk.wrap64_in _ ⟨by omega, by omega⟩]
    have cJ : ¬ (c : Int) = 0 := by have := CC.out; omega
    clear hi
    go_wp2_with fail
    clear e1 ei ei' vi vu vi' cJ
    obtain ⟨j, hj⟩ : ∃ j, i + 1 = j := ⟨_, rfl⟩
    have ej : (i : Int) + 1 = (j : Int) := by omega
    have vj : IntKind.i64.wrap (j : Int) = (j : Int) := by have := CC.out; rw [IntKind.wrap_i64]; omega
    have JL := Lib.hid hj
    obtain ⟨o2, k2', SLF, ho2⟩ := slice_from (b := b1) (o := o1) (n := c) (c := k1) (i := j) (by omega) ck1
    obtain ⟨m2, hm2⟩ : ∃ m, c - j = m := ⟨_, rfl⟩
    rw [hm2] at SLF
    have M2 := Lib.hid hm2
    have O2 := Lib.hid ho2
    have SF := Lib.hid SLF
    have UTL : Hid ((us.take i).length = i) := Lib.hid (by rw [List.length_take, UL.out]; omega)
    have UDL : Hid ((us.drop j).length = m2) := Lib.hid (by rw [List.length_drop, UL.out, M2.out])
    have UTC := Lib.hid (show ∀ W, Below z4.heap.size z4 W → ∀ q, q < i → W.cell? ⟨b1, o1 + q, none⟩ = some ((us.take i).getD q undef) from fun W hW q hq => by rw [UC.out W hW q (by omega), List.getD_eq_getElem?_getD, List.getD_eq_getElem?_getD, List.getElem?_take_of_lt hq])
    have UDC := Lib.hid (show ∀ W, Below z4.heap.size z4 W → ∀ q, q < m2 → W.cell? ⟨b1, o2 + q, none⟩ = some ((us.drop j).getD q undef) from fun W hW q hq => by have h := UC.out W hW (j + q) (by have := M2.out; omega); rw [O2.out (by have := M2.out; omega), List.getD_eq_getElem?_getD, List.getElem?_drop, ← List.getD_eq_getElem?_getD, Nat.add_assoc]; exact h)
    have UTO := Lib.hid (show ∀ x ∈ us.take i, x.oneCell' = true from fun x hx => UO.out x (List.mem_of_mem_take hx))
    have UDO := Lib.hid (show ∀ x ∈ us.drop j, x.oneCell' = true from fun x hx => UO.out x (List.mem_of_mem_drop hx))
    have IC := Lib.hid ic
    have iI : (i : Int) ≤ (k1 : Int) := by omega
    clear SLF hm2 ho2 hj
    refine wp_region_held (P := Tryd.prog) (S := (fun w' : World => w'.cell? ⟨D, 1, none⟩ = some (.slice (some ⟨b1, o1, none⟩) c k1))) rfl ?_
    change wpAnyH _ _ _ _ _ _ _ _ zx32.drew
    have zhz38 : Below zx32.heap.size zx32 zx32.drew := (Below.refl zx32.heap.size zx32).drew
    generalize zx32.drew = zwz37 at zhz38 ⊢
    have zhq39 : Below zx32.heap.size zx32 zwz37 := zhz38
    have zR_40 := Lib.hid (Row.go zR_34.out zhq39)
    have zY_41 := Lib.hid (bel_to zY_35.out zhq39)
    have zHB_42 : Hid (Below w.heap.size w zwz37) := Lib.hid (zHB_36.out.trans (zhq39.mono zHB_36.out.size))
    clear zhq39
    clear zhz38
    have zhS43 : (fun w' : World => w'.cell? ⟨D, 1, none⟩ = some (.slice (some ⟨b1, o1, none⟩) c k1)) zwz37 := zR_40.out.cell 1
    refine takeD (i := 0) (v := .int .i64 (v : Int)) (some 73) rfl rfl (by kernel_rfl) (by kernel_rfl) (by kernel_rfl) (fun _ _ _ h => h) (Or.inl ⟨by rfl, by rintro w' -; go_simp⟩) zhS43 ?_
    simp only [Act.put, List.setIfInBounds_toArray, List.set_cons_zero, List.set_cons_succ]
    refine takeD (i := 2) (v := .pointer (some ⟨D, 1, none⟩)) (some 75) rfl rfl (by kernel_rfl) (by kernel_rfl) (by kernel_rfl) (fun _ _ _ h => h) (Or.inl ⟨by rfl, by rintro w' -; go_simp⟩) zhS43 ?_
    simp only [Act.put, List.setIfInBounds_toArray, List.set_cons_zero, List.set_cons_succ]
    refine takeD (i := 3) (v := .slice (some ⟨b1, o1, none⟩) c k1) (some 76) rfl rfl (by kernel_rfl) (by kernel_rfl) (by kernel_rfl) (fun _ _ _ h => h) (Or.inl ⟨by rfl, by rintro w' h; have hc := h; go_simp⟩) zhS43 ?_
    simp only [Act.put, List.setIfInBounds_toArray, List.set_cons_zero, List.set_cons_succ]
    refine takeD (i := 4) (v := .int .i64 (i : Int)) (some 77) rfl rfl (by kernel_rfl) (by kernel_rfl) (by kernel_rfl) (fun _ _ _ h => h) (Or.inl ⟨by rfl, by rintro w' -; go_simp⟩) zhS43 ?_
    simp only [Act.put, List.setIfInBounds_toArray, List.set_cons_zero, List.set_cons_succ]
    refine takeD (i := 5) (v := .slice (some ⟨b1, o1, none⟩) i k1) (some 78) rfl rfl (by kernel_rfl) (by kernel_rfl) (by kernel_rfl) (fun _ _ _ h => h) (Or.inl ⟨by rfl, by rintro w' -; go_simp⟩) zhS43 ?_
    simp only [Act.put, List.setIfInBounds_toArray, List.set_cons_zero, List.set_cons_succ]
    refine takeD (i := 7) (v := .pointer (some ⟨D, 1, none⟩)) (some 80) rfl rfl (by kernel_rfl) (by kernel_rfl) (by kernel_rfl) (fun _ _ _ h => h) (Or.inl ⟨by rfl, by rintro w' -; go_simp⟩) zhS43 ?_
    simp only [Act.put, List.setIfInBounds_toArray, List.set_cons_zero, List.set_cons_succ]
    refine takeD (i := 8) (v := .slice (some ⟨b1, o1, none⟩) c k1) (some 81) rfl rfl (by kernel_rfl) (by kernel_rfl) (by kernel_rfl) (fun _ _ _ h => h) (Or.inl ⟨by rfl, by rintro w' h; have hc := h; go_simp⟩) zhS43 ?_
    simp only [Act.put, List.setIfInBounds_toArray, List.set_cons_zero, List.set_cons_succ]
    refine takeD (i := 9) (v := .int .i64 (i : Int)) (some 82) rfl rfl (by kernel_rfl) (by kernel_rfl) (by kernel_rfl) (fun _ _ _ h => h) (Or.inl ⟨by rfl, by rintro w' -; go_simp⟩) zhS43 ?_
    simp only [Act.put, List.setIfInBounds_toArray, List.set_cons_zero, List.set_cons_succ]
    refine takeD (i := 10) (v := .int .i64 (j : Int)) (some 83) rfl rfl (by kernel_rfl) (by kernel_rfl) (by kernel_rfl) (fun _ _ _ h => h) (Or.inl ⟨by rfl, by rintro w' -; go_simp⟩) zhS43 ?_
    simp only [Act.put, List.setIfInBounds_toArray, List.set_cons_zero, List.set_cons_succ]
    refine takeD (i := 11) (v := .slice (some ⟨b1, o2, none⟩) m2 k2') (some 84) rfl rfl (by kernel_rfl) (by kernel_rfl) (by kernel_rfl) (fun _ _ _ h => h) (Or.inl ⟨by rfl, by rintro w' -; have hc := SF.out w'; go_simp⟩) zhS43 ?_
    simp only [Act.put, List.setIfInBounds_toArray, List.set_cons_zero, List.set_cons_succ]
    refine wpAnyH_ready (rs := [1, 14]) (by kernel_rfl) (by simp) ?_
    refine AllReadyH.cons rfl (fun K hK => ?_) (AllReadyH.cons rfl (fun K hK => ?_) AllReadyH.nil)
    · have HzK44 := Lib.hid hK
      clear hK
      rw [if_pos (by rfl)]
      refine wp_build_00 rfl ?_
      obtain ⟨bb, hb0⟩ : ∃ e, zwz37.heap.size = e := ⟨_, rfl⟩
      have hbx : Below zwz37.heap.size zwz37 (zwz37.alloc (.cells #[] 40)) := (Below.refl _ _).alloc (Nat.le_refl _) _
      have CT : Hid (Cat (zwz37.alloc (.cells #[] 40)) bb bb 0 []) := Lib.hid ⟨Nat.le_refl _, #[], by rw [← hb0]; exact row_new' zwz37 #[] 40, rfl, Nat.zero_le _, Nat.le_refl 0, rfl⟩
      have BB : Hid (bb ≤ (zwz37.alloc (.cells #[] 40)).heap.size) := Lib.hid (by rw [World.size_alloc]; omega)
      obtain ⟨zx45, hxb⟩ : ∃ q, zwz37.alloc (.cells #[] 40) = q := ⟨_, rfl⟩
      rw [hxb] at hbx CT BB
      rw [hb0, hxb]
      have HB0 : Hid (z4.heap.size ≤ bb) := Lib.hid (by have := zY_41.out.size; omega)
      have HW0 : Hid (w.heap.size ≤ bb) := Lib.hid (by have := zHB_42.out.size; omega)
      have zhq46 : Below zwz37.heap.size zwz37 zx45 := hbx
      have zR_47 := Lib.hid (Row.go zR_40.out zhq46)
      have zY_48 := Lib.hid (bel_to zY_41.out zhq46)
      have zHB_49 : Hid (Below w.heap.size w zx45) := Lib.hid (zHB_42.out.trans (zhq46.mono zHB_42.out.size))
      clear zhq46
      clear hbx hxb hb0
      have zhS50 : (fun w' : World => w'.cell? ⟨D, 1, none⟩ = some (.slice (some ⟨b1, o1, none⟩) c k1)) zx45 := zR_47.out.cell 1
      refine HzK44.out _ _ zhS50 fun _ => ?_
      try simp only [Act.put, List.setIfInBounds_toArray, List.set_cons_zero, List.set_cons_succ]
      refine wpAnyH_ready (rs := [6, 14]) (by kernel_rfl) (by simp) ?_
      refine AllReadyH.cons rfl (fun K hK => ?_) (AllReadyH.cons rfl (fun K hK => ?_) AllReadyH.nil)
      · have HzK51 := Lib.hid hK
        clear hK
        rw [if_pos (by rfl)]
        refine wp_cat (.tmp 74) (.tmp 78) rfl bb bb (0) 0 ([]) b1 (o1) (i) k1 (us.take i) (i) (by have := JL.out; have := M2.out; have := IC.out; omega) rfl CT.out rfl rfl UTL.out (fun q hq => UTC.out _ zY_48.out q hq) UTO.out (by have := CC.out; omega) BB.out ?_
        intro gb1 qb1 zx52 ho hg hat
        have hbo := CT.out.1
        have Y1b : Hid (Below z4.heap.size z4 zx52) := Lib.hid (zY_48.out.grown hg zY_48.out.size (fun j e => by cases e; have := HB0.out; omega))
        have W1b : Hid (Below w.heap.size w zx52) := Lib.hid (zHB_49.out.grown hg zHB_49.out.size (fun j e => by cases e; have := HW0.out; omega))
        have R1b := Lib.hid (zR_47.out.gr hg (fun e => by have e2 := Option.some.inj e; have := (show D < z4.heap.size from R4.out.lt); have := HB0.out; omega))
        have S1b : Hid (bb ≤ zx52.heap.size) := Lib.hid (Nat.le_trans BB.out hg.size)
        have O1b := Lib.hid ho
        clear ho hg hat hbo
        have LEN1b : Hid ((([]) ++ (us.take i)).length = i) := Lib.hid (by rw [List.length_append, List.length_nil, show (us.take i).length = i from UTL.out] <;> (have := JL.out; have := M2.out; have := IC.out; omega))
        have zhS53 : (fun w' : World => w'.cell? ⟨D, 1, none⟩ = some (.slice (some ⟨b1, o1, none⟩) c k1)) zx52 := R1b.out.cell 1
        refine HzK51.out _ _ zhS53 fun _ => ?_
        try simp only [Act.put, List.setIfInBounds_toArray, List.set_cons_zero, List.set_cons_succ]
        refine wpAnyH_ready (rs := [12, 14]) (by kernel_rfl) (by simp) ?_
        refine AllReadyH.cons rfl (fun K hK => ?_) (AllReadyH.cons rfl (fun K hK => ?_) AllReadyH.nil)
        · have HzK54 := Lib.hid hK
          clear hK
          rw [if_pos (by rfl)]
          refine wp_cat (.tmp 79) (.tmp 84) rfl bb gb1 (i) qb1 (([]) ++ (us.take i)) b1 (o2) (m2) k2' (us.drop j) (c - 1) (by have := JL.out; have := M2.out; have := IC.out; omega) rfl O1b.out LEN1b.out rfl UDL.out (fun q hq => UDC.out _ Y1b.out q hq) UDO.out (by have := CC.out; omega) S1b.out ?_
          intro gb2 qb2 zx55 ho hg hat
          have hbo := O1b.out.1
          have Y2b : Hid (Below z4.heap.size z4 zx55) := Lib.hid (Y1b.out.grown hg Y1b.out.size (fun j e => by cases e; have := HB0.out; omega))
          have W2b : Hid (Below w.heap.size w zx55) := Lib.hid (W1b.out.grown hg W1b.out.size (fun j e => by cases e; have := HW0.out; omega))
          have R2b := Lib.hid (R1b.out.gr hg (fun e => by have e2 := Option.some.inj e; have := (show D < z4.heap.size from R4.out.lt); have := HB0.out; omega))
          have S2b : Hid (bb ≤ zx55.heap.size) := Lib.hid (Nat.le_trans S1b.out hg.size)
          have O2b := Lib.hid ho
          clear ho hg hat hbo
          have LEN2b : Hid (((([]) ++ (us.take i)) ++ (us.drop j)).length = c - 1) := Lib.hid (by rw [List.length_append, LEN1b.out, show (us.drop j).length = m2 from UDL.out] <;> (have := JL.out; have := M2.out; have := IC.out; omega))
          have zhS56 : (fun w' : World => w'.cell? ⟨D, 1, none⟩ = some (.slice (some ⟨b1, o1, none⟩) c k1)) zx55 := R2b.out.cell 1
          refine HzK54.out _ _ zhS56 fun _ => ?_
          try simp only [Act.put, List.setIfInBounds_toArray, List.set_cons_zero, List.set_cons_succ]
          refine takeD (i := 13) (v := .agg #[.int .i64 (v : Int), .slice (some ⟨gb2, 0, none⟩) (c - 1) qb2]) (some 86) rfl rfl (by kernel_rfl) (by kernel_rfl) (by kernel_rfl) (fun _ _ _ h => h) (Or.inl ⟨by rfl, by rintro w' -; go_simp⟩) zhS56 ?_
          simp only [Act.put, List.setIfInBounds_toArray, List.set_cons_zero, List.set_cons_succ]
          refine wpAnyH_ready (rs := [14]) (by kernel_rfl) (by simp) ?_
          refine AllReadyH.cons rfl (fun zK57 hzK57 => ?_) AllReadyH.nil
          have HzK57 := Lib.hid hzK57
          clear hzK57
          rw [if_pos (by rfl)]
          refine wp_allocD rfl ?_
          obtain ⟨D3, hD3⟩ : ∃ e, zx55.heap.size = e := ⟨_, rfl⟩
          have hbx : Below zx55.heap.size zx55 (zx55.alloc (.cells #[.int .i64 0, .slice none 0 0] 25)) := (Below.refl _ _).alloc (Nat.le_refl _) _
          have RQ := Lib.hid (row_new' zx55 #[.int .i64 0, .slice none 0 0] 25)
          rw [hD3] at RQ
          have DLb : Hid (D < D3) := Lib.hid (by have := R2b.out.lt; omega)
          have HWD3 : Hid (w.heap.size ≤ D3) := Lib.hid (by have := W2b.out.size; omega)
          have HZD3 : Hid (z4.heap.size ≤ D3) := Lib.hid (by have := Y2b.out.size; omega)
          have NE : Hid (gb2 ≠ D3) := Lib.hid (by have := O2b.out.lt; omega)
          obtain ⟨zx58, hxb⟩ : ∃ q, zx55.alloc (.cells #[.int .i64 0, .slice none 0 0] 25) = q := ⟨_, rfl⟩
          rw [hxb] at hbx RQ
          rw [hD3, hxb]
          have zhq59 : Below zx55.heap.size zx55 zx58 := hbx
          have zR_60 := Lib.hid (Row.go R2b.out zhq59)
          have zY_61 := Lib.hid (bel_to Y2b.out zhq59)
          have zO_62 := Lib.hid (Cat.to O2b.out zhq59)
          have zBB_63 := Lib.hid (Nat.le_trans S2b.out (Below.size zhq59))
          have zHB_64 : Hid (Below w.heap.size w zx58) := Lib.hid (W2b.out.trans (zhq59.mono W2b.out.size))
          clear zhq59
          clear hbx hxb hD3
          have zhS65 : (fun w' : World => w'.cell? ⟨D, 1, none⟩ = some (.slice (some ⟨b1, o1, none⟩) c k1)) zx58 := zR_60.out.cell 1
          refine HzK57.out _ _ zhS65 fun _ => ?_
          try simp only [Act.put, List.setIfInBounds_toArray, List.set_cons_zero, List.set_cons_succ]
          refine wpAnyH_ready (rs := [15]) (by kernel_rfl) (by simp) ?_
          refine AllReadyH.cons rfl (fun zK66 hzK66 => ?_) AllReadyH.nil
          have HzK66 := Lib.hid hzK66
          clear hzK66
          rw [if_pos (by rfl)]
          have cc := (show _ = some _ from RQ.out.cell 0)
          have ff := RQ.out.frozen 0
          have cd := (show _ = some _ from RQ.out.cell 1)
          have fg := RQ.out.frozen 1
          go_simp
          clear cc ff cd fg
          have FB := Lib.hid ((zHB_64.out.setCell (p := ⟨D3, 0, none⟩) HWD3.out (.int .i64 (v : Int))).setCell (p := ⟨D3, 1, none⟩) HWD3.out (.slice (some ⟨gb2, 0, none⟩) (c - 1) qb2))
          have FY := Lib.hid ((zY_61.out.setCell (p := ⟨D3, 0, none⟩) HZD3.out (.int .i64 (v : Int))).setCell (p := ⟨D3, 1, none⟩) HZD3.out (.slice (some ⟨gb2, 0, none⟩) (c - 1) qb2))
          have FR := Lib.hid ((zR_60.out.oth (k := D3) (by have := DLb.out; omega) 0 (.int .i64 (v : Int))).oth (k := D3) (by have := DLb.out; omega) 1 (.slice (some ⟨gb2, 0, none⟩) (c - 1) qb2))
          have FQ := Lib.hid ((RQ.out.store 0 (.int .i64 (v : Int))).store 1 (.slice (some ⟨gb2, 0, none⟩) (c - 1) qb2))
          have FO := Lib.hid ((zO_62.out.oth (p := ⟨D3, 0, none⟩) NE.out (.int .i64 (v : Int))).oth (p := ⟨D3, 1, none⟩) NE.out (.slice (some ⟨gb2, 0, none⟩) (c - 1) qb2))
          obtain ⟨Vb, hV⟩ : ∃ V, ((zx58.setCell ⟨D3, 0, none⟩ (.int .i64 (v : Int))).setCell ⟨D3, 1, none⟩ (.slice (some ⟨gb2, 0, none⟩) (c - 1) qb2)) = V := ⟨_, rfl⟩
          rw [hV] at FB FY FR FQ FO ⊢
          clear hV
          have FBb := FB
          have FYb := FY
          have FRb := FR
          have FQb := FQ
          have FOb := FO
          clear FB FY FR FQ FO
          have zhS67 : (fun w' : World => w'.cell? ⟨D, 1, none⟩ = some (.slice (some ⟨b1, o1, none⟩) c k1)) Vb := FRb.out.cell 1
          refine HzK66.out _ _ zhS67 fun _ => ?_
          refine wpAnyH_done (by kernel_rfl) ?_ _
          have GT : Hid (Gs Vb (.slice (some ⟨gb2, 0, none⟩) (c - 1) qb2) (L.take i ++ L.drop (i + 1))) := Lib.hid (by have h := FOb.out; rw [List.nil_append, ← JL.out] at h; exact h.gs (by rw [List.length_append, List.length_take, List.length_drop, UL.out]; have := IC.out; omega) (by rw [List.length_append, List.length_take, List.length_drop, LN.out]; have := IC.out; omega) (less_rows IC.out UL.out LN.out (UN.out _ FYb.out)))
          have CK3 : Hid (Calls Tryd.prog 16 #[.agg #[.int .i64 (v : Int), .slice (some ⟨gb2, 0, none⟩) (c - 1) qb2]] Vb (bel (.tuple #[.int .i64 0, .int .i64 0, .int .i64 5]) Vb)) := Lib.hid (check_nobal (less_nobal BAL.out (by rw [LN.out]; exact IC.out) kv L1.out) _ Vb GT.out)
          have e0 := (show _ = some _ from FQb.out.cell 0)
          have e1 := (show _ = some _ from FQb.out.cell 1)
          clear GT
          go_wp2_with fail
          refine CK3.out.mono ?_
          rintro e zx69 ⟨rfl, zhb68⟩
          have zhq70 : Below Vb.heap.size Vb zx69 := zhb68
          have zR_71 := Lib.hid (Row.go FRb.out zhq70)
          have zY_72 := Lib.hid (bel_to FYb.out zhq70)
          have zHB_73 : Hid (Below w.heap.size w zx69) := Lib.hid (FBb.out.trans (zhq70.mono FBb.out.size))
          clear zhq70
          clear zhb68 e0 e1 CK3
          have w1 : IntKind.i64.wrap (2 * (r : Int)) = ((2 * r : Nat) : Int) := by rw [IntKind.wrap_i64]; omega
          have w2 : IntKind.i64.wrap (2 * (l : Int)) = ((2 * l : Nat) : Int) := by rw [IntKind.wrap_i64]; omega
          have w3 : wrap64 (2 * (r : Int)) = ((2 * r : Nat) : Int) := by rw [IntWalk.wrap64_in _ ⟨by omega, by omega⟩]; omega
          have w4 : wrap64 (2 * (l : Int)) = ((2 * l : Nat) : Int) := by rw [IntWalk.wrap64_in _ ⟨by omega, by omega⟩]; omega
          go_wp2_with fail
          go_ret
          exact ⟨rfl, zHB_73.out⟩
        · have HzK54 := Lib.hid hK
          clear hK
          rw [if_pos (by rfl)]
          refine wp_allocD rfl ?_
          obtain ⟨D3, hD3⟩ : ∃ e, zx52.heap.size = e := ⟨_, rfl⟩
          have hbx : Below zx52.heap.size zx52 (zx52.alloc (.cells #[.int .i64 0, .slice none 0 0] 25)) := (Below.refl _ _).alloc (Nat.le_refl _) _
          have RQ := Lib.hid (row_new' zx52 #[.int .i64 0, .slice none 0 0] 25)
          rw [hD3] at RQ
          have DLb : Hid (D < D3) := Lib.hid (by have := R1b.out.lt; omega)
          have HWD3 : Hid (w.heap.size ≤ D3) := Lib.hid (by have := W1b.out.size; omega)
          have HZD3 : Hid (z4.heap.size ≤ D3) := Lib.hid (by have := Y1b.out.size; omega)
          have NE : Hid (gb1 ≠ D3) := Lib.hid (by have := O1b.out.lt; omega)
          obtain ⟨zx55, hxb⟩ : ∃ q, zx52.alloc (.cells #[.int .i64 0, .slice none 0 0] 25) = q := ⟨_, rfl⟩
          rw [hxb] at hbx RQ
          rw [hD3, hxb]
          have zhq56 : Below zx52.heap.size zx52 zx55 := hbx
          have zR_57 := Lib.hid (Row.go R1b.out zhq56)
          have zY_58 := Lib.hid (bel_to Y1b.out zhq56)
          have zO_59 := Lib.hid (Cat.to O1b.out zhq56)
          have zBB_60 := Lib.hid (Nat.le_trans S1b.out (Below.size zhq56))
          have zHB_61 : Hid (Below w.heap.size w zx55) := Lib.hid (W1b.out.trans (zhq56.mono W1b.out.size))
          clear zhq56
          clear hbx hxb hD3
          have zhS62 : (fun w' : World => w'.cell? ⟨D, 1, none⟩ = some (.slice (some ⟨b1, o1, none⟩) c k1)) zx55 := zR_57.out.cell 1
          refine HzK54.out _ _ zhS62 fun _ => ?_
          try simp only [Act.put, List.setIfInBounds_toArray, List.set_cons_zero, List.set_cons_succ]
          refine wpAnyH_ready (rs := [12]) (by kernel_rfl) (by simp) ?_
          refine AllReadyH.cons rfl (fun zK63 hzK63 => ?_) AllReadyH.nil
          have HzK63 := Lib.hid hzK63
          clear hzK63
          rw [if_pos (by rfl)]
          refine wp_cat (.tmp 79) (.tmp 84) rfl bb gb1 (i) qb1 (([]) ++ (us.take i)) b1 (o2) (m2) k2' (us.drop j) (c - 1) (by have := JL.out; have := M2.out; have := IC.out; omega) rfl zO_59.out LEN1b.out rfl UDL.out (fun q hq => UDC.out _ zY_58.out q hq) UDO.out (by have := CC.out; omega) zBB_60.out ?_
          intro gb2 qb2 zx64 ho hg hat
          have hbo := zO_59.out.1
          have Y2b : Hid (Below z4.heap.size z4 zx64) := Lib.hid (zY_58.out.grown hg zY_58.out.size (fun j e => by cases e; have := HB0.out; omega))
          have W2b : Hid (Below w.heap.size w zx64) := Lib.hid (zHB_61.out.grown hg zHB_61.out.size (fun j e => by cases e; have := HW0.out; omega))
          have R2b := Lib.hid (zR_57.out.gr hg (fun e => by have e2 := Option.some.inj e; have := (show D < z4.heap.size from R4.out.lt); have := HB0.out; omega))
          have S2b : Hid (bb ≤ zx64.heap.size) := Lib.hid (Nat.le_trans zBB_60.out hg.size)
          have O2b := Lib.hid ho
          have Q2b := Lib.hid (RQ.out.gr hg (fun e => NE.out (Option.some.inj e).symm))
          have NE2 : Hid (gb2 ≠ D3) := Lib.hid (by have h1 := RQ.out.lt; have h2 := NE.out; rcases hat with h | h; exact h ▸ h2; omega)
          clear ho hg hat hbo
          have LEN2b : Hid (((([]) ++ (us.take i)) ++ (us.drop j)).length = c - 1) := Lib.hid (by rw [List.length_append, LEN1b.out, show (us.drop j).length = m2 from UDL.out] <;> (have := JL.out; have := M2.out; have := IC.out; omega))
          have zhS65 : (fun w' : World => w'.cell? ⟨D, 1, none⟩ = some (.slice (some ⟨b1, o1, none⟩) c k1)) zx64 := R2b.out.cell 1
          refine HzK63.out _ _ zhS65 fun _ => ?_
          try simp only [Act.put, List.setIfInBounds_toArray, List.set_cons_zero, List.set_cons_succ]
          refine takeD (i := 13) (v := .agg #[.int .i64 (v : Int), .slice (some ⟨gb2, 0, none⟩) (c - 1) qb2]) (some 86) rfl rfl (by kernel_rfl) (by kernel_rfl) (by kernel_rfl) (fun _ _ _ h => h) (Or.inl ⟨by rfl, by rintro w' -; go_simp⟩) zhS65 ?_
          simp only [Act.put, List.setIfInBounds_toArray, List.set_cons_zero, List.set_cons_succ]
          refine wpAnyH_ready (rs := [15]) (by kernel_rfl) (by simp) ?_
          refine AllReadyH.cons rfl (fun zK66 hzK66 => ?_) AllReadyH.nil
          have HzK66 := Lib.hid hzK66
          clear hzK66
          rw [if_pos (by rfl)]
          have cc := (show _ = some _ from Q2b.out.cell 0)
          have ff := Q2b.out.frozen 0
          have cd := (show _ = some _ from Q2b.out.cell 1)
          have fg := Q2b.out.frozen 1
          go_simp
          clear cc ff cd fg
          have FB := Lib.hid ((W2b.out.setCell (p := ⟨D3, 0, none⟩) HWD3.out (.int .i64 (v : Int))).setCell (p := ⟨D3, 1, none⟩) HWD3.out (.slice (some ⟨gb2, 0, none⟩) (c - 1) qb2))
          have FY := Lib.hid ((Y2b.out.setCell (p := ⟨D3, 0, none⟩) HZD3.out (.int .i64 (v : Int))).setCell (p := ⟨D3, 1, none⟩) HZD3.out (.slice (some ⟨gb2, 0, none⟩) (c - 1) qb2))
          have FR := Lib.hid ((R2b.out.oth (k := D3) (by have := DLb.out; omega) 0 (.int .i64 (v : Int))).oth (k := D3) (by have := DLb.out; omega) 1 (.slice (some ⟨gb2, 0, none⟩) (c - 1) qb2))
          have FQ := Lib.hid ((Q2b.out.store 0 (.int .i64 (v : Int))).store 1 (.slice (some ⟨gb2, 0, none⟩) (c - 1) qb2))
          have FO := Lib.hid ((O2b.out.oth (p := ⟨D3, 0, none⟩) NE2.out (.int .i64 (v : Int))).oth (p := ⟨D3, 1, none⟩) NE2.out (.slice (some ⟨gb2, 0, none⟩) (c - 1) qb2))
          obtain ⟨Vb, hV⟩ : ∃ V, ((zx64.setCell ⟨D3, 0, none⟩ (.int .i64 (v : Int))).setCell ⟨D3, 1, none⟩ (.slice (some ⟨gb2, 0, none⟩) (c - 1) qb2)) = V := ⟨_, rfl⟩
          rw [hV] at FB FY FR FQ FO ⊢
          clear hV
          have FBb := FB
          have FYb := FY
          have FRb := FR
          have FQb := FQ
          have FOb := FO
          clear FB FY FR FQ FO
          have zhS67 : (fun w' : World => w'.cell? ⟨D, 1, none⟩ = some (.slice (some ⟨b1, o1, none⟩) c k1)) Vb := FRb.out.cell 1
          refine HzK66.out _ _ zhS67 fun _ => ?_
          refine wpAnyH_done (by kernel_rfl) ?_ _
          have GT : Hid (Gs Vb (.slice (some ⟨gb2, 0, none⟩) (c - 1) qb2) (L.take i ++ L.drop (i + 1))) := Lib.hid (by have h := FOb.out; rw [List.nil_append, ← JL.out] at h; exact h.gs (by rw [List.length_append, List.length_take, List.length_drop, UL.out]; have := IC.out; omega) (by rw [List.length_append, List.length_take, List.length_drop, LN.out]; have := IC.out; omega) (less_rows IC.out UL.out LN.out (UN.out _ FYb.out)))
          have CK3 : Hid (Calls Tryd.prog 16 #[.agg #[.int .i64 (v : Int), .slice (some ⟨gb2, 0, none⟩) (c - 1) qb2]] Vb (bel (.tuple #[.int .i64 0, .int .i64 0, .int .i64 5]) Vb)) := Lib.hid (check_nobal (less_nobal BAL.out (by rw [LN.out]; exact IC.out) kv L1.out) _ Vb GT.out)
          have e0 := (show _ = some _ from FQb.out.cell 0)
          have e1 := (show _ = some _ from FQb.out.cell 1)
          clear GT
          go_wp2_with fail
          refine CK3.out.mono ?_
          rintro e zx69 ⟨rfl, zhb68⟩
          have zhq70 : Below Vb.heap.size Vb zx69 := zhb68
          have zR_71 := Lib.hid (Row.go FRb.out zhq70)
          have zY_72 := Lib.hid (bel_to FYb.out zhq70)
          have zHB_73 : Hid (Below w.heap.size w zx69) := Lib.hid (FBb.out.trans (zhq70.mono FBb.out.size))
          clear zhq70
          clear zhb68 e0 e1 CK3
          have w1 : IntKind.i64.wrap (2 * (r : Int)) = ((2 * r : Nat) : Int) := by rw [IntKind.wrap_i64]; omega
          have w2 : IntKind.i64.wrap (2 * (l : Int)) = ((2 * l : Nat) : Int) := by rw [IntKind.wrap_i64]; omega
          have w3 : wrap64 (2 * (r : Int)) = ((2 * r : Nat) : Int) := by rw [IntWalk.wrap64_in _ ⟨by omega, by omega⟩]; omega
          have w4 : wrap64 (2 * (l : Int)) = ((2 * l : Nat) : Int) := by rw [IntWalk.wrap64_in _ ⟨by omega, by omega⟩]; omega
          go_wp2_with fail
          go_ret
          exact ⟨rfl, zHB_73.out⟩
      · have HzK51 := Lib.hid hK
        clear hK
        rw [if_pos (by rfl)]
        refine wp_allocD rfl ?_
        obtain ⟨D3, hD3⟩ : ∃ e, zx45.heap.size = e := ⟨_, rfl⟩
        have hbx : Below zx45.heap.size zx45 (zx45.alloc (.cells #[.int .i64 0, .slice none 0 0] 25)) := (Below.refl _ _).alloc (Nat.le_refl _) _
        have RQ := Lib.hid (row_new' zx45 #[.int .i64 0, .slice none 0 0] 25)
        rw [hD3] at RQ
        have DLb : Hid (D < D3) := Lib.hid (by have := zR_47.out.lt; omega)
        have HWD3 : Hid (w.heap.size ≤ D3) := Lib.hid (by have := zHB_49.out.size; omega)
        have HZD3 : Hid (z4.heap.size ≤ D3) := Lib.hid (by have := zY_48.out.size; omega)
        have NE : Hid (bb ≠ D3) := Lib.hid (by have := CT.out.lt; omega)
        obtain ⟨zx52, hxb⟩ : ∃ q, zx45.alloc (.cells #[.int .i64 0, .slice none 0 0] 25) = q := ⟨_, rfl⟩
        rw [hxb] at hbx RQ
        rw [hD3, hxb]
        have zhq53 : Below zx45.heap.size zx45 zx52 := hbx
        have zR_54 := Lib.hid (Row.go zR_47.out zhq53)
        have zY_55 := Lib.hid (bel_to zY_48.out zhq53)
        have zO_56 := Lib.hid (Cat.to CT.out zhq53)
        have zBB_57 := Lib.hid (Nat.le_trans BB.out (Below.size zhq53))
        have zHB_58 : Hid (Below w.heap.size w zx52) := Lib.hid (zHB_49.out.trans (zhq53.mono zHB_49.out.size))
        clear zhq53
        clear hbx hxb hD3
        have zhS59 : (fun w' : World => w'.cell? ⟨D, 1, none⟩ = some (.slice (some ⟨b1, o1, none⟩) c k1)) zx52 := zR_54.out.cell 1
        refine HzK51.out _ _ zhS59 fun _ => ?_
        try simp only [Act.put, List.setIfInBounds_toArray, List.set_cons_zero, List.set_cons_succ]
        refine wpAnyH_ready (rs := [6]) (by kernel_rfl) (by simp) ?_
        refine AllReadyH.cons rfl (fun zK60 hzK60 => ?_) AllReadyH.nil
        have HzK60 := Lib.hid hzK60
        clear hzK60
        rw [if_pos (by rfl)]
        refine wp_cat (.tmp 74) (.tmp 78) rfl bb bb (0) 0 ([]) b1 (o1) (i) k1 (us.take i) (i) (by have := JL.out; have := M2.out; have := IC.out; omega) rfl zO_56.out rfl rfl UTL.out (fun q hq => UTC.out _ zY_55.out q hq) UTO.out (by have := CC.out; omega) zBB_57.out ?_
        intro gb1 qb1 zx61 ho hg hat
        have hbo := zO_56.out.1
        have Y1b : Hid (Below z4.heap.size z4 zx61) := Lib.hid (zY_55.out.grown hg zY_55.out.size (fun j e => by cases e; have := HB0.out; omega))
        have W1b : Hid (Below w.heap.size w zx61) := Lib.hid (zHB_58.out.grown hg zHB_58.out.size (fun j e => by cases e; have := HW0.out; omega))
        have R1b := Lib.hid (zR_54.out.gr hg (fun e => by have e2 := Option.some.inj e; have := (show D < z4.heap.size from R4.out.lt); have := HB0.out; omega))
        have S1b : Hid (bb ≤ zx61.heap.size) := Lib.hid (Nat.le_trans zBB_57.out hg.size)
        have O1b := Lib.hid ho
        have Q1b := Lib.hid (RQ.out.gr hg (fun e => NE.out (Option.some.inj e).symm))
        have NE1 : Hid (gb1 ≠ D3) := Lib.hid (by have h1 := RQ.out.lt; have h2 := NE.out; rcases hat with h | h; exact h ▸ h2; omega)
        clear ho hg hat hbo
        have LEN1b : Hid ((([]) ++ (us.take i)).length = i) := Lib.hid (by rw [List.length_append, List.length_nil, show (us.take i).length = i from UTL.out] <;> (have := JL.out; have := M2.out; have := IC.out; omega))
        have zhS62 : (fun w' : World => w'.cell? ⟨D, 1, none⟩ = some (.slice (some ⟨b1, o1, none⟩) c k1)) zx61 := R1b.out.cell 1
        refine HzK60.out _ _ zhS62 fun _ => ?_
        try simp only [Act.put, List.setIfInBounds_toArray, List.set_cons_zero, List.set_cons_succ]
        refine wpAnyH_ready (rs := [12]) (by kernel_rfl) (by simp) ?_
        refine AllReadyH.cons rfl (fun zK63 hzK63 => ?_) AllReadyH.nil
        have HzK63 := Lib.hid hzK63
        clear hzK63
        rw [if_pos (by rfl)]
        refine wp_cat (.tmp 79) (.tmp 84) rfl bb gb1 (i) qb1 (([]) ++ (us.take i)) b1 (o2) (m2) k2' (us.drop j) (c - 1) (by have := JL.out; have := M2.out; have := IC.out; omega) rfl O1b.out LEN1b.out rfl UDL.out (fun q hq => UDC.out _ Y1b.out q hq) UDO.out (by have := CC.out; omega) S1b.out ?_
        intro gb2 qb2 zx64 ho hg hat
        have hbo := O1b.out.1
        have Y2b : Hid (Below z4.heap.size z4 zx64) := Lib.hid (Y1b.out.grown hg Y1b.out.size (fun j e => by cases e; have := HB0.out; omega))
        have W2b : Hid (Below w.heap.size w zx64) := Lib.hid (W1b.out.grown hg W1b.out.size (fun j e => by cases e; have := HW0.out; omega))
        have R2b := Lib.hid (R1b.out.gr hg (fun e => by have e2 := Option.some.inj e; have := (show D < z4.heap.size from R4.out.lt); have := HB0.out; omega))
        have S2b : Hid (bb ≤ zx64.heap.size) := Lib.hid (Nat.le_trans S1b.out hg.size)
        have O2b := Lib.hid ho
        have Q2b := Lib.hid (Q1b.out.gr hg (fun e => NE1.out (Option.some.inj e).symm))
        have NE2 : Hid (gb2 ≠ D3) := Lib.hid (by have h1 := Q1b.out.lt; have h2 := NE1.out; rcases hat with h | h; exact h ▸ h2; omega)
        clear ho hg hat hbo
        have LEN2b : Hid (((([]) ++ (us.take i)) ++ (us.drop j)).length = c - 1) := Lib.hid (by rw [List.length_append, LEN1b.out, show (us.drop j).length = m2 from UDL.out] <;> (have := JL.out; have := M2.out; have := IC.out; omega))
        have zhS65 : (fun w' : World => w'.cell? ⟨D, 1, none⟩ = some (.slice (some ⟨b1, o1, none⟩) c k1)) zx64 := R2b.out.cell 1
        refine HzK63.out _ _ zhS65 fun _ => ?_
        try simp only [Act.put, List.setIfInBounds_toArray, List.set_cons_zero, List.set_cons_succ]
        refine takeD (i := 13) (v := .agg #[.int .i64 (v : Int), .slice (some ⟨gb2, 0, none⟩) (c - 1) qb2]) (some 86) rfl rfl (by kernel_rfl) (by kernel_rfl) (by kernel_rfl) (fun _ _ _ h => h) (Or.inl ⟨by rfl, by rintro w' -; go_simp⟩) zhS65 ?_
        simp only [Act.put, List.setIfInBounds_toArray, List.set_cons_zero, List.set_cons_succ]
        refine wpAnyH_ready (rs := [15]) (by kernel_rfl) (by simp) ?_
        refine AllReadyH.cons rfl (fun zK66 hzK66 => ?_) AllReadyH.nil
        have HzK66 := Lib.hid hzK66
        clear hzK66
        rw [if_pos (by rfl)]
        have cc := (show _ = some _ from Q2b.out.cell 0)
        have ff := Q2b.out.frozen 0
        have cd := (show _ = some _ from Q2b.out.cell 1)
        have fg := Q2b.out.frozen 1
        go_simp
        clear cc ff cd fg
        have FB := Lib.hid ((W2b.out.setCell (p := ⟨D3, 0, none⟩) HWD3.out (.int .i64 (v : Int))).setCell (p := ⟨D3, 1, none⟩) HWD3.out (.slice (some ⟨gb2, 0, none⟩) (c - 1) qb2))
        have FY := Lib.hid ((Y2b.out.setCell (p := ⟨D3, 0, none⟩) HZD3.out (.int .i64 (v : Int))).setCell (p := ⟨D3, 1, none⟩) HZD3.out (.slice (some ⟨gb2, 0, none⟩) (c - 1) qb2))
        have FR := Lib.hid ((R2b.out.oth (k := D3) (by have := DLb.out; omega) 0 (.int .i64 (v : Int))).oth (k := D3) (by have := DLb.out; omega) 1 (.slice (some ⟨gb2, 0, none⟩) (c - 1) qb2))
        have FQ := Lib.hid ((Q2b.out.store 0 (.int .i64 (v : Int))).store 1 (.slice (some ⟨gb2, 0, none⟩) (c - 1) qb2))
        have FO := Lib.hid ((O2b.out.oth (p := ⟨D3, 0, none⟩) NE2.out (.int .i64 (v : Int))).oth (p := ⟨D3, 1, none⟩) NE2.out (.slice (some ⟨gb2, 0, none⟩) (c - 1) qb2))
        obtain ⟨Vb, hV⟩ : ∃ V, ((zx64.setCell ⟨D3, 0, none⟩ (.int .i64 (v : Int))).setCell ⟨D3, 1, none⟩ (.slice (some ⟨gb2, 0, none⟩) (c - 1) qb2)) = V := ⟨_, rfl⟩
        rw [hV] at FB FY FR FQ FO ⊢
        clear hV
        have FBb := FB
        have FYb := FY
        have FRb := FR
        have FQb := FQ
        have FOb := FO
        clear FB FY FR FQ FO
        have zhS67 : (fun w' : World => w'.cell? ⟨D, 1, none⟩ = some (.slice (some ⟨b1, o1, none⟩) c k1)) Vb := FRb.out.cell 1
        refine HzK66.out _ _ zhS67 fun _ => ?_
        refine wpAnyH_done (by kernel_rfl) ?_ _
        have GT : Hid (Gs Vb (.slice (some ⟨gb2, 0, none⟩) (c - 1) qb2) (L.take i ++ L.drop (i + 1))) := Lib.hid (by have h := FOb.out; rw [List.nil_append, ← JL.out] at h; exact h.gs (by rw [List.length_append, List.length_take, List.length_drop, UL.out]; have := IC.out; omega) (by rw [List.length_append, List.length_take, List.length_drop, LN.out]; have := IC.out; omega) (less_rows IC.out UL.out LN.out (UN.out _ FYb.out)))
        have CK3 : Hid (Calls Tryd.prog 16 #[.agg #[.int .i64 (v : Int), .slice (some ⟨gb2, 0, none⟩) (c - 1) qb2]] Vb (bel (.tuple #[.int .i64 0, .int .i64 0, .int .i64 5]) Vb)) := Lib.hid (check_nobal (less_nobal BAL.out (by rw [LN.out]; exact IC.out) kv L1.out) _ Vb GT.out)
        have e0 := (show _ = some _ from FQb.out.cell 0)
        have e1 := (show _ = some _ from FQb.out.cell 1)
        clear GT
        go_wp2_with fail
        refine CK3.out.mono ?_
        rintro e zx69 ⟨rfl, zhb68⟩
        have zhq70 : Below Vb.heap.size Vb zx69 := zhb68
        have zR_71 := Lib.hid (Row.go FRb.out zhq70)
        have zY_72 := Lib.hid (bel_to FYb.out zhq70)
        have zHB_73 : Hid (Below w.heap.size w zx69) := Lib.hid (FBb.out.trans (zhq70.mono FBb.out.size))
        clear zhq70
        clear zhb68 e0 e1 CK3
        have w1 : IntKind.i64.wrap (2 * (r : Int)) = ((2 * r : Nat) : Int) := by rw [IntKind.wrap_i64]; omega
        have w2 : IntKind.i64.wrap (2 * (l : Int)) = ((2 * l : Nat) : Int) := by rw [IntKind.wrap_i64]; omega
        have w3 : wrap64 (2 * (r : Int)) = ((2 * r : Nat) : Int) := by rw [IntWalk.wrap64_in _ ⟨by omega, by omega⟩]; omega
        have w4 : wrap64 (2 * (l : Int)) = ((2 * l : Nat) : Int) := by rw [IntWalk.wrap64_in _ ⟨by omega, by omega⟩]; omega
        go_wp2_with fail
        go_ret
        exact ⟨rfl, zHB_73.out⟩
    · have HzK44 := Lib.hid hK
      clear hK
      rw [if_pos (by rfl)]
      refine wp_allocD rfl ?_
      obtain ⟨D3, hD3⟩ : ∃ e, zwz37.heap.size = e := ⟨_, rfl⟩
      have hbx : Below zwz37.heap.size zwz37 (zwz37.alloc (.cells #[.int .i64 0, .slice none 0 0] 25)) := (Below.refl _ _).alloc (Nat.le_refl _) _
      have RQ := Lib.hid (row_new' zwz37 #[.int .i64 0, .slice none 0 0] 25)
      rw [hD3] at RQ
      have DLb : Hid (D < D3) := Lib.hid (by have := zR_40.out.lt; omega)
      have HWD3 : Hid (w.heap.size ≤ D3) := Lib.hid (by have := zHB_42.out.size; omega)
      have HZD3 : Hid (z4.heap.size ≤ D3) := Lib.hid (by have := zY_41.out.size; omega)
      obtain ⟨zx45, hxb⟩ : ∃ q, zwz37.alloc (.cells #[.int .i64 0, .slice none 0 0] 25) = q := ⟨_, rfl⟩
      rw [hxb] at hbx RQ
      rw [hD3, hxb]
      have zhq46 : Below zwz37.heap.size zwz37 zx45 := hbx
      have zR_47 := Lib.hid (Row.go zR_40.out zhq46)
      have zY_48 := Lib.hid (bel_to zY_41.out zhq46)
      have zHB_49 : Hid (Below w.heap.size w zx45) := Lib.hid (zHB_42.out.trans (zhq46.mono zHB_42.out.size))
      clear zhq46
      clear hbx hxb hD3
      have zhS50 : (fun w' : World => w'.cell? ⟨D, 1, none⟩ = some (.slice (some ⟨b1, o1, none⟩) c k1)) zx45 := zR_47.out.cell 1
      refine HzK44.out _ _ zhS50 fun _ => ?_
      try simp only [Act.put, List.setIfInBounds_toArray, List.set_cons_zero, List.set_cons_succ]
      refine wpAnyH_ready (rs := [1]) (by kernel_rfl) (by simp) ?_
      refine AllReadyH.cons rfl (fun zK51 hzK51 => ?_) AllReadyH.nil
      have HzK51 := Lib.hid hzK51
      clear hzK51
      rw [if_pos (by rfl)]
      refine wp_build_00 rfl ?_
      obtain ⟨bb, hb0⟩ : ∃ e, zx45.heap.size = e := ⟨_, rfl⟩
      have hbx : Below zx45.heap.size zx45 (zx45.alloc (.cells #[] 40)) := (Below.refl _ _).alloc (Nat.le_refl _) _
      have CT : Hid (Cat (zx45.alloc (.cells #[] 40)) bb bb 0 []) := Lib.hid ⟨Nat.le_refl _, #[], by rw [← hb0]; exact row_new' zx45 #[] 40, rfl, Nat.zero_le _, Nat.le_refl 0, rfl⟩
      have NE : Hid (bb ≠ D3) := Lib.hid (by have := RQ.out.lt; omega)
      have BB : Hid (bb ≤ (zx45.alloc (.cells #[] 40)).heap.size) := Lib.hid (by rw [World.size_alloc]; omega)
      obtain ⟨zx52, hxb⟩ : ∃ q, zx45.alloc (.cells #[] 40) = q := ⟨_, rfl⟩
      rw [hxb] at hbx CT BB
      rw [hb0, hxb]
      have HB0 : Hid (z4.heap.size ≤ bb) := Lib.hid (by have := zY_48.out.size; omega)
      have HW0 : Hid (w.heap.size ≤ bb) := Lib.hid (by have := zHB_49.out.size; omega)
      have zhq53 : Below zx45.heap.size zx45 zx52 := hbx
      have zR_54 := Lib.hid (Row.go zR_47.out zhq53)
      have zY_55 := Lib.hid (bel_to zY_48.out zhq53)
      have zQ_56 := Lib.hid (Row.go RQ.out zhq53)
      have zHB_57 : Hid (Below w.heap.size w zx52) := Lib.hid (zHB_49.out.trans (zhq53.mono zHB_49.out.size))
      clear zhq53
      clear hbx hxb hb0
      have zhS58 : (fun w' : World => w'.cell? ⟨D, 1, none⟩ = some (.slice (some ⟨b1, o1, none⟩) c k1)) zx52 := zR_54.out.cell 1
      refine HzK51.out _ _ zhS58 fun _ => ?_
      try simp only [Act.put, List.setIfInBounds_toArray, List.set_cons_zero, List.set_cons_succ]
      refine wpAnyH_ready (rs := [6]) (by kernel_rfl) (by simp) ?_
      refine AllReadyH.cons rfl (fun zK59 hzK59 => ?_) AllReadyH.nil
      have HzK59 := Lib.hid hzK59
      clear hzK59
      rw [if_pos (by rfl)]
      refine wp_cat (.tmp 74) (.tmp 78) rfl bb bb (0) 0 ([]) b1 (o1) (i) k1 (us.take i) (i) (by have := JL.out; have := M2.out; have := IC.out; omega) rfl CT.out rfl rfl UTL.out (fun q hq => UTC.out _ zY_55.out q hq) UTO.out (by have := CC.out; omega) BB.out ?_
      intro gb1 qb1 zx60 ho hg hat
      have hbo := CT.out.1
      have Y1b : Hid (Below z4.heap.size z4 zx60) := Lib.hid (zY_55.out.grown hg zY_55.out.size (fun j e => by cases e; have := HB0.out; omega))
      have W1b : Hid (Below w.heap.size w zx60) := Lib.hid (zHB_57.out.grown hg zHB_57.out.size (fun j e => by cases e; have := HW0.out; omega))
      have R1b := Lib.hid (zR_54.out.gr hg (fun e => by have e2 := Option.some.inj e; have := (show D < z4.heap.size from R4.out.lt); have := HB0.out; omega))
      have S1b : Hid (bb ≤ zx60.heap.size) := Lib.hid (Nat.le_trans BB.out hg.size)
      have O1b := Lib.hid ho
      have Q1b := Lib.hid (zQ_56.out.gr hg (fun e => NE.out (Option.some.inj e).symm))
      have NE1 : Hid (gb1 ≠ D3) := Lib.hid (by have h1 := zQ_56.out.lt; have h2 := NE.out; rcases hat with h | h; exact h ▸ h2; omega)
      clear ho hg hat hbo
      have LEN1b : Hid ((([]) ++ (us.take i)).length = i) := Lib.hid (by rw [List.length_append, List.length_nil, show (us.take i).length = i from UTL.out] <;> (have := JL.out; have := M2.out; have := IC.out; omega))
      have zhS61 : (fun w' : World => w'.cell? ⟨D, 1, none⟩ = some (.slice (some ⟨b1, o1, none⟩) c k1)) zx60 := R1b.out.cell 1
      refine HzK59.out _ _ zhS61 fun _ => ?_
      try simp only [Act.put, List.setIfInBounds_toArray, List.set_cons_zero, List.set_cons_succ]
      refine wpAnyH_ready (rs := [12]) (by kernel_rfl) (by simp) ?_
      refine AllReadyH.cons rfl (fun zK62 hzK62 => ?_) AllReadyH.nil
      have HzK62 := Lib.hid hzK62
      clear hzK62
      rw [if_pos (by rfl)]
      refine wp_cat (.tmp 79) (.tmp 84) rfl bb gb1 (i) qb1 (([]) ++ (us.take i)) b1 (o2) (m2) k2' (us.drop j) (c - 1) (by have := JL.out; have := M2.out; have := IC.out; omega) rfl O1b.out LEN1b.out rfl UDL.out (fun q hq => UDC.out _ Y1b.out q hq) UDO.out (by have := CC.out; omega) S1b.out ?_
      intro gb2 qb2 zx63 ho hg hat
      have hbo := O1b.out.1
      have Y2b : Hid (Below z4.heap.size z4 zx63) := Lib.hid (Y1b.out.grown hg Y1b.out.size (fun j e => by cases e; have := HB0.out; omega))
      have W2b : Hid (Below w.heap.size w zx63) := Lib.hid (W1b.out.grown hg W1b.out.size (fun j e => by cases e; have := HW0.out; omega))
      have R2b := Lib.hid (R1b.out.gr hg (fun e => by have e2 := Option.some.inj e; have := (show D < z4.heap.size from R4.out.lt); have := HB0.out; omega))
      have S2b : Hid (bb ≤ zx63.heap.size) := Lib.hid (Nat.le_trans S1b.out hg.size)
      have O2b := Lib.hid ho
      have Q2b := Lib.hid (Q1b.out.gr hg (fun e => NE1.out (Option.some.inj e).symm))
      have NE2 : Hid (gb2 ≠ D3) := Lib.hid (by have h1 := Q1b.out.lt; have h2 := NE1.out; rcases hat with h | h; exact h ▸ h2; omega)
      clear ho hg hat hbo
      have LEN2b : Hid (((([]) ++ (us.take i)) ++ (us.drop j)).length = c - 1) := Lib.hid (by rw [List.length_append, LEN1b.out, show (us.drop j).length = m2 from UDL.out] <;> (have := JL.out; have := M2.out; have := IC.out; omega))
      have zhS64 : (fun w' : World => w'.cell? ⟨D, 1, none⟩ = some (.slice (some ⟨b1, o1, none⟩) c k1)) zx63 := R2b.out.cell 1
      refine HzK62.out _ _ zhS64 fun _ => ?_
      try simp only [Act.put, List.setIfInBounds_toArray, List.set_cons_zero, List.set_cons_succ]
      refine takeD (i := 13) (v := .agg #[.int .i64 (v : Int), .slice (some ⟨gb2, 0, none⟩) (c - 1) qb2]) (some 86) rfl rfl (by kernel_rfl) (by kernel_rfl) (by kernel_rfl) (fun _ _ _ h => h) (Or.inl ⟨by rfl, by rintro w' -; go_simp⟩) zhS64 ?_
      simp only [Act.put, List.setIfInBounds_toArray, List.set_cons_zero, List.set_cons_succ]
      refine wpAnyH_ready (rs := [15]) (by kernel_rfl) (by simp) ?_
      refine AllReadyH.cons rfl (fun zK65 hzK65 => ?_) AllReadyH.nil
      have HzK65 := Lib.hid hzK65
      clear hzK65
      rw [if_pos (by rfl)]
      have cc := (show _ = some _ from Q2b.out.cell 0)
      have ff := Q2b.out.frozen 0
      have cd := (show _ = some _ from Q2b.out.cell 1)
      have fg := Q2b.out.frozen 1
      go_simp
      clear cc ff cd fg
      have FB := Lib.hid ((W2b.out.setCell (p := ⟨D3, 0, none⟩) HWD3.out (.int .i64 (v : Int))).setCell (p := ⟨D3, 1, none⟩) HWD3.out (.slice (some ⟨gb2, 0, none⟩) (c - 1) qb2))
      have FY := Lib.hid ((Y2b.out.setCell (p := ⟨D3, 0, none⟩) HZD3.out (.int .i64 (v : Int))).setCell (p := ⟨D3, 1, none⟩) HZD3.out (.slice (some ⟨gb2, 0, none⟩) (c - 1) qb2))
      have FR := Lib.hid ((R2b.out.oth (k := D3) (by have := DLb.out; omega) 0 (.int .i64 (v : Int))).oth (k := D3) (by have := DLb.out; omega) 1 (.slice (some ⟨gb2, 0, none⟩) (c - 1) qb2))
      have FQ := Lib.hid ((Q2b.out.store 0 (.int .i64 (v : Int))).store 1 (.slice (some ⟨gb2, 0, none⟩) (c - 1) qb2))
      have FO := Lib.hid ((O2b.out.oth (p := ⟨D3, 0, none⟩) NE2.out (.int .i64 (v : Int))).oth (p := ⟨D3, 1, none⟩) NE2.out (.slice (some ⟨gb2, 0, none⟩) (c - 1) qb2))
      obtain ⟨Vb, hV⟩ : ∃ V, ((zx63.setCell ⟨D3, 0, none⟩ (.int .i64 (v : Int))).setCell ⟨D3, 1, none⟩ (.slice (some ⟨gb2, 0, none⟩) (c - 1) qb2)) = V := ⟨_, rfl⟩
      rw [hV] at FB FY FR FQ FO ⊢
      clear hV
      have FBb := FB
      have FYb := FY
      have FRb := FR
      have FQb := FQ
      have FOb := FO
      clear FB FY FR FQ FO
      have zhS66 : (fun w' : World => w'.cell? ⟨D, 1, none⟩ = some (.slice (some ⟨b1, o1, none⟩) c k1)) Vb := FRb.out.cell 1
      refine HzK65.out _ _ zhS66 fun _ => ?_
      refine wpAnyH_done (by kernel_rfl) ?_ _
      have GT : Hid (Gs Vb (.slice (some ⟨gb2, 0, none⟩) (c - 1) qb2) (L.take i ++ L.drop (i + 1))) := Lib.hid (by have h := FOb.out; rw [List.nil_append, ← JL.out] at h; exact h.gs (by rw [List.length_append, List.length_take, List.length_drop, UL.out]; have := IC.out; omega) (by rw [List.length_append, List.length_take, List.length_drop, LN.out]; have := IC.out; omega) (less_rows IC.out UL.out LN.out (UN.out _ FYb.out)))
      have CK3 : Hid (Calls Tryd.prog 16 #[.agg #[.int .i64 (v : Int), .slice (some ⟨gb2, 0, none⟩) (c - 1) qb2]] Vb (bel (.tuple #[.int .i64 0, .int .i64 0, .int .i64 5]) Vb)) := Lib.hid (check_nobal (less_nobal BAL.out (by rw [LN.out]; exact IC.out) kv L1.out) _ Vb GT.out)
      have e0 := (show _ = some _ from FQb.out.cell 0)
      have e1 := (show _ = some _ from FQb.out.cell 1)
      clear GT
      go_wp2_with fail
      refine CK3.out.mono ?_
      rintro e zx68 ⟨rfl, zhb67⟩
      have zhq69 : Below Vb.heap.size Vb zx68 := zhb67
      have zR_70 := Lib.hid (Row.go FRb.out zhq69)
      have zY_71 := Lib.hid (bel_to FYb.out zhq69)
      have zHB_72 : Hid (Below w.heap.size w zx68) := Lib.hid (FBb.out.trans (zhq69.mono FBb.out.size))
      clear zhq69
      clear zhb67 e0 e1 CK3
      have w1 : IntKind.i64.wrap (2 * (r : Int)) = ((2 * r : Nat) : Int) := by rw [IntKind.wrap_i64]; omega
      have w2 : IntKind.i64.wrap (2 * (l : Int)) = ((2 * l : Nat) : Int) := by rw [IntKind.wrap_i64]; omega
      have w3 : wrap64 (2 * (r : Int)) = ((2 * r : Nat) : Int) := by rw [IntWalk.wrap64_in _ ⟨by omega, by omega⟩]; omega
      have w4 : wrap64 (2 * (l : Int)) = ((2 * l : Nat) : Int) := by rw [IntWalk.wrap64_in _ ⟨by omega, by omega⟩]; omega
      go_wp2_with fail
      go_ret
      exact ⟨rfl, zHB_72.out⟩
end Go.Proofs.YtnnacofjogfkeaaDoor
