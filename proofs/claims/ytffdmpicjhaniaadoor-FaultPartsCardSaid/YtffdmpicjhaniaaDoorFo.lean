/- Layer 13: law FaultParts. WRITTEN BY gen_Fo.py. -/
import Derived.Test.YtffdmpicjhaniaaDoorFn
namespace Go.Proofs.YtffdmpicjhaniaaDoor
open Go Go.RowKit Flt
set_option linter.unusedVariables false
set_option linter.unusedSimpArgs false
theorem last_ge : ∀ (L : List F) (p : Int), vldP p L = true → p ≤ last p L ∧ ∀ f ∈ L, f.pos ≤ last p L
  | [], p, _ => ⟨Int.le_refl _, fun f hf => by cases hf⟩
  | g :: L, p, h => by
    rw [vldP] at h
    simp only [Bool.and_eq_true, decide_eq_true_eq] at h
    obtain ⟨a, b⟩ := last_ge L g.pos h.2
    refine ⟨Int.le_trans (Int.le_of_lt h.1.1) a, fun f hf => ?_⟩
    rcases List.mem_cons.1 hf with rfl | hf
    · exact a
    · exact b f hf
theorem vldP_gt : ∀ (L : List F) (p : Int), vldP p L = true → ∀ f ∈ L, p < f.pos
  | [], _, _ => fun f hf => by cases hf
  | g :: L, p, h => by
    rw [vldP] at h
    simp only [Bool.and_eq_true, decide_eq_true_eq] at h
    intro f hf
    rcases List.mem_cons.1 hf with rfl | hf
    · exact h.1.1
    · exact Int.lt_trans h.1.1 (vldP_gt L g.pos h.2 f hf)
theorem wit_all {a b : Int} {L : List F} (h : ∀ f ∈ L, a ≤ f.pos ∧ f.pos < b) : wit a b L = L := by
  unfold wit
  refine List.filter_eq_self.2 fun f hf => ?_
  simp [h f hf]
theorem wit_no {a b : Int} {L : List F} (h : ∀ f ∈ L, ¬ (a ≤ f.pos ∧ f.pos < b)) : wit a b L = [] := by
  unfold wit
  refine List.filter_eq_nil_iff.2 fun f hf => ?_
  have := h f hf
  simp; omega
theorem wit_cons (a b : Int) (f : F) (L : List F) : wit a b (f :: L) = if a ≤ f.pos ∧ f.pos < b then f :: wit a b L else wit a b L := by
  unfold wit
  rw [List.filter_cons]
  by_cases h : a ≤ f.pos ∧ f.pos < b
  · rw [if_pos h, if_pos (by simp [h])]
  · rw [if_neg h, if_neg (by simp; omega)]
/-- A valid list is the concatenation of its parts. -/
theorem wit_parts {a m : Int} : ∀ (L : List F) (p : Int), vldP p L = true → (∀ f ∈ L, 0 ≤ f.pos ∧ f.pos < m) → wit 0 a L ++ wit a m L = L
  | [], _, _, _ => rfl
  | f :: L, p, h, hm => by
    rw [vldP] at h
    simp only [Bool.and_eq_true, decide_eq_true_eq] at h
    have hf := hm f List.mem_cons_self
    have hL := fun g hg => hm g (List.mem_cons_of_mem f hg)
    have ih := wit_parts (a := a) L f.pos h.2 hL
    have gt := vldP_gt L f.pos h.2
    rw [wit_cons, wit_cons]
    by_cases h1 : f.pos < a
    · rw [if_pos ⟨hf.1, h1⟩, if_neg (by omega), List.cons_append, ih]
    · rw [if_neg (by omega), if_pos ⟨by omega, hf.2⟩, wit_no (L := L) (a := 0) (b := a) (fun g hg => by have := gt g hg; omega), wit_all (L := L) (fun g hg => ⟨by have := gt g hg; omega, (hL g hg).2⟩)]
      rfl
/-- There is one fault with a number exactly if one is found. -/
theorem wit_one {a : Int} : ∀ (L : List F) (p : Int), vldP p L = true → ((wit a (a + 1) L).length : Int) = if (fnd a L).isSome = true then 1 else 0
  | [], _, _ => rfl
  | f :: L, p, h => by
    rw [vldP] at h
    simp only [Bool.and_eq_true, decide_eq_true_eq] at h
    have gt := vldP_gt L f.pos h.2
    rw [wit_cons]
    by_cases e : f.pos = a
    · rw [if_pos (by omega), wit_no (L := L) (fun g hg => by have := gt g hg; omega)]
      unfold fnd
      rw [List.find?_cons, show decide (f.pos = a) = true from decide_eq_true e]
      rfl
    · rw [if_neg (by omega), wit_one L f.pos h.2]
      unfold fnd
      rw [List.find?_cons, show decide (f.pos = a) = false from decide_eq_false e]
theorem append_nothing {P : Program} {t e : TypeId} {w : World} {o : Oper} {a : Act} {K : Act → World → Prop} {Q : Exit → Act → World → Prop} (s x : Operand) (i : TypeInfo) (ht : P.underlying t = some (.slice e)) (hi : P.info? e = some i)
    (ho : o.op = .call { callee := .builtin .append, args := #[s, x], argTypes := #[t, t] })
    (ad : Addr) (n cap : Nat) (A : Option Addr) (c : Nat) (hs : a.eval s = .slice (some ad) n cap) (hx : a.eval x = .slice A 0 c) (hc : n ≤ cap) (h : K (a.put o.dst (.slice (some ad) n cap)) w) : o.wp P a w K Q := by
  have h0 : ∀ b : Addr, (loadCells b 0).run P w = .ok #[] w := fun b => by simp [loadCells, loadCellsFrom]
  have hr : (Builtin.append_ #[t, t] o.type #[.slice (some ad) n cap, .slice A 0 c]).run P w = .ok (.slice (some ad) n cap) w := by
    cases A with
    | none => simp [Builtin.append_, run_underlying ht, sizeOf, typeInfo, hi, Builtin.lenOf, Builtin.firstCells, hc, storeCells]
    | some b => simp [Builtin.append_, run_underlying ht, sizeOf, typeInfo, hi, Builtin.lenOf, Builtin.firstCells, hc, storeCells, h0]
  unfold Oper.wp execOp
  simp only [ho, resolve, invoke, builtin, Sem.run_bind, Sem.run_pure, Result.andThen_ok, List.map_toArray, List.map_cons, List.map_nil, hs, hx, hr]
  exact h
/-- 'append(v, x...)', x as long as it may be. -/
theorem wp_cat_f {B : Nat} {w : World} {o : Oper} {a : Act} {Kt : Act → World → Prop} {Qx : Exit → Act → World → Prop} (s x : Operand)
    (ho : o.op = .call { callee := .builtin .append, args := #[s, x], argTypes := #[22, 22] })
    (g n cap m c : Nat) (A : Option Addr) (L M : List F) (hs : a.eval s = .slice (some ⟨g, 0, none⟩) n cap) (hown : Owf B w (.slice (some ⟨g, 0, none⟩) n cap) L) (hn : L.length = n) (hx : a.eval x = .slice A m c) (hM : Fts w (.slice A m c) M) (hm : M.length = m)
    (hlen : (n + m) * 24 ≤ 140737488355328) (hbase : B ≤ w.heap.size)
    (h : ∀ g' cap' w', Owf B w' (.slice (some ⟨g', 0, none⟩) (n + m) cap') (L ++ M) → Below B w w' → Kt (a.put o.dst (.slice (some ⟨g', 0, none⟩) (n + m) cap')) w') : o.wp Tryd.prog a w Kt Qx := by
  subst hn hm
  obtain ⟨i, hi, hz, hsz, hby⟩ := parts13 info_ft
  by_cases h0 : M.length = 0
  · obtain rfl : M = [] := List.length_eq_zero_iff.1 h0
    have hc : L.length ≤ cap := by
      obtain ⟨⟨_, h1⟩, _⟩ := hown
      rcases h1 with ⟨e, _⟩ | ⟨g2, cap2, cur, e, _, _, h2, _⟩
      · cases e
      · injection e with _ _ e; subst e; exact h2
    exact append_nothing s x i Tryd.underlying22 hi ho ⟨g, 0, none⟩ L.length cap A c hs hx hc (h g cap w (by simpa using hown) (Below.refl _ _))
  · have hfm := hM.fits
    obtain ⟨A', c', e, _, _, hc⟩ := hM
    obtain ⟨b, off, hA, hcell⟩ := hc (by omega)
    injection e with e1 e2 e3
    subst e1 e3 hA
    refine wp_append_lies w s x _ ho B _ i _ 3 24 Tryd.underlying22 hi hz hsz hby rfl (by decide) _ L.length (L.flatMap fcs) hs hown.1 ⟨b, off, none⟩ M.length c (M.flatMap fcs) hx (flat_len M) (fun j u' hj => ?_) (fun u' hu' => ?_) (by omega) (by unfold maxLen; omega) hlen hbase _ rfl fun g2 cap2 w' hown' hgrow hat _ => ?_
    · rw [Go.WideShapes.add_plain]
      have hj2 : j < M.length * 3 := by have := (List.getElem?_eq_some_iff.1 hj).1; rw [flat_len] at this; exact this
      have hk : j / 3 < M.length := by omega
      have e := flat_at M (j / 3) hk (j % 3) (by omega)
      rw [show j / 3 * 3 + j % 3 = j by omega, hj] at e
      have := hcell (j / 3) hk (j % 3) u' e.symm
      rw [show off + j / 3 * 3 + j % 3 = off + j by omega] at this
      exact this
    · obtain ⟨f, _, hu⟩ := List.mem_flatMap.1 hu'
      simp only [fcs, List.mem_cons, List.not_mem_nil, or_false] at hu
      rcases hu with rfl | rfl | rfl <;> rfl
    · refine h g2 cap2 w' ⟨?_, fun y hy => ?_⟩ ((Below.refl B w).grown hgrow hbase fun k hk => (hown.own k hk).1)
      · rw [List.length_append, List.flatMap_append]
        exact hown'
      · rcases List.mem_append.1 hy with hy | hy
        · exact hown.2 y hy
        · exact hfm y hy
theorem run_build_f0 (w : World) : (Instr.buildSlice 22 0 #[]).run Tryd.prog w = .ok (.slice (some ⟨w.heap.size, 0, none⟩) 0 0) (w.alloc (.cells #[] 26)) := by
  obtain ⟨i, hi, hz, hs, hb⟩ := parts13 info_ft
  simp [Instr.buildSlice, run_underlying Tryd.underlying22, sizeOf, typeInfo, hi, hs, zeroValue, hz, newRow, Instr.fill, Value.cells, show Array.range 0 = #[] from rfl]
theorem Owf.made (w : World) {B : Nat} (hB : B ≤ w.heap.size) : Owf B (w.alloc (.cells #[] 26)) (.slice (some ⟨w.heap.size, 0, none⟩) 0 0) [] :=
  ⟨World.ownsRow_made w #[] 0 hB (Nat.zero_le _) rfl, fun f hf => by cases hf⟩
set_option maxHeartbeats 4000000 in
set_option maxRecDepth 100000 in
theorem fparts_walk (v : Value) (L : List F) (a : Int) (AMX : a ≤ 9223372036854775807) (w : World) (h : Fts w v L) (hl : L.length * 24 ≤ 140737488351232) (T : Tab w) : Calls Tryd.prog 8 #[v, .int .i64 a] w (lawPost w) := by
  have HLN := Lib.hid hl
  have HTB := Lib.hid T
  have HF := Lib.hid h.fits
  have HO := Lib.hid h
  obtain ⟨A, cc, hv⟩ := h.form
  obtain ⟨n, hn⟩ : ∃ n, L.length = n := ⟨_, rfl⟩
  have EN := Lib.hid hn
  rw [hn] at hv
  subst hv
  clear h hl hn T
  have VV := Lib.hid fun w h => rvl_any (.slice A n cc) L w h
  have EV : ∃ q, vld L = q := ⟨_, rfl⟩
  obtain ⟨q, hq⟩ := EV
  have EQ := Lib.hid hq
  rw [hq] at VV
  clear hq
  go_enter Tryd.func8, Tryd.ntmps8
  go_wp2_with fail
  refine (awake13 _ HTB.out).mono ?_
  rintro e x1 ⟨rfl, hb2⟩
  have L_3 := Lib.hid (Fts.fw HO.out (hb2))
  have T_4 := Lib.hid (Tab.fw HTB.out (hb2))
  have hl5 := hb2
  have HT_6 : Hid (Below w.heap.size w x1) := Lib.hid (hl5)
  clear hb2 
  go_wp2_with fail
  refine (VV.out _ L_3.out).mono ?_
  rintro e x7 ⟨rfl, hb8⟩
  have L_9 := Lib.hid (Fts.fw L_3.out (hb8))
  have T_10 := Lib.hid (Tab.fw T_4.out (hb8))
  have hl11 := hb8
  have HT_12 : Hid (Below w.heap.size w x7) := Lib.hid (HT_6.out.trans ((hl11).mono HT_6.out.size))
  clear hb8 
  cases q with
  | false =>
    go_wp2_with fail
    refine (awake13 _ T_10.out).mono ?_
    rintro e x13 ⟨rfl, hb14⟩
    have L_15 := Lib.hid (Fts.fw L_9.out (hb14))
    have T_16 := Lib.hid (Tab.fw T_10.out (hb14))
    have hl17 := hb14
    have HT_18 : Hid (Below w.heap.size w x13) := Lib.hid (HT_12.out.trans ((hl17).mono HT_12.out.size))
    clear hb14 
    go_wp2_with fail
    go_ret
    exact ⟨rfl, HT_18.out⟩
  | true =>
    by_cases a0 : a < 0
    · have d0 : decide (a < 0) = true := decide_eq_true a0
      go_wp2_with fail
      refine (awake13 _ T_10.out).mono ?_
      rintro e x13 ⟨rfl, hb14⟩
      have L_15 := Lib.hid (Fts.fw L_9.out (hb14))
      have T_16 := Lib.hid (Tab.fw T_10.out (hb14))
      have hl17 := hb14
      have HT_18 : Hid (Below w.heap.size w x13) := Lib.hid (HT_12.out.trans ((hl17).mono HT_12.out.size))
      clear hb14 
      go_wp2_with fail
      go_ret
      exact ⟨rfl, HT_18.out⟩
    · have d0 : decide (a < 0) = false := decide_eq_false a0
      by_cases am : a = 9223372036854775807
      · have d1 : (a == 9223372036854775807) = true := by simp [am]
        clear am
        go_wp2_with fail
        refine (awake13 _ T_10.out).mono ?_
        rintro e x13 ⟨rfl, hb14⟩
        have L_15 := Lib.hid (Fts.fw L_9.out (hb14))
        have T_16 := Lib.hid (Tab.fw T_10.out (hb14))
        have hl17 := hb14
        have HT_18 : Hid (Below w.heap.size w x13) := Lib.hid (HT_12.out.trans ((hl17).mono HT_12.out.size))
        clear hb14 
        go_wp2_with fail
        go_ret
        exact ⟨rfl, HT_18.out⟩
      · have d1 : (a == 9223372036854775807) = false := by simp [am]
        have AA := Lib.hid (And.intro a0 am)
        clear a0 am
        go_wp2_with fail
        refine (pwi_any _ _ 0 a _ L_9.out HLN.out).mono ?_
        rintro e x13 ⟨v1, rfl, hn15, hb14⟩
        have L_16 := Lib.hid (Fts.fw L_9.out (hb14))
        have T_17 := Lib.hid (Tab.fw T_10.out (hb14))
        have hl18 := hb14
        have HT_19 : Hid (Below w.heap.size w x13) := Lib.hid (HT_12.out.trans ((hl18).mono HT_12.out.size))
        have P_20 := Lib.hid (hn15)
        clear hb14 hn15
        obtain ⟨A1, c1, rfl⟩ := P_20.out.form
        obtain ⟨LA, hLA⟩ : ∃ l, wit 0 a L = l := ⟨_, rfl⟩
        have EA := Lib.hid hLA
        rw [hLA] at P_20 ⊢
        clear hLA
        obtain ⟨N1, hN1⟩ : ∃ l, LA.length = l := ⟨_, rfl⟩
        have EN1 := Lib.hid hN1
        rw [hN1] at P_20 ⊢
        clear hN1
        go_wp2_with fail
        refine (pwi_any _ _ a 9223372036854775807 _ L_16.out HLN.out).mono ?_
        rintro e x21 ⟨v2, rfl, hn23, hb22⟩
        have L_24 := Lib.hid (Fts.fw L_16.out (hb22))
        have T_25 := Lib.hid (Tab.fw T_17.out (hb22))
        have P_26 := Lib.hid (Owf.fw P_20.out (hb22))
        have hl27 := hb22
        have HT_28 : Hid (Below w.heap.size w x21) := Lib.hid (HT_19.out.trans ((hl27).mono HT_19.out.size))
        have R_29 := Lib.hid (hn23)
        clear hb22 hn23
        obtain ⟨A2, c2, rfl⟩ := R_29.out.form
        obtain ⟨LB, hLB⟩ : ∃ l, wit a 9223372036854775807 L = l := ⟨_, rfl⟩
        have EB := Lib.hid hLB
        rw [hLB] at R_29 ⊢
        clear hLB
        obtain ⟨N2, hN2⟩ : ∃ l, LB.length = l := ⟨_, rfl⟩
        have EN2 := Lib.hid hN2
        rw [hN2] at R_29 ⊢
        clear hN2
        by_cases n0 : n = 0
        · have d9 : decide ((0 : Int) < (n : Int)) = false := decide_eq_false (by omega)
          have i9 : ¬ (0 : Int) < (n : Int) := by omega
          have ALLIN : Hid (∀ f ∈ L, 0 ≤ f.pos ∧ f.pos < 9223372036854775807) := Lib.hid (by have := EN.out; rw [n0] at this; rw [List.length_eq_zero_iff.1 this]; intro f hf; cases hf)
          have AB := Lib.hid (show a ≤ 9223372036854775807 from AMX)
          clear n0
          go_wp2_with fail
          clear d9 i9
          have PARTS := Lib.hid ((show LA ++ LB = L from by rw [← EA.out, ← EB.out]; exact wit_parts L (-1) EQ.out ALLIN.out))
          have SUM := Lib.hid (show N1 + N2 = n from by rw [← EN1.out, ← EN2.out, ← EN.out, ← PARTS.out, List.length_append])
          have AT := Lib.hid fun w h => pat_any (.slice A n cc) L a w h
          obtain ⟨f, hf⟩ : ∃ f, fF (fnd a L) = f := ⟨_, rfl⟩
          obtain ⟨ok, hok⟩ : ∃ b, (fnd a L).isSome = b := ⟨_, rfl⟩
          have EOK := Lib.hid hok
          obtain ⟨x, y, z⟩ := f
          unfold atPost fV at AT
          rw [hf, hok] at AT
          clear hf hok
          refine (AT.out _ L_24.out).mono ?_
          rintro e x30 ⟨rfl, hb31⟩
          have L_32 := Lib.hid (Fts.fw L_24.out (hb31))
          have T_33 := Lib.hid (Tab.fw T_25.out (hb31))
          have P_34 := Lib.hid (Owf.fw P_26.out (hb31))
          have R_35 := Lib.hid (Owf.fw R_29.out (hb31))
          have hl36 := hb31
          have HT_37 : Hid (Below w.heap.size w x30) := Lib.hid (HT_28.out.trans ((hl36).mono HT_28.out.size))
          clear hb31 
          have AL1 := Lib.hid ((Below.refl x30.heap.size x30).alloc (Nat.le_refl _) (.cells #[.int .i64 x, .int .i64 y, .int .i64 z] 26))
          obtain ⟨y1, hy1⟩ : ∃ q, x30.alloc (.cells #[.int .i64 x, .int .i64 y, .int .i64 z] 26) = q := ⟨_, rfl⟩
          have HY1 := Lib.hid hy1
          rw [hy1] at AL1
          clear hy1
          have L_38 := Lib.hid (Fts.fw L_32.out (AL1.out))
          have T_39 := Lib.hid (Tab.fw T_33.out (AL1.out))
          have P_40 := Lib.hid (Owf.fw P_34.out (AL1.out))
          have R_41 := Lib.hid (Owf.fw R_35.out (AL1.out))
          have hl42 := AL1.out
          have HT_43 : Hid (Below w.heap.size w y1) := Lib.hid (HT_37.out.trans ((hl42).mono HT_37.out.size))
          have bf := run_build_f0
          have MK := Lib.hid (Owf.made y1 (Nat.le_refl _))
          have AL2 := Lib.hid ((Below.refl y1.heap.size y1).alloc (Nat.le_refl _) (.cells #[] 26))
          have P2 := Lib.hid (P_40.out.fw AL2.out)
          have R2 := Lib.hid (R_41.out.fw AL2.out)
          go_wp2_with (first | rw [HY1.out] | (at_builtin; refine wpList_plain rfl fun _ hK' => wp_cat_f (B := y1.heap.size) _ _ rfl y1.heap.size 0 0 N1 c1 A1 [] LA rfl MK.out rfl rfl P2.out.fts EN1.out (by have := SUM.out; have := HLN.out; have := EN.out; omega) AL2.out.size ?_; intro g3 cap3 y3 ho3 hb3; have O3 := Lib.hid (show Owf y1.heap.size y3 (.slice (some ⟨g3, 0, none⟩) N1 cap3) ([] ++ LA) from (by have h9 := ho3; rwa [Nat.zero_add] at h9)); have B3 := Lib.hid (AL2.out.trans hb3); clear ho3 hb3; have R3 := Lib.hid (R_41.out.fw B3.out); refine hK' _ _ ?_) | (at_builtin; refine wpList_plain rfl fun _ hK' => wp_cat_f (B := y1.heap.size) _ _ rfl g3 N1 cap3 N2 c2 A2 ([] ++ LA) LB rfl O3.out (by simp [EN1.out]) rfl R3.out.fts EN2.out (by have := SUM.out; have := HLN.out; have := EN.out; omega) B3.out.size ?_; intro g4 cap4 y4 ho4 hb4; have O4 := Lib.hid ho4; have B4 := Lib.hid (B3.out.trans hb4); clear ho4 hb4; refine hK' _ _ ?_))
          have L_44 := Lib.hid (Fts.fw L_38.out (B4.out))
          have T_45 := Lib.hid (Tab.fw T_39.out (B4.out))
          have P_46 := Lib.hid (Owf.fw P_40.out (B4.out))
          have R_47 := Lib.hid (Owf.fw R_41.out (B4.out))
          have hl48 := B4.out
          have HT_49 : Hid (Below w.heap.size w y4) := Lib.hid (HT_43.out.trans ((hl48).mono HT_43.out.size))
          refine (rsm_any _ _ _ _ _ O4.out.fts L_44.out).mono ?_
          rintro e x50 ⟨bb, rfl, hq51, hb52⟩
          have hbb : bb = true := hq51.2 (by rw [List.nil_append]; exact PARTS.out)
          subst hbb
          clear hq51
          have L_53 := Lib.hid (Fts.fw L_44.out (hb52))
          have T_54 := Lib.hid (Tab.fw T_45.out (hb52))
          have P_55 := Lib.hid (Owf.fw P_46.out (hb52))
          have R_56 := Lib.hid (Owf.fw R_47.out (hb52))
          have hl57 := hb52
          have HT_58 : Hid (Below w.heap.size w x50) := Lib.hid (HT_49.out.trans ((hl57).mono HT_49.out.size))
          clear hb52
          have WO := Lib.hid (wit_one (a := a) L (-1) EQ.out)
          rw [EOK.out] at WO
          clear bf
          have a1 : a + 1 ≤ 9223372036854775807 := by have := AA.out; have := AB.out; omega
          have a2 : 0 ≤ a := by have := AA.out; omega
          go_wp2_with fail
          refine (pwi_any _ _ a (a + 1) _ L_53.out HLN.out).mono ?_
          rintro e x59 ⟨v5, rfl, hn61, hb60⟩
          have L_62 := Lib.hid (Fts.fw L_53.out (hb60))
          have T_63 := Lib.hid (Tab.fw T_54.out (hb60))
          have P_64 := Lib.hid (Owf.fw P_55.out (hb60))
          have R_65 := Lib.hid (Owf.fw R_56.out (hb60))
          have hl66 := hb60
          have HT_67 : Hid (Below w.heap.size w x59) := Lib.hid (HT_58.out.trans ((hl66).mono HT_58.out.size))
          have W_68 := Lib.hid (hn61)
          clear hb60 hn61
          obtain ⟨A5, c5, rfl⟩ := W_68.out.form
          obtain ⟨N5, hN5⟩ : ∃ l, (wit a (a + 1) L).length = l := ⟨_, rfl⟩
          rw [hN5] at WO ⊢
          clear hN5
          cases ok with
          | false =>
            obtain rfl : N5 = 0 := by have := WO.out; simp at this; omega
            go_wp2_with fail
            go_ret
            exact ⟨rfl, HT_67.out⟩
          | true =>
            obtain rfl : N5 = 1 := by have := WO.out; simp at this; omega
            go_wp2_with fail
            go_ret
            exact ⟨rfl, HT_67.out⟩
        · obtain ⟨j, hjn⟩ : ∃ j, n = j + 1 := ⟨n - 1, by omega⟩
          have jlt : j < n := by omega
          obtain ⟨b, off, hj, rfl, hr⟩ := L_24.out.nth jlt
          have c0 := (fcs_at hr).1
          have LP : Hid (last (-1) L = L[j].pos) := Lib.hid (by have := last_take hj (-1); rwa [List.take_of_length_le (by have := EN.out; omega)] at this)
          have LG := Lib.hid (last_ge L (-1) EQ.out)
          have GT := Lib.hid (vldP_gt L (-1) EQ.out)
          have PF := Lib.hid (HF.out L[j] (List.getElem_mem hj)).1
          obtain ⟨p, hp⟩ : ∃ p, L[j].pos = p := ⟨_, rfl⟩
          rw [hp] at c0 LP PF
          have jn : (0 : Int) < (n : Int) := by omega
          have jj : (n : Int) - 1 = (j : Int) := by omega
          have n63 : n ≤ 9223372036854775807 := by have := HLN.out; have := EN.out; omega
          clear hp hr n0 hjn
          by_cases pm : p = 9223372036854775807
          · have d2 : (p == 9223372036854775807) = true := by simp [pm]
            clear pm
            go_wp2_with fail
            go_ret
            exact ⟨rfl, HT_28.out⟩
          · have d2 : (p == 9223372036854775807) = false := by simp [pm]
            have ALLIN : Hid (∀ f ∈ L, 0 ≤ f.pos ∧ f.pos < 9223372036854775807) := Lib.hid (fun f hf => by have h1 := LG.out.2 f hf; have h2 := GT.out f hf; rw [LP.out] at h1; have := PF.out; omega)
            have AB := Lib.hid (show a ≤ 9223372036854775807 from AMX)
            clear pm
            go_wp2_with fail
            clear c0 jn jj d2 n63 jlt
            have PARTS := Lib.hid ((show LA ++ LB = L from by rw [← EA.out, ← EB.out]; exact wit_parts L (-1) EQ.out ALLIN.out))
            have SUM := Lib.hid (show N1 + N2 = n from by rw [← EN1.out, ← EN2.out, ← EN.out, ← PARTS.out, List.length_append])
            have AT := Lib.hid fun w h => pat_any (.slice (some ⟨b, off, none⟩) n cc) L a w h
            obtain ⟨f, hf⟩ : ∃ f, fF (fnd a L) = f := ⟨_, rfl⟩
            obtain ⟨ok, hok⟩ : ∃ b, (fnd a L).isSome = b := ⟨_, rfl⟩
            have EOK := Lib.hid hok
            obtain ⟨x, y, z⟩ := f
            unfold atPost fV at AT
            rw [hf, hok] at AT
            clear hf hok
            refine (AT.out _ L_24.out).mono ?_
            rintro e x30 ⟨rfl, hb31⟩
            have L_32 := Lib.hid (Fts.fw L_24.out (hb31))
            have T_33 := Lib.hid (Tab.fw T_25.out (hb31))
            have P_34 := Lib.hid (Owf.fw P_26.out (hb31))
            have R_35 := Lib.hid (Owf.fw R_29.out (hb31))
            have hl36 := hb31
            have HT_37 : Hid (Below w.heap.size w x30) := Lib.hid (HT_28.out.trans ((hl36).mono HT_28.out.size))
            clear hb31 
            have AL1 := Lib.hid ((Below.refl x30.heap.size x30).alloc (Nat.le_refl _) (.cells #[.int .i64 x, .int .i64 y, .int .i64 z] 26))
            obtain ⟨y1, hy1⟩ : ∃ q, x30.alloc (.cells #[.int .i64 x, .int .i64 y, .int .i64 z] 26) = q := ⟨_, rfl⟩
            have HY1 := Lib.hid hy1
            rw [hy1] at AL1
            clear hy1
            have L_38 := Lib.hid (Fts.fw L_32.out (AL1.out))
            have T_39 := Lib.hid (Tab.fw T_33.out (AL1.out))
            have P_40 := Lib.hid (Owf.fw P_34.out (AL1.out))
            have R_41 := Lib.hid (Owf.fw R_35.out (AL1.out))
            have hl42 := AL1.out
            have HT_43 : Hid (Below w.heap.size w y1) := Lib.hid (HT_37.out.trans ((hl42).mono HT_37.out.size))
            have bf := run_build_f0
            have MK := Lib.hid (Owf.made y1 (Nat.le_refl _))
            have AL2 := Lib.hid ((Below.refl y1.heap.size y1).alloc (Nat.le_refl _) (.cells #[] 26))
            have P2 := Lib.hid (P_40.out.fw AL2.out)
            have R2 := Lib.hid (R_41.out.fw AL2.out)
            go_wp2_with (first | rw [HY1.out] | (at_builtin; refine wpList_plain rfl fun _ hK' => wp_cat_f (B := y1.heap.size) _ _ rfl y1.heap.size 0 0 N1 c1 A1 [] LA rfl MK.out rfl rfl P2.out.fts EN1.out (by have := SUM.out; have := HLN.out; have := EN.out; omega) AL2.out.size ?_; intro g3 cap3 y3 ho3 hb3; have O3 := Lib.hid (show Owf y1.heap.size y3 (.slice (some ⟨g3, 0, none⟩) N1 cap3) ([] ++ LA) from (by have h9 := ho3; rwa [Nat.zero_add] at h9)); have B3 := Lib.hid (AL2.out.trans hb3); clear ho3 hb3; have R3 := Lib.hid (R_41.out.fw B3.out); refine hK' _ _ ?_) | (at_builtin; refine wpList_plain rfl fun _ hK' => wp_cat_f (B := y1.heap.size) _ _ rfl g3 N1 cap3 N2 c2 A2 ([] ++ LA) LB rfl O3.out (by simp [EN1.out]) rfl R3.out.fts EN2.out (by have := SUM.out; have := HLN.out; have := EN.out; omega) B3.out.size ?_; intro g4 cap4 y4 ho4 hb4; have O4 := Lib.hid ho4; have B4 := Lib.hid (B3.out.trans hb4); clear ho4 hb4; refine hK' _ _ ?_))
            have L_44 := Lib.hid (Fts.fw L_38.out (B4.out))
            have T_45 := Lib.hid (Tab.fw T_39.out (B4.out))
            have P_46 := Lib.hid (Owf.fw P_40.out (B4.out))
            have R_47 := Lib.hid (Owf.fw R_41.out (B4.out))
            have hl48 := B4.out
            have HT_49 : Hid (Below w.heap.size w y4) := Lib.hid (HT_43.out.trans ((hl48).mono HT_43.out.size))
            refine (rsm_any _ _ _ _ _ O4.out.fts L_44.out).mono ?_
            rintro e x50 ⟨bb, rfl, hq51, hb52⟩
            have hbb : bb = true := hq51.2 (by rw [List.nil_append]; exact PARTS.out)
            subst hbb
            clear hq51
            have L_53 := Lib.hid (Fts.fw L_44.out (hb52))
            have T_54 := Lib.hid (Tab.fw T_45.out (hb52))
            have P_55 := Lib.hid (Owf.fw P_46.out (hb52))
            have R_56 := Lib.hid (Owf.fw R_47.out (hb52))
            have hl57 := hb52
            have HT_58 : Hid (Below w.heap.size w x50) := Lib.hid (HT_49.out.trans ((hl57).mono HT_49.out.size))
            clear hb52
            have WO := Lib.hid (wit_one (a := a) L (-1) EQ.out)
            rw [EOK.out] at WO
            clear bf
            have a1 : a + 1 ≤ 9223372036854775807 := by have := AA.out; have := AB.out; omega
            have a2 : 0 ≤ a := by have := AA.out; omega
            go_wp2_with fail
            refine (pwi_any _ _ a (a + 1) _ L_53.out HLN.out).mono ?_
            rintro e x59 ⟨v5, rfl, hn61, hb60⟩
            have L_62 := Lib.hid (Fts.fw L_53.out (hb60))
            have T_63 := Lib.hid (Tab.fw T_54.out (hb60))
            have P_64 := Lib.hid (Owf.fw P_55.out (hb60))
            have R_65 := Lib.hid (Owf.fw R_56.out (hb60))
            have hl66 := hb60
            have HT_67 : Hid (Below w.heap.size w x59) := Lib.hid (HT_58.out.trans ((hl66).mono HT_58.out.size))
            have W_68 := Lib.hid (hn61)
            clear hb60 hn61
            obtain ⟨A5, c5, rfl⟩ := W_68.out.form
            obtain ⟨N5, hN5⟩ : ∃ l, (wit a (a + 1) L).length = l := ⟨_, rfl⟩
            rw [hN5] at WO ⊢
            clear hN5
            cases ok with
            | false =>
              obtain rfl : N5 = 0 := by have := WO.out; simp at this; omega
              go_wp2_with fail
              go_ret
              exact ⟨rfl, HT_67.out⟩
            | true =>
              obtain rfl : N5 = 1 := by have := WO.out; simp at this; omega
              go_wp2_with fail
              go_ret
              exact ⟨rfl, HT_67.out⟩
end Go.Proofs.YtffdmpicjhaniaaDoor
