/- Layer 14: the reference's New; two disks in one world (zones, footprints). WRITTEN BY gen_Dkg.py. -/
import Derived.Test.YtdjjihppaobbcaaDkf
namespace Go.Proofs.Ytdjjihppaobbcaa
open Go Go.RowKit Med Flt
set_option linter.unusedVariables false
set_option linter.unusedSimpArgs false
section
variable {A B : Zn} {L : List F} {w w' : World} {D P R Bn T S O : Nat} {d : Dsk.Dk}
theorem RDk.zone (h : RDk A w D P R Bn T S O L d) (hA : ∀ k, A.fr k → B.fr k) : RDk B w D P R Bn T S O L d := by
  obtain ⟨⟨K, v, a, b, c⟩, e⟩ := h; exact ⟨⟨K, v, a, b.low hA, c⟩, hA _ e⟩
/-- The blocks that the disk itself may change. -/
theorem RDk.foot (h : RDk B w D P R Bn T S O L d) (hP : Ty w P 118) : ∃ A : Zn, (∀ k, A.fr k → B.fr k ∧ k < w.heap.size ∧ k ≠ P) ∧ RDk A w D P R Bn T S O L d := by
  obtain ⟨⟨K, v, a, ⟨M, X, x, u, b⟩, c⟩, e⟩ := h
  refine ⟨⟨fun k => k = D ∨ k = K ∨ k = X⟩, ?_, ⟨K, v, a, ⟨M, X, x, u, ⟨b.row, b.md, b.ol, Or.inr (Or.inl rfl), Or.inr (Or.inr rfl)⟩⟩, c⟩, Or.inl rfl⟩
  rintro k (rfl | rfl | rfl)
  · exact ⟨e, (Row.ty a).lt, (Row.ty a).ne hP (by decide)⟩
  · exact ⟨b.low.1, (Row.ty b.row).lt, (Row.ty b.row).ne hP (by decide)⟩
  · exact ⟨b.low.2, b.md.sx.ty.lt, b.md.sx.ty.ne hP (by decide)⟩
/-- What another disk does leaves it. -/
theorem RDk.frame (h : RDk A w D P R Bn T S O L d) (hc : Tch B tyQ w w') (hA : ∀ k, A.fr k → ¬ B.fr k) : RDk A w' D P R Bn T S O L d := by
  obtain ⟨⟨K, v, a, ⟨M, X, x, u, b⟩, c⟩, e⟩ := h
  refine ⟨⟨K, v, (hc.low (Row.lt a) (hA _ e)).trans a, ⟨M, X, x, u, ⟨(hc.low b.row.lt (hA _ b.low.1)).trans b.row, ⟨b.md.v, b.md.len, b.md.row.tch hc (by decide), b.md.sx.block (hc.low b.md.sx.ty.lt (hA _ b.low.2)), b.md.ne, b.md.sh⟩, b.ol.tch hc (by decide) (by decide), b.low⟩⟩, c.tch hc (by decide)⟩, e⟩
end
theorem geo_cells14 {w : World} {g : Nat} {t : TypeId} {a b c d e : Value} (h : Row w g t #[a, b, c, d, e]) : w.cell? ⟨g, 0, none⟩ = some a ∧ w.cell? ⟨g, 1, none⟩ = some b ∧ w.cell? ⟨g, 2, none⟩ = some c ∧ w.cell? ⟨g, 3, none⟩ = some d ∧ w.cell? ⟨g, 4, none⟩ = some e := by
  refine ⟨?_, ?_, ?_, ?_, ?_⟩ <;> (rw [h.cell]; rfl)
theorem geo_rg14 {w : World} {g : Nat} {t : TypeId} {a b c d e : Value} (h : Row w g t #[a, b, c, d, e]) : w.rangeAt g 0 [a, b, c, d, e] := by
  intro j v hv
  rw [Nat.zero_add, h.cell]
  simpa using hv
theorem append_nothing14 {P : Program} {t e : TypeId} {w : World} {o : Oper} {a : Act} {K : Act → World → Prop} {Q : Exit → Act → World → Prop} (s x : Operand) (i : TypeInfo) (ht : P.underlying t = some (.slice e)) (hi : P.info? e = some i)
    (ho : o.op = .call { callee := .builtin .append, args := #[s, x], argTypes := #[t, t] })
    (ad : Addr) (n cap : Nat) (A : Option Addr) (c : Nat) (hs : a.eval s = .slice (some ad) n cap) (hx : a.eval x = .slice A 0 c) (hc : n ≤ cap) (h : K (a.put o.dst (.slice (some ad) n cap)) w) : o.wp P a w K Q := by
  have h0 : ∀ b : Addr, (loadCells b 0).run P w = .ok #[] w := fun b => by simp [loadCells, loadCellsFrom]
  have hr : (Builtin.append_ #[t, t] o.type #[.slice (some ad) n cap, .slice A 0 c]).run P w = .ok (.slice (some ad) n cap) w := by
    cases A with
    | none => simp [Builtin.append_, run_underlying ht, sizeOf, typeInfo, hi, Builtin.lenOf, Builtin.firstCells, hc, storeCells]
    | some b => simp [Builtin.append_, run_underlying ht, sizeOf, typeInfo, hi, Builtin.lenOf, Builtin.firstCells, hc, storeCells, h0]
  unfold Oper.wp execOp
  simp only [ho, resolve, invoke, builtin, Sem.run_bind, Sem.run_pure, Result.andThen_ok, List.map_toArray, List.map_cons, List.map_nil, hs, hx, hr]
  exact h
/-- 'append(s, x...)' to an empty list of faults: only the list's block may grow. -/
theorem wp_cat_d {B : Nat} {w : World} {o : Oper} {a : Act} {Kt : Act → World → Prop} {Qx : Exit → Act → World → Prop} (s x : Operand)
    (ho : o.op = .call { callee := .builtin .append, args := #[s, x], argTypes := #[24, 24] })
    (g cap m c : Nat) (A : Option Addr) (M : List F) (hs : a.eval s = .slice (some ⟨g, 0, none⟩) 0 cap) (hown : Owf B w (.slice (some ⟨g, 0, none⟩) 0 cap) []) (hx : a.eval x = .slice A m c) (hM : Fts w (.slice A m c) M) (hm : M.length = m)
    (hlen : m * 24 ≤ 140737488355328) (hbase : B ≤ w.heap.size)
    (h : ∀ g' cap' w', Owf B w' (.slice (some ⟨g', 0, none⟩) m cap') M → Chg (fun k => k = g) w w' → Kt (a.put o.dst (.slice (some ⟨g', 0, none⟩) m cap')) w') : o.wp Try.prog a w Kt Qx := by
  subst hm
  obtain ⟨i, hi, hz, hsz, hby⟩ := parts13 info_ft
  by_cases h0 : M.length = 0
  · obtain rfl : M = [] := List.length_eq_zero_iff.1 h0
    exact append_nothing14 s x i Try.underlying24 hi ho ⟨g, 0, none⟩ 0 cap A c hs hx (Nat.zero_le _) (h g cap w hown (Chg.refl _ _))
  · have hfm := hM.fits
    obtain ⟨A', c', e, _, _, hc⟩ := hM
    obtain ⟨b, off, hA, hcell⟩ := hc (by omega)
    injection e with e1 e2 e3
    subst e1 e3 hA
    refine wp_append_lies w s x _ ho B _ i _ 3 24 Try.underlying24 hi hz hsz hby rfl (by decide) _ 0 [] hs hown.1 ⟨b, off, none⟩ M.length c (M.flatMap fcs) hx (flat_len M) (fun j u' hj => ?_) (fun u' hu' => ?_) (by omega) (by unfold maxLen; omega) (by omega) hbase _ rfl fun g2 cap2 w' hown' hgrow hat _ => ?_
    · rw [Go.WideShapes.add_plain]
      have hj2 : j < M.length * 3 := by have := (List.getElem?_eq_some_iff.1 hj).1; rw [flat_len] at this; exact this
      have hk : j / 3 < M.length := by omega
      have e := flat_at M (j / 3) hk (j % 3) (by omega)
      rw [show j / 3 * 3 + j % 3 = j by omega, hj] at e
      have := hcell (j / 3) hk (j % 3) u' e.symm
      rw [show off + j / 3 * 3 + j % 3 = off + j by omega] at this
      exact this
    · obtain ⟨f, _, hu⟩ := List.mem_flatMap.1 hu'
      simp only [fcs, List.mem_cons, List.not_mem_nil, or_false] at hu
      rcases hu with rfl | rfl | rfl <;> rfl
    · have hown2 := hown'
      rw [Nat.zero_add, List.nil_append] at hown2
      have q := h g2 cap2 w' ⟨hown2, hfm⟩ (grown_chg hgrow)
      rw [Nat.zero_add]
      exact q
theorem run_build_d0 (w : World) : (Instr.buildSlice 24 0 #[]).run Try.prog w = .ok (.slice (some ⟨w.heap.size, 0, none⟩) 0 0) (w.alloc (.cells #[] 80)) := by
  obtain ⟨i, hi, hz, hs, hb⟩ := parts13 info_ft
  simp [Instr.buildSlice, run_underlying Try.underlying24, sizeOf, typeInfo, hi, hs, zeroValue, hz, newRow, Instr.fill, Value.cells, show Array.range 0 = #[] from rfl]
theorem Owf.made14 (w : World) {B : Nat} (hB : B ≤ w.heap.size) : Owf B (w.alloc (.cells #[] 80)) (.slice (some ⟨w.heap.size, 0, none⟩) 0 0) [] :=
  ⟨World.ownsRow_made w #[] 0 hB (Nat.zero_le _) rfl, fun f hf => by cases hf⟩
/-- A new disk of the reference. -/
def rdNew (P R Bn T S O : Nat) (L : List F) (p : Dsk.Pw) (w : World) (e : Ending) (w' : World) : Prop :=
  ∃ D, e = .returned (.tuple #[.pointer (some ⟨D, 0, none⟩), .int .i64 0]) ∧ RDk (w.heap.size : Zn) w' D P R Bn T S O L (Dsk.Dk.new (List.replicate (R + Bn * (T * S)) Med.blank) p) ∧ Below w.heap.size w w'
set_option maxHeartbeats 4000000 in
set_option maxRecDepth 100000 in
theorem rnew14_any {w : World} {P R Bn T S O : Nat} {L : List F} {v : Value} {p : Dsk.Pw} (hg : Geo.GV (R : Int) Bn T S O) (hL : Fts w v L) (hv : vld L = true) (hl : L.length * 24 ≤ 140737488355328) (hp : RPw w P p) :
    Calls Try.prog 46 #[.agg #[.int .i64 (R : Int), .int .i64 (Bn : Int), .int .i64 (T : Int), .int .i64 (S : Int), .int .i64 (O : Int)], v, .pointer (some ⟨P, 0, none⟩)] w (rdNew P R Bn T S O L p w) := by
  obtain ⟨A1, c1, rfl⟩ := hL.form
  obtain ⟨N, hN⟩ : ∃ n, L.length = n := ⟨_, rfl⟩
  have EN := Lib.hid hN
  rw [hN] at hL hl ⊢
  have HV := Lib.hid hg
  have VL := Lib.hid hv
  have L0 := Lib.hid hL
  have P0 := Lib.hid hp
  have HLN := Lib.hid hl
  clear hg hL hv hl hp hN
  obtain ⟨B0, hB0⟩ : ∃ B, w.heap.size = B := ⟨_, rfl⟩
  obtain ⟨W0, hW0⟩ : ∃ W, w.alloc (.cells #[.int .i64 (R : Int), .int .i64 (Bn : Int), .int .i64 (T : Int), .int .i64 (S : Int), .int .i64 (O : Int)] 23) = W := ⟨_, rfl⟩
  have T0 : Hid (Below w.heap.size w W0) := Lib.hid (by subst hW0; exact (Below.refl _ _).alloc (Nat.le_refl _) _)
  have G0 : Hid (Row W0 B0 23 #[.int .i64 (R : Int), .int .i64 (Bn : Int), .int .i64 (T : Int), .int .i64 (S : Int), .int .i64 (O : Int)]) := Lib.hid (by subst hW0; exact gr_new w _ _ hB0)
  have HB0 := Lib.hid hB0
  have HW0 := Lib.hid hW0
  have L1 := Lib.hid (L0.out.fw T0.out)
  have P1 := Lib.hid (P0.out.fw T0.out)
  clear hB0 hW0
  go_enter Try.func46, Try.ntmps46
  obtain ⟨c0, c1_, c2, c3, c4⟩ := geo_cells14 G0.out
  go_wp2_with (first | rw [HB0.out] | rw [HW0.out])
  clear c0 c1_ c2 c3 c4
  refine (rnew_ok R Bn T S O _ HV.out).mono ?_
  rintro e x1 ⟨M, X, rfl, hn3, hx1, hb2⟩
  have G_4 := Lib.hid (Row.go G0.out (hb2))
  have F_5 := Lib.hid (Fts.fw L1.out (hb2))
  have P_6 := Lib.hid (RPw.fw P1.out (hb2))
  have hl7 := hb2
  have HT_8 : Hid (Below w.heap.size w x1) := Lib.hid (T0.out.trans ((hl7).mono T0.out.size))
  have m_9 := Lib.hid (hn3)
  clear hb2 hn3
  clear hx1
  obtain ⟨c0, c1_, c2, c3, c4⟩ := geo_cells14 G_4.out
  go_wp2_with fail
  clear c0 c1_ c2 c3 c4
  refine (rvl_any _ L _ F_5.out).mono ?_
  rintro e x10 ⟨rfl, hb⟩
  have G_11 := Lib.hid (Row.go G_4.out (hb))
  have F_12 := Lib.hid (Fts.fw F_5.out (hb))
  have P_13 := Lib.hid (RPw.fw P_6.out (hb))
  have M_14 := Lib.hid (Md.fw m_9.out (hb))
  have hl15 := hb
  have HT_16 : Hid (Below w.heap.size w x10) := Lib.hid (HT_8.out.trans ((hl15).mono HT_8.out.size))
  clear hb
  rw [VL.out]
  go_wp2_with fail
  obtain ⟨fl, hfl⟩ : ∃ n, p.fails = n := ⟨_, rfl⟩
  have FE := Lib.hid hfl
  clear hfl
  refine wp_region_held (P := Try.prog) (S := (fun w' : World => Below x10.heap.size x10 w')) rfl ?_
  change wpAnyH _ _ _ _ _ _ _ _ x10.drew
  have hz18 : Below x10.heap.size x10 x10.drew := (Below.refl x10.heap.size x10).drew
  generalize x10.drew = wz17 at hz18 ⊢
  have G_19 := Lib.hid (Row.go G_11.out (hz18))
  have F_20 := Lib.hid (Fts.fw F_12.out (hz18))
  have P_21 := Lib.hid (RPw.fw P_13.out (hz18))
  have M_22 := Lib.hid (Md.fw M_14.out (hz18))
  have hl23 := hz18
  have HT_24 : Hid (Below w.heap.size w wz17) := Lib.hid (HT_16.out.trans ((hl23).mono HT_16.out.size))
  refine wpAnyH_up (S' := (fun w' : World => Below wz17.heap.size wz17 w')) (fun w' h => hz18.trans (h.mono hz18.size)) ?_
  have hS25 : (fun w' : World => Below wz17.heap.size wz17 w') wz17 := Below.refl _ _
  refine takeD (i := 0) (v := .agg #[.int .i64 (R : Int), .int .i64 (Bn : Int), .int .i64 (T : Int), .int .i64 (S : Int), .int .i64 (O : Int)]) (some 26) rfl rfl (by kernel_rfl) (by kernel_rfl) (by kernel_rfl) (fun _ _ _ h => h) (yieldsIf_load_mid (by rfl) _ _ rfl B0 0 rfl [.int .i64 (R : Int), .int .i64 (Bn : Int), .int .i64 (T : Int), .int .i64 (S : Int), .int .i64 (O : Int)] _ (fun w' h => geo_rg14 (Row.go G_19.out h)) Try.underlying23 rfl (by kernel_rfl)) hS25 ?_
  simp only [Act.put, List.setIfInBounds_toArray, List.set_cons_zero, List.set_cons_succ]
  refine takeD (i := 1) (v := .pointer (some ⟨M, 0, none⟩)) (some 27) rfl rfl (by kernel_rfl) (by kernel_rfl) (by kernel_rfl) (fun _ _ _ h => h) (Or.inl ⟨by rfl, by rintro w' -; go_simp⟩) hS25 ?_
  simp only [Act.put, List.setIfInBounds_toArray, List.set_cons_zero, List.set_cons_succ]
  refine takeD (i := 4) (v := .slice A1 N c1) (some 30) rfl rfl (by kernel_rfl) (by kernel_rfl) (by kernel_rfl) (fun _ _ _ h => h) (Or.inl ⟨by rfl, by rintro w' -; go_simp⟩) hS25 ?_
  simp only [Act.put, List.setIfInBounds_toArray, List.set_cons_zero, List.set_cons_succ]
  refine takeD (i := 6) (v := .pointer (some ⟨P, 0, none⟩)) (some 32) rfl rfl (by kernel_rfl) (by kernel_rfl) (by kernel_rfl) (fun _ _ _ h => h) (Or.inl ⟨by rfl, by rintro w' -; go_simp⟩) hS25 ?_
  simp only [Act.put, List.setIfInBounds_toArray, List.set_cons_zero, List.set_cons_succ]
  refine takeD (i := 7) (v := .pointer (some ⟨P, 0, none⟩)) (some 33) rfl rfl (by kernel_rfl) (by kernel_rfl) (by kernel_rfl) (fun _ _ _ h => h) (Or.inl ⟨by rfl, by rintro w' -; go_simp⟩) hS25 ?_
  simp only [Act.put, List.setIfInBounds_toArray, List.set_cons_zero, List.set_cons_succ]
  refine takeD (i := 8) (v := .pointer (some ⟨P, 0, none⟩)) (some 34) rfl rfl (by kernel_rfl) (by kernel_rfl) (by kernel_rfl) (fun _ _ _ h => h) (Or.inl ⟨by rfl, by rintro w' -; go_simp⟩) hS25 ?_
  simp only [Act.put, List.setIfInBounds_toArray, List.set_cons_zero, List.set_cons_succ]
  refine takeD (i := 9) (v := .pointer (some ⟨P, 3, none⟩)) (some 35) rfl rfl (by kernel_rfl) (by kernel_rfl) (by kernel_rfl) (fun _ _ _ h => h) (Or.inl ⟨by rfl, by rintro w' -; go_simp⟩) hS25 ?_
  simp only [Act.put, List.setIfInBounds_toArray, List.set_cons_zero, List.set_cons_succ]
  refine takeD (i := 10) (v := .int .i64 (fl : Int)) (some 36) rfl rfl (by kernel_rfl) (by kernel_rfl) (by kernel_rfl) (fun _ _ _ h => h) (Or.inl ⟨by rfl, by rintro w' h; have hc := (RPw.fw P_21.out h).cells.2.2.2; rw [FE.out] at hc; go_simp⟩) hS25 ?_
  simp only [Act.put, List.setIfInBounds_toArray, List.set_cons_zero, List.set_cons_succ]
  refine wpAnyH_ready (rs := [2, 3]) (by kernel_rfl) (by simp) ?_
  refine AllReadyH.cons rfl (fun KK hK => ?_) (AllReadyH.cons rfl (fun KK hK => ?_) AllReadyH.nil)
  · have HK26 := Lib.hid hK
    clear hK
    rw [if_pos (by rfl)]
    go_simp
    refine (rcn_any M_22.out).mono ?_
    rintro e x27 ⟨K, rfl, hre, hb⟩
    have NK := Lib.hid HT_24.out.size
    have HRE := Lib.hid (hre.low (B := (w.heap.size : Zn)) fun k hk => Nat.le_trans NK.out hk)
    have G_28 := Lib.hid (Row.go G_19.out (hb))
    have F_29 := Lib.hid (Fts.fw F_20.out (hb))
    have P_30 := Lib.hid (RPw.fw P_21.out (hb))
    have M_31 := Lib.hid (Md.fw M_22.out (hb))
    have hl32 := hb
    have HT_33 : Hid (Below w.heap.size w x27) := Lib.hid (HT_24.out.trans ((hl32).mono HT_24.out.size))
    clear hb hre
    have hb35 : Below wz17.heap.size wz17 x27 := hl32
    have hS34 : (fun w' : World => Below wz17.heap.size wz17 w') x27 := hb35
    refine HK26.out _ _ hS34 fun _ => ?_
    try simp only [Act.put, List.setIfInBounds_toArray, List.set_cons_zero, List.set_cons_succ]
    refine wpAnyH_up (S' := (fun w' : World => Below x27.heap.size x27 w')) (fun w' h => hb35.trans (h.mono hb35.size)) ?_
    have hS36 : (fun w' : World => Below x27.heap.size x27 w') x27 := Below.refl _ _
    refine wpAnyH_ready (rs := [3]) (by kernel_rfl) (by simp) ?_
    refine AllReadyH.cons rfl (fun K37 hK37 => ?_) AllReadyH.nil
    have HK37 := Lib.hid hK37
    clear hK37
    rw [if_pos (by rfl)]
    refine wp_build_e Try.underlying24 info_ft rfl ?_
    have hq39 : Below x27.heap.size x27 (x27.alloc (.cells #[] 80)) := (Below.refl _ _).alloc (Nat.le_refl _) _
    have hh40 := gr_new x27 #[] 80 rfl
    have ho41 := Owf.made14 x27 (B := w.heap.size) HT_33.out.size
    generalize x27.alloc (.cells #[] 80) = x38 at hq39 hh40 ho41 ⊢
    obtain ⟨b0, hb0⟩ : ∃ b, x27.heap.size = b := ⟨_, rfl⟩
    have GB0 := Lib.hid (show w.heap.size ≤ b0 from by rw [← hb0]; exact HT_33.out.size)
    rw [hb0] at hh40 ho41 ⊢
    have QB := Lib.hid hb0
    have G_42 := Lib.hid (Row.go G_28.out (hq39))
    have F_43 := Lib.hid (Fts.fw F_29.out (hq39))
    have P_44 := Lib.hid (RPw.fw P_30.out (hq39))
    have M_45 := Lib.hid (Md.fw M_31.out (hq39))
    have C_46 := Lib.hid (Re.fw HRE.out (hq39))
    have hl47 := hq39
    have HT_48 : Hid (Below w.heap.size w x38) := Lib.hid (HT_33.out.trans ((hl47).mono HT_33.out.size))
    have RB := Lib.hid hh40
    have OB := Lib.hid ho41
    clear hh40 ho41 hq39 hb0
    have hb50 : Below x27.heap.size x27 x38 := hl47
    have hS49 : (fun w' : World => Below x27.heap.size x27 w') x38 := hb50
    refine HK37.out _ _ hS49 fun _ => ?_
    try simp only [Act.put, List.setIfInBounds_toArray, List.set_cons_zero, List.set_cons_succ]
    refine wpAnyH_up (S' := (fun w' : World => Chg (fun j => j = b0) x38 w')) (fun w' h => hb50.trans (h.below hb50.size (fun j hj => Nat.le_of_eq (by rw [hj]; exact QB.out)))) ?_
    have hS51 : (fun w' : World => Chg (fun j => j = b0) x38 w') x38 := Chg.refl _ _
    refine wpAnyH_ready (rs := [5]) (by kernel_rfl) (by simp) ?_
    refine AllReadyH.cons rfl (fun K52 hK52 => ?_) AllReadyH.nil
    have HK52 := Lib.hid hK52
    clear hK52
    rw [if_pos (by rfl)]
    refine wp_cat_d (B := w.heap.size) _ _ rfl b0 0 N c1 A1 L rfl OB.out rfl F_43.out EN.out HLN.out HT_48.out.size ?_
    intro g1 cap1 x53 ho hc
    have tc : Tch ⟨fun _ => True⟩ [80] x38 x53 := Tch.of_one hc trivial (Row.ty RB.out) (by simp)
    have HG2 := Lib.hid (Row.tch tc G_42.out (by decide))
    have HP2 := Lib.hid (RPw.tch P_44.out tc (by decide))
    have HC2 := Lib.hid (C_46.out.tq tc (by decide) (by decide) (by decide) (by decide) (by decide))
    have HO2 := Lib.hid ho
    have HT_54 : Hid (Below w.heap.size w x53) := Lib.hid (HT_48.out.trans (hc.below HT_48.out.size (fun j hj => by rw [hj]; exact GB0.out)))
    clear tc ho
    have hb56 : Chg (fun j => j = b0) x38 x53 := hc
    have hS55 : (fun w' : World => Chg (fun j => j = b0) x38 w') x53 := hb56
    refine HK52.out _ _ hS55 fun _ => ?_
    try simp only [Act.put, List.setIfInBounds_toArray, List.set_cons_zero, List.set_cons_succ]
    refine wpAnyH_up (S' := (fun w' : World => Below x53.heap.size x53 w')) (fun w' h => hb56.trans (below_chg h (fun j => j = b0))) ?_
    have hS57 : (fun w' : World => Below x53.heap.size x53 w') x53 := Below.refl _ _
    refine takeD (i := 11) (v := .agg #[.int .i64 (R : Int), .int .i64 (Bn : Int), .int .i64 (T : Int), .int .i64 (S : Int), .int .i64 (O : Int), .pointer (some ⟨K, 0, none⟩), .slice (some ⟨g1, 0, none⟩) N cap1, .pointer (some ⟨P, 0, none⟩), .int .u64 0, .bool false, .int .i64 (fl : Int), .int .i64 0, .int .i64 0, .int .i64 0, .int .i64 0, .int .i64 0]) (some 37) rfl rfl (by kernel_rfl) (by kernel_rfl) (by kernel_rfl) (fun _ _ _ h => h) (Or.inl ⟨by rfl, by rintro w' -; go_simp⟩) hS57 ?_
    simp only [Act.put, List.setIfInBounds_toArray, List.set_cons_zero, List.set_cons_succ]
    refine wpAnyH_ready (rs := [12]) (by kernel_rfl) (by simp) ?_
    refine AllReadyH.cons rfl (fun K58 hK58 => ?_) AllReadyH.nil
    have HK58 := Lib.hid hK58
    clear hK58
    rw [if_pos (by rfl)]
    go_simp
    obtain ⟨N1, hN1⟩ : ∃ n, x53.heap.size = n := ⟨_, rfl⟩
    have SB := gr_new x53 #[.int .i64 (R : Int), .int .i64 (Bn : Int), .int .i64 (T : Int), .int .i64 (S : Int), .int .i64 (O : Int), .pointer (some ⟨K, 0, none⟩), .slice (some ⟨g1, 0, none⟩) N cap1, .pointer (some ⟨P, 0, none⟩), .int .u64 0, .bool false, .int .i64 (fl : Int), .int .i64 0, .int .i64 0, .int .i64 0, .int .i64 0, .int .i64 0] 69 hN1
    obtain ⟨x59, hxb⟩ : ∃ q, x53.alloc (.cells #[.int .i64 (R : Int), .int .i64 (Bn : Int), .int .i64 (T : Int), .int .i64 (S : Int), .int .i64 (O : Int), .pointer (some ⟨K, 0, none⟩), .slice (some ⟨g1, 0, none⟩) N cap1, .pointer (some ⟨P, 0, none⟩), .int .u64 0, .bool false, .int .i64 (fl : Int), .int .i64 0, .int .i64 0, .int .i64 0, .int .i64 0, .int .i64 0] 69) = q := ⟨_, rfl⟩
    have hbx : Below x53.heap.size x53 x59 := by rw [← hxb]; exact (Below.refl _ _).alloc (Nat.le_refl _) _
    rw [hxb] at SB
    rw [hxb]
    rw [hN1]
    have NG := Lib.hid (show w.heap.size ≤ N1 from by rw [← hN1]; exact HT_54.out.size)
    have G_60 := Lib.hid (Row.go HG2.out (hbx))
    have P_61 := Lib.hid (RPw.fw HP2.out (hbx))
    have C_62 := Lib.hid (Re.fw HC2.out (hbx))
    have O_63 := Lib.hid (Owf.fw HO2.out (hbx))
    have hl64 := hbx
    have HT_65 : Hid (Below w.heap.size w x59) := Lib.hid (HT_54.out.trans ((hl64).mono HT_54.out.size))
    have SBH := Lib.hid SB
    clear SB
    clear hxb hN1
    have hb67 : Below x53.heap.size x53 x59 := hl64
    have hS66 : (fun w' : World => Below x53.heap.size x53 w') x59 := hb67
    refine HK58.out _ _ hS66 fun _ => ?_
    try simp only [Act.put, List.setIfInBounds_toArray, List.set_cons_zero, List.set_cons_succ]
    refine wpAnyH_up (S' := (fun w' : World => Below x59.heap.size x59 w')) (fun w' h => hb67.trans (h.mono hb67.size)) ?_
    have hS68 : (fun w' : World => Below x59.heap.size x59 w') x59 := Below.refl _ _
    refine takeD (i := 13) (v := .pointer (some ⟨N1, 0, none⟩)) (some 6) rfl rfl (by kernel_rfl) (by kernel_rfl) (by kernel_rfl) (fun _ _ _ h => h) (Or.inl ⟨by rfl, by rintro w' -; go_simp⟩) hS68 ?_
    simp only [Act.put, List.setIfInBounds_toArray, List.set_cons_zero, List.set_cons_succ]
    refine takeD (i := 14) (v := .int .i64 0) (some 7) rfl rfl (by kernel_rfl) (by kernel_rfl) (by kernel_rfl) (fun _ _ _ h => h) (Or.inl ⟨by rfl, by rintro w' -; go_simp⟩) hS68 ?_
    simp only [Act.put, List.setIfInBounds_toArray, List.set_cons_zero, List.set_cons_succ]
    refine wpAnyH_done (by kernel_rfl) ?_ _
    go_wp2_with fail
    refine bodyPost_ret (results_two rfl _ _ _) rfl ?_
    refine ⟨N1, rfl, ⟨⟨K, .slice (some ⟨g1, 0, none⟩) N cap1, ?_, C_62.out, ?_⟩, NG.out⟩, HT_65.out⟩
    · have h := SBH.out
      rw [← FE.out] at h
      exact h
    · exact O_63.out.low (Nat.zero_le _)
  · have HK26 := Lib.hid hK
    clear hK
    rw [if_pos (by rfl)]
    refine wp_build_e Try.underlying24 info_ft rfl ?_
    have hq28 : Below wz17.heap.size wz17 (wz17.alloc (.cells #[] 80)) := (Below.refl _ _).alloc (Nat.le_refl _) _
    have hh29 := gr_new wz17 #[] 80 rfl
    have ho30 := Owf.made14 wz17 (B := w.heap.size) HT_24.out.size
    generalize wz17.alloc (.cells #[] 80) = x27 at hq28 hh29 ho30 ⊢
    obtain ⟨b0, hb0⟩ : ∃ b, wz17.heap.size = b := ⟨_, rfl⟩
    have GB0 := Lib.hid (show w.heap.size ≤ b0 from by rw [← hb0]; exact HT_24.out.size)
    rw [hb0] at hh29 ho30 ⊢
    have QB := Lib.hid hb0
    have G_31 := Lib.hid (Row.go G_19.out (hq28))
    have F_32 := Lib.hid (Fts.fw F_20.out (hq28))
    have P_33 := Lib.hid (RPw.fw P_21.out (hq28))
    have M_34 := Lib.hid (Md.fw M_22.out (hq28))
    have hl35 := hq28
    have HT_36 : Hid (Below w.heap.size w x27) := Lib.hid (HT_24.out.trans ((hl35).mono HT_24.out.size))
    have RB := Lib.hid hh29
    have OB := Lib.hid ho30
    clear hh29 ho30 hq28 hb0
    have hb38 : Below wz17.heap.size wz17 x27 := hl35
    have hS37 : (fun w' : World => Below wz17.heap.size wz17 w') x27 := hb38
    refine HK26.out _ _ hS37 fun _ => ?_
    try simp only [Act.put, List.setIfInBounds_toArray, List.set_cons_zero, List.set_cons_succ]
    refine wpAnyH_up (S' := (fun w' : World => Chg (fun j => j = b0) x27 w')) (fun w' h => hb38.trans (h.below hb38.size (fun j hj => Nat.le_of_eq (by rw [hj]; exact QB.out)))) ?_
    have hS39 : (fun w' : World => Chg (fun j => j = b0) x27 w') x27 := Chg.refl _ _
    refine wpAnyH_ready (rs := [2]) (by kernel_rfl) (by simp) ?_
    refine AllReadyH.cons rfl (fun K40 hK40 => ?_) AllReadyH.nil
    have HK40 := Lib.hid hK40
    clear hK40
    rw [if_pos (by rfl)]
    go_simp
    refine (rcn_any M_34.out).mono ?_
    rintro e x41 ⟨K, rfl, hre, hb⟩
    have NK := Lib.hid HT_36.out.size
    have HRE := Lib.hid (hre.low (B := (w.heap.size : Zn)) fun k hk => Nat.le_trans NK.out hk)
    have G_42 := Lib.hid (Row.go G_31.out (hb))
    have F_43 := Lib.hid (Fts.fw F_32.out (hb))
    have P_44 := Lib.hid (RPw.fw P_33.out (hb))
    have M_45 := Lib.hid (Md.fw M_34.out (hb))
    have B_46 := Lib.hid (Row.go RB.out (hb))
    have O_47 := Lib.hid (Owf.fw OB.out (hb))
    have hl48 := hb
    have HT_49 : Hid (Below w.heap.size w x41) := Lib.hid (HT_36.out.trans ((hl48).mono HT_36.out.size))
    clear hb hre
    have hb51 : Chg (fun j => j = b0) x27 x41 := below_chg hl48 (fun j => j = b0)
    have hS50 : (fun w' : World => Chg (fun j => j = b0) x27 w') x41 := hb51
    refine HK40.out _ _ hS50 fun _ => ?_
    try simp only [Act.put, List.setIfInBounds_toArray, List.set_cons_zero, List.set_cons_succ]
    refine wpAnyH_up (S' := (fun w' : World => Chg (fun j => j = b0) x41 w')) (fun w' h => hb51.trans h) ?_
    have hS52 : (fun w' : World => Chg (fun j => j = b0) x41 w') x41 := Chg.refl _ _
    refine wpAnyH_ready (rs := [5]) (by kernel_rfl) (by simp) ?_
    refine AllReadyH.cons rfl (fun K53 hK53 => ?_) AllReadyH.nil
    have HK53 := Lib.hid hK53
    clear hK53
    rw [if_pos (by rfl)]
    refine wp_cat_d (B := w.heap.size) _ _ rfl b0 0 N c1 A1 L rfl O_47.out rfl F_43.out EN.out HLN.out HT_49.out.size ?_
    intro g1 cap1 x54 ho hc
    have tc : Tch ⟨fun _ => True⟩ [80] x41 x54 := Tch.of_one hc trivial (Row.ty B_46.out) (by simp)
    have HG2 := Lib.hid (Row.tch tc G_42.out (by decide))
    have HP2 := Lib.hid (RPw.tch P_44.out tc (by decide))
    have HC2 := Lib.hid (HRE.out.tq tc (by decide) (by decide) (by decide) (by decide) (by decide))
    have HO2 := Lib.hid ho
    have HT_55 : Hid (Below w.heap.size w x54) := Lib.hid (HT_49.out.trans (hc.below HT_49.out.size (fun j hj => by rw [hj]; exact GB0.out)))
    clear tc ho
    have hb57 : Chg (fun j => j = b0) x41 x54 := hc
    have hS56 : (fun w' : World => Chg (fun j => j = b0) x41 w') x54 := hb57
    refine HK53.out _ _ hS56 fun _ => ?_
    try simp only [Act.put, List.setIfInBounds_toArray, List.set_cons_zero, List.set_cons_succ]
    refine wpAnyH_up (S' := (fun w' : World => Below x54.heap.size x54 w')) (fun w' h => hb57.trans (below_chg h (fun j => j = b0))) ?_
    have hS58 : (fun w' : World => Below x54.heap.size x54 w') x54 := Below.refl _ _
    refine takeD (i := 11) (v := .agg #[.int .i64 (R : Int), .int .i64 (Bn : Int), .int .i64 (T : Int), .int .i64 (S : Int), .int .i64 (O : Int), .pointer (some ⟨K, 0, none⟩), .slice (some ⟨g1, 0, none⟩) N cap1, .pointer (some ⟨P, 0, none⟩), .int .u64 0, .bool false, .int .i64 (fl : Int), .int .i64 0, .int .i64 0, .int .i64 0, .int .i64 0, .int .i64 0]) (some 37) rfl rfl (by kernel_rfl) (by kernel_rfl) (by kernel_rfl) (fun _ _ _ h => h) (Or.inl ⟨by rfl, by rintro w' -; go_simp⟩) hS58 ?_
    simp only [Act.put, List.setIfInBounds_toArray, List.set_cons_zero, List.set_cons_succ]
    refine wpAnyH_ready (rs := [12]) (by kernel_rfl) (by simp) ?_
    refine AllReadyH.cons rfl (fun K59 hK59 => ?_) AllReadyH.nil
    have HK59 := Lib.hid hK59
    clear hK59
    rw [if_pos (by rfl)]
    go_simp
    obtain ⟨N1, hN1⟩ : ∃ n, x54.heap.size = n := ⟨_, rfl⟩
    have SB := gr_new x54 #[.int .i64 (R : Int), .int .i64 (Bn : Int), .int .i64 (T : Int), .int .i64 (S : Int), .int .i64 (O : Int), .pointer (some ⟨K, 0, none⟩), .slice (some ⟨g1, 0, none⟩) N cap1, .pointer (some ⟨P, 0, none⟩), .int .u64 0, .bool false, .int .i64 (fl : Int), .int .i64 0, .int .i64 0, .int .i64 0, .int .i64 0, .int .i64 0] 69 hN1
    obtain ⟨x60, hxb⟩ : ∃ q, x54.alloc (.cells #[.int .i64 (R : Int), .int .i64 (Bn : Int), .int .i64 (T : Int), .int .i64 (S : Int), .int .i64 (O : Int), .pointer (some ⟨K, 0, none⟩), .slice (some ⟨g1, 0, none⟩) N cap1, .pointer (some ⟨P, 0, none⟩), .int .u64 0, .bool false, .int .i64 (fl : Int), .int .i64 0, .int .i64 0, .int .i64 0, .int .i64 0, .int .i64 0] 69) = q := ⟨_, rfl⟩
    have hbx : Below x54.heap.size x54 x60 := by rw [← hxb]; exact (Below.refl _ _).alloc (Nat.le_refl _) _
    rw [hxb] at SB
    rw [hxb]
    rw [hN1]
    have NG := Lib.hid (show w.heap.size ≤ N1 from by rw [← hN1]; exact HT_55.out.size)
    have G_61 := Lib.hid (Row.go HG2.out (hbx))
    have P_62 := Lib.hid (RPw.fw HP2.out (hbx))
    have C_63 := Lib.hid (Re.fw HC2.out (hbx))
    have O_64 := Lib.hid (Owf.fw HO2.out (hbx))
    have hl65 := hbx
    have HT_66 : Hid (Below w.heap.size w x60) := Lib.hid (HT_55.out.trans ((hl65).mono HT_55.out.size))
    have SBH := Lib.hid SB
    clear SB
    clear hxb hN1
    have hb68 : Below x54.heap.size x54 x60 := hl65
    have hS67 : (fun w' : World => Below x54.heap.size x54 w') x60 := hb68
    refine HK59.out _ _ hS67 fun _ => ?_
    try simp only [Act.put, List.setIfInBounds_toArray, List.set_cons_zero, List.set_cons_succ]
    refine wpAnyH_up (S' := (fun w' : World => Below x60.heap.size x60 w')) (fun w' h => hb68.trans (h.mono hb68.size)) ?_
    have hS69 : (fun w' : World => Below x60.heap.size x60 w') x60 := Below.refl _ _
    refine takeD (i := 13) (v := .pointer (some ⟨N1, 0, none⟩)) (some 6) rfl rfl (by kernel_rfl) (by kernel_rfl) (by kernel_rfl) (fun _ _ _ h => h) (Or.inl ⟨by rfl, by rintro w' -; go_simp⟩) hS69 ?_
    simp only [Act.put, List.setIfInBounds_toArray, List.set_cons_zero, List.set_cons_succ]
    refine takeD (i := 14) (v := .int .i64 0) (some 7) rfl rfl (by kernel_rfl) (by kernel_rfl) (by kernel_rfl) (fun _ _ _ h => h) (Or.inl ⟨by rfl, by rintro w' -; go_simp⟩) hS69 ?_
    simp only [Act.put, List.setIfInBounds_toArray, List.set_cons_zero, List.set_cons_succ]
    refine wpAnyH_done (by kernel_rfl) ?_ _
    go_wp2_with fail
    refine bodyPost_ret (results_two rfl _ _ _) rfl ?_
    refine ⟨N1, rfl, ⟨⟨K, .slice (some ⟨g1, 0, none⟩) N cap1, ?_, C_63.out, ?_⟩, NG.out⟩, HT_66.out⟩
    · have h := SBH.out
      rw [← FE.out] at h
      exact h
    · exact O_64.out.low (Nat.zero_le _)
end Go.Proofs.Ytdjjihppaobbcaa
