/- Layer 14: the law's begin. WRITTEN BY gen_Dps.py. -/
import Derived.Test.YtdjjihppaobbcaaDpr
namespace Go.Proofs.Ytdjjihppaobbcaa
open Go Go.RowKit Med Flt
set_option linter.unusedVariables false
set_option linter.unusedSimpArgs false
theorem results_t1c1 {P : Program} {fn : Func} {p u : Tmp} {ty : TypeId} (h : fn.results = #[.tmp u, .cell p ty]) (tmps : Array Value) (w : World) (g : Nat) (t : TypeId) (cs : Array Value) (fr : Nat × Nat) (d : TypeDesc)
    (hp : tmps.getD p undef = .pointer (some ⟨g, 0, none⟩)) (hg : w.heap[g]? = some (.cells cs t fr))
    (hu : P.underlying ty = some d) (hd : (match d with | .struct _ | .array _ _ => true | _ => false) = true) (hi : (P.info? ty).map (·.size) = some cs.size) :
    (results fn tmps).run P w = .ok (.tuple #[tmps.getD u undef, .agg cs]) w := by
  have hp' : tmps[p]?.getD undef = .pointer (some ⟨g, 0, none⟩) := by simpa using hp
  simp [results, h, hp', asAddr, run_loadVar_row w g t ty cs fr d hg hu hd hi]
theorem si14 : (Try.prog.info? 54).map (·.size) = some 2 := by kernel_rfl
theorem thr14 {w : World} {g : Nat} {t : TypeId} {x y : Value} (h : Row w g t #[x, y]) : w.there g 0 2 := by
  intro j hj
  rw [Nat.zero_add]
  refine ⟨?_, h.frozen j⟩
  rw [h.cell]
  match j, hj with
  | 0, _ => rfl
  | 1, _ => rfl
set_option maxHeartbeats 4000000 in
set_option maxRecDepth 100000 in
theorem begin14_any {R Bn T S O : Nat} {v0 v1 va : Value} {L0 L1 : List F} {w : World} (hg : Geo.GV (R : Int) Bn T S O) (h0 : Fts w v0 L0) (h1 : Fts w v1 L1) (hv0 : vld L0 = true) (hv1 : vld L1 = true) (hl0 : L0.length ≤ 20) (hl1 : L1.length ≤ 20) :
    Calls Try.prog 22 #[.agg (csc (R : Int) Bn T S O v0 v1 va)] w (bg14 R Bn T S O L0 L1 w) := by
  obtain ⟨A0, c0_, rfl⟩ := h0.form
  obtain ⟨A1, c1_, rfl⟩ := h1.form
  have HG := Lib.hid hg
  have V0 := Lib.hid hv0
  have V1 := Lib.hid hv1
  have HL0 := Lib.hid (show L0.length * 24 ≤ 140737488355328 by omega)
  have HL1 := Lib.hid (show L1.length * 24 ≤ 140737488355328 by omega)
  have H0 := Lib.hid h0
  have H1 := Lib.hid h1
  obtain ⟨n0, hn0⟩ : ∃ n, L0.length = n := ⟨_, rfl⟩
  obtain ⟨n1, hn1⟩ : ∃ n, L1.length = n := ⟨_, rfl⟩
  rw [hn0] at H0 ⊢
  rw [hn1] at H1 ⊢
  unfold csc
  obtain ⟨N, hN⟩ : ∃ N, w.heap.size = N := ⟨_, rfl⟩
  obtain ⟨dk, hdk⟩ : ∃ d, Dsk.Dk.new (List.replicate (R + Bn * (T * S)) Med.blank) Dsk.Pw.new = d := ⟨_, rfl⟩
  have EDK := Lib.hid hdk
  unfold bg14
  rw [hdk]
  obtain ⟨W0, hW0⟩ : ∃ W, w.alloc (.cells #[.int .i64 (R : Int), .int .i64 (Bn : Int), .int .i64 (T : Int), .int .i64 (S : Int), .int .i64 (O : Int), .slice A0 n0 c0_, .slice A1 n1 c1_, va] 45) = W := ⟨_, rfl⟩
  have BW : Below w.heap.size w W0 := by subst hW0; exact (Below.refl _ _).alloc (Nat.le_refl _) _
  have R0 : CBox W0 N R Bn T S O (.slice A0 n0 c0_) (.slice A1 n1 c1_) va := by subst hW0; exact gr_new w _ _ hN
  obtain ⟨b3, hb3⟩ : ∃ b, W0.heap.size = b := ⟨_, rfl⟩
  obtain ⟨W1, hW1⟩ : ∃ W, W0.alloc (.cells #[.pointer none, .pointer none] 54) = W := ⟨_, rfl⟩
  have BW1 : Below W0.heap.size W0 W1 := by subst hW1; exact (Below.refl _ _).alloc (Nat.le_refl _) _
  have R1 : Row W1 b3 54 #[.pointer none, .pointer none] := by subst hW1; exact gr_new W0 _ _ hb3
  have T1 := Lib.hid (BW.trans (BW1.mono BW.size))
  have SZ1 := Lib.hid BW.size
  have NPC := Lib.hid (rnp_any W1)
  have G1 := Lib.hid (Row.go R0 BW1)
  have R1H := Lib.hid R1
  have HN := Lib.hid hN
  have HW0 := Lib.hid hW0
  have HB3 := Lib.hid hb3
  have HW1 := Lib.hid hW1
  clear hg h0 h1 hv0 hv1 hl0 hl1 hn0 hn1 hN hdk hW0 BW R0 hb3 hW1 BW1 R1
  go_enter Try.func22, Try.ntmps22
  go_wp2_with (first | rw [HN.out] | rw [HW0.out] | rw [HB3.out] | rw [HW1.out])
  refine NPC.out.mono ?_
  rintro e w3 ⟨P, rfl, hP, hp, hb⟩
  obtain ⟨b5, hb5⟩ : ∃ b, w3.heap.size = b := ⟨_, rfl⟩
  obtain ⟨W4, hW4⟩ : ∃ W, w3.alloc (.cells #[.pointer none, .pointer none] 54) = W := ⟨_, rfl⟩
  have BW4 : Below w3.heap.size w3 W4 := by subst hW4; exact (Below.refl _ _).alloc (Nat.le_refl _) _
  have R4 : Hid (Row W4 b5 54 #[.pointer none, .pointer none]) := Lib.hid (by subst hW4; exact gr_new w3 _ _ hb5)
  have G4 := Lib.hid (Row.go (Row.go G1.out hb) BW4)
  have S4 := Lib.hid (Row.go (Row.go R1H.out hb) BW4)
  have T4 := Lib.hid ((T1.out.trans (hb.mono T1.out.size)).trans (BW4.mono (Nat.le_trans T1.out.size hb.size)))
  have P4 := Lib.hid (hp.fw BW4)
  have PL := Lib.hid (Nat.le_trans T1.out.size hP)
  have HB5 := Lib.hid hb5
  have HW4 := Lib.hid hW4
  have N35 := Lib.hid (show b3 ≠ b5 by have := HB3.out; have := (Row.lt R1H.out); have := hb.size; omega)
  have NB5 := Lib.hid (show w.heap.size ≤ b5 by have := HB5.out; have := T1.out.size; have := hb.size; omega)
  clear hP hp hb hb5 hW4 BW4 NPC
  unfold ptrN at *
  go_wp2_with (first | rw [HW4.out, HB5.out])
  go_loopw [6] (fun i wr => Hid (CBox wr N R Bn T S O (.slice A0 n0 c0_) (.slice A1 n1 c1_) va ∧ Row wr b3 54 #[.pointer none, .pointer none] ∧ Below w.heap.size w wr ∧ RPw wr P Dsk.Pw.new) ∧
    ((i = .int .i64 0 ∧ Hid (Row wr b5 54 #[.pointer none, .pointer none])) ∨
     (i = .int .i64 1 ∧ ∃ D0, Hid (Row wr b5 54 #[.pointer (some ⟨D0, 0, none⟩), .pointer none] ∧ ∃ A : Zn, RDk A wr D0 P R Bn T S O L0 dk ∧ ∀ k, A.fr k → w.heap.size ≤ k ∧ k < wr.heap.size ∧ k ≠ P)) ∨
     (i = .int .i64 2 ∧ ∃ D0 D1, Hid (Row wr b5 54 #[.pointer (some ⟨D0, 0, none⟩), .pointer (some ⟨D1, 0, none⟩)] ∧ RSt w.heap.size wr P D0 D1 R Bn T S O L0 L1 Dsk.Pw.new dk dk)))) (fun i _ => (2 - intOf i).toNat)
  case atStart => exact ⟨Lib.hid ⟨G4.out, S4.out, T4.out, P4.out⟩, Or.inl ⟨rfl, R4.out⟩⟩
  case round =>
    obtain ⟨C, hr⟩ := hrel
    have GW := Lib.hid C.out.1
    have SW := Lib.hid C.out.2.1
    have TW := Lib.hid C.out.2.2.1
    have PW := Lib.hid C.out.2.2.2
    clear C
    rcases hr with ⟨rfl, RW⟩ | ⟨rfl, D0, DW⟩ | ⟨rfl, D0, D1, DW⟩
    · go_wp2_with fail
      refine wp_region_held (P := Try.prog) (S := (fun w' : World => Tch (⟨fun _ => True⟩ : Zn) [54] wr w')) rfl ?_
      change wpAnyH _ _ _ _ _ _ _ _ wr.drew
      have thz2 : Below wr.heap.size wr wr.drew := (Below.refl wr.heap.size wr).drew
      generalize wr.drew = twz1 at thz2 ⊢
      have tHZ3 : Hid (Below wr.heap.size wr twz1) := Lib.hid thz2
      have tTT4 : Hid (Tch (⟨fun _ => True⟩ : Zn) [54] wr twz1) := Lib.hid (Tch.of_below tHZ3.out (⟨fun _ => True⟩ : Zn) [54])
      clear thz2
      have thS5 : (fun w' : World => Tch (⟨fun _ => True⟩ : Zn) [54] wr w') twz1 := tTT4.out
      refine takeD (i := 0) (v := .int .i64 0) (some 13) rfl rfl (by kernel_rfl) (by kernel_rfl) (by kernel_rfl) (fun _ _ _ h => h) (Or.inl ⟨by rfl, by rintro w' -; go_simp⟩) thS5 ?_
      simp only [Act.put, List.setIfInBounds_toArray, List.set_cons_zero, List.set_cons_succ]
      refine takeD (i := 1) (v := .pointer (some ⟨N, 0, none⟩)) (some 14) rfl rfl (by kernel_rfl) (by kernel_rfl) (by kernel_rfl) (fun _ _ _ h => h) (Or.inl ⟨by rfl, by rintro w' -; go_simp⟩) thS5 ?_
      simp only [Act.put, List.setIfInBounds_toArray, List.set_cons_zero, List.set_cons_succ]
      refine takeD (i := 2) (v := .agg #[.int .i64 (R : Int), .int .i64 (Bn : Int), .int .i64 (T : Int), .int .i64 (S : Int), .int .i64 (O : Int)]) (some 15) rfl rfl (by kernel_rfl) (by kernel_rfl) (by kernel_rfl) (fun _ _ _ h => h) (yieldsIf_load_mid (by rfl) _ _ rfl N 0 rfl [.int .i64 (R : Int), .int .i64 (Bn : Int), .int .i64 (T : Int), .int .i64 (S : Int), .int .i64 (O : Int)] _ (fun w' h => CBox.geo (CBox.tch GW.out h (by decide))) Try.underlying23 rfl (by kernel_rfl)) thS5 ?_
      simp only [Act.put, List.setIfInBounds_toArray, List.set_cons_zero, List.set_cons_succ]
      refine takeD (i := 3) (v := .int .i64 0) (some 16) rfl rfl (by kernel_rfl) (by kernel_rfl) (by kernel_rfl) (fun _ _ _ h => h) (Or.inl ⟨by rfl, by rintro w' -; go_simp⟩) thS5 ?_
      simp only [Act.put, List.setIfInBounds_toArray, List.set_cons_zero, List.set_cons_succ]
      refine takeD (i := 4) (v := .pointer (some ⟨N, 5, none⟩)) (some 17) rfl rfl (by kernel_rfl) (by kernel_rfl) (by kernel_rfl) (fun _ _ _ h => h) (Or.inl ⟨by rfl, by rintro w' -; go_simp⟩) thS5 ?_
      simp only [Act.put, List.setIfInBounds_toArray, List.set_cons_zero, List.set_cons_succ]
      refine takeD (i := 5) (v := .pointer (some ⟨N, 5, none⟩)) (some 18) rfl rfl (by kernel_rfl) (by kernel_rfl) (by kernel_rfl) (fun _ _ _ h => h) (Or.inl ⟨by rfl, by rintro w' -; go_simp⟩) thS5 ?_
      simp only [Act.put, List.setIfInBounds_toArray, List.set_cons_zero, List.set_cons_succ]
      refine takeD (i := 6) (v := .slice A0 n0 c0_) (some 19) rfl rfl (by kernel_rfl) (by kernel_rfl) (by kernel_rfl) (fun _ _ _ h => h) (Or.inl ⟨by rfl, by rintro w' h; have hc := (CBox.cells (CBox.tch GW.out h (by decide))).2.1; go_simp⟩) thS5 ?_
      simp only [Act.put, List.setIfInBounds_toArray, List.set_cons_zero, List.set_cons_succ]
      refine takeD (i := 7) (v := .pointer (some ⟨P, 0, none⟩)) (some 20) rfl rfl (by kernel_rfl) (by kernel_rfl) (by kernel_rfl) (fun _ _ _ h => h) (Or.inl ⟨by rfl, by rintro w' -; go_simp⟩) thS5 ?_
      simp only [Act.put, List.setIfInBounds_toArray, List.set_cons_zero, List.set_cons_succ]
      refine wpAnyH_ready (rs := [8]) (by kernel_rfl) (by simp) ?_
      refine AllReadyH.cons rfl (fun tK6 htK6 => ?_) AllReadyH.nil
      have HtK6 := Lib.hid htK6
      clear htK6
      rw [if_pos (by rfl)]
      go_simp
      refine (rnew14_any HG.out (H0.out.fw (TW.out.trans (tHZ3.out.mono TW.out.size))) V0.out HL0.out (PW.out.fw tHZ3.out)).mono ?_
      rintro e tx7 ⟨D0, rfl, hd, hb⟩
      have HD := Lib.hid hd
      have HBB := Lib.hid hb
      clear hd hb
      have tTT8 : Hid (Tch (⟨fun _ => True⟩ : Zn) [54] wr tx7) := Lib.hid (tTT4.out.trans (Tch.of_below HBB.out (⟨fun _ => True⟩ : Zn) [54]))
      have thS9 : (fun w' : World => Tch (⟨fun _ => True⟩ : Zn) [54] wr w') tx7 := tTT8.out
      refine HtK6.out _ _ thS9 fun _ => ?_
      try simp only [Act.put, List.setIfInBounds_toArray, List.set_cons_zero, List.set_cons_succ]
      refine takeD (i := 9) (v := .tuple #[.pointer (some ⟨D0, 0, none⟩), .int .i64 0]) (some 12) rfl rfl (by kernel_rfl) (by kernel_rfl) (by kernel_rfl) (fun _ _ _ h => h) (Or.inl ⟨by rfl, by rintro w' -; go_simp⟩) thS9 ?_
      simp only [Act.put, List.setIfInBounds_toArray, List.set_cons_zero, List.set_cons_succ]
      refine takeD (i := 10) (v := .pointer (some ⟨D0, 0, none⟩)) (some 22) rfl rfl (by kernel_rfl) (by kernel_rfl) (by kernel_rfl) (fun _ _ _ h => h) (Or.inl ⟨by rfl, by rintro w' -; go_simp⟩) thS9 ?_
      simp only [Act.put, List.setIfInBounds_toArray, List.set_cons_zero, List.set_cons_succ]
      refine takeD (i := 11) (v := .int .i64 0) (some 23) rfl rfl (by kernel_rfl) (by kernel_rfl) (by kernel_rfl) (fun _ _ _ h => h) (Or.inl ⟨by rfl, by rintro w' -; go_simp⟩) thS9 ?_
      simp only [Act.put, List.setIfInBounds_toArray, List.set_cons_zero, List.set_cons_succ]
      refine takeD (i := 12) (v := .pointer (some ⟨b5, 0, none⟩)) (some 24) rfl rfl (by kernel_rfl) (by kernel_rfl) (by kernel_rfl) (fun _ _ _ h => h) (Or.inl ⟨by rfl, by rintro w' -; go_simp⟩) thS9 ?_
      simp only [Act.put, List.setIfInBounds_toArray, List.set_cons_zero, List.set_cons_succ]
      refine wpAnyH_ready (rs := [13]) (by kernel_rfl) (by simp) ?_
      refine AllReadyH.cons rfl (fun tK10 htK10 => ?_) AllReadyH.nil
      have HtK10 := Lib.hid htK10
      clear htK10
      rw [if_pos (by rfl)]
      have BX := Lib.hid (tHZ3.out.trans (HBB.out.mono tHZ3.out.size))
      have T5 := Lib.hid (TW.out.trans (BX.out.mono TW.out.size))
      have G5 := Lib.hid (Row.go GW.out BX.out)
      have S5 := Lib.hid (Row.go SW.out BX.out)
      have P5 := Lib.hid (PW.out.fw BX.out)
      have R5 := Lib.hid (Row.go RW.out BX.out)
      have cc : tx7.cell? ⟨b5, 0, none⟩ = some (.pointer none) := by rw [R5.out.cell]; rfl
      have ff := R5.out.frozen 0
      go_simp
      clear cc ff
      have R6 := Lib.hid (R5.out.store 0 (.pointer (some ⟨D0, 0, none⟩)))
      have T6 : Hid (Tch ⟨fun _ => True⟩ [54] tx7 (tx7.setCell ⟨b5, 0, none⟩ (.pointer (some ⟨D0, 0, none⟩)))) := Lib.hid ((Tch.refl _ _ _).set trivial R5.out.ty (by simp) _)
      have B6 := Lib.hid (T5.out.setCell (p := ⟨b5, 0, none⟩) NB5.out (.pointer (some ⟨D0, 0, none⟩)))
      have S6 := Lib.hid (Row.tch6 (i := 0) (u := .pointer (some ⟨D0, 0, none⟩)) S5.out (fun e => N35.out e))
      obtain ⟨A, hA, hd⟩ := HD.out.foot P5.out.ty
      have DA := Lib.hid (And.intro (hd.keep T6.out (by decide)) (show ∀ k, A.fr k → w.heap.size ≤ k ∧ k < (tx7.setCell ⟨b5, 0, none⟩ (.pointer (some ⟨D0, 0, none⟩))).heap.size ∧ k ≠ P from fun k hk => ⟨Nat.le_trans (Nat.le_trans TW.out.size tHZ3.out.size) (hA k hk).1, Nat.lt_of_lt_of_le (hA k hk).2.1 (Tch.size T6.out), (hA k hk).2.2⟩))
      rw [EDK.out] at DA
      clear hA hd
      clear HD
      have G6 := Lib.hid (G5.out.tch T6.out (by decide))
      have P6 := Lib.hid (P5.out.tch T6.out (by decide))
      clear G5 S5 P5
      have tTT11 : Hid (Tch (⟨fun _ => True⟩ : Zn) [54] wr (tx7.setCell ⟨b5, 0, none⟩ (.pointer (some ⟨D0, 0, none⟩)))) := Lib.hid (tTT8.out.trans (T6.out))
      have thS12 : (fun w' : World => Tch (⟨fun _ => True⟩ : Zn) [54] wr w') (tx7.setCell ⟨b5, 0, none⟩ (.pointer (some ⟨D0, 0, none⟩))) := tTT11.out
      refine HtK10.out _ _ thS12 fun _ => ?_
      refine wpAnyH_done (by kernel_rfl) ?_ _
      go_wp2_with fail
      go_roundw
      case rel => exact ⟨Lib.hid ⟨G6.out, S6.out, B6.out, P6.out⟩, Or.inr (Or.inl ⟨rfl, D0, Lib.hid ⟨R6.out, A, DA.out⟩⟩)⟩
      case measure => simp [intOf]
    · go_wp2_with fail
      refine wp_region_held (P := Try.prog) (S := (fun w' : World => Tch (⟨fun _ => True⟩ : Zn) [54] wr w')) rfl ?_
      change wpAnyH _ _ _ _ _ _ _ _ wr.drew
      have thz2 : Below wr.heap.size wr wr.drew := (Below.refl wr.heap.size wr).drew
      generalize wr.drew = twz1 at thz2 ⊢
      have tHZ3 : Hid (Below wr.heap.size wr twz1) := Lib.hid thz2
      have tTT4 : Hid (Tch (⟨fun _ => True⟩ : Zn) [54] wr twz1) := Lib.hid (Tch.of_below tHZ3.out (⟨fun _ => True⟩ : Zn) [54])
      clear thz2
      have thS5 : (fun w' : World => Tch (⟨fun _ => True⟩ : Zn) [54] wr w') twz1 := tTT4.out
      refine takeD (i := 0) (v := .int .i64 1) (some 13) rfl rfl (by kernel_rfl) (by kernel_rfl) (by kernel_rfl) (fun _ _ _ h => h) (Or.inl ⟨by rfl, by rintro w' -; go_simp⟩) thS5 ?_
      simp only [Act.put, List.setIfInBounds_toArray, List.set_cons_zero, List.set_cons_succ]
      refine takeD (i := 1) (v := .pointer (some ⟨N, 0, none⟩)) (some 14) rfl rfl (by kernel_rfl) (by kernel_rfl) (by kernel_rfl) (fun _ _ _ h => h) (Or.inl ⟨by rfl, by rintro w' -; go_simp⟩) thS5 ?_
      simp only [Act.put, List.setIfInBounds_toArray, List.set_cons_zero, List.set_cons_succ]
      refine takeD (i := 2) (v := .agg #[.int .i64 (R : Int), .int .i64 (Bn : Int), .int .i64 (T : Int), .int .i64 (S : Int), .int .i64 (O : Int)]) (some 15) rfl rfl (by kernel_rfl) (by kernel_rfl) (by kernel_rfl) (fun _ _ _ h => h) (yieldsIf_load_mid (by rfl) _ _ rfl N 0 rfl [.int .i64 (R : Int), .int .i64 (Bn : Int), .int .i64 (T : Int), .int .i64 (S : Int), .int .i64 (O : Int)] _ (fun w' h => CBox.geo (CBox.tch GW.out h (by decide))) Try.underlying23 rfl (by kernel_rfl)) thS5 ?_
      simp only [Act.put, List.setIfInBounds_toArray, List.set_cons_zero, List.set_cons_succ]
      refine takeD (i := 3) (v := .int .i64 1) (some 16) rfl rfl (by kernel_rfl) (by kernel_rfl) (by kernel_rfl) (fun _ _ _ h => h) (Or.inl ⟨by rfl, by rintro w' -; go_simp⟩) thS5 ?_
      simp only [Act.put, List.setIfInBounds_toArray, List.set_cons_zero, List.set_cons_succ]
      refine takeD (i := 4) (v := .pointer (some ⟨N, 5, none⟩)) (some 17) rfl rfl (by kernel_rfl) (by kernel_rfl) (by kernel_rfl) (fun _ _ _ h => h) (Or.inl ⟨by rfl, by rintro w' -; go_simp⟩) thS5 ?_
      simp only [Act.put, List.setIfInBounds_toArray, List.set_cons_zero, List.set_cons_succ]
      refine takeD (i := 5) (v := .pointer (some ⟨N, 6, none⟩)) (some 18) rfl rfl (by kernel_rfl) (by kernel_rfl) (by kernel_rfl) (fun _ _ _ h => h) (Or.inl ⟨by rfl, by rintro w' -; go_simp⟩) thS5 ?_
      simp only [Act.put, List.setIfInBounds_toArray, List.set_cons_zero, List.set_cons_succ]
      refine takeD (i := 6) (v := .slice A1 n1 c1_) (some 19) rfl rfl (by kernel_rfl) (by kernel_rfl) (by kernel_rfl) (fun _ _ _ h => h) (Or.inl ⟨by rfl, by rintro w' h; have hc := (CBox.cells (CBox.tch GW.out h (by decide))).2.2.1; go_simp⟩) thS5 ?_
      simp only [Act.put, List.setIfInBounds_toArray, List.set_cons_zero, List.set_cons_succ]
      refine takeD (i := 7) (v := .pointer (some ⟨P, 0, none⟩)) (some 20) rfl rfl (by kernel_rfl) (by kernel_rfl) (by kernel_rfl) (fun _ _ _ h => h) (Or.inl ⟨by rfl, by rintro w' -; go_simp⟩) thS5 ?_
      simp only [Act.put, List.setIfInBounds_toArray, List.set_cons_zero, List.set_cons_succ]
      refine wpAnyH_ready (rs := [8]) (by kernel_rfl) (by simp) ?_
      refine AllReadyH.cons rfl (fun tK6 htK6 => ?_) AllReadyH.nil
      have HtK6 := Lib.hid htK6
      clear htK6
      rw [if_pos (by rfl)]
      go_simp
      refine (rnew14_any HG.out (H1.out.fw (TW.out.trans (tHZ3.out.mono TW.out.size))) V1.out HL1.out (PW.out.fw tHZ3.out)).mono ?_
      rintro e tx7 ⟨D1, rfl, hd, hb⟩
      have HD := Lib.hid hd
      have HBB := Lib.hid hb
      clear hd hb
      have tTT8 : Hid (Tch (⟨fun _ => True⟩ : Zn) [54] wr tx7) := Lib.hid (tTT4.out.trans (Tch.of_below HBB.out (⟨fun _ => True⟩ : Zn) [54]))
      have thS9 : (fun w' : World => Tch (⟨fun _ => True⟩ : Zn) [54] wr w') tx7 := tTT8.out
      refine HtK6.out _ _ thS9 fun _ => ?_
      try simp only [Act.put, List.setIfInBounds_toArray, List.set_cons_zero, List.set_cons_succ]
      refine takeD (i := 9) (v := .tuple #[.pointer (some ⟨D1, 0, none⟩), .int .i64 0]) (some 12) rfl rfl (by kernel_rfl) (by kernel_rfl) (by kernel_rfl) (fun _ _ _ h => h) (Or.inl ⟨by rfl, by rintro w' -; go_simp⟩) thS9 ?_
      simp only [Act.put, List.setIfInBounds_toArray, List.set_cons_zero, List.set_cons_succ]
      refine takeD (i := 10) (v := .pointer (some ⟨D1, 0, none⟩)) (some 22) rfl rfl (by kernel_rfl) (by kernel_rfl) (by kernel_rfl) (fun _ _ _ h => h) (Or.inl ⟨by rfl, by rintro w' -; go_simp⟩) thS9 ?_
      simp only [Act.put, List.setIfInBounds_toArray, List.set_cons_zero, List.set_cons_succ]
      refine takeD (i := 11) (v := .int .i64 0) (some 23) rfl rfl (by kernel_rfl) (by kernel_rfl) (by kernel_rfl) (fun _ _ _ h => h) (Or.inl ⟨by rfl, by rintro w' -; go_simp⟩) thS9 ?_
      simp only [Act.put, List.setIfInBounds_toArray, List.set_cons_zero, List.set_cons_succ]
      refine takeD (i := 12) (v := .pointer (some ⟨b5, 1, none⟩)) (some 24) rfl rfl (by kernel_rfl) (by kernel_rfl) (by kernel_rfl) (fun _ _ _ h => h) (Or.inl ⟨by rfl, by rintro w' -; go_simp⟩) thS9 ?_
      simp only [Act.put, List.setIfInBounds_toArray, List.set_cons_zero, List.set_cons_succ]
      refine wpAnyH_ready (rs := [13]) (by kernel_rfl) (by simp) ?_
      refine AllReadyH.cons rfl (fun tK10 htK10 => ?_) AllReadyH.nil
      have HtK10 := Lib.hid htK10
      clear htK10
      rw [if_pos (by rfl)]
      have BX := Lib.hid (tHZ3.out.trans (HBB.out.mono tHZ3.out.size))
      have T5 := Lib.hid (TW.out.trans (BX.out.mono TW.out.size))
      have G5 := Lib.hid (Row.go GW.out BX.out)
      have S5 := Lib.hid (Row.go SW.out BX.out)
      have P5 := Lib.hid (PW.out.fw BX.out)
      have R5 := Lib.hid (Row.go DW.out.1 BX.out)
      have cc : tx7.cell? ⟨b5, 1, none⟩ = some (.pointer none) := by rw [R5.out.cell]; rfl
      have ff := R5.out.frozen 1
      go_simp
      clear cc ff
      have R6 := Lib.hid (R5.out.store 1 (.pointer (some ⟨D1, 0, none⟩)))
      have T6 : Hid (Tch ⟨fun _ => True⟩ [54] tx7 (tx7.setCell ⟨b5, 1, none⟩ (.pointer (some ⟨D1, 0, none⟩)))) := Lib.hid ((Tch.refl _ _ _).set trivial R5.out.ty (by simp) _)
      have B6 := Lib.hid (T5.out.setCell (p := ⟨b5, 1, none⟩) NB5.out (.pointer (some ⟨D1, 0, none⟩)))
      have S6 := Lib.hid (Row.tch6 (i := 1) (u := .pointer (some ⟨D1, 0, none⟩)) S5.out (fun e => N35.out e))
      obtain ⟨A, hA, hk⟩ := DW.out.2
      have DA := RSt.of_new (hA.fw tHZ3.out) (fun k h => ⟨(hk k h).1, Nat.lt_of_lt_of_le (hk k h).2.1 tHZ3.out.size, (hk k h).2.2⟩) (Nat.le_trans TW.out.size tHZ3.out.size) P5.out PL.out (Nat.lt_of_lt_of_le PW.out.ty.lt tHZ3.out.size) HBB.out HD.out
      replace DA := DA.keep T6.out (by decide)
      rw [EDK.out] at DA
      replace DA := Lib.hid DA
      clear hA hk
      clear HD
      have G6 := Lib.hid (G5.out.tch T6.out (by decide))
      have P6 := Lib.hid (P5.out.tch T6.out (by decide))
      clear G5 S5 P5
      have tTT11 : Hid (Tch (⟨fun _ => True⟩ : Zn) [54] wr (tx7.setCell ⟨b5, 1, none⟩ (.pointer (some ⟨D1, 0, none⟩)))) := Lib.hid (tTT8.out.trans (T6.out))
      have thS12 : (fun w' : World => Tch (⟨fun _ => True⟩ : Zn) [54] wr w') (tx7.setCell ⟨b5, 1, none⟩ (.pointer (some ⟨D1, 0, none⟩))) := tTT11.out
      refine HtK10.out _ _ thS12 fun _ => ?_
      refine wpAnyH_done (by kernel_rfl) ?_ _
      go_wp2_with fail
      go_roundw
      case rel => exact ⟨Lib.hid ⟨G6.out, S6.out, B6.out, P6.out⟩, Or.inr (Or.inr ⟨rfl, D0, D1, Lib.hid ⟨R6.out, DA.out⟩⟩)⟩
      case measure => simp [intOf]
    · have SR := Lib.hid SW.out
      have RR := Lib.hid DW.out.1
      have ST := Lib.hid DW.out.2
      have NB3 := Lib.hid (show w.heap.size ≤ b3 by have := HB3.out; have := T1.out.size; have := SZ1.out; omega)
      go_wp2_with fail
      refine wp_region_held (P := Try.prog) (S := (fun w' : World => Tch (⟨fun k => k = b3⟩ : Zn) [54] wr w')) rfl ?_
      change wpAnyH _ _ _ _ _ _ _ _ wr.drew
      have uhz2 : Below wr.heap.size wr wr.drew := (Below.refl wr.heap.size wr).drew
      generalize wr.drew = uwz1 at uhz2 ⊢
      have uHZ3 : Hid (Below wr.heap.size wr uwz1) := Lib.hid uhz2
      have uTT4 : Hid (Tch (⟨fun k => k = b3⟩ : Zn) [54] wr uwz1) := Lib.hid (Tch.of_below uHZ3.out (⟨fun k => k = b3⟩ : Zn) [54])
      clear uhz2
      have uhS5 : (fun w' : World => Tch (⟨fun k => k = b3⟩ : Zn) [54] wr w') uwz1 := uTT4.out
      refine takeD (i := 0) (v := .pointer (some ⟨P, 0, none⟩)) (some 25) rfl rfl (by kernel_rfl) (by kernel_rfl) (by kernel_rfl) (fun _ _ _ h => h) (Or.inl ⟨by rfl, by rintro w' -; go_simp⟩) uhS5 ?_
      simp only [Act.put, List.setIfInBounds_toArray, List.set_cons_zero, List.set_cons_succ]
      refine takeD (i := 1) (v := .agg #[.pointer (some ⟨D0, 0, none⟩), .pointer (some ⟨D1, 0, none⟩)]) (some 26) rfl rfl (by kernel_rfl) (by kernel_rfl) (by kernel_rfl) (fun _ _ _ h => h) (yieldsIf_load_mid (by rfl) _ _ rfl b5 0 rfl [.pointer (some ⟨D0, 0, none⟩), .pointer (some ⟨D1, 0, none⟩)] _ (fun w' h => row2c ((Tch.low h RR.out.lt (fun e => N35.out e.symm)).trans RR.out)) Try.underlying54 rfl (by kernel_rfl)) uhS5 ?_
      simp only [Act.put, List.setIfInBounds_toArray, List.set_cons_zero, List.set_cons_succ]
      refine takeD (i := 2) (v := .pointer (some ⟨P, 0, none⟩)) (some 2) rfl rfl (by kernel_rfl) (by kernel_rfl) (by kernel_rfl) (fun _ _ _ h => h) (Or.inl ⟨by rfl, by rintro w' -; go_simp⟩) uhS5 ?_
      simp only [Act.put, List.setIfInBounds_toArray, List.set_cons_zero, List.set_cons_succ]
      refine wpAnyH_ready (rs := [3]) (by kernel_rfl) (by simp) ?_
      refine AllReadyH.cons rfl (fun uK6 huK6 => ?_) AllReadyH.nil
      have HuK6 := Lib.hid huK6
      clear huK6
      rw [if_pos (by rfl)]
      have S5 := Lib.hid (Row.go SR.out uHZ3.out)
      have T5 := Lib.hid (TW.out.trans (uHZ3.out.mono TW.out.size))
      have ST5 := Lib.hid (ST.out.fw uHZ3.out)
      refine wp_store_mid _ _ _ rfl b3 0 #[.pointer (some ⟨D0, 0, none⟩), .pointer (some ⟨D1, 0, none⟩)] rfl rfl (thr14 S5.out) si14 (by simp [Value.oneCell']) ?_
      have RF := Lib.hid ((S5.out.store 0 (.pointer (some ⟨D0, 0, none⟩))).store 1 (.pointer (some ⟨D1, 0, none⟩)))
      have BF := Lib.hid ((T5.out.setCell (p := ⟨b3, 0, none⟩) NB3.out (.pointer (some ⟨D0, 0, none⟩))).setCell (p := ⟨b3, 1, none⟩) NB3.out (.pointer (some ⟨D1, 0, none⟩)))
      have TF : Hid (Tch ⟨fun k => k = b3⟩ [54] uwz1 ((uwz1.setCell ⟨b3, 0, none⟩ (.pointer (some ⟨D0, 0, none⟩))).setCell ⟨b3, 1, none⟩ (.pointer (some ⟨D1, 0, none⟩)))) := Lib.hid (((Tch.refl _ _ _).set rfl S5.out.ty (by simp) _).set rfl (S5.out.store 0 _).ty (by simp) _)
      have SF := Lib.hid (ST5.out.keep TF.out (by decide))
      obtain ⟨W9, hW9⟩ : ∃ q, (uwz1.setCell ⟨b3, 0, none⟩ (.pointer (some ⟨D0, 0, none⟩))).setCell ⟨b3, 1, none⟩ (.pointer (some ⟨D1, 0, none⟩)) = q := ⟨_, rfl⟩
      rw [show uwz1.setCells b3 0 #[.pointer (some ⟨D0, 0, none⟩), .pointer (some ⟨D1, 0, none⟩)].toList = W9 from hW9]
      rw [hW9] at RF BF TF SF
      clear hW9
      have uTT7 : Hid (Tch (⟨fun k => k = b3⟩ : Zn) [54] wr W9) := Lib.hid (uTT4.out.trans (TF.out))
      have uhS8 : (fun w' : World => Tch (⟨fun k => k = b3⟩ : Zn) [54] wr w') W9 := uTT7.out
      refine HuK6.out _ _ uhS8 fun _ => ?_
      refine wpAnyH_done (by kernel_rfl) ?_ _
      go_wp2_with fail
      refine bodyPost_ret (results_t1c1 (g := b3) (t := 54) (fr := (0, 0)) rfl _ _ _ _ rfl RF.out Try.underlying54 rfl (by kernel_rfl)) rfl ?_
      exact ⟨P, D0, D1, rfl, SF.out, BF.out⟩
end Go.Proofs.Ytdjjihppaobbcaa

