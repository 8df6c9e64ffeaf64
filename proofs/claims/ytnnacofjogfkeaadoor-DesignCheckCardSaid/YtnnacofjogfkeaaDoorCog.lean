/- Contracts: the reference's Complete. WRITTEN BY gen_Cog.py. -/
import Derived.Test.YtnnacofjogfkeaaDoorCof
import Derived.Test.YtnnacofjogfkeaaDoorGP
import Derived.Test.YtnnacofjogfkeaaDoorCod
namespace Go.Proofs.YtnnacofjogfkeaaDoor
open Go Go.RowKit Pl Co
set_option linter.unusedVariables false
set_option linter.unusedSimpArgs false

/-- How many rows the design in block b has. -/
def rowsAt (w : World) (b : Nat) : Nat := match w.cell? ⟨b, 1, none⟩ with | some (.slice _ n _) => n | _ => 0
theorem rowsAt_of {w : World} {b : Nat} {t : TypeId} {x : Value} {A : Option Addr} {n c : Nat} (h : Row w b t #[x, .slice A n c]) : rowsAt w b = n := by
  have := h.cell 1
  unfold rowsAt
  rw [this]; rfl
theorem take_len {C : List (List Nat)} {m : Nat} (h : m ≤ C.length) : (C.take m).length = m := by rw [List.length_take]; omega
theorem take_up {C : List (List Nat)} {m : Nat} (h : m < C.length) : C.take (m + 1) = C.take m ++ [C[m]] := List.take_succ_eq_append_getElem h

set_option maxHeartbeats 4000000 in
set_option maxRecDepth 100000 in
theorem rcomplete_any (v k : Nat) (w : World) (h2 : 2 ≤ k) (hkv : k ≤ v) (h60 : v ≤ 60) (hc : ch v k ≤ 4096) : Calls Tryd.prog 14 #[.int .i64 (v : Int), .int .i64 (k : Int)] w (rdFx v (comb v v k) w) := by
  have hm2 := run_make_row' (P := Tryd.prog) 40 3 _ _ Tryd.underlying40 info_int rfl .i64 .i64 k (by omega) (by omega)
  have CL := comb_len v v k
  have c0 : 0 < (comb v v k).length := by rw [CL]; exact ch_pos hkv
  have c4 : (comb v v k).length ≤ 4096 := by rw [CL]; exact hc
  have FST := Lib.hid (comb_first hkv c0)
  have AT := Lib.hid fun m (h : m < (comb v v k).length) => comb_at h
  have SL := Lib.hid fun m (h : m < (comb v v k).length) => seq_last hkv h
  have SN := Lib.hid fun m p (h : m < (comb v v k).length) (hp : p < k) => seq_next hkv h hp
  clear CL
  revert c0 c4 FST AT SL SN
  generalize comb v v k = C
  intro c0 c4 FST AT SL SN
  obtain ⟨B, hB⟩ : ∃ B, w.heap.size = B := ⟨_, rfl⟩
  obtain ⟨w1, hW⟩ : ∃ w1, w.alloc (.cells #[.int .i64 0, .slice none 0 0] 25) = w1 := ⟨_, rfl⟩
  have b0 : Below w.heap.size w w1 := by rw [← hW]; exact (Below.refl _ _).alloc (Nat.le_refl _) _
  have r0 : Row w1 B 25 #[.int .i64 0, .slice none 0 0] := by rw [← hW, ← hB]; exact row_new' _ _ _
  have B1 := Lib.hid b0
  have R1 := Lib.hid r0
  have HW := Lib.hid hW
  have HE := Lib.hid hB
  obtain ⟨bd, hbd⟩ : ∃ bd, w1.heap.size = bd := ⟨_, rfl⟩
  obtain ⟨w2, hw2⟩ : ∃ w2, w1.alloc (.cells #[.int .i64 (v : Int), .slice none 0 0] 25) = w2 := ⟨_, rfl⟩
  have hb2 : Below w1.heap.size w1 w2 := by rw [← hw2]; exact (Below.refl _ _).alloc (Nat.le_refl _) _
  have RD : Row w2 bd 25 #[.int .i64 (v : Int), .slice none 0 0] := by rw [← hw2, ← hbd]; exact row_new' _ _ _
  have sz2 : w2.heap.size = bd + 1 := by rw [← hw2, World.size_alloc, hbd]
  obtain ⟨w3, hw3⟩ : ∃ w3, w2.alloc (.cells (madeCells #[.int .i64 0] k) 3) = w3 := ⟨_, rfl⟩
  have hb3 : Below w2.heap.size w2 w3 := by rw [← hw3]; exact (Below.refl _ _).alloc (Nat.le_refl _) _
  have RD3 := Lib.hid (RD.go hb3)
  have B3 := Lib.hid (hb2.trans (hb3.mono hb2.size))
  have Q3 : Hid (w3.rowIs (bd + 1) 3 k (fun j => .int .i64 (((if j < 0 then j else 0) : Nat) : Int))) := Lib.hid (by
    rw [← hw3, ← sz2]; exact (World.rowIs_made w2 _ k _).congr fun j _ => by rw [if_neg (Nat.not_lt_zero j)]; rfl)
  have SZ3 : Hid (w3.heap.size = bd + 2) := Lib.hid (by rw [← hw3, World.size_alloc, sz2])
  have HD := Lib.hid hbd
  have BD1 : Hid (w.heap.size + 1 = bd) := Lib.hid (by rw [← hbd, ← hW, World.size_alloc])
  have HW2 := Lib.hid hw2
  have HW3 := Lib.hid hw3
  clear b0 r0 hW hB hbd hw2 hb2 RD sz2 hw3 hb3 hc
  go_enter Tryd.func14, Tryd.ntmps14
  go_wp2_with fail
  rw [BD1.out, HE.out, HW.out, HW2.out, HW3.out]
  go_loopw [7] (fun i wr => ∃ n : Nat, n ≤ k ∧ i = .int .i64 (n : Int) ∧ Hid (Below w1.heap.size w1 wr ∧ Row wr bd 25 #[.int .i64 (v : Int), .slice none 0 0] ∧ wr.rowIs (bd + 1) 3 k (fun j => .int .i64 (((if j < n then j else 0) : Nat) : Int)) ∧ wr.heap.size = bd + 2)) (fun i _ => k - (intOf i).toNat)
  case atStart => exact ⟨0, Nat.zero_le _, rfl, Lib.hid ⟨B3.out, RD3.out, Q3.out, SZ3.out⟩⟩
  case round =>
    obtain ⟨n, hn, rfl, H⟩ := hrel
    by_cases hlt : n < k
    · have nI : (n : Int) < (k : Int) := by omega
      have cx := H.out.2.2.1.cell hlt
      have fx := H.out.2.2.1.frozen n
      have H1 := Lib.hid H.out.1
      have H2 := Lib.hid H.out.2.1
      have H3 := Lib.hid H.out.2.2.1
      have H4 := Lib.hid H.out.2.2.2
      clear H
      go_wp2_with fail
      go_roundw
      case rel =>
        refine ⟨n + 1, by omega, by go_num, Lib.hid ⟨H1.out.setCell (p := ⟨bd + 1, n, none⟩) (by have := HD.out; show _ ≤ bd + 1; omega) _, H2.out.oth (by omega) n _, (H3.out.set n _).congr fun j hj => ?_, by have := H4.out; simpa [World.setCell] using this⟩⟩
        by_cases e : j = n
        · subst e; rw [if_pos rfl, if_pos (by omega)]
        · rw [if_neg e]
          by_cases e2 : j < n
          · rw [if_pos e2, if_pos (by omega)]
          · rw [if_neg e2, if_neg (by omega)]
      case measure => simp [intOf]; omega
    · have nI : ¬ (n : Int) < (k : Int) := by omega
      have en : n = k := by omega
      have START : Hid (Below w1.heap.size w1 wr ∧ Row wr bd 25 #[.int .i64 (v : Int), .slice none 0 0] ∧ OwnR (bd + 2) wr (.slice none 0 0) (C.take 0) ∧ wr.rowIs (bd + 1) 3 k (fun j => .int .i64 ((C[0].getD j 0 : Nat) : Int)) ∧ bd + 2 ≤ wr.heap.size) := Lib.hid ⟨H.out.1, H.out.2.1, OwnR.nil_ _ _, H.out.2.2.1.congr fun j hj => by rw [en, if_pos hj, FST.out j hj], Nat.le_of_eq H.out.2.2.2.symm⟩
      clear H en Q3 RD3 B3 SZ3 FST
      go_wp2_with fail
      go_loopw [8, 9] (fun _ _ wr => ∃ (m : Nat) (hm : m < C.length), ∃ lv, Hid (Below w1.heap.size w1 wr ∧ Row wr bd 25 #[.int .i64 (v : Int), lv] ∧ OwnR (bd + 2) wr lv (C.take m) ∧ wr.rowIs (bd + 1) 3 k (fun j => .int .i64 ((C[m].getD j 0 : Nat) : Int)) ∧ bd + 2 ≤ wr.heap.size)) (fun _ _ wr => C.length - rowsAt wr bd)
      case atStart => exact ⟨0, c0, _, START⟩
      case round =>
        obtain ⟨m, hm, lv, H⟩ := hrel
        obtain ⟨A6, c6, rfl⟩ := H.out.2.2.1.form
        rw [take_len (by omega)] at H
        have RA : rowsAt wr bd = m := rowsAt_of H.out.2.1
        rw [RA]
        obtain ⟨wo, rfl⟩ : ∃ wo, wo = wr := ⟨_, rfl⟩
        obtain ⟨l1, l2, l3⟩ := AT.out m hm
        have TU := Lib.hid (take_up hm)
        have TL := Lib.hid (take_len (C := C) (m := m) (by omega))
        have HB := Lib.hid H.out.1
        have HR := Lib.hid H.out.2.1
        have HO := Lib.hid H.out.2.2.1
        have HQ := Lib.hid H.out.2.2.2.1
        have HS := Lib.hid H.out.2.2.2.2
        have SL1 := Lib.hid (SL.out m hm)
        have SN1 := Lib.hid fun p (hp : p < k) => SN.out m p hm hp
        have LB := Lib.hid (show ∀ j, j < k → C[m].getD j 0 < 60 from fun j hj => by rw [getD_at (by omega)]; have := l3 _ (List.getElem_mem (show j < C[m].length by omega)); omega)
        have L1 := Lib.hid l1
        clear H RA l1 l2 l3 START
        revert TU HQ SL1 SN1 LB L1
        generalize C[m] = L
        intro TU HQ SL1 SN1 LB L1
        go_wp2_with fail
        have HX9 : Hid (bd + 2 ≤ w1.heap.size + 2) := Lib.hid (by have := HD.out; omega)
        have HZ0 : Hid (wo.heap.size ≤ wo.heap.size) := Lib.hid (Nat.le_refl _)
        refine wp_region_held (P := Tryd.prog) (S := (fun w' : World => True)) rfl ?_
        change wpAnyH _ _ _ _ _ _ _ _ wo.drew
        have zhz2 : Below wo.heap.size wo wo.drew := (Below.refl wo.heap.size wo).drew
        generalize wo.drew = zwz1 at zhz2 ⊢
        have zhq3 : Below wo.heap.size wo zwz1 := zhz2
        have zW_4 := Lib.hid (Row.go HR.out zhq3)
        have zR_5 := Lib.hid (OwnR.to HO.out zhq3)
        have zQ_6 := Lib.hid (rowTo HQ.out zhq3)
        have zZ_7 := Lib.hid (Nat.le_trans HZ0.out (Below.size zhq3))
        have zHB_8 : Hid (Below w1.heap.size w1 zwz1) := Lib.hid (HB.out.trans (zhq3.mono HB.out.size))
        clear zhq3
        clear zhz2
        have zhS9 : (fun w' : World => True) zwz1 := trivial
        refine takeD (i := 0) (v := .pointer (some ⟨bd, 1, none⟩)) (some 23) rfl rfl (by kernel_rfl) (by kernel_rfl) (by kernel_rfl) (fun _ _ _ h => h) (Or.inl ⟨by rfl, by rintro w' -; go_simp⟩) zhS9 ?_
        simp only [Act.put, List.setIfInBounds_toArray, List.set_cons_zero, List.set_cons_succ]
        refine takeD (i := 3) (v := .slice (some ⟨bd + 1, 0, none⟩) k k) (some 26) rfl rfl (by kernel_rfl) (by kernel_rfl) (by kernel_rfl) (fun _ _ _ h => h) (Or.inl ⟨by rfl, by rintro w' -; go_simp⟩) zhS9 ?_
        simp only [Act.put, List.setIfInBounds_toArray, List.set_cons_zero, List.set_cons_succ]
        refine wpAnyH_ready (rs := [1, 2]) (by kernel_rfl) (by simp) ?_
        refine AllReadyH.cons rfl (fun K hK => ?_) (AllReadyH.cons rfl (fun K hK => ?_) AllReadyH.nil)
        · have HzK10 := Lib.hid hK
          clear hK
          rw [if_pos (by rfl)]
          have cc := (show _ = some _ from zW_4.out.cell 1)
          go_simp
          clear cc
          skip
          refine HzK10.out _ _ zhS9 fun _ => ?_
          try simp only [Act.put, List.setIfInBounds_toArray, List.set_cons_zero, List.set_cons_succ]
          refine wpAnyH_ready (rs := [2]) (by kernel_rfl) (by simp) ?_
          refine AllReadyH.cons rfl (fun zK11 hzK11 => ?_) AllReadyH.nil
          have HzK11 := Lib.hid hzK11
          clear hzK11
          rw [if_pos (by rfl)]
          refine wp_build_0 rfl ?_
          obtain ⟨e0, he0⟩ : ∃ e, zwz1.heap.size = e := ⟨_, rfl⟩
          have HX0 : Hid (Below zwz1.heap.size zwz1 (zwz1.alloc (.cells #[] 3))) := Lib.hid ((Below.refl _ _).alloc (Nat.le_refl _) _)
          have RE := Lib.hid (row_new' zwz1 #[] 3)
          rw [he0] at RE
          have HE0 := Lib.hid he0
          obtain ⟨zx12, hxb⟩ : ∃ q, zwz1.alloc (.cells #[] 3) = q := ⟨_, rfl⟩
          rw [hxb] at HX0 RE
          rw [he0, hxb]
          have zhq13 : Below zwz1.heap.size zwz1 zx12 := HX0.out
          have zW_14 := Lib.hid (Row.go zW_4.out zhq13)
          have zR_15 := Lib.hid (OwnR.to zR_5.out zhq13)
          have zQ_16 := Lib.hid (rowTo zQ_6.out zhq13)
          have zZ_17 := Lib.hid (Nat.le_trans zZ_7.out (Below.size zhq13))
          have zHB_18 : Hid (Below w1.heap.size w1 zx12) := Lib.hid (zHB_8.out.trans (zhq13.mono zHB_8.out.size))
          clear zhq13
          clear hxb he0
          have zhS19 : (fun w' : World => True) zx12 := trivial
          refine HzK11.out _ _ zhS19 fun _ => ?_
          try simp only [Act.put, List.setIfInBounds_toArray, List.set_cons_zero, List.set_cons_succ]
          refine wpAnyH_ready (rs := [4]) (by kernel_rfl) (by simp) ?_
          refine AllReadyH.cons rfl (fun zK20 hzK20 => ?_) AllReadyH.nil
          have HzK20 := Lib.hid hzK20
          clear hzK20
          rw [if_pos (by rfl)]
          refine wp_copy_n (.tmp 25) (.tmp 26) rfl e0 ⟨bd + 1, 0, none⟩ k k L rfl RE.out rfl L1.out (by omega) (by omega) (fun j hj => by rw [Go.WideShapes.add_plain]; show _ = some _; rw [show (0 : Nat) + j = j from Nat.zero_add j]; exact zQ_16.out.cell hj) e0 (Nat.le_refl _) ?_
          intro gr cr zx21 ho hg hat
          have hb9 : Below zwz1.heap.size zwz1 zx21 := HX0.out.grown hg HX0.out.size (fun k e => by cases e; exact Nat.le_of_eq HE0.out)
          have zhq22 : Below zwz1.heap.size zwz1 zx21 := hb9
          have zW_23 := Lib.hid (Row.go zW_4.out zhq22)
          have zR_24 := Lib.hid (OwnR.to zR_5.out zhq22)
          have zQ_25 := Lib.hid (rowTo zQ_6.out zhq22)
          have zZ_26 := Lib.hid (Nat.le_trans zZ_7.out (Below.size zhq22))
          have zHB_27 : Hid (Below w1.heap.size w1 zx21) := Lib.hid (zHB_8.out.trans (zhq22.mono zHB_8.out.size))
          clear zhq22
          have NR := Lib.hid ho
          clear ho hg hat hb9
          have zhS28 : (fun w' : World => True) zx21 := trivial
          refine HzK20.out _ _ zhS28 fun _ => ?_
          try simp only [Act.put, List.setIfInBounds_toArray, List.set_cons_zero, List.set_cons_succ]
          refine wpAnyH_ready (rs := [5]) (by kernel_rfl) (by simp) ?_
          refine AllReadyH.cons rfl (fun zK29 hzK29 => ?_) AllReadyH.nil
          have HzK29 := Lib.hid hzK29
          clear hzK29
          rw [if_pos (by rfl)]
          refine wp_build_s _ rfl (.slice (some ⟨gr, 0, none⟩) k cr) (by rfl) rfl ?_
          obtain ⟨zx30, hxb⟩ : ∃ q, zx21.alloc (.cells #[.slice (some ⟨gr, 0, none⟩) k cr] 40) = q := ⟨_, rfl⟩
          have hbx : Below zx21.heap.size zx21 zx30 := by rw [← hxb]; exact (Below.refl _ _).alloc (Nat.le_refl _) _
          have LIT : Hid (zx30.cell? ⟨zx21.heap.size, 0, none⟩ = some (.slice (some ⟨gr, 0, none⟩) k cr)) := Lib.hid (by rw [← hxb]; exact (row_new' _ _ _).cell 0)
          obtain ⟨lb, hlb⟩ : ∃ q, zx21.heap.size = q := ⟨_, rfl⟩
          rw [hlb] at LIT
          rw [hxb, hlb]
          have zhq31 : Below zx21.heap.size zx21 zx30 := hbx
          have zW_32 := Lib.hid (Row.go zW_23.out zhq31)
          have zR_33 := Lib.hid (OwnR.to zR_24.out zhq31)
          have zQ_34 := Lib.hid (rowTo zQ_25.out zhq31)
          have zZ_35 := Lib.hid (Nat.le_trans zZ_26.out (Below.size zhq31))
          have zN_36 := Lib.hid (OwnL.gto NR.out zhq31)
          have zHB_37 : Hid (Below w1.heap.size w1 zx30) := Lib.hid (zHB_27.out.trans (zhq31.mono zHB_27.out.size))
          clear zhq31
          clear hbx hxb hlb
          have zhS38 : (fun w' : World => True) zx30 := trivial
          refine HzK29.out _ _ zhS38 fun _ => ?_
          try simp only [Act.put, List.setIfInBounds_toArray, List.set_cons_zero, List.set_cons_succ]
          refine wpAnyH_ready (rs := [6]) (by kernel_rfl) (by simp) ?_
          refine AllReadyH.cons rfl (fun zK39 hzK39 => ?_) AllReadyH.nil
          have HzK39 := Lib.hid hzK39
          clear hzK39
          rw [if_pos (by rfl)]
          refine wp_push_R (K := bd + 2) (.tmp 24) (.tmp 28) rfl (.slice A6 m c6) (C.take m) m lb (.slice (some ⟨gr, 0, none⟩) k cr) L e0 rfl zR_33.out TL.out rfl LIT.out zN_36.out (by have := HE0.out; have := HS.out; have := zZ_7.out; omega) (fun k e => by have := (HO.out.own k e).2; have := HE0.out; have := zZ_7.out; omega) (by omega) (by have := zZ_35.out; have := HS.out; omega) ?_
          intro gs cq zx40 ho hg hat
          have ZB2 : Hid (Below w1.heap.size w1 zx40) := Lib.hid (zHB_37.out.grown hg zHB_37.out.size (fun k e => by have h1 := (zR_33.out.own k e).1; have h2 := HD.out; omega))
          have ZW2 := Lib.hid (zW_32.out.gr hg (fun e => by have := (zR_33.out.own _ e.symm).1; omega))
          have ZQ2 : Hid (zx40.rowIs (bd + 1) 3 k _) := Lib.hid (zQ_34.out.of_block (hg.block _ zQ_34.out.lt (fun e => by have := (zR_33.out.own _ e.symm).1; omega)))
          have ZR2 := Lib.hid ho
          have ZS2 : Hid (bd + 2 ≤ zx40.heap.size) := Lib.hid (by have := hg.size; have := zZ_35.out; have := HS.out; omega)
          clear ho hg hat
          have zhS41 : (fun w' : World => True) zx40 := trivial
          refine HzK39.out _ _ zhS41 fun _ => ?_
          try simp only [Act.put, List.setIfInBounds_toArray, List.set_cons_zero, List.set_cons_succ]
          refine takeD (i := 7) (v := .pointer (some ⟨bd, 1, none⟩)) (some 30) rfl rfl (by kernel_rfl) (by kernel_rfl) (by kernel_rfl) (fun _ _ _ h => h) (Or.inl ⟨by rfl, by rintro w' -; go_simp⟩) zhS41 ?_
          simp only [Act.put, List.setIfInBounds_toArray, List.set_cons_zero, List.set_cons_succ]
          refine wpAnyH_ready (rs := [8]) (by kernel_rfl) (by simp) ?_
          refine AllReadyH.cons rfl (fun zK42 hzK42 => ?_) AllReadyH.nil
          have HzK42 := Lib.hid hzK42
          clear hzK42
          rw [if_pos (by rfl)]
          have cc := (show _ = some _ from ZW2.out.cell 1)
          have ff := ZW2.out.frozen 1
          go_simp
          clear cc ff
          have ZB3 := Lib.hid (ZB2.out.setCell (p := ⟨bd, 1, none⟩) (Nat.le_of_eq HD.out) (.slice (some ⟨gs, 0, none⟩) (m + 1) cq))
          have ZW3 := Lib.hid (ZW2.out.store 1 (.slice (some ⟨gs, 0, none⟩) (m + 1) cq))
          have ZR3 := Lib.hid (ZR2.out.set (g := bd) (by omega) 1 (.slice (some ⟨gs, 0, none⟩) (m + 1) cq))
          have ZQ3 := Lib.hid (World.rowIs.setOther ZQ2.out (a := ⟨bd, 1, none⟩) (by show bd + 1 ≠ bd; omega) (.slice (some ⟨gs, 0, none⟩) (m + 1) cq))
          have ZS3 : Hid (bd + 2 ≤ (zx40.setCell ⟨bd, 1, none⟩ (.slice (some ⟨gs, 0, none⟩) (m + 1) cq)).heap.size) := Lib.hid (by have := ZS2.out; simpa [World.setCell] using this)
          obtain ⟨W9, hW9⟩ : ∃ W9, zx40.setCell ⟨bd, 1, none⟩ (.slice (some ⟨gs, 0, none⟩) (m + 1) cq) = W9 := ⟨_, rfl⟩
          rw [hW9] at ZB3 ZW3 ZR3 ZQ3 ZS3 ⊢
          clear hW9
          have zhS43 : (fun w' : World => True) W9 := trivial
          refine HzK42.out _ _ zhS43 fun _ => ?_
          refine wpAnyH_done (by kernel_rfl) ?_ _
          go_wp2_with fail
          obtain ⟨x, hx⟩ : ∃ x, v - k = x := ⟨_, rfl⟩
          have ev : (v : Int) - (k : Int) = (x : Int) := by omega
          have VX := Lib.hid hx
          have x60 : x ≤ 60 := by omega
          obtain ⟨nv, hnv⟩ : ∃ nv, Value.slice (some ⟨gs, 0, none⟩) (m + 1) cq = nv := ⟨_, rfl⟩
          have ZWb : Hid (Row W9 bd 25 #[.int .i64 (v : Int), .slice (some ⟨gs, 0, none⟩) (m + 1) cq]) := ZW3
          have ZR4 : Hid (OwnR (bd + 2) W9 (.slice (some ⟨gs, 0, none⟩) (m + 1) cq) (C.take (m + 1))) := Lib.hid (by rw [TU.out]; exact ZR3.out)
          clear hx hnv nv
          go_loopw [8] (fun i wr => wr = W9 ∧ ∃ t : Nat, t ≤ k ∧ i = .int .i64 ((t : Int) - 1) ∧ Hid (∀ j, t ≤ j → j < k → L.getD j 0 = v - k + j)) (fun i _ => (intOf i + 1).toNat)
          case atStart => exact ⟨rfl, k, Nat.le_refl _, rfl, Lib.hid fun j h1 h2 => absurd h2 (by omega)⟩
          case round =>
            obtain ⟨rfl, t, ht, rfl, T⟩ := hrel
            by_cases t0 : t = 0
            · subst t0
              have END := SL1.out (fun j hj => T.out j (Nat.zero_le _) hj)
              have d0 := ZWb.out.cell 0
              have d1 := ZWb.out.cell 1
              have R9 := Lib.hid (R1.out.go ZB3.out)
              have y0 := R9.out.cell 0
              have y1 := R9.out.cell 1
              have f0 := R9.out.frozen 0
              have f1 := R9.out.frozen 1
              have BK : Hid (B < bd + 2) := Lib.hid (by have := R1.out.lt; have := HD.out; omega)
              have R8 := Lib.hid ((R9.out.store 0 (.int .i64 (v : Int))).store 1 (.slice (some ⟨gs, 0, none⟩) (m + 1) cq))
              have HB8 := Lib.hid (B1.out.trans (ZB3.out.mono B1.out.size))
              have HB9 := Lib.hid ((HB8.out.setCell (p := ⟨B, 0, none⟩) (Nat.le_of_eq HE.out) (.int .i64 (v : Int))).setCell (p := ⟨B, 1, none⟩) (Nat.le_of_eq HE.out) (.slice (some ⟨gs, 0, none⟩) (m + 1) cq))
              have GS := Lib.hid (((ZR4.out.set BK.out 0 (.int .i64 (v : Int))).set BK.out 1 (.slice (some ⟨gs, 0, none⟩) (m + 1) cq)).fx.low (K' := w.heap.size) (by have := HE.out; have := BK.out; omega))
              have CE : Hid (C.take (m + 1) = C) := Lib.hid (by rw [END]; exact List.take_length)
              clear END T
              go_wp2_with fail
              refine bodyPost_ret (results_cell_row (g := B) (t := 25) (fr := (0, 0)) rfl _ _ _ _ rfl R8.out Tryd.underlying25 rfl (by kernel_rfl)) rfl ?_
              refine ⟨_, rfl, ?_, HB9.out⟩
              have := GS.out
              rw [CE.out] at this
              exact this
            · obtain ⟨p, rfl⟩ : ∃ p, t = p + 1 := ⟨t - 1, by omega⟩
              rw [show (((p + 1 : Nat) : Int) - 1) = (p : Int) by omega]
              have pk : p < k := by omega
              have pI : (p : Int) < (k : Int) := by omega
              have cp := ZQ3.out.cell pk
              have fp := ZQ3.out.frozen p
              have LP := LB.out p pk
              have SNp := Lib.hid (SN1.out p pk)
              obtain ⟨y, hy⟩ : ∃ y, L.getD p 0 = y := ⟨_, rfl⟩
              simp only [hy] at cp LP SNp
              obtain ⟨s, hs⟩ : ∃ s, x + p = s := ⟨_, rfl⟩
              have es : (x : Int) + (p : Int) = (s : Int) := by omega
              by_cases ys : y = s
              · have yB : ((y : Int) == (s : Int)) = true := by rw [beq_iff_eq]; omega
                have T2 : Hid (∀ j, p ≤ j → j < k → L.getD j 0 = v - k + j) := Lib.hid fun j h1 h2 => by
                  rcases Nat.eq_or_lt_of_le h1 with h | h
                  · rw [← h, hy, VX.out]; omega
                  · exact T.out j h h2
                clear ys T hy hs SNp
                go_wp2_with fail
                go_roundw
                case rel => exact ⟨trivial, p, by omega, rfl, T2⟩
                case measure => simp [intOf]
              · have yB : ((y : Int) == (s : Int)) = false := by rw [beq_eq_false_iff_ne]; omega
                obtain ⟨hm', NX⟩ := SNp.out (by rw [VX.out]; omega) (fun j h1 h2 => T.out j (by omega) h2)
                have NXH := Lib.hid NX
                have YB := Lib.hid (ZB3.out.setCell (p := ⟨bd + 1, p, none⟩) (by have := HD.out; show _ ≤ bd + 1; omega) (.int .i64 ((y : Int) + 1)))
                have YW := Lib.hid (ZWb.out.oth (k := bd + 1) (by omega) p (.int .i64 ((y : Int) + 1)))
                have YR := Lib.hid (ZR4.out.set (g := bd + 1) (by omega) p (.int .i64 ((y : Int) + 1)))
                have YQ : Hid ((wr.setCell ⟨bd + 1, p, none⟩ (.int .i64 ((y : Int) + 1))).rowIs (bd + 1) 3 k (fun j => .int .i64 (((if j < p then L.getD j 0 else if j < p + 1 then y + 1 + (j - p) else L.getD j 0) : Nat) : Int))) := Lib.hid ((ZQ3.out.set p _).congr fun j hj => by
                  by_cases e : j = p
                  · subst e; rw [if_pos rfl, if_neg (by omega), if_pos (by omega)]; go_num
                  · rw [if_neg e]
                    by_cases e2 : j < p
                    · rw [if_pos e2]
                    · rw [if_neg e2, if_neg (by omega)])
                have YS : Hid (bd + 2 ≤ (wr.setCell ⟨bd + 1, p, none⟩ (.int .i64 ((y : Int) + 1))).heap.size) := Lib.hid (by have := ZS3.out; simpa [World.setCell] using this)
                clear ys T hy hs NX SNp
                go_wp2_with fail
                clear cp fp
                go_loopw [9] (fun i wq => ∃ s : Nat, p ≤ s ∧ s + 1 ≤ k ∧ i = .int .i64 ((s : Int) + 1) ∧ Hid (Below w1.heap.size w1 wq ∧ Row wq bd 25 #[.int .i64 (v : Int), .slice (some ⟨gs, 0, none⟩) (m + 1) cq] ∧ OwnR (bd + 2) wq (.slice (some ⟨gs, 0, none⟩) (m + 1) cq) (C.take (m + 1)) ∧ wq.rowIs (bd + 1) 3 k (fun j => .int .i64 (((if j < p then L.getD j 0 else if j < s + 1 then y + 1 + (j - p) else L.getD j 0) : Nat) : Int)) ∧ bd + 2 ≤ wq.heap.size)) (fun i _ => k - (intOf i).toNat)
                case atStart => exact ⟨p, Nat.le_refl _, pk, rfl, Lib.hid ⟨YB.out, YW.out, YR.out, YQ.out, YS.out⟩⟩
                case round =>
                  obtain ⟨r, hr1, hr2, rfl, J⟩ := hrel
                  by_cases hr : r + 1 < k
                  · have rI : (r : Int) + 1 < (k : Int) := by omega
                    have rJ : (r : Int) < (k : Int) := by omega
                    have c1 := J.out.2.2.2.1.cell (show r < k by omega)
                    simp only [if_neg (show ¬ r < p by omega), if_pos (Nat.lt_succ_self r)] at c1
                    obtain ⟨z, hz⟩ : ∃ z, y + 1 + (r - p) = z := ⟨_, rfl⟩
                    rw [hz] at c1
                    have c2 := J.out.2.2.2.1.cell hr
                    have f2 := J.out.2.2.2.1.frozen (r + 1)
                    have z200 : z ≤ 200 := by omega
                    have J1 := Lib.hid J.out.1
                    have J2 := Lib.hid J.out.2.1
                    have J3 := Lib.hid J.out.2.2.1
                    have J4 := Lib.hid J.out.2.2.2.1
                    have J5 := Lib.hid J.out.2.2.2.2
                    have HZ := Lib.hid hz
                    clear J hz
                    go_wp2_with fail
                    go_roundw
                    case rel =>
                      refine ⟨r + 1, by omega, by omega, by go_num, Lib.hid ⟨J1.out.setCell (p := ⟨bd + 1, r + 1, none⟩) (by have := HD.out; show _ ≤ bd + 1; omega) _, J2.out.oth (k := bd + 1) (by omega) (r + 1) _, J3.out.set (g := bd + 1) (by omega) (r + 1) _, (J4.out.set (r + 1) _).congr fun j hj => ?_, by have := J5.out; simpa [World.setCell] using this⟩⟩
                      have HZ' := HZ.out
                      by_cases e : j = r + 1
                      · subst e; rw [if_pos rfl, if_neg (by omega), if_pos (by omega)]; show Value.int .i64 _ = Value.int .i64 _; congr 1; omega
                      · rw [if_neg e]
                        by_cases e2 : j < p
                        · rw [if_pos e2, if_pos e2]
                        · rw [if_neg e2, if_neg e2]
                          by_cases e3 : j < r + 1
                          · rw [if_pos e3, if_pos (by omega)]
                          · rw [if_neg e3, if_neg (by omega)]
                    case measure => simp [intOf]; omega
                  · have er : r + 1 = k := by omega
                    have rI : ¬ ((r : Int) + 1 < (k : Int)) := by omega
                    have RA2 := Lib.hid (rowsAt_of J.out.2.1)
                    have NEW : Hid (Below w1.heap.size w1 wr ∧ Row wr bd 25 #[.int .i64 (v : Int), .slice (some ⟨gs, 0, none⟩) (m + 1) cq] ∧ OwnR (bd + 2) wr (.slice (some ⟨gs, 0, none⟩) (m + 1) cq) (C.take (m + 1)) ∧ wr.rowIs (bd + 1) 3 k (fun j => .int .i64 ((C[m + 1].getD j 0 : Nat) : Int)) ∧ bd + 2 ≤ wr.heap.size) := Lib.hid ⟨J.out.1, J.out.2.1, J.out.2.2.1, J.out.2.2.2.1.congr fun j hj => by
                      rw [NXH.out j hj]
                      by_cases e2 : j < p
                      · rw [if_pos e2, if_pos e2]
                      · rw [if_neg e2, if_neg e2, if_pos (by omega)], J.out.2.2.2.2⟩
                    clear J er
                    go_wp2_with fail
                    go_roundw
                    case rel => exact ⟨m + 1, hm', _, NEW⟩
                    case measure => rw [RA2.out]; omega
          
        · have HzK10 := Lib.hid hK
          clear hK
          rw [if_pos (by rfl)]
          refine wp_build_0 rfl ?_
          obtain ⟨e0, he0⟩ : ∃ e, zwz1.heap.size = e := ⟨_, rfl⟩
          have HX0 : Hid (Below zwz1.heap.size zwz1 (zwz1.alloc (.cells #[] 3))) := Lib.hid ((Below.refl _ _).alloc (Nat.le_refl _) _)
          have RE := Lib.hid (row_new' zwz1 #[] 3)
          rw [he0] at RE
          have HE0 := Lib.hid he0
          obtain ⟨zx11, hxb⟩ : ∃ q, zwz1.alloc (.cells #[] 3) = q := ⟨_, rfl⟩
          rw [hxb] at HX0 RE
          rw [he0, hxb]
          have zhq12 : Below zwz1.heap.size zwz1 zx11 := HX0.out
          have zW_13 := Lib.hid (Row.go zW_4.out zhq12)
          have zR_14 := Lib.hid (OwnR.to zR_5.out zhq12)
          have zQ_15 := Lib.hid (rowTo zQ_6.out zhq12)
          have zZ_16 := Lib.hid (Nat.le_trans zZ_7.out (Below.size zhq12))
          have zHB_17 : Hid (Below w1.heap.size w1 zx11) := Lib.hid (zHB_8.out.trans (zhq12.mono zHB_8.out.size))
          clear zhq12
          clear hxb he0
          have zhS18 : (fun w' : World => True) zx11 := trivial
          refine HzK10.out _ _ zhS18 fun _ => ?_
          try simp only [Act.put, List.setIfInBounds_toArray, List.set_cons_zero, List.set_cons_succ]
          refine wpAnyH_ready (rs := [1, 4]) (by kernel_rfl) (by simp) ?_
          refine AllReadyH.cons rfl (fun K hK => ?_) (AllReadyH.cons rfl (fun K hK => ?_) AllReadyH.nil)
          · have HzK19 := Lib.hid hK
            clear hK
            rw [if_pos (by rfl)]
            have cc := (show _ = some _ from zW_13.out.cell 1)
            go_simp
            clear cc
            skip
            refine HzK19.out _ _ zhS18 fun _ => ?_
            try simp only [Act.put, List.setIfInBounds_toArray, List.set_cons_zero, List.set_cons_succ]
            refine wpAnyH_ready (rs := [4]) (by kernel_rfl) (by simp) ?_
            refine AllReadyH.cons rfl (fun zK20 hzK20 => ?_) AllReadyH.nil
            have HzK20 := Lib.hid hzK20
            clear hzK20
            rw [if_pos (by rfl)]
            refine wp_copy_n (.tmp 25) (.tmp 26) rfl e0 ⟨bd + 1, 0, none⟩ k k L rfl RE.out rfl L1.out (by omega) (by omega) (fun j hj => by rw [Go.WideShapes.add_plain]; show _ = some _; rw [show (0 : Nat) + j = j from Nat.zero_add j]; exact zQ_15.out.cell hj) e0 (Nat.le_refl _) ?_
            intro gr cr zx21 ho hg hat
            have hb9 : Below zwz1.heap.size zwz1 zx21 := HX0.out.grown hg HX0.out.size (fun k e => by cases e; exact Nat.le_of_eq HE0.out)
            have zhq22 : Below zwz1.heap.size zwz1 zx21 := hb9
            have zW_23 := Lib.hid (Row.go zW_4.out zhq22)
            have zR_24 := Lib.hid (OwnR.to zR_5.out zhq22)
            have zQ_25 := Lib.hid (rowTo zQ_6.out zhq22)
            have zZ_26 := Lib.hid (Nat.le_trans zZ_7.out (Below.size zhq22))
            have zHB_27 : Hid (Below w1.heap.size w1 zx21) := Lib.hid (zHB_8.out.trans (zhq22.mono zHB_8.out.size))
            clear zhq22
            have NR := Lib.hid ho
            clear ho hg hat hb9
            have zhS28 : (fun w' : World => True) zx21 := trivial
            refine HzK20.out _ _ zhS28 fun _ => ?_
            try simp only [Act.put, List.setIfInBounds_toArray, List.set_cons_zero, List.set_cons_succ]
            refine wpAnyH_ready (rs := [5]) (by kernel_rfl) (by simp) ?_
            refine AllReadyH.cons rfl (fun zK29 hzK29 => ?_) AllReadyH.nil
            have HzK29 := Lib.hid hzK29
            clear hzK29
            rw [if_pos (by rfl)]
            refine wp_build_s _ rfl (.slice (some ⟨gr, 0, none⟩) k cr) (by rfl) rfl ?_
            obtain ⟨zx30, hxb⟩ : ∃ q, zx21.alloc (.cells #[.slice (some ⟨gr, 0, none⟩) k cr] 40) = q := ⟨_, rfl⟩
            have hbx : Below zx21.heap.size zx21 zx30 := by rw [← hxb]; exact (Below.refl _ _).alloc (Nat.le_refl _) _
            have LIT : Hid (zx30.cell? ⟨zx21.heap.size, 0, none⟩ = some (.slice (some ⟨gr, 0, none⟩) k cr)) := Lib.hid (by rw [← hxb]; exact (row_new' _ _ _).cell 0)
            obtain ⟨lb, hlb⟩ : ∃ q, zx21.heap.size = q := ⟨_, rfl⟩
            rw [hlb] at LIT
            rw [hxb, hlb]
            have zhq31 : Below zx21.heap.size zx21 zx30 := hbx
            have zW_32 := Lib.hid (Row.go zW_23.out zhq31)
            have zR_33 := Lib.hid (OwnR.to zR_24.out zhq31)
            have zQ_34 := Lib.hid (rowTo zQ_25.out zhq31)
            have zZ_35 := Lib.hid (Nat.le_trans zZ_26.out (Below.size zhq31))
            have zN_36 := Lib.hid (OwnL.gto NR.out zhq31)
            have zHB_37 : Hid (Below w1.heap.size w1 zx30) := Lib.hid (zHB_27.out.trans (zhq31.mono zHB_27.out.size))
            clear zhq31
            clear hbx hxb hlb
            have zhS38 : (fun w' : World => True) zx30 := trivial
            refine HzK29.out _ _ zhS38 fun _ => ?_
            try simp only [Act.put, List.setIfInBounds_toArray, List.set_cons_zero, List.set_cons_succ]
            refine wpAnyH_ready (rs := [6]) (by kernel_rfl) (by simp) ?_
            refine AllReadyH.cons rfl (fun zK39 hzK39 => ?_) AllReadyH.nil
            have HzK39 := Lib.hid hzK39
            clear hzK39
            rw [if_pos (by rfl)]
            refine wp_push_R (K := bd + 2) (.tmp 24) (.tmp 28) rfl (.slice A6 m c6) (C.take m) m lb (.slice (some ⟨gr, 0, none⟩) k cr) L e0 rfl zR_33.out TL.out rfl LIT.out zN_36.out (by have := HE0.out; have := HS.out; have := zZ_7.out; omega) (fun k e => by have := (HO.out.own k e).2; have := HE0.out; have := zZ_7.out; omega) (by omega) (by have := zZ_35.out; have := HS.out; omega) ?_
            intro gs cq zx40 ho hg hat
            have ZB2 : Hid (Below w1.heap.size w1 zx40) := Lib.hid (zHB_37.out.grown hg zHB_37.out.size (fun k e => by have h1 := (zR_33.out.own k e).1; have h2 := HD.out; omega))
            have ZW2 := Lib.hid (zW_32.out.gr hg (fun e => by have := (zR_33.out.own _ e.symm).1; omega))
            have ZQ2 : Hid (zx40.rowIs (bd + 1) 3 k _) := Lib.hid (zQ_34.out.of_block (hg.block _ zQ_34.out.lt (fun e => by have := (zR_33.out.own _ e.symm).1; omega)))
            have ZR2 := Lib.hid ho
            have ZS2 : Hid (bd + 2 ≤ zx40.heap.size) := Lib.hid (by have := hg.size; have := zZ_35.out; have := HS.out; omega)
            clear ho hg hat
            have zhS41 : (fun w' : World => True) zx40 := trivial
            refine HzK39.out _ _ zhS41 fun _ => ?_
            try simp only [Act.put, List.setIfInBounds_toArray, List.set_cons_zero, List.set_cons_succ]
            refine takeD (i := 7) (v := .pointer (some ⟨bd, 1, none⟩)) (some 30) rfl rfl (by kernel_rfl) (by kernel_rfl) (by kernel_rfl) (fun _ _ _ h => h) (Or.inl ⟨by rfl, by rintro w' -; go_simp⟩) zhS41 ?_
            simp only [Act.put, List.setIfInBounds_toArray, List.set_cons_zero, List.set_cons_succ]
            refine wpAnyH_ready (rs := [8]) (by kernel_rfl) (by simp) ?_
            refine AllReadyH.cons rfl (fun zK42 hzK42 => ?_) AllReadyH.nil
            have HzK42 := Lib.hid hzK42
            clear hzK42
            rw [if_pos (by rfl)]
            have cc := (show _ = some _ from ZW2.out.cell 1)
            have ff := ZW2.out.frozen 1
            go_simp
            clear cc ff
            have ZB3 := Lib.hid (ZB2.out.setCell (p := ⟨bd, 1, none⟩) (Nat.le_of_eq HD.out) (.slice (some ⟨gs, 0, none⟩) (m + 1) cq))
            have ZW3 := Lib.hid (ZW2.out.store 1 (.slice (some ⟨gs, 0, none⟩) (m + 1) cq))
            have ZR3 := Lib.hid (ZR2.out.set (g := bd) (by omega) 1 (.slice (some ⟨gs, 0, none⟩) (m + 1) cq))
            have ZQ3 := Lib.hid (World.rowIs.setOther ZQ2.out (a := ⟨bd, 1, none⟩) (by show bd + 1 ≠ bd; omega) (.slice (some ⟨gs, 0, none⟩) (m + 1) cq))
            have ZS3 : Hid (bd + 2 ≤ (zx40.setCell ⟨bd, 1, none⟩ (.slice (some ⟨gs, 0, none⟩) (m + 1) cq)).heap.size) := Lib.hid (by have := ZS2.out; simpa [World.setCell] using this)
            obtain ⟨W9, hW9⟩ : ∃ W9, zx40.setCell ⟨bd, 1, none⟩ (.slice (some ⟨gs, 0, none⟩) (m + 1) cq) = W9 := ⟨_, rfl⟩
            rw [hW9] at ZB3 ZW3 ZR3 ZQ3 ZS3 ⊢
            clear hW9
            have zhS43 : (fun w' : World => True) W9 := trivial
            refine HzK42.out _ _ zhS43 fun _ => ?_
            refine wpAnyH_done (by kernel_rfl) ?_ _
            go_wp2_with fail
            obtain ⟨x, hx⟩ : ∃ x, v - k = x := ⟨_, rfl⟩
            have ev : (v : Int) - (k : Int) = (x : Int) := by omega
            have VX := Lib.hid hx
            have x60 : x ≤ 60 := by omega
            obtain ⟨nv, hnv⟩ : ∃ nv, Value.slice (some ⟨gs, 0, none⟩) (m + 1) cq = nv := ⟨_, rfl⟩
            have ZWb : Hid (Row W9 bd 25 #[.int .i64 (v : Int), .slice (some ⟨gs, 0, none⟩) (m + 1) cq]) := ZW3
            have ZR4 : Hid (OwnR (bd + 2) W9 (.slice (some ⟨gs, 0, none⟩) (m + 1) cq) (C.take (m + 1))) := Lib.hid (by rw [TU.out]; exact ZR3.out)
            clear hx hnv nv
            go_loopw [8] (fun i wr => wr = W9 ∧ ∃ t : Nat, t ≤ k ∧ i = .int .i64 ((t : Int) - 1) ∧ Hid (∀ j, t ≤ j → j < k → L.getD j 0 = v - k + j)) (fun i _ => (intOf i + 1).toNat)
            case atStart => exact ⟨rfl, k, Nat.le_refl _, rfl, Lib.hid fun j h1 h2 => absurd h2 (by omega)⟩
            case round =>
              obtain ⟨rfl, t, ht, rfl, T⟩ := hrel
              by_cases t0 : t = 0
              · subst t0
                have END := SL1.out (fun j hj => T.out j (Nat.zero_le _) hj)
                have d0 := ZWb.out.cell 0
                have d1 := ZWb.out.cell 1
                have R9 := Lib.hid (R1.out.go ZB3.out)
                have y0 := R9.out.cell 0
                have y1 := R9.out.cell 1
                have f0 := R9.out.frozen 0
                have f1 := R9.out.frozen 1
                have BK : Hid (B < bd + 2) := Lib.hid (by have := R1.out.lt; have := HD.out; omega)
                have R8 := Lib.hid ((R9.out.store 0 (.int .i64 (v : Int))).store 1 (.slice (some ⟨gs, 0, none⟩) (m + 1) cq))
                have HB8 := Lib.hid (B1.out.trans (ZB3.out.mono B1.out.size))
                have HB9 := Lib.hid ((HB8.out.setCell (p := ⟨B, 0, none⟩) (Nat.le_of_eq HE.out) (.int .i64 (v : Int))).setCell (p := ⟨B, 1, none⟩) (Nat.le_of_eq HE.out) (.slice (some ⟨gs, 0, none⟩) (m + 1) cq))
                have GS := Lib.hid (((ZR4.out.set BK.out 0 (.int .i64 (v : Int))).set BK.out 1 (.slice (some ⟨gs, 0, none⟩) (m + 1) cq)).fx.low (K' := w.heap.size) (by have := HE.out; have := BK.out; omega))
                have CE : Hid (C.take (m + 1) = C) := Lib.hid (by rw [END]; exact List.take_length)
                clear END T
                go_wp2_with fail
                refine bodyPost_ret (results_cell_row (g := B) (t := 25) (fr := (0, 0)) rfl _ _ _ _ rfl R8.out Tryd.underlying25 rfl (by kernel_rfl)) rfl ?_
                refine ⟨_, rfl, ?_, HB9.out⟩
                have := GS.out
                rw [CE.out] at this
                exact this
              · obtain ⟨p, rfl⟩ : ∃ p, t = p + 1 := ⟨t - 1, by omega⟩
                rw [show (((p + 1 : Nat) : Int) - 1) = (p : Int) by omega]
                have pk : p < k := by omega
                have pI : (p : Int) < (k : Int) := by omega
                have cp := ZQ3.out.cell pk
                have fp := ZQ3.out.frozen p
                have LP := LB.out p pk
                have SNp := Lib.hid (SN1.out p pk)
                obtain ⟨y, hy⟩ : ∃ y, L.getD p 0 = y := ⟨_, rfl⟩
                simp only [hy] at cp LP SNp
                obtain ⟨s, hs⟩ : ∃ s, x + p = s := ⟨_, rfl⟩
                have es : (x : Int) + (p : Int) = (s : Int) := by omega
                by_cases ys : y = s
                · have yB : ((y : Int) == (s : Int)) = true := by rw [beq_iff_eq]; omega
                  have T2 : Hid (∀ j, p ≤ j → j < k → L.getD j 0 = v - k + j) := Lib.hid fun j h1 h2 => by
                    rcases Nat.eq_or_lt_of_le h1 with h | h
                    · rw [← h, hy, VX.out]; omega
                    · exact T.out j h h2
                  clear ys T hy hs SNp
                  go_wp2_with fail
                  go_roundw
                  case rel => exact ⟨trivial, p, by omega, rfl, T2⟩
                  case measure => simp [intOf]
                · have yB : ((y : Int) == (s : Int)) = false := by rw [beq_eq_false_iff_ne]; omega
                  obtain ⟨hm', NX⟩ := SNp.out (by rw [VX.out]; omega) (fun j h1 h2 => T.out j (by omega) h2)
                  have NXH := Lib.hid NX
                  have YB := Lib.hid (ZB3.out.setCell (p := ⟨bd + 1, p, none⟩) (by have := HD.out; show _ ≤ bd + 1; omega) (.int .i64 ((y : Int) + 1)))
                  have YW := Lib.hid (ZWb.out.oth (k := bd + 1) (by omega) p (.int .i64 ((y : Int) + 1)))
                  have YR := Lib.hid (ZR4.out.set (g := bd + 1) (by omega) p (.int .i64 ((y : Int) + 1)))
                  have YQ : Hid ((wr.setCell ⟨bd + 1, p, none⟩ (.int .i64 ((y : Int) + 1))).rowIs (bd + 1) 3 k (fun j => .int .i64 (((if j < p then L.getD j 0 else if j < p + 1 then y + 1 + (j - p) else L.getD j 0) : Nat) : Int))) := Lib.hid ((ZQ3.out.set p _).congr fun j hj => by
                    by_cases e : j = p
                    · subst e; rw [if_pos rfl, if_neg (by omega), if_pos (by omega)]; go_num
                    · rw [if_neg e]
                      by_cases e2 : j < p
                      · rw [if_pos e2]
                      · rw [if_neg e2, if_neg (by omega)])
                  have YS : Hid (bd + 2 ≤ (wr.setCell ⟨bd + 1, p, none⟩ (.int .i64 ((y : Int) + 1))).heap.size) := Lib.hid (by have := ZS3.out; simpa [World.setCell] using this)
                  clear ys T hy hs NX SNp
                  go_wp2_with fail
                  clear cp fp
                  go_loopw [9] (fun i wq => ∃ s : Nat, p ≤ s ∧ s + 1 ≤ k ∧ i = .int .i64 ((s : Int) + 1) ∧ Hid (Below w1.heap.size w1 wq ∧ Row wq bd 25 #[.int .i64 (v : Int), .slice (some ⟨gs, 0, none⟩) (m + 1) cq] ∧ OwnR (bd + 2) wq (.slice (some ⟨gs, 0, none⟩) (m + 1) cq) (C.take (m + 1)) ∧ wq.rowIs (bd + 1) 3 k (fun j => .int .i64 (((if j < p then L.getD j 0 else if j < s + 1 then y + 1 + (j - p) else L.getD j 0) : Nat) : Int)) ∧ bd + 2 ≤ wq.heap.size)) (fun i _ => k - (intOf i).toNat)
                  case atStart => exact ⟨p, Nat.le_refl _, pk, rfl, Lib.hid ⟨YB.out, YW.out, YR.out, YQ.out, YS.out⟩⟩
                  case round =>
                    obtain ⟨r, hr1, hr2, rfl, J⟩ := hrel
                    by_cases hr : r + 1 < k
                    · have rI : (r : Int) + 1 < (k : Int) := by omega
                      have rJ : (r : Int) < (k : Int) := by omega
                      have c1 := J.out.2.2.2.1.cell (show r < k by omega)
                      simp only [if_neg (show ¬ r < p by omega), if_pos (Nat.lt_succ_self r)] at c1
                      obtain ⟨z, hz⟩ : ∃ z, y + 1 + (r - p) = z := ⟨_, rfl⟩
                      rw [hz] at c1
                      have c2 := J.out.2.2.2.1.cell hr
                      have f2 := J.out.2.2.2.1.frozen (r + 1)
                      have z200 : z ≤ 200 := by omega
                      have J1 := Lib.hid J.out.1
                      have J2 := Lib.hid J.out.2.1
                      have J3 := Lib.hid J.out.2.2.1
                      have J4 := Lib.hid J.out.2.2.2.1
                      have J5 := Lib.hid J.out.2.2.2.2
                      have HZ := Lib.hid hz
                      clear J hz
                      go_wp2_with fail
                      go_roundw
                      case rel =>
                        refine ⟨r + 1, by omega, by omega, by go_num, Lib.hid ⟨J1.out.setCell (p := ⟨bd + 1, r + 1, none⟩) (by have := HD.out; show _ ≤ bd + 1; omega) _, J2.out.oth (k := bd + 1) (by omega) (r + 1) _, J3.out.set (g := bd + 1) (by omega) (r + 1) _, (J4.out.set (r + 1) _).congr fun j hj => ?_, by have := J5.out; simpa [World.setCell] using this⟩⟩
                        have HZ' := HZ.out
                        by_cases e : j = r + 1
                        · subst e; rw [if_pos rfl, if_neg (by omega), if_pos (by omega)]; show Value.int .i64 _ = Value.int .i64 _; congr 1; omega
                        · rw [if_neg e]
                          by_cases e2 : j < p
                          · rw [if_pos e2, if_pos e2]
                          · rw [if_neg e2, if_neg e2]
                            by_cases e3 : j < r + 1
                            · rw [if_pos e3, if_pos (by omega)]
                            · rw [if_neg e3, if_neg (by omega)]
                      case measure => simp [intOf]; omega
                    · have er : r + 1 = k := by omega
                      have rI : ¬ ((r : Int) + 1 < (k : Int)) := by omega
                      have RA2 := Lib.hid (rowsAt_of J.out.2.1)
                      have NEW : Hid (Below w1.heap.size w1 wr ∧ Row wr bd 25 #[.int .i64 (v : Int), .slice (some ⟨gs, 0, none⟩) (m + 1) cq] ∧ OwnR (bd + 2) wr (.slice (some ⟨gs, 0, none⟩) (m + 1) cq) (C.take (m + 1)) ∧ wr.rowIs (bd + 1) 3 k (fun j => .int .i64 ((C[m + 1].getD j 0 : Nat) : Int)) ∧ bd + 2 ≤ wr.heap.size) := Lib.hid ⟨J.out.1, J.out.2.1, J.out.2.2.1, J.out.2.2.2.1.congr fun j hj => by
                        rw [NXH.out j hj]
                        by_cases e2 : j < p
                        · rw [if_pos e2, if_pos e2]
                        · rw [if_neg e2, if_neg e2, if_pos (by omega)], J.out.2.2.2.2⟩
                      clear J er
                      go_wp2_with fail
                      go_roundw
                      case rel => exact ⟨m + 1, hm', _, NEW⟩
                      case measure => rw [RA2.out]; omega
            
          · have HzK19 := Lib.hid hK
            clear hK
            rw [if_pos (by rfl)]
            refine wp_copy_n (.tmp 25) (.tmp 26) rfl e0 ⟨bd + 1, 0, none⟩ k k L rfl RE.out rfl L1.out (by omega) (by omega) (fun j hj => by rw [Go.WideShapes.add_plain]; show _ = some _; rw [show (0 : Nat) + j = j from Nat.zero_add j]; exact zQ_15.out.cell hj) e0 (Nat.le_refl _) ?_
            intro gr cr zx20 ho hg hat
            have hb9 : Below zwz1.heap.size zwz1 zx20 := HX0.out.grown hg HX0.out.size (fun k e => by cases e; exact Nat.le_of_eq HE0.out)
            have zhq21 : Below zwz1.heap.size zwz1 zx20 := hb9
            have zW_22 := Lib.hid (Row.go zW_4.out zhq21)
            have zR_23 := Lib.hid (OwnR.to zR_5.out zhq21)
            have zQ_24 := Lib.hid (rowTo zQ_6.out zhq21)
            have zZ_25 := Lib.hid (Nat.le_trans zZ_7.out (Below.size zhq21))
            have zHB_26 : Hid (Below w1.heap.size w1 zx20) := Lib.hid (zHB_8.out.trans (zhq21.mono zHB_8.out.size))
            clear zhq21
            have NR := Lib.hid ho
            clear ho hg hat hb9
            have zhS27 : (fun w' : World => True) zx20 := trivial
            refine HzK19.out _ _ zhS27 fun _ => ?_
            try simp only [Act.put, List.setIfInBounds_toArray, List.set_cons_zero, List.set_cons_succ]
            refine wpAnyH_ready (rs := [1, 5]) (by kernel_rfl) (by simp) ?_
            refine AllReadyH.cons rfl (fun K hK => ?_) (AllReadyH.cons rfl (fun K hK => ?_) AllReadyH.nil)
            · have HzK28 := Lib.hid hK
              clear hK
              rw [if_pos (by rfl)]
              have cc := (show _ = some _ from zW_22.out.cell 1)
              go_simp
              clear cc
              skip
              refine HzK28.out _ _ zhS27 fun _ => ?_
              try simp only [Act.put, List.setIfInBounds_toArray, List.set_cons_zero, List.set_cons_succ]
              refine wpAnyH_ready (rs := [5]) (by kernel_rfl) (by simp) ?_
              refine AllReadyH.cons rfl (fun zK29 hzK29 => ?_) AllReadyH.nil
              have HzK29 := Lib.hid hzK29
              clear hzK29
              rw [if_pos (by rfl)]
              refine wp_build_s _ rfl (.slice (some ⟨gr, 0, none⟩) k cr) (by rfl) rfl ?_
              obtain ⟨zx30, hxb⟩ : ∃ q, zx20.alloc (.cells #[.slice (some ⟨gr, 0, none⟩) k cr] 40) = q := ⟨_, rfl⟩
              have hbx : Below zx20.heap.size zx20 zx30 := by rw [← hxb]; exact (Below.refl _ _).alloc (Nat.le_refl _) _
              have LIT : Hid (zx30.cell? ⟨zx20.heap.size, 0, none⟩ = some (.slice (some ⟨gr, 0, none⟩) k cr)) := Lib.hid (by rw [← hxb]; exact (row_new' _ _ _).cell 0)
              obtain ⟨lb, hlb⟩ : ∃ q, zx20.heap.size = q := ⟨_, rfl⟩
              rw [hlb] at LIT
              rw [hxb, hlb]
              have zhq31 : Below zx20.heap.size zx20 zx30 := hbx
              have zW_32 := Lib.hid (Row.go zW_22.out zhq31)
              have zR_33 := Lib.hid (OwnR.to zR_23.out zhq31)
              have zQ_34 := Lib.hid (rowTo zQ_24.out zhq31)
              have zZ_35 := Lib.hid (Nat.le_trans zZ_25.out (Below.size zhq31))
              have zN_36 := Lib.hid (OwnL.gto NR.out zhq31)
              have zHB_37 : Hid (Below w1.heap.size w1 zx30) := Lib.hid (zHB_26.out.trans (zhq31.mono zHB_26.out.size))
              clear zhq31
              clear hbx hxb hlb
              have zhS38 : (fun w' : World => True) zx30 := trivial
              refine HzK29.out _ _ zhS38 fun _ => ?_
              try simp only [Act.put, List.setIfInBounds_toArray, List.set_cons_zero, List.set_cons_succ]
              refine wpAnyH_ready (rs := [6]) (by kernel_rfl) (by simp) ?_
              refine AllReadyH.cons rfl (fun zK39 hzK39 => ?_) AllReadyH.nil
              have HzK39 := Lib.hid hzK39
              clear hzK39
              rw [if_pos (by rfl)]
              refine wp_push_R (K := bd + 2) (.tmp 24) (.tmp 28) rfl (.slice A6 m c6) (C.take m) m lb (.slice (some ⟨gr, 0, none⟩) k cr) L e0 rfl zR_33.out TL.out rfl LIT.out zN_36.out (by have := HE0.out; have := HS.out; have := zZ_7.out; omega) (fun k e => by have := (HO.out.own k e).2; have := HE0.out; have := zZ_7.out; omega) (by omega) (by have := zZ_35.out; have := HS.out; omega) ?_
              intro gs cq zx40 ho hg hat
              have ZB2 : Hid (Below w1.heap.size w1 zx40) := Lib.hid (zHB_37.out.grown hg zHB_37.out.size (fun k e => by have h1 := (zR_33.out.own k e).1; have h2 := HD.out; omega))
              have ZW2 := Lib.hid (zW_32.out.gr hg (fun e => by have := (zR_33.out.own _ e.symm).1; omega))
              have ZQ2 : Hid (zx40.rowIs (bd + 1) 3 k _) := Lib.hid (zQ_34.out.of_block (hg.block _ zQ_34.out.lt (fun e => by have := (zR_33.out.own _ e.symm).1; omega)))
              have ZR2 := Lib.hid ho
              have ZS2 : Hid (bd + 2 ≤ zx40.heap.size) := Lib.hid (by have := hg.size; have := zZ_35.out; have := HS.out; omega)
              clear ho hg hat
              have zhS41 : (fun w' : World => True) zx40 := trivial
              refine HzK39.out _ _ zhS41 fun _ => ?_
              try simp only [Act.put, List.setIfInBounds_toArray, List.set_cons_zero, List.set_cons_succ]
              refine takeD (i := 7) (v := .pointer (some ⟨bd, 1, none⟩)) (some 30) rfl rfl (by kernel_rfl) (by kernel_rfl) (by kernel_rfl) (fun _ _ _ h => h) (Or.inl ⟨by rfl, by rintro w' -; go_simp⟩) zhS41 ?_
              simp only [Act.put, List.setIfInBounds_toArray, List.set_cons_zero, List.set_cons_succ]
              refine wpAnyH_ready (rs := [8]) (by kernel_rfl) (by simp) ?_
              refine AllReadyH.cons rfl (fun zK42 hzK42 => ?_) AllReadyH.nil
              have HzK42 := Lib.hid hzK42
              clear hzK42
              rw [if_pos (by rfl)]
              have cc := (show _ = some _ from ZW2.out.cell 1)
              have ff := ZW2.out.frozen 1
              go_simp
              clear cc ff
              have ZB3 := Lib.hid (ZB2.out.setCell (p := ⟨bd, 1, none⟩) (Nat.le_of_eq HD.out) (.slice (some ⟨gs, 0, none⟩) (m + 1) cq))
              have ZW3 := Lib.hid (ZW2.out.store 1 (.slice (some ⟨gs, 0, none⟩) (m + 1) cq))
              have ZR3 := Lib.hid (ZR2.out.set (g := bd) (by omega) 1 (.slice (some ⟨gs, 0, none⟩) (m + 1) cq))
              have ZQ3 := Lib.hid (World.rowIs.setOther ZQ2.out (a := ⟨bd, 1, none⟩) (by show bd + 1 ≠ bd; omega) (.slice (some ⟨gs, 0, none⟩) (m + 1) cq))
              have ZS3 : Hid (bd + 2 ≤ (zx40.setCell ⟨bd, 1, none⟩ (.slice (some ⟨gs, 0, none⟩) (m + 1) cq)).heap.size) := Lib.hid (by have := ZS2.out; simpa [World.setCell] using this)
              obtain ⟨W9, hW9⟩ : ∃ W9, zx40.setCell ⟨bd, 1, none⟩ (.slice (some ⟨gs, 0, none⟩) (m + 1) cq) = W9 := ⟨_, rfl⟩
              rw [hW9] at ZB3 ZW3 ZR3 ZQ3 ZS3 ⊢
              clear hW9
              have zhS43 : (fun w' : World => True) W9 := trivial
              refine HzK42.out _ _ zhS43 fun _ => ?_
              refine wpAnyH_done (by kernel_rfl) ?_ _
              go_wp2_with fail
              obtain ⟨x, hx⟩ : ∃ x, v - k = x := ⟨_, rfl⟩
              have ev : (v : Int) - (k : Int) = (x : Int) := by omega
              have VX := Lib.hid hx
              have x60 : x ≤ 60 := by omega
              obtain ⟨nv, hnv⟩ : ∃ nv, Value.slice (some ⟨gs, 0, none⟩) (m + 1) cq = nv := ⟨_, rfl⟩
              have ZWb : Hid (Row W9 bd 25 #[.int .i64 (v : Int), .slice (some ⟨gs, 0, none⟩) (m + 1) cq]) := ZW3
              have ZR4 : Hid (OwnR (bd + 2) W9 (.slice (some ⟨gs, 0, none⟩) (m + 1) cq) (C.take (m + 1))) := Lib.hid (by rw [TU.out]; exact ZR3.out)
              clear hx hnv nv
              go_loopw [8] (fun i wr => wr = W9 ∧ ∃ t : Nat, t ≤ k ∧ i = .int .i64 ((t : Int) - 1) ∧ Hid (∀ j, t ≤ j → j < k → L.getD j 0 = v - k + j)) (fun i _ => (intOf i + 1).toNat)
              case atStart => exact ⟨rfl, k, Nat.le_refl _, rfl, Lib.hid fun j h1 h2 => absurd h2 (by omega)⟩
              case round =>
                obtain ⟨rfl, t, ht, rfl, T⟩ := hrel
                by_cases t0 : t = 0
                · subst t0
                  have END := SL1.out (fun j hj => T.out j (Nat.zero_le _) hj)
                  have d0 := ZWb.out.cell 0
                  have d1 := ZWb.out.cell 1
                  have R9 := Lib.hid (R1.out.go ZB3.out)
                  have y0 := R9.out.cell 0
                  have y1 := R9.out.cell 1
                  have f0 := R9.out.frozen 0
                  have f1 := R9.out.frozen 1
                  have BK : Hid (B < bd + 2) := Lib.hid (by have := R1.out.lt; have := HD.out; omega)
                  have R8 := Lib.hid ((R9.out.store 0 (.int .i64 (v : Int))).store 1 (.slice (some ⟨gs, 0, none⟩) (m + 1) cq))
                  have HB8 := Lib.hid (B1.out.trans (ZB3.out.mono B1.out.size))
                  have HB9 := Lib.hid ((HB8.out.setCell (p := ⟨B, 0, none⟩) (Nat.le_of_eq HE.out) (.int .i64 (v : Int))).setCell (p := ⟨B, 1, none⟩) (Nat.le_of_eq HE.out) (.slice (some ⟨gs, 0, none⟩) (m + 1) cq))
                  have GS := Lib.hid (((ZR4.out.set BK.out 0 (.int .i64 (v : Int))).set BK.out 1 (.slice (some ⟨gs, 0, none⟩) (m + 1) cq)).fx.low (K' := w.heap.size) (by have := HE.out; have := BK.out; omega))
                  have CE : Hid (C.take (m + 1) = C) := Lib.hid (by rw [END]; exact List.take_length)
                  clear END T
                  go_wp2_with fail
                  refine bodyPost_ret (results_cell_row (g := B) (t := 25) (fr := (0, 0)) rfl _ _ _ _ rfl R8.out Tryd.underlying25 rfl (by kernel_rfl)) rfl ?_
                  refine ⟨_, rfl, ?_, HB9.out⟩
                  have := GS.out
                  rw [CE.out] at this
                  exact this
                · obtain ⟨p, rfl⟩ : ∃ p, t = p + 1 := ⟨t - 1, by omega⟩
                  rw [show (((p + 1 : Nat) : Int) - 1) = (p : Int) by omega]
                  have pk : p < k := by omega
                  have pI : (p : Int) < (k : Int) := by omega
                  have cp := ZQ3.out.cell pk
                  have fp := ZQ3.out.frozen p
                  have LP := LB.out p pk
                  have SNp := Lib.hid (SN1.out p pk)
                  obtain ⟨y, hy⟩ : ∃ y, L.getD p 0 = y := ⟨_, rfl⟩
                  simp only [hy] at cp LP SNp
                  obtain ⟨s, hs⟩ : ∃ s, x + p = s := ⟨_, rfl⟩
                  have es : (x : Int) + (p : Int) = (s : Int) := by omega
                  by_cases ys : y = s
                  · have yB : ((y : Int) == (s : Int)) = true := by rw [beq_iff_eq]; omega
                    have T2 : Hid (∀ j, p ≤ j → j < k → L.getD j 0 = v - k + j) := Lib.hid fun j h1 h2 => by
                      rcases Nat.eq_or_lt_of_le h1 with h | h
                      · rw [← h, hy, VX.out]; omega
                      · exact T.out j h h2
                    clear ys T hy hs SNp
                    go_wp2_with fail
                    go_roundw
                    case rel => exact ⟨trivial, p, by omega, rfl, T2⟩
                    case measure => simp [intOf]
                  · have yB : ((y : Int) == (s : Int)) = false := by rw [beq_eq_false_iff_ne]; omega
                    obtain ⟨hm', NX⟩ := SNp.out (by rw [VX.out]; omega) (fun j h1 h2 => T.out j (by omega) h2)
                    have NXH := Lib.hid NX
                    have YB := Lib.hid (ZB3.out.setCell (p := ⟨bd + 1, p, none⟩) (by have := HD.out; show _ ≤ bd + 1; omega) (.int .i64 ((y : Int) + 1)))
                    have YW := Lib.hid (ZWb.out.oth (k := bd + 1) (by omega) p (.int .i64 ((y : Int) + 1)))
                    have YR := Lib.hid (ZR4.out.set (g := bd + 1) (by omega) p (.int .i64 ((y : Int) + 1)))
                    have YQ : Hid ((wr.setCell ⟨bd + 1, p, none⟩ (.int .i64 ((y : Int) + 1))).rowIs (bd + 1) 3 k (fun j => .int .i64 (((if j < p then L.getD j 0 else if j < p + 1 then y + 1 + (j - p) else L.getD j 0) : Nat) : Int))) := Lib.hid ((ZQ3.out.set p _).congr fun j hj => by
                      by_cases e : j = p
                      · subst e; rw [if_pos rfl, if_neg (by omega), if_pos (by omega)]; go_num
                      · rw [if_neg e]
                        by_cases e2 : j < p
                        · rw [if_pos e2]
                        · rw [if_neg e2, if_neg (by omega)])
                    have YS : Hid (bd + 2 ≤ (wr.setCell ⟨bd + 1, p, none⟩ (.int .i64 ((y : Int) + 1))).heap.size) := Lib.hid (by have := ZS3.out; simpa [World.setCell] using this)
                    clear ys T hy hs NX SNp
                    go_wp2_with fail
                    clear cp fp
                    go_loopw [9] (fun i wq => ∃ s : Nat, p ≤ s ∧ s + 1 ≤ k ∧ i = .int .i64 ((s : Int) + 1) ∧ Hid (Below w1.heap.size w1 wq ∧ Row wq bd 25 #[.int .i64 (v : Int), .slice (some ⟨gs, 0, none⟩) (m + 1) cq] ∧ OwnR (bd + 2) wq (.slice (some ⟨gs, 0, none⟩) (m + 1) cq) (C.take (m + 1)) ∧ wq.rowIs (bd + 1) 3 k (fun j => .int .i64 (((if j < p then L.getD j 0 else if j < s + 1 then y + 1 + (j - p) else L.getD j 0) : Nat) : Int)) ∧ bd + 2 ≤ wq.heap.size)) (fun i _ => k - (intOf i).toNat)
                    case atStart => exact ⟨p, Nat.le_refl _, pk, rfl, Lib.hid ⟨YB.out, YW.out, YR.out, YQ.out, YS.out⟩⟩
                    case round =>
                      obtain ⟨r, hr1, hr2, rfl, J⟩ := hrel
                      by_cases hr : r + 1 < k
                      · have rI : (r : Int) + 1 < (k : Int) := by omega
                        have rJ : (r : Int) < (k : Int) := by omega
                        have c1 := J.out.2.2.2.1.cell (show r < k by omega)
                        simp only [if_neg (show ¬ r < p by omega), if_pos (Nat.lt_succ_self r)] at c1
                        obtain ⟨z, hz⟩ : ∃ z, y + 1 + (r - p) = z := ⟨_, rfl⟩
                        rw [hz] at c1
                        have c2 := J.out.2.2.2.1.cell hr
                        have f2 := J.out.2.2.2.1.frozen (r + 1)
                        have z200 : z ≤ 200 := by omega
                        have J1 := Lib.hid J.out.1
                        have J2 := Lib.hid J.out.2.1
                        have J3 := Lib.hid J.out.2.2.1
                        have J4 := Lib.hid J.out.2.2.2.1
                        have J5 := Lib.hid J.out.2.2.2.2
                        have HZ := Lib.hid hz
                        clear J hz
                        go_wp2_with fail
                        go_roundw
                        case rel =>
                          refine ⟨r + 1, by omega, by omega, by go_num, Lib.hid ⟨J1.out.setCell (p := ⟨bd + 1, r + 1, none⟩) (by have := HD.out; show _ ≤ bd + 1; omega) _, J2.out.oth (k := bd + 1) (by omega) (r + 1) _, J3.out.set (g := bd + 1) (by omega) (r + 1) _, (J4.out.set (r + 1) _).congr fun j hj => ?_, by have := J5.out; simpa [World.setCell] using this⟩⟩
                          have HZ' := HZ.out
                          by_cases e : j = r + 1
                          · subst e; rw [if_pos rfl, if_neg (by omega), if_pos (by omega)]; show Value.int .i64 _ = Value.int .i64 _; congr 1; omega
                          · rw [if_neg e]
                            by_cases e2 : j < p
                            · rw [if_pos e2, if_pos e2]
                            · rw [if_neg e2, if_neg e2]
                              by_cases e3 : j < r + 1
                              · rw [if_pos e3, if_pos (by omega)]
                              · rw [if_neg e3, if_neg (by omega)]
                        case measure => simp [intOf]; omega
                      · have er : r + 1 = k := by omega
                        have rI : ¬ ((r : Int) + 1 < (k : Int)) := by omega
                        have RA2 := Lib.hid (rowsAt_of J.out.2.1)
                        have NEW : Hid (Below w1.heap.size w1 wr ∧ Row wr bd 25 #[.int .i64 (v : Int), .slice (some ⟨gs, 0, none⟩) (m + 1) cq] ∧ OwnR (bd + 2) wr (.slice (some ⟨gs, 0, none⟩) (m + 1) cq) (C.take (m + 1)) ∧ wr.rowIs (bd + 1) 3 k (fun j => .int .i64 ((C[m + 1].getD j 0 : Nat) : Int)) ∧ bd + 2 ≤ wr.heap.size) := Lib.hid ⟨J.out.1, J.out.2.1, J.out.2.2.1, J.out.2.2.2.1.congr fun j hj => by
                          rw [NXH.out j hj]
                          by_cases e2 : j < p
                          · rw [if_pos e2, if_pos e2]
                          · rw [if_neg e2, if_neg e2, if_pos (by omega)], J.out.2.2.2.2⟩
                        clear J er
                        go_wp2_with fail
                        go_roundw
                        case rel => exact ⟨m + 1, hm', _, NEW⟩
                        case measure => rw [RA2.out]; omega
              
            · have HzK28 := Lib.hid hK
              clear hK
              rw [if_pos (by rfl)]
              refine wp_build_s _ rfl (.slice (some ⟨gr, 0, none⟩) k cr) (by rfl) rfl ?_
              obtain ⟨zx29, hxb⟩ : ∃ q, zx20.alloc (.cells #[.slice (some ⟨gr, 0, none⟩) k cr] 40) = q := ⟨_, rfl⟩
              have hbx : Below zx20.heap.size zx20 zx29 := by rw [← hxb]; exact (Below.refl _ _).alloc (Nat.le_refl _) _
              have LIT : Hid (zx29.cell? ⟨zx20.heap.size, 0, none⟩ = some (.slice (some ⟨gr, 0, none⟩) k cr)) := Lib.hid (by rw [← hxb]; exact (row_new' _ _ _).cell 0)
              obtain ⟨lb, hlb⟩ : ∃ q, zx20.heap.size = q := ⟨_, rfl⟩
              rw [hlb] at LIT
              rw [hxb, hlb]
              have zhq30 : Below zx20.heap.size zx20 zx29 := hbx
              have zW_31 := Lib.hid (Row.go zW_22.out zhq30)
              have zR_32 := Lib.hid (OwnR.to zR_23.out zhq30)
              have zQ_33 := Lib.hid (rowTo zQ_24.out zhq30)
              have zZ_34 := Lib.hid (Nat.le_trans zZ_25.out (Below.size zhq30))
              have zN_35 := Lib.hid (OwnL.gto NR.out zhq30)
              have zHB_36 : Hid (Below w1.heap.size w1 zx29) := Lib.hid (zHB_26.out.trans (zhq30.mono zHB_26.out.size))
              clear zhq30
              clear hbx hxb hlb
              have zhS37 : (fun w' : World => True) zx29 := trivial
              refine HzK28.out _ _ zhS37 fun _ => ?_
              try simp only [Act.put, List.setIfInBounds_toArray, List.set_cons_zero, List.set_cons_succ]
              refine wpAnyH_ready (rs := [1]) (by kernel_rfl) (by simp) ?_
              refine AllReadyH.cons rfl (fun zK38 hzK38 => ?_) AllReadyH.nil
              have HzK38 := Lib.hid hzK38
              clear hzK38
              rw [if_pos (by rfl)]
              have cc := (show _ = some _ from zW_31.out.cell 1)
              go_simp
              clear cc
              skip
              refine HzK38.out _ _ zhS37 fun _ => ?_
              try simp only [Act.put, List.setIfInBounds_toArray, List.set_cons_zero, List.set_cons_succ]
              refine wpAnyH_ready (rs := [6]) (by kernel_rfl) (by simp) ?_
              refine AllReadyH.cons rfl (fun zK39 hzK39 => ?_) AllReadyH.nil
              have HzK39 := Lib.hid hzK39
              clear hzK39
              rw [if_pos (by rfl)]
              refine wp_push_R (K := bd + 2) (.tmp 24) (.tmp 28) rfl (.slice A6 m c6) (C.take m) m lb (.slice (some ⟨gr, 0, none⟩) k cr) L e0 rfl zR_32.out TL.out rfl LIT.out zN_35.out (by have := HE0.out; have := HS.out; have := zZ_7.out; omega) (fun k e => by have := (HO.out.own k e).2; have := HE0.out; have := zZ_7.out; omega) (by omega) (by have := zZ_34.out; have := HS.out; omega) ?_
              intro gs cq zx40 ho hg hat
              have ZB2 : Hid (Below w1.heap.size w1 zx40) := Lib.hid (zHB_36.out.grown hg zHB_36.out.size (fun k e => by have h1 := (zR_32.out.own k e).1; have h2 := HD.out; omega))
              have ZW2 := Lib.hid (zW_31.out.gr hg (fun e => by have := (zR_32.out.own _ e.symm).1; omega))
              have ZQ2 : Hid (zx40.rowIs (bd + 1) 3 k _) := Lib.hid (zQ_33.out.of_block (hg.block _ zQ_33.out.lt (fun e => by have := (zR_32.out.own _ e.symm).1; omega)))
              have ZR2 := Lib.hid ho
              have ZS2 : Hid (bd + 2 ≤ zx40.heap.size) := Lib.hid (by have := hg.size; have := zZ_34.out; have := HS.out; omega)
              clear ho hg hat
              have zhS41 : (fun w' : World => True) zx40 := trivial
              refine HzK39.out _ _ zhS41 fun _ => ?_
              try simp only [Act.put, List.setIfInBounds_toArray, List.set_cons_zero, List.set_cons_succ]
              refine takeD (i := 7) (v := .pointer (some ⟨bd, 1, none⟩)) (some 30) rfl rfl (by kernel_rfl) (by kernel_rfl) (by kernel_rfl) (fun _ _ _ h => h) (Or.inl ⟨by rfl, by rintro w' -; go_simp⟩) zhS41 ?_
              simp only [Act.put, List.setIfInBounds_toArray, List.set_cons_zero, List.set_cons_succ]
              refine wpAnyH_ready (rs := [8]) (by kernel_rfl) (by simp) ?_
              refine AllReadyH.cons rfl (fun zK42 hzK42 => ?_) AllReadyH.nil
              have HzK42 := Lib.hid hzK42
              clear hzK42
              rw [if_pos (by rfl)]
              have cc := (show _ = some _ from ZW2.out.cell 1)
              have ff := ZW2.out.frozen 1
              go_simp
              clear cc ff
              have ZB3 := Lib.hid (ZB2.out.setCell (p := ⟨bd, 1, none⟩) (Nat.le_of_eq HD.out) (.slice (some ⟨gs, 0, none⟩) (m + 1) cq))
              have ZW3 := Lib.hid (ZW2.out.store 1 (.slice (some ⟨gs, 0, none⟩) (m + 1) cq))
              have ZR3 := Lib.hid (ZR2.out.set (g := bd) (by omega) 1 (.slice (some ⟨gs, 0, none⟩) (m + 1) cq))
              have ZQ3 := Lib.hid (World.rowIs.setOther ZQ2.out (a := ⟨bd, 1, none⟩) (by show bd + 1 ≠ bd; omega) (.slice (some ⟨gs, 0, none⟩) (m + 1) cq))
              have ZS3 : Hid (bd + 2 ≤ (zx40.setCell ⟨bd, 1, none⟩ (.slice (some ⟨gs, 0, none⟩) (m + 1) cq)).heap.size) := Lib.hid (by have := ZS2.out; simpa [World.setCell] using this)
              obtain ⟨W9, hW9⟩ : ∃ W9, zx40.setCell ⟨bd, 1, none⟩ (.slice (some ⟨gs, 0, none⟩) (m + 1) cq) = W9 := ⟨_, rfl⟩
              rw [hW9] at ZB3 ZW3 ZR3 ZQ3 ZS3 ⊢
              clear hW9
              have zhS43 : (fun w' : World => True) W9 := trivial
              refine HzK42.out _ _ zhS43 fun _ => ?_
              refine wpAnyH_done (by kernel_rfl) ?_ _
              go_wp2_with fail
              obtain ⟨x, hx⟩ : ∃ x, v - k = x := ⟨_, rfl⟩
              have ev : (v : Int) - (k : Int) = (x : Int) := by omega
              have VX := Lib.hid hx
              have x60 : x ≤ 60 := by omega
              obtain ⟨nv, hnv⟩ : ∃ nv, Value.slice (some ⟨gs, 0, none⟩) (m + 1) cq = nv := ⟨_, rfl⟩
              have ZWb : Hid (Row W9 bd 25 #[.int .i64 (v : Int), .slice (some ⟨gs, 0, none⟩) (m + 1) cq]) := ZW3
              have ZR4 : Hid (OwnR (bd + 2) W9 (.slice (some ⟨gs, 0, none⟩) (m + 1) cq) (C.take (m + 1))) := Lib.hid (by rw [TU.out]; exact ZR3.out)
              clear hx hnv nv
              go_loopw [8] (fun i wr => wr = W9 ∧ ∃ t : Nat, t ≤ k ∧ i = .int .i64 ((t : Int) - 1) ∧ Hid (∀ j, t ≤ j → j < k → L.getD j 0 = v - k + j)) (fun i _ => (intOf i + 1).toNat)
              case atStart => exact ⟨rfl, k, Nat.le_refl _, rfl, Lib.hid fun j h1 h2 => absurd h2 (by omega)⟩
              case round =>
                obtain ⟨rfl, t, ht, rfl, T⟩ := hrel
                by_cases t0 : t = 0
                · subst t0
                  have END := SL1.out (fun j hj => T.out j (Nat.zero_le _) hj)
                  have d0 := ZWb.out.cell 0
                  have d1 := ZWb.out.cell 1
                  have R9 := Lib.hid (R1.out.go ZB3.out)
                  have y0 := R9.out.cell 0
                  have y1 := R9.out.cell 1
                  have f0 := R9.out.frozen 0
                  have f1 := R9.out.frozen 1
                  have BK : Hid (B < bd + 2) := Lib.hid (by have := R1.out.lt; have := HD.out; omega)
                  have R8 := Lib.hid ((R9.out.store 0 (.int .i64 (v : Int))).store 1 (.slice (some ⟨gs, 0, none⟩) (m + 1) cq))
                  have HB8 := Lib.hid (B1.out.trans (ZB3.out.mono B1.out.size))
                  have HB9 := Lib.hid ((HB8.out.setCell (p := ⟨B, 0, none⟩) (Nat.le_of_eq HE.out) (.int .i64 (v : Int))).setCell (p := ⟨B, 1, none⟩) (Nat.le_of_eq HE.out) (.slice (some ⟨gs, 0, none⟩) (m + 1) cq))
                  have GS := Lib.hid (((ZR4.out.set BK.out 0 (.int .i64 (v : Int))).set BK.out 1 (.slice (some ⟨gs, 0, none⟩) (m + 1) cq)).fx.low (K' := w.heap.size) (by have := HE.out; have := BK.out; omega))
                  have CE : Hid (C.take (m + 1) = C) := Lib.hid (by rw [END]; exact List.take_length)
                  clear END T
                  go_wp2_with fail
                  refine bodyPost_ret (results_cell_row (g := B) (t := 25) (fr := (0, 0)) rfl _ _ _ _ rfl R8.out Tryd.underlying25 rfl (by kernel_rfl)) rfl ?_
                  refine ⟨_, rfl, ?_, HB9.out⟩
                  have := GS.out
                  rw [CE.out] at this
                  exact this
                · obtain ⟨p, rfl⟩ : ∃ p, t = p + 1 := ⟨t - 1, by omega⟩
                  rw [show (((p + 1 : Nat) : Int) - 1) = (p : Int) by omega]
                  have pk : p < k := by omega
                  have pI : (p : Int) < (k : Int) := by omega
                  have cp := ZQ3.out.cell pk
                  have fp := ZQ3.out.frozen p
                  have LP := LB.out p pk
                  have SNp := Lib.hid (SN1.out p pk)
                  obtain ⟨y, hy⟩ : ∃ y, L.getD p 0 = y := ⟨_, rfl⟩
                  simp only [hy] at cp LP SNp
                  obtain ⟨s, hs⟩ : ∃ s, x + p = s := ⟨_, rfl⟩
                  have es : (x : Int) + (p : Int) = (s : Int) := by omega
                  by_cases ys : y = s
                  · have yB : ((y : Int) == (s : Int)) = true := by rw [beq_iff_eq]; omega
                    have T2 : Hid (∀ j, p ≤ j → j < k → L.getD j 0 = v - k + j) := Lib.hid fun j h1 h2 => by
                      rcases Nat.eq_or_lt_of_le h1 with h | h
                      · rw [← h, hy, VX.out]; omega
                      · exact T.out j h h2
                    clear ys T hy hs SNp
                    go_wp2_with fail
                    go_roundw
                    case rel => exact ⟨trivial, p, by omega, rfl, T2⟩
                    case measure => simp [intOf]
                  · have yB : ((y : Int) == (s : Int)) = false := by rw [beq_eq_false_iff_ne]; omega
                    obtain ⟨hm', NX⟩ := SNp.out (by rw [VX.out]; omega) (fun j h1 h2 => T.out j (by omega) h2)
                    have NXH := Lib.hid NX
                    have YB := Lib.hid (ZB3.out.setCell (p := ⟨bd + 1, p, none⟩) (by have := HD.out; show _ ≤ bd + 1; omega) (.int .i64 ((y : Int) + 1)))
                    have YW := Lib.hid (ZWb.out.oth (k := bd + 1) (by omega) p (.int .i64 ((y : Int) + 1)))
                    have YR := Lib.hid (ZR4.out.set (g := bd + 1) (by omega) p (.int .i64 ((y : Int) + 1)))
                    have YQ : Hid ((wr.setCell ⟨bd + 1, p, none⟩ (.int .i64 ((y : Int) + 1))).rowIs (bd + 1) 3 k (fun j => .int .i64 (((if j < p then L.getD j 0 else if j < p + 1 then y + 1 + (j - p) else L.getD j 0) : Nat) : Int))) := Lib.hid ((ZQ3.out.set p _).congr fun j hj => by
                      by_cases e : j = p
                      · subst e; rw [if_pos rfl, if_neg (by omega), if_pos (by omega)]; go_num
                      · rw [if_neg e]
                        by_cases e2 : j < p
                        · rw [if_pos e2]
                        · rw [if_neg e2, if_neg (by omega)])
                    have YS : Hid (bd + 2 ≤ (wr.setCell ⟨bd + 1, p, none⟩ (.int .i64 ((y : Int) + 1))).heap.size) := Lib.hid (by have := ZS3.out; simpa [World.setCell] using this)
                    clear ys T hy hs NX SNp
                    go_wp2_with fail
                    clear cp fp
                    go_loopw [9] (fun i wq => ∃ s : Nat, p ≤ s ∧ s + 1 ≤ k ∧ i = .int .i64 ((s : Int) + 1) ∧ Hid (Below w1.heap.size w1 wq ∧ Row wq bd 25 #[.int .i64 (v : Int), .slice (some ⟨gs, 0, none⟩) (m + 1) cq] ∧ OwnR (bd + 2) wq (.slice (some ⟨gs, 0, none⟩) (m + 1) cq) (C.take (m + 1)) ∧ wq.rowIs (bd + 1) 3 k (fun j => .int .i64 (((if j < p then L.getD j 0 else if j < s + 1 then y + 1 + (j - p) else L.getD j 0) : Nat) : Int)) ∧ bd + 2 ≤ wq.heap.size)) (fun i _ => k - (intOf i).toNat)
                    case atStart => exact ⟨p, Nat.le_refl _, pk, rfl, Lib.hid ⟨YB.out, YW.out, YR.out, YQ.out, YS.out⟩⟩
                    case round =>
                      obtain ⟨r, hr1, hr2, rfl, J⟩ := hrel
                      by_cases hr : r + 1 < k
                      · have rI : (r : Int) + 1 < (k : Int) := by omega
                        have rJ : (r : Int) < (k : Int) := by omega
                        have c1 := J.out.2.2.2.1.cell (show r < k by omega)
                        simp only [if_neg (show ¬ r < p by omega), if_pos (Nat.lt_succ_self r)] at c1
                        obtain ⟨z, hz⟩ : ∃ z, y + 1 + (r - p) = z := ⟨_, rfl⟩
                        rw [hz] at c1
                        have c2 := J.out.2.2.2.1.cell hr
                        have f2 := J.out.2.2.2.1.frozen (r + 1)
                        have z200 : z ≤ 200 := by omega
                        have J1 := Lib.hid J.out.1
                        have J2 := Lib.hid J.out.2.1
                        have J3 := Lib.hid J.out.2.2.1
                        have J4 := Lib.hid J.out.2.2.2.1
                        have J5 := Lib.hid J.out.2.2.2.2
                        have HZ := Lib.hid hz
                        clear J hz
                        go_wp2_with fail
                        go_roundw
                        case rel =>
                          refine ⟨r + 1, by omega, by omega, by go_num, Lib.hid ⟨J1.out.setCell (p := ⟨bd + 1, r + 1, none⟩) (by have := HD.out; show _ ≤ bd + 1; omega) _, J2.out.oth (k := bd + 1) (by omega) (r + 1) _, J3.out.set (g := bd + 1) (by omega) (r + 1) _, (J4.out.set (r + 1) _).congr fun j hj => ?_, by have := J5.out; simpa [World.setCell] using this⟩⟩
                          have HZ' := HZ.out
                          by_cases e : j = r + 1
                          · subst e; rw [if_pos rfl, if_neg (by omega), if_pos (by omega)]; show Value.int .i64 _ = Value.int .i64 _; congr 1; omega
                          · rw [if_neg e]
                            by_cases e2 : j < p
                            · rw [if_pos e2, if_pos e2]
                            · rw [if_neg e2, if_neg e2]
                              by_cases e3 : j < r + 1
                              · rw [if_pos e3, if_pos (by omega)]
                              · rw [if_neg e3, if_neg (by omega)]
                        case measure => simp [intOf]; omega
                      · have er : r + 1 = k := by omega
                        have rI : ¬ ((r : Int) + 1 < (k : Int)) := by omega
                        have RA2 := Lib.hid (rowsAt_of J.out.2.1)
                        have NEW : Hid (Below w1.heap.size w1 wr ∧ Row wr bd 25 #[.int .i64 (v : Int), .slice (some ⟨gs, 0, none⟩) (m + 1) cq] ∧ OwnR (bd + 2) wr (.slice (some ⟨gs, 0, none⟩) (m + 1) cq) (C.take (m + 1)) ∧ wr.rowIs (bd + 1) 3 k (fun j => .int .i64 ((C[m + 1].getD j 0 : Nat) : Int)) ∧ bd + 2 ≤ wr.heap.size) := Lib.hid ⟨J.out.1, J.out.2.1, J.out.2.2.1, J.out.2.2.2.1.congr fun j hj => by
                          rw [NXH.out j hj]
                          by_cases e2 : j < p
                          · rw [if_pos e2, if_pos e2]
                          · rw [if_neg e2, if_neg e2, if_pos (by omega)], J.out.2.2.2.2⟩
                        clear J er
                        go_wp2_with fail
                        go_roundw
                        case rel => exact ⟨m + 1, hm', _, NEW⟩
                        case measure => rw [RA2.out]; omega
              
end Go.Proofs.YtnnacofjogfkeaaDoor
