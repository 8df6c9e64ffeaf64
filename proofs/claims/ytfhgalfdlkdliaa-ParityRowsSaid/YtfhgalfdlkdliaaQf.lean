/- The walk of the law ParityRows. WRITTEN BY gen_Qf.py. -/
import Derived.Test.YtfhgalfdlkdliaaPq
import Derived.Test.YtfhgalfdlkdliaaOpr
namespace Go.Proofs.Ytfhgalfdlkdliaa
open Go Go.RowKit
set_option linter.unusedVariables false
set_option linter.unusedSimpArgs false

/-- The data after the first updates. -/
def nowF (K : Nat → Int) (B : Nat → Blk) (D : List (List Nat)) : Nat → List (List Nat)
  | 0 => D
  | j + 1 => if 0 ≤ (K j).tmod D.length then (nowF K B D j).set ((K j).tmod D.length).toNat (B j).1 else nowF K B D j
theorem nowF_len {K : Nat → Int} {B : Nat → Blk} {D : List (List Nat)} : ∀ j, (nowF K B D j).length = D.length
  | 0 => rfl
  | j + 1 => by
    unfold nowF
    split
    · rw [List.length_set]; exact nowF_len j
    · exact nowF_len j
theorem Bl.off {w : World} {b o n c : Nat} {D : List (List Nat)} (h : Bl w (.slice (some ⟨b, o, none⟩) n c) D) {g : Nat} (hg : b ≠ g) (p : Nat) (vs : List Value) : Bl (w.setCells g p vs) (.slice (some ⟨b, o, none⟩) n c) D := by
  obtain ⟨A, c', hv, hm, hl, hz, hc⟩ := h
  injection hv with e1 e2 e3
  subst e1 e2 e3
  refine ⟨_, c, rfl, hm, hl, fun h => (by cases h), fun hn => ?_⟩
  obtain ⟨b', o', e, hr⟩ := hc hn
  injection e with e
  injection e with e1 e2 e3
  subst e1 e2
  exact ⟨b, o, rfl, World.rangeAt_setCells_apart hr g p vs (Or.inl hg)⟩

set_option maxHeartbeats 4000000 in
set_option maxRecDepth 100000 in
theorem plro_lo (v v1 : Value) (D : List (List Nat)) (u : Nat) (K : Nat → Int) (B : Nat → Blk) (w : World) (h : Bl w v D) (hu : Rs w v1 u K B) (hs : D.length < 1) : Calls Try.prog 7 #[v, v1] w (lawPost w) := by
  have HV := Lib.hid h
  have HU := Lib.hid hu
  have hm : D.length ≤ maxLen := by obtain ⟨_, _, _, hm, _⟩ := h; omega
  have hmu : u ≤ maxLen := by obtain ⟨_, _, _, hm, _⟩ := hu; omega
  have OK := Lib.hid h.ok
  obtain ⟨A, c, rfl⟩ := h.form
  obtain ⟨A1, cu, rfl, -, -⟩ := hu
  obtain ⟨n, hn⟩ : ∃ n, D.length = n := ⟨_, rfl⟩
  have N := Lib.hid hn
  rw [hn] at hm hs HV ⊢
  clear h hn
  have g1 : decide ((n : Int) < 1) = true := by simp; omega
  go_enter Try.func7, Try.ntmps7
  go_wp2_with fail
  refine (pawake_any _).mono ?_
  rintro e x2 ⟨rfl, hb1⟩
  have hq3 : Below w.heap.size w x2 := hb1
  have HB_4 : Hid (Below w.heap.size w x2) := Lib.hid (hq3)
  clear hq3
  clear hb1
  go_wp2_with fail
  go_ret
  exact ⟨by first | rfl | simp, HB_4.out⟩
set_option maxHeartbeats 4000000 in
set_option maxRecDepth 100000 in
theorem plro_hi (v v1 : Value) (D : List (List Nat)) (u : Nat) (K : Nat → Int) (B : Nat → Blk) (w : World) (h : Bl w v D) (hu : Rs w v1 u K B) (hs : ¬ D.length < 1 ∧ 13 < D.length) : Calls Try.prog 7 #[v, v1] w (lawPost w) := by
  have HV := Lib.hid h
  have HU := Lib.hid hu
  have hm : D.length ≤ maxLen := by obtain ⟨_, _, _, hm, _⟩ := h; omega
  have hmu : u ≤ maxLen := by obtain ⟨_, _, _, hm, _⟩ := hu; omega
  have OK := Lib.hid h.ok
  obtain ⟨A, c, rfl⟩ := h.form
  obtain ⟨A1, cu, rfl, -, -⟩ := hu
  obtain ⟨n, hn⟩ : ∃ n, D.length = n := ⟨_, rfl⟩
  have N := Lib.hid hn
  rw [hn] at hm hs HV ⊢
  clear h hn
  have g1 : decide ((n : Int) < 1) = false := by simp; omega
  have g2 : decide ((13 : Int) < (n : Int)) = true := by simp; omega
  go_enter Try.func7, Try.ntmps7
  go_wp2_with fail
  refine (pawake_any _).mono ?_
  rintro e x2 ⟨rfl, hb1⟩
  have hq3 : Below w.heap.size w x2 := hb1
  have HB_4 : Hid (Below w.heap.size w x2) := Lib.hid (hq3)
  clear hq3
  clear hb1
  go_wp2_with fail
  go_ret
  exact ⟨by first | rfl | simp, HB_4.out⟩
set_option maxHeartbeats 4000000 in
set_option maxRecDepth 100000 in
theorem plro_many (v v1 : Value) (D : List (List Nat)) (u : Nat) (K : Nat → Int) (B : Nat → Blk) (w : World) (h : Bl w v D) (hu : Rs w v1 u K B) (hs : ¬ D.length < 1 ∧ ¬ 13 < D.length ∧ 20 < u) : Calls Try.prog 7 #[v, v1] w (lawPost w) := by
  have HV := Lib.hid h
  have HU := Lib.hid hu
  have hm : D.length ≤ maxLen := by obtain ⟨_, _, _, hm, _⟩ := h; omega
  have hmu : u ≤ maxLen := by obtain ⟨_, _, _, hm, _⟩ := hu; omega
  have OK := Lib.hid h.ok
  obtain ⟨A, c, rfl⟩ := h.form
  obtain ⟨A1, cu, rfl, -, -⟩ := hu
  obtain ⟨n, hn⟩ : ∃ n, D.length = n := ⟨_, rfl⟩
  have N := Lib.hid hn
  rw [hn] at hm hs HV ⊢
  clear h hn
  have g1 : decide ((n : Int) < 1) = false := by simp; omega
  have g2 : decide ((13 : Int) < (n : Int)) = false := by simp; omega
  have g3 : decide ((20 : Int) < (u : Int)) = true := by simp; omega
  go_enter Try.func7, Try.ntmps7
  go_wp2_with fail
  refine (pawake_any _).mono ?_
  rintro e x2 ⟨rfl, hb1⟩
  have hq3 : Below w.heap.size w x2 := hb1
  have HB_4 : Hid (Below w.heap.size w x2) := Lib.hid (hq3)
  clear hq3
  clear hb1
  go_wp2_with fail
  go_ret
  exact ⟨by first | rfl | simp, HB_4.out⟩
set_option maxHeartbeats 4000000 in
set_option maxRecDepth 100000 in
theorem plro_ok (v v1 : Value) (D : List (List Nat)) (u : Nat) (K : Nat → Int) (B : Nat → Blk) (w : World) (h : Bl w v D) (hu : Rs w v1 u K B) (hs : 1 ≤ D.length ∧ D.length ≤ 13 ∧ u ≤ 20) : Calls Try.prog 7 #[v, v1] w (lawPost w) := by
  have HV := Lib.hid h
  have HU := Lib.hid hu
  have hm : D.length ≤ maxLen := by obtain ⟨_, _, _, hm, _⟩ := h; omega
  have hmu : u ≤ maxLen := by obtain ⟨_, _, _, hm, _⟩ := hu; omega
  have OK := Lib.hid h.ok
  obtain ⟨A, c, rfl⟩ := h.form
  obtain ⟨A1, cu, rfl, -, -⟩ := hu
  obtain ⟨n, hn⟩ : ∃ n, D.length = n := ⟨_, rfl⟩
  have N := Lib.hid hn
  have HS : Hid (1 ≤ D.length ∧ D.length ≤ 13) := Lib.hid (by omega)
  have L2 : Hid (([] : List (List Nat)).length + D.length ≤ 1000) := Lib.hid (by simp; omega)
  rw [hn] at hm hs HV ⊢
  clear h hn
  have g1 : decide ((n : Int) < 1) = false := by simp; omega
  have g2 : decide ((13 : Int) < (n : Int)) = false := by simp; omega
  have g3 : decide ((20 : Int) < (u : Int)) = false := by simp; omega
  have n0 : (n : Int) ≠ 0 := by omega
  have n1 : (0 : Int) < (n : Int) := by omega
  go_enter Try.func7, Try.ntmps7
  go_wp2_with fail
  refine (pawake_any _).mono ?_
  rintro e x2 ⟨rfl, hb1⟩
  have hq3 : Below w.heap.size w x2 := hb1
  have D_4 := Lib.hid (Bl.to HV.out hq3)
  have R_5 := Lib.hid (Rs.to HU.out hq3)
  have HB_6 : Hid (Below w.heap.size w x2) := Lib.hid (hq3)
  clear hq3
  clear hb1
  go_wp2_with (at_builtin; refine wpList_append_bl rfl (.tmp 27) (.tmp 28) rfl x2.heap.size (.slice (some ⟨x2.heap.size, 0, none⟩) 0 0) (.slice A n c) [] D rfl (OwnB.new (Nat.le_refl _)) rfl (D_4.out.alloc _) L2.out (by simp) ?_; intro zv1 zx2 ho hg; have zHO3 := Lib.hid ho; have zHG4 := Lib.hid hg; clear ho hg; obtain ⟨gn, cn, en, hgn, hgl⟩ := zHO3.out.form (by rw [List.nil_append]; have := HS.out; omega); rw [List.nil_append, N.out] at en; subst en; have OO := zHO3.out; rw [List.nil_append] at OO; have HOF := Lib.hid OO; clear OO)
  have zhq5 : Below x2.heap.size x2 zx2 := ((Below.refl x2.heap.size x2).alloc (Nat.le_refl _) _).grown zHG4.out (by simp) (fun k e => by cases e; exact Nat.le_refl _)
  have zD_6 := Lib.hid (Bl.to D_4.out zhq5)
  have zHB_7 : Hid (Below x2.heap.size x2 zx2) := Lib.hid (zhq5)
  clear zhq5
  go_wp2_with fail
  refine (encode_b _ D _ _ HOF.out.bl HS.out.1 HS.out.2 rfl).mono ?_
  rintro e zx9 ⟨gp, rfl, hge, zhn10, zhb8⟩
  have zhq11 : Below zx2.heap.size zx2 zx9 := zhb8
  have zO_12 := Lib.hid (OwnB.to HOF.out zhq11)
  have zHB_13 : Hid (Below x2.heap.size x2 zx9) := Lib.hid (zHB_7.out.trans (zhq11.mono zHB_7.out.size))
  clear zhq11
  have zP_14 := Lib.hid zhn10
  clear zhb8 zhn10
  go_wp2_with fail
  have hgp : gn < gp := by omega
  clear hgl hge
  have LB : Hid (Below x2.heap.size x2 zx9 ∧ OwnB zx9 x2.heap.size (.slice (some ⟨gn, 0, none⟩) n cn) (nowF K B D 0) ∧ Bl zx9 (.slice (some ⟨gp, 0, none⟩) 3 3) (parL (nowF K B D 0)) ∧ gn < gp) := Lib.hid ⟨zHB_13.out, zO_12.out, zP_14.out, hgp⟩
  clear hgp
  go_loopw [6, 7, 8, 9] (fun vp e q _ wr => ∃ j gp : Nat, j ≤ u ∧ vp = .slice (some ⟨gp, 0, none⟩) 3 3 ∧ e = .int .i64 0 ∧ q = .int .i64 (j : Int) ∧ Hid (Below x2.heap.size x2 wr ∧ OwnB wr x2.heap.size (.slice (some ⟨gn, 0, none⟩) n cn) (nowF K B D j) ∧ Bl wr (.slice (some ⟨gp, 0, none⟩) 3 3) (parL (nowF K B D j)) ∧ gn < gp)) (fun _ _ q _ _ => u - (intOf q).toNat)
  case atStart => exact ⟨0, gp, Nat.zero_le _, rfl, rfl, rfl, LB⟩
  case round =>
    clear LB
    obtain ⟨j, gp, hj, rfl, rfl, rfl, H⟩ := hrel
    by_cases hlt : j < u
    · have hjI : (j : Int) < (u : Int) := by omega
      have hjd : decide ((j : Int) < (u : Int)) = true := decide_eq_true hjI
      obtain ⟨A', cu', hv, hmu2, hre⟩ := R_5.out
      injection hv with hv1 hv2 hv3
      subst hv1 hv3
      clear hv2
      obtain ⟨bu, ou, rfl, hre1⟩ := hre (by omega)
      have hre2 := rangeTo hre1 H.out.1
      have c1 := recs_key hre2 hlt
      have ox := recs_blk hre2 hlt
      have HOX := Lib.hid ox
      clear hre hre1 hre2 ox hmu2
      by_cases hk : 0 ≤ (K j).tmod (n : Int)
      · obtain ⟨k, ek⟩ : ∃ k : Nat, (K j).tmod (n : Int) = (k : Int) := ⟨((K j).tmod (n : Int)).toNat, by omega⟩
        have hkl : k < n := by
          have := Int.tmod_lt_of_pos (K j) (show (0 : Int) < (n : Int) by omega)
          omega
        have kI : (k : Int) < (n : Int) := by omega
        have ST : Hid (nowF K B D (j + 1) = (nowF K B D j).set k (B j).1) := Lib.hid (by
          rw [nowF, N.out, if_pos hk, ek, Int.toNat_natCast])
        obtain ⟨E, hE⟩ : ∃ E, nowF K B D j = E := ⟨_, rfl⟩
        obtain ⟨y1, y2, y3, y4⟩ := H.out
        rw [hE] at y2 y3 ST
        have EL : Hid (k < E.length) := Lib.hid (by rw [← hE, nowF_len, N.out]; exact hkl)
        have EK : Hid (∀ d ∈ E, B8 d) := Lib.hid y2.1
        obtain ⟨a, ha⟩ : ∃ a : Blk, a = nth E EK.out k := ⟨_, rfl⟩
        have AE : Hid (a.1 = E.getD k []) := Lib.hid (by rw [ha]; show E.getD k zeroB.1 = _; rw [getD_in EL.out, getD_in EL.out])
        have HHB := Lib.hid y1
        have HOE := Lib.hid y2
        have HPP := Lib.hid y3
        have HY4 := Lib.hid y4
        have k13 : k ≤ 12 := by have := HS.out; rw [N.out] at this; omega
        clear y1 y2 y3 y4 hE ha hk H
        go_wp2_with fail
        refine wp_region_held (S := (fun w' : World => Bl w' (.slice (some ⟨gn, 0, none⟩) n cn) E ∧ At8 w' bu (ou + j * 9 + 1) (B j).1)) rfl ?_
        change wpAnyH _ _ _ _ _ _ _ _ wr.drew
        have rhz2 : Below wr.heap.size wr wr.drew := (Below.refl wr.heap.size wr).drew
        generalize wr.drew = rwz1 at rhz2 ⊢
        have rhq3 : Below wr.heap.size wr rwz1 := rhz2
        have rO_4 := Lib.hid (OwnB.to HOE.out rhq3)
        have rP_5 := Lib.hid (Bl.to HPP.out rhq3)
        have rY_6 := Lib.hid (rangeTo HOX.out rhq3)
        have rHB_7 : Hid (Below x2.heap.size x2 rwz1) := Lib.hid (HHB.out.trans (rhq3.mono HHB.out.size))
        clear rhq3
        clear rhz2
        have rhS8 : (fun w' : World => Bl w' (.slice (some ⟨gn, 0, none⟩) n cn) E ∧ At8 w' bu (ou + j * 9 + 1) (B j).1) rwz1 := ⟨rO_4.out.bl, rY_6.out⟩
        refine takeD (i := 0) (v := .slice (some ⟨gp, 0, none⟩) 3 3) (some 56) rfl rfl (by kernel_rfl) (by kernel_rfl) (by kernel_rfl) (fun _ _ _ h => h) (Or.inl ⟨by rfl, by rintro w' -; go_simp⟩) rhS8 ?_
        simp only [Act.put, List.setIfInBounds_toArray, List.set_cons_zero, List.set_cons_succ]
        refine takeD (i := 1) (v := .int .i64 (k : Int)) (some 57) rfl rfl (by kernel_rfl) (by kernel_rfl) (by kernel_rfl) (fun _ _ _ h => h) (Or.inl ⟨by rfl, by rintro w' -; go_simp⟩) rhS8 ?_
        simp only [Act.put, List.setIfInBounds_toArray, List.set_cons_zero, List.set_cons_succ]
        refine takeD (i := 2) (v := .slice (some ⟨gn, 0, none⟩) n cn) (some 58) rfl rfl (by kernel_rfl) (by kernel_rfl) (by kernel_rfl) (fun _ _ _ h => h) (Or.inl ⟨by rfl, by rintro w' -; go_simp⟩) rhS8 ?_
        simp only [Act.put, List.setIfInBounds_toArray, List.set_cons_zero, List.set_cons_succ]
        refine takeD (i := 3) (v := .int .i64 (k : Int)) (some 59) rfl rfl (by kernel_rfl) (by kernel_rfl) (by kernel_rfl) (fun _ _ _ h => h) (Or.inl ⟨by rfl, by rintro w' -; go_simp⟩) rhS8 ?_
        simp only [Act.put, List.setIfInBounds_toArray, List.set_cons_zero, List.set_cons_succ]
        refine takeD (i := 4) (v := .pointer (some ⟨gn, k * 8, none⟩)) (some 60) rfl rfl (by kernel_rfl) (by kernel_rfl) (by kernel_rfl) (fun _ _ _ h => h) (Or.inl ⟨by rfl, by rintro w' -; go_simp⟩) rhS8 ?_
        simp only [Act.put, List.setIfInBounds_toArray, List.set_cons_zero, List.set_cons_succ]
        refine takeD (i := 5) (v := .agg (bcs a.1)) (some 61) rfl rfl (by kernel_rfl) (by kernel_rfl) (by kernel_rfl) (fun _ _ _ h => h) (yieldsIf_load8 (by rfl) _ _ rfl _ _ rfl a.1 _ (fun w' h => by rw [AE.out]; have := Bl.at8 h.1 EL.out; rw [Nat.zero_add] at this; exact this) Try.underlying44 rfl (size8 a.2.1)) rhS8 ?_
        simp only [Act.put, List.setIfInBounds_toArray, List.set_cons_zero, List.set_cons_succ]
        refine takeD (i := 6) (v := .slice (some ⟨bu, ou, none⟩) u cu) (some 62) rfl rfl (by kernel_rfl) (by kernel_rfl) (by kernel_rfl) (fun _ _ _ h => h) (Or.inl ⟨by rfl, by rintro w' -; go_simp⟩) rhS8 ?_
        simp only [Act.put, List.setIfInBounds_toArray, List.set_cons_zero, List.set_cons_succ]
        refine takeD (i := 7) (v := .int .i64 (j : Int)) (some 63) rfl rfl (by kernel_rfl) (by kernel_rfl) (by kernel_rfl) (fun _ _ _ h => h) (Or.inl ⟨by rfl, by rintro w' -; go_simp⟩) rhS8 ?_
        simp only [Act.put, List.setIfInBounds_toArray, List.set_cons_zero, List.set_cons_succ]
        refine takeD (i := 8) (v := .pointer (some ⟨bu, ou + j * 9, none⟩)) (some 64) rfl rfl (by kernel_rfl) (by kernel_rfl) (by kernel_rfl) (fun _ _ _ h => h) (Or.inl ⟨by rfl, by rintro w' -; go_simp⟩) rhS8 ?_
        simp only [Act.put, List.setIfInBounds_toArray, List.set_cons_zero, List.set_cons_succ]
        refine takeD (i := 9) (v := .pointer (some ⟨bu, ou + j * 9 + 1, none⟩)) (some 65) rfl rfl (by kernel_rfl) (by kernel_rfl) (by kernel_rfl) (fun _ _ _ h => h) (Or.inl ⟨by rfl, by rintro w' -; go_simp⟩) rhS8 ?_
        simp only [Act.put, List.setIfInBounds_toArray, List.set_cons_zero, List.set_cons_succ]
        refine takeD (i := 10) (v := .agg (bcs (B j).1)) (some 66) rfl rfl (by kernel_rfl) (by kernel_rfl) (by kernel_rfl) (fun _ _ _ h => h) (yieldsIf_load8 (by rfl) _ _ rfl _ _ rfl (B j).1 _ (fun w' h => h.2) Try.underlying44 rfl (size8 (B j).2.1)) rhS8 ?_
        simp only [Act.put, List.setIfInBounds_toArray, List.set_cons_zero, List.set_cons_succ]
        refine wpAnyH_ready (rs := [11]) (by kernel_rfl) (by simp) ?_
        refine AllReadyH.cons rfl (fun rK9 hrK9 => ?_) AllReadyH.nil
        have HrK9 := Lib.hid hrK9
        clear hrK9
        rw [if_pos (by rfl)]
        go_simp
        have hol := (rO_4.out.lt _ rfl).2
        go_at_call 23
        refine (update_b _ E _ _ EK.out a (B j) k _ rP_5.out rfl EL.out k13 AE.out rfl).mono ?_
        rintro e rx10 ⟨gx, rfl, hgx, hx, hb⟩
        have rhq11 : Below rwz1.heap.size rwz1 rx10 := hb
        have rO_12 := Lib.hid (OwnB.to rO_4.out rhq11)
        have rP_13 := Lib.hid (Bl.to rP_5.out rhq11)
        have rY_14 := Lib.hid (rangeTo rY_6.out rhq11)
        have rHB_15 : Hid (Below x2.heap.size x2 rx10) := Lib.hid (rHB_7.out.trans (rhq11.mono rHB_7.out.size))
        clear rhq11
        have HXX := Lib.hid hx
        have HGX : Hid (gn < gx) := Lib.hid (Nat.lt_of_lt_of_le hol hgx)
        clear hb hx hol hgx
        have rhS16 : (fun w' : World => Bl w' (.slice (some ⟨gn, 0, none⟩) n cn) E ∧ At8 w' bu (ou + j * 9 + 1) (B j).1) rx10 := ⟨rO_12.out.bl, rY_14.out⟩
        refine HrK9.out _ _ rhS16 fun _ => ?_
        try simp only [Act.put, List.setIfInBounds_toArray, List.set_cons_zero, List.set_cons_succ]
        refine takeD (i := 12) (v := .tuple #[.slice (some ⟨gx, 0, none⟩) 3 3, .int .i64 0]) (some 55) rfl rfl (by kernel_rfl) (by kernel_rfl) (by kernel_rfl) (fun _ _ _ h => h) (Or.inl ⟨by rfl, by rintro w' -; go_simp⟩) rhS16 ?_
        simp only [Act.put, List.setIfInBounds_toArray, List.set_cons_zero, List.set_cons_succ]
        refine takeD (i := 13) (v := .slice (some ⟨gx, 0, none⟩) 3 3) (some 68) rfl rfl (by kernel_rfl) (by kernel_rfl) (by kernel_rfl) (fun _ _ _ h => h) (Or.inl ⟨by rfl, by rintro w' -; go_simp⟩) rhS16 ?_
        simp only [Act.put, List.setIfInBounds_toArray, List.set_cons_zero, List.set_cons_succ]
        refine takeD (i := 14) (v := .int .i64 0) (some 69) rfl rfl (by kernel_rfl) (by kernel_rfl) (by kernel_rfl) (fun _ _ _ h => h) (Or.inl ⟨by rfl, by rintro w' -; go_simp⟩) rhS16 ?_
        simp only [Act.put, List.setIfInBounds_toArray, List.set_cons_zero, List.set_cons_succ]
        refine takeD (i := 15) (v := .slice (some ⟨gx, 0, none⟩) 3 3) (some 6) rfl rfl (by kernel_rfl) (by kernel_rfl) (by kernel_rfl) (fun _ _ _ h => h) (Or.inl ⟨by rfl, by rintro w' -; go_simp⟩) rhS16 ?_
        simp only [Act.put, List.setIfInBounds_toArray, List.set_cons_zero, List.set_cons_succ]
        refine takeD (i := 16) (v := .int .i64 0) (some 7) rfl rfl (by kernel_rfl) (by kernel_rfl) (by kernel_rfl) (fun _ _ _ h => h) (Or.inl ⟨by rfl, by rintro w' -; go_simp⟩) rhS16 ?_
        simp only [Act.put, List.setIfInBounds_toArray, List.set_cons_zero, List.set_cons_succ]
        refine wpAnyH_done (by kernel_rfl) ?_ _
        have TH : Hid (rx10.there gn (k * 8) (bcs (B j).1).size) := Lib.hid (by rw [bcs_size, (B j).2.1]; exact rO_12.out.there EL.out)
        have SB := Lib.hid (size8 (B j).2.1)
        have ZO := Lib.hid (rO_12.out.set EL.out (B j).2)
        have ZP := Lib.hid (Bl.off HXX.out (show gx ≠ gn by have := HGX.out; omega) (k * 8) ((B j).1.map bv))
        have ZB := Lib.hid (below_setCells rHB_15.out ((B j).1.map bv) gn (k * 8) hgn)
        go_wp2_with (first | (refine wpList_load8 rfl _ _ rfl _ _ rfl _ _ rY_14.out Try.underlying44 rfl SB.out ?_) | (refine wpList_store8 rfl _ _ _ rfl _ _ (B j).1 rfl rfl TH.out SB.out ?_))
        go_roundw
        case rel => exact ⟨j + 1, gx, by omega, rfl, rfl, by go_num, Lib.hid ⟨ZB.out, by rw [ST.out]; exact ZO.out, by rw [ST.out]; exact ZP.out, HGX.out⟩⟩
        case measure => simp [intOf]; omega
      · have ST : Hid (nowF K B D (j + 1) = nowF K B D j) := Lib.hid (by rw [nowF, N.out, if_neg hk])
        have hk3 : decide ((K j).tmod (n : Int) < 0) = true := decide_eq_true (by omega)
        have hk4 : (K j).tmod (n : Int) < 0 := by omega
        go_wp2
        go_roundw
        case rel => exact ⟨j + 1, gp, by omega, rfl, rfl, by go_num, Lib.hid ⟨H.out.1, by rw [ST.out]; exact H.out.2.1, by rw [ST.out]; exact H.out.2.2.1, H.out.2.2.2⟩⟩
        case measure => simp [intOf]; omega
    · have hjd : decide ((j : Int) < (u : Int)) = false := decide_eq_false (by omega)
      obtain ⟨E, hE⟩ : ∃ E, nowF K B D j = E := ⟨_, rfl⟩
      have EL : Hid (1 ≤ E.length ∧ E.length ≤ 13) := Lib.hid (by rw [← hE, nowF_len]; exact HS.out)
      obtain ⟨y1, y2, y3, y4⟩ := H.out
      rw [hE] at y2 y3
      have HB3 : Hid (Below w.heap.size w wr) := Lib.hid (HB_6.out.trans (y1.mono HB_6.out.size))
      have HO := Lib.hid y2.bl
      have HP := Lib.hid y3
      clear y1 y2 y3 y4 hE H
      go_wp2_with fail
      refine (encode_b _ E _ _ HO.out EL.out.1 EL.out.2 rfl).mono ?_
      rintro e yx2 ⟨gq, rfl, -, yhn3, yhb1⟩
      have yhq4 : Below wr.heap.size wr yx2 := yhb1
      have yE_5 := Lib.hid (Bl.to HO.out yhq4)
      have yP_6 := Lib.hid (Bl.to HP.out yhq4)
      have yHB_7 : Hid (Below w.heap.size w yx2) := Lib.hid (HB3.out.trans (yhq4.mono HB3.out.size))
      clear yhq4
      have yQ_8 := Lib.hid yhn3
      clear yhb1 yhn3
      go_wp2_with fail
      refine (same_b _ _ (parL E) (parL E) true _ yP_6.out yQ_8.out (by simp)).mono ?_
      rintro e yx10 ⟨rfl, yhb9⟩
      have yhq11 : Below yx2.heap.size yx2 yx10 := yhb9
      have yE_12 := Lib.hid (Bl.to yE_5.out yhq11)
      have yP_13 := Lib.hid (Bl.to yP_6.out yhq11)
      have yQ_14 := Lib.hid (Bl.to yQ_8.out yhq11)
      have yHB_15 : Hid (Below w.heap.size w yx10) := Lib.hid (yHB_7.out.trans (yhq11.mono yHB_7.out.size))
      clear yhq11
      clear yhb9
      go_wp2_with fail
      go_ret
      exact ⟨by first | rfl | simp, yHB_15.out⟩
theorem plro_walk (v v1 : Value) (D : List (List Nat)) (u : Nat) (K : Nat → Int) (B : Nat → Blk) (w : World) (h : Bl w v D) (hu : Rs w v1 u K B) : Calls Try.prog 7 #[v, v1] w (lawPost w) := by
  by_cases h1 : D.length < 1
  · exact plro_lo v v1 D u K B w h hu h1
  · by_cases h2 : 13 < D.length
    · exact plro_hi v v1 D u K B w h hu ⟨h1, h2⟩
    · by_cases h3 : 20 < u
      · exact plro_many v v1 D u K B w h hu ⟨h1, h2, h3⟩
      · exact plro_ok v v1 D u K B w h hu ⟨by omega, by omega, by omega⟩
end Go.Proofs.Ytfhgalfdlkdliaa
