/- The walk of the law ParityDistance. WRITTEN BY gen_Qd.py. -/
import Derived.Test.YtfhgalfdlkdliaaRec
import Derived.Test.YtfhgalfdlkdliaaOpen
namespace Go.Proofs.Ytfhgalfdlkdliaa
open Go Go.RowKit
set_option linter.unusedVariables false
set_option linter.unusedSimpArgs false

/-- The group after the first changes. -/
def othF (N : Nat) (K : Nat → Int) (B : Nat → Blk) (G : List (List Nat)) : Nat → List (List Nat)
  | 0 => G
  | j + 1 => if 0 ≤ (K j).tmod N then (othF N K B G j).set ((K j).tmod N).toNat (xorB ((othF N K B G j).getD ((K j).tmod N).toNat []) (B j).1) else othF N K B G j
theorem othF_len {N : Nat} {K : Nat → Int} {B : Nat → Blk} {G : List (List Nat)} : ∀ j, (othF N K B G j).length = G.length
  | 0 => rfl
  | j + 1 => by
    unfold othF
    split
    · rw [List.length_set]; exact othF_len j
    · exact othF_len j
theorem tmod_lt {k : Int} {N : Nat} (hN : 0 < N) : (k.tmod N).toNat < N := by
  have h := Int.tmod_lt_of_pos k (show (0 : Int) < N by omega)
  omega
theorem othF_ok {K : Nat → Int} {B : Nat → Blk} {G : List (List Nat)} (hG : ∀ d ∈ G, B8 d) (hN : 0 < G.length) : ∀ j, ∀ d ∈ othF G.length K B G j, B8 d
  | 0 => hG
  | j + 1 => by
    have ih := othF_ok hG hN j (K := K) (B := B)
    unfold othF
    split
    · intro d hd
      rcases List.mem_or_eq_of_mem_set hd with h | rfl
      · exact ih d h
      · have hl : ((K j).tmod G.length).toNat < (othF G.length K B G j).length := by rw [othF_len]; exact tmod_lt hN
        rw [getD_in hl]
        exact xorB_ok (ih _ (List.getElem_mem hl)) (B j).2
    · exact ih
theorem othF_off {K : Nat → Int} {B : Nat → Blk} {G : List (List Nat)} {i : Nat} : ∀ j, (∀ m, m < j → i ≠ ((K m).tmod G.length).toNat) → ∀ k, el (othF G.length K B G j) i k = el G i k
  | 0, _, _ => rfl
  | j + 1, h, k => by
    have ih := othF_off (K := K) (B := B) j (fun m hm => h m (by omega)) k
    unfold othF
    split
    · rw [show el ((othF G.length K B G j).set ((K j).tmod G.length).toNat (xorB ((othF G.length K B G j).getD ((K j).tmod G.length).toNat []) (B j).1)) i k = el (othF G.length K B G j) i k by
        unfold el; simp only [List.getD, List.getElem?_set_ne (fun x => h j (by omega) x.symm)]]
      exact ih
    · exact ih
theorem oth_chk {K : Nat → Int} {B : Nat → Blk} {G : List (List Nat)} (hG : ∀ d ∈ G, B8 d) (cG : chk G = true) (hN : 0 < G.length) : chk (othF G.length K B G 3) = decide (othF G.length K B G 3 = G) := by
  by_cases e : othF G.length K B G 3 = G
  · rw [e, cG, decide_eq_true rfl]
  · rw [decide_eq_false e]
    rcases hc : chk (othF G.length K B G 3) with _ | _
    · rfl
    · refine absurd (chk_three hG (othF_ok hG hN 3) (othF_len 3) cG hc (tmod_lt hN (k := K 0)) (tmod_lt hN (k := K 1)) (tmod_lt hN (k := K 2)) fun i hi h0 h1 h2 k _ => othF_off 3 (fun m hm => ?_) k) e
      match m, hm with
      | 0, _ => exact h0
      | 1, _ => exact h1
      | 2, _ => exact h2

set_option maxHeartbeats 4000000 in
set_option maxRecDepth 100000 in
theorem pldi_lo (v : Value) (D : List (List Nat)) (K : Nat → Int) (B : Nat → Blk) (w : World) (h : Bl w v D) (hs : D.length < 1) : Calls Try.prog 9 #[v, .agg (recs 3 K B).toArray] w (lawPost w) := by
  have HV := Lib.hid h
  have hm : D.length ≤ maxLen := by obtain ⟨_, _, _, hm, _⟩ := h; omega
  obtain ⟨A, c, rfl⟩ := h.form
  obtain ⟨n, hn⟩ : ∃ n, D.length = n := ⟨_, rfl⟩
  have N := Lib.hid hn
  rw [hn] at hm hs HV ⊢
  clear h hn
  have g1 : decide ((n : Int) < 1) = true := by simp; omega
  obtain ⟨cs, hcs⟩ : ∃ cs, (recs 3 K B).toArray = cs := ⟨_, rfl⟩
  have CS := Lib.hid hcs
  rw [hcs]
  clear hcs
  go_enter Try.func9, Try.ntmps9
  go_wp2_with fail
  obtain ⟨W0, hW0⟩ : ∃ W0, w.alloc (.cells cs 53) = W0 := ⟨_, rfl⟩
  have HB0 : Hid (Below w.heap.size w W0) := Lib.hid (by rw [← hW0]; exact (Below.refl w.heap.size w).alloc (Nat.le_refl _) _)
  have HX0 : Hid (W0.rangeAt w.heap.size 0 (recs 3 K B)) := Lib.hid (by rw [← hW0, ← CS.out]; exact (row_new w _ 53).range_)
  have HV0 : Hid (Bl W0 _ D) := Lib.hid (HV.out.to HB0.out)
  rw [hW0]
  clear hW0
  refine (pawake_any _).mono ?_
  rintro e x2 ⟨rfl, hb1⟩
  have hq3 : Below W0.heap.size W0 x2 := hb1
  have D_4 := Lib.hid (Bl.to HV0.out hq3)
  have X_5 := Lib.hid (rangeTo HX0.out hq3)
  have HB_6 : Hid (Below w.heap.size w x2) := Lib.hid (HB0.out.trans (hq3.mono HB0.out.size))
  clear hq3
  clear hb1
  go_wp2_with fail
  go_ret
  exact ⟨by first | rfl | simp, HB_6.out⟩
set_option maxHeartbeats 4000000 in
set_option maxRecDepth 100000 in
theorem pldi_hi (v : Value) (D : List (List Nat)) (K : Nat → Int) (B : Nat → Blk) (w : World) (h : Bl w v D) (hs : ¬ D.length < 1 ∧ 13 < D.length) : Calls Try.prog 9 #[v, .agg (recs 3 K B).toArray] w (lawPost w) := by
  have HV := Lib.hid h
  have hm : D.length ≤ maxLen := by obtain ⟨_, _, _, hm, _⟩ := h; omega
  obtain ⟨A, c, rfl⟩ := h.form
  obtain ⟨n, hn⟩ : ∃ n, D.length = n := ⟨_, rfl⟩
  have N := Lib.hid hn
  rw [hn] at hm hs HV ⊢
  clear h hn
  have g1 : decide ((n : Int) < 1) = false := by simp; omega
  have g2 : decide ((13 : Int) < (n : Int)) = true := by simp; omega
  obtain ⟨cs, hcs⟩ : ∃ cs, (recs 3 K B).toArray = cs := ⟨_, rfl⟩
  have CS := Lib.hid hcs
  rw [hcs]
  clear hcs
  go_enter Try.func9, Try.ntmps9
  go_wp2_with fail
  obtain ⟨W0, hW0⟩ : ∃ W0, w.alloc (.cells cs 53) = W0 := ⟨_, rfl⟩
  have HB0 : Hid (Below w.heap.size w W0) := Lib.hid (by rw [← hW0]; exact (Below.refl w.heap.size w).alloc (Nat.le_refl _) _)
  have HX0 : Hid (W0.rangeAt w.heap.size 0 (recs 3 K B)) := Lib.hid (by rw [← hW0, ← CS.out]; exact (row_new w _ 53).range_)
  have HV0 : Hid (Bl W0 _ D) := Lib.hid (HV.out.to HB0.out)
  rw [hW0]
  clear hW0
  refine (pawake_any _).mono ?_
  rintro e x2 ⟨rfl, hb1⟩
  have hq3 : Below W0.heap.size W0 x2 := hb1
  have D_4 := Lib.hid (Bl.to HV0.out hq3)
  have X_5 := Lib.hid (rangeTo HX0.out hq3)
  have HB_6 : Hid (Below w.heap.size w x2) := Lib.hid (HB0.out.trans (hq3.mono HB0.out.size))
  clear hq3
  clear hb1
  go_wp2_with fail
  go_ret
  exact ⟨by first | rfl | simp, HB_6.out⟩
set_option maxHeartbeats 4000000 in
set_option maxRecDepth 100000 in
theorem pldi_ok (v : Value) (D : List (List Nat)) (K : Nat → Int) (B : Nat → Blk) (w : World) (h : Bl w v D) (hs : 1 ≤ D.length ∧ D.length ≤ 13) : Calls Try.prog 9 #[v, .agg (recs 3 K B).toArray] w (lawPost w) := by
  have HV := Lib.hid h
  have hm : D.length ≤ maxLen := by obtain ⟨_, _, _, hm, _⟩ := h; omega
  obtain ⟨A, c, rfl⟩ := h.form
  obtain ⟨n, hn⟩ : ∃ n, D.length = n := ⟨_, rfl⟩
  have N := Lib.hid hn
  have OK := Lib.hid h.ok
  have HS : Hid (1 ≤ D.length ∧ D.length ≤ 13) := Lib.hid hs
  have L2 : Hid (([] : List (List Nat)).length + D.length ≤ 1000) := Lib.hid (by simp; omega)
  have L3 : Hid (([] ++ D : List (List Nat)).length + (parL D).length ≤ 1000) := Lib.hid (by simp [parL]; omega)
  obtain ⟨G, hG⟩ : ∃ G, [] ++ D ++ parL D = G := ⟨_, rfl⟩
  have GE := Lib.hid hG
  have GL : G.length = D.length + 3 := by rw [← hG]; simp [parL]
  have G8 : Hid (∀ d ∈ G, B8 d) := Lib.hid (by rw [← hG]; exact fun d hd => (List.mem_append.1 hd).elim (h.ok d) (parL_ok D d))
  have GC : Hid (chk G = true) := Lib.hid (by rw [← hG]; exact chk_group hs.1 hs.2)
  have L4 : Hid (([] : List (List Nat)).length + G.length ≤ 1000) := Lib.hid (by simp; omega)
  rw [hn] at GL
  have GN := Lib.hid GL
  clear hG GL
  rw [hn] at hm hs HV ⊢
  clear h hn
  have g1 : decide ((n : Int) < 1) = false := by simp; omega
  have g2 : decide ((13 : Int) < (n : Int)) = false := by simp; omega
  obtain ⟨cs, hcs⟩ : ∃ cs, (recs 3 K B).toArray = cs := ⟨_, rfl⟩
  have CS := Lib.hid hcs
  rw [hcs]
  clear hcs
  go_enter Try.func9, Try.ntmps9
  go_wp2_with fail
  obtain ⟨W0, hW0⟩ : ∃ W0, w.alloc (.cells cs 53) = W0 := ⟨_, rfl⟩
  have HB0 : Hid (Below w.heap.size w W0) := Lib.hid (by rw [← hW0]; exact (Below.refl w.heap.size w).alloc (Nat.le_refl _) _)
  have HX0 : Hid (W0.rangeAt w.heap.size 0 (recs 3 K B)) := Lib.hid (by rw [← hW0, ← CS.out]; exact (row_new w _ 53).range_)
  have HV0 : Hid (Bl W0 _ D) := Lib.hid (HV.out.to HB0.out)
  rw [hW0]
  clear hW0
  refine (pawake_any _).mono ?_
  rintro e x2 ⟨rfl, hb1⟩
  have hq3 : Below W0.heap.size W0 x2 := hb1
  have D_4 := Lib.hid (Bl.to HV0.out hq3)
  have X_5 := Lib.hid (rangeTo HX0.out hq3)
  have HB_6 : Hid (Below w.heap.size w x2) := Lib.hid (HB0.out.trans (hq3.mono HB0.out.size))
  clear hq3
  clear hb1
  go_wp2_with fail
  refine (encode_b _ D _ _ D_4.out HS.out.1 HS.out.2 rfl).mono ?_
  rintro e x8 ⟨gp, rfl, -, hn9, hb7⟩
  have hq10 : Below x2.heap.size x2 x8 := hb7
  have D_11 := Lib.hid (Bl.to D_4.out hq10)
  have X_12 := Lib.hid (rangeTo X_5.out hq10)
  have HB_13 : Hid (Below w.heap.size w x8) := Lib.hid (HB_6.out.trans (hq10.mono HB_6.out.size))
  clear hq10
  have P_14 := Lib.hid hn9
  clear hb7 hn9
  go_wp2_with (first | (at_builtin; refine wpList_append_bl rfl (.tmp 33) (.tmp 34) rfl x8.heap.size (.slice (some ⟨x8.heap.size, 0, none⟩) 0 0) (.slice A n c) [] D rfl (OwnB.new (Nat.le_refl _)) rfl (D_11.out.alloc _) L2.out (by simp) ?_; intro v15 x16 ho hg; have HO19 := Lib.hid ho; have HK24 : Hid (Below x8.heap.size x8 x16) := Lib.hid (((Below.refl x8.heap.size x8).alloc (Nat.le_refl _) _).grown hg (by simp) (fun k e => by cases e; exact Nat.le_refl _)); have HZ23 := Lib.hid (Bl.to P_14.out HK24.out); clear ho hg) | (at_builtin; refine wpList_append_bl rfl (.tmp 35) (.tmp 36) rfl x8.heap.size v15 (.slice (some ⟨gp, 0, none⟩) 3 3) ([] ++ D) (parL D) rfl HO19.out rfl HZ23.out L3.out HK24.out.size ?_; intro v17 x18 ho hg; have HO21 := Lib.hid ho; have HG22 := Lib.hid hg; clear ho hg))
  have hq25 : Below x8.heap.size x8 x18 := HK24.out.grown HG22.out HK24.out.size (fun k e => (HO19.out.lt k e).1)
  have D_26 := Lib.hid (Bl.to D_11.out hq25)
  have X_27 := Lib.hid (rangeTo X_12.out hq25)
  have P_28 := Lib.hid (Bl.to P_14.out hq25)
  have HB_29 : Hid (Below w.heap.size w x18) := Lib.hid (HB_13.out.trans (hq25.mono HB_13.out.size))
  clear hq25
  obtain ⟨gg, cg, eg, -, -⟩ := HO21.out.form (by rw [GE.out, GN.out]; omega)
  rw [GE.out, GN.out] at eg
  subst eg
  have GG30 := HO21.out.bl
  rw [GE.out] at GG30
  have GG30h := Lib.hid GG30
  clear GG30
  go_wp2_with fail
  refine (check_b _ G true _ GG30h.out GC.out).mono ?_
  rintro e x32 ⟨rfl, hb31⟩
  have hq33 : Below x18.heap.size x18 x32 := hb31
  have D_34 := Lib.hid (Bl.to D_26.out hq33)
  have X_35 := Lib.hid (rangeTo X_27.out hq33)
  have P_36 := Lib.hid (Bl.to P_28.out hq33)
  have G_37 := Lib.hid (Bl.to GG30h.out hq33)
  have HB_38 : Hid (Below w.heap.size w x32) := Lib.hid (HB_29.out.trans (hq33.mono HB_29.out.size))
  clear hq33
  clear hb31
  go_wp2_with (at_builtin; refine wpList_append_bl rfl (.tmp 41) (.tmp 42) rfl x32.heap.size (.slice (some ⟨x32.heap.size, 0, none⟩) 0 0) (.slice (some ⟨gg, 0, none⟩) (n + 3) cg) [] G rfl (OwnB.new (Nat.le_refl _)) rfl (G_37.out.alloc _) L4.out (by simp) ?_; intro v39 x40 ho hg; have HO41 := Lib.hid ho; have HG42 := Lib.hid hg; clear ho hg)
  have hq43 : Below x32.heap.size x32 x40 := ((Below.refl x32.heap.size x32).alloc (Nat.le_refl _) _).grown HG42.out (by simp) (fun k e => by cases e; exact Nat.le_refl _)
  have D_44 := Lib.hid (Bl.to D_34.out hq43)
  have X_45 := Lib.hid (rangeTo X_35.out hq43)
  have P_46 := Lib.hid (Bl.to P_36.out hq43)
  have G_47 := Lib.hid (Bl.to G_37.out hq43)
  have HB_48 : Hid (Below w.heap.size w x40) := Lib.hid (HB_38.out.trans (hq43.mono HB_38.out.size))
  clear hq43
  obtain ⟨go, co, eo, ho1, -⟩ := HO41.out.form (by rw [List.nil_append, GN.out]; omega)
  rw [List.nil_append, GN.out] at eo
  subst eo
  have OO49 := HO41.out
  rw [List.nil_append] at OO49
  have OO49h := Lib.hid OO49
  clear OO49
  go_wp2_with fail
  have LB : Hid (Below x32.heap.size x32 x40) := Lib.hid (((Below.refl x32.heap.size x32).alloc (Nat.le_refl _) _).grown HG42.out (by simp) (fun k e => by cases e; exact Nat.le_refl _))
  go_loopw [9, 10] (fun q _ wr => ∃ j : Nat, j ≤ 3 ∧ q = .int .i64 (j : Int) ∧ Hid (Below x32.heap.size x32 wr ∧ OwnB wr x32.heap.size (.slice (some ⟨go, 0, none⟩) (n + 3) co) (othF (n + 3) K B G j))) (fun q _ _ => 3 - (intOf q).toNat)
  case atStart => exact ⟨0, Nat.zero_le _, rfl, Lib.hid ⟨LB.out, OO49h.out⟩⟩
  case round =>
    obtain ⟨j, hj, rfl, H⟩ := hrel
    by_cases hlt : j < 3
    · have hjI : (j : Int) < 3 := by omega
      have X := X_35.out
      have X1 := rangeTo X H.out.1
      have c1 := recs_key X1 hlt
      rw [Nat.zero_add] at c1
      clear X X1
      by_cases hk : 0 ≤ (K j).tmod ((n : Int) + 3)
      · obtain ⟨k, ek⟩ : ∃ k : Nat, (K j).tmod ((n : Int) + 3) = (k : Int) := ⟨((K j).tmod ((n : Int) + 3)).toNat, by omega⟩
        have hkl : k < n + 3 := by
          have := Int.tmod_lt_of_pos (K j) (show (0 : Int) < (n : Int) + 3 by omega)
          omega
        have kI : (k : Int) < (n : Int) + 3 := by omega
        have kI2 : (k : Int) < ((n + 3 : Nat) : Int) := by omega
        have hN3 : ((n + 3 : Nat) : Int) = (n : Int) + 3 := by omega
        have ST : Hid (othF (n + 3) K B G (j + 1) = (othF (n + 3) K B G j).set k (xorB ((othF (n + 3) K B G j).getD k []) (B j).1)) := Lib.hid (by
          rw [othF, hN3, if_pos hk, ek, Int.toNat_natCast])
        obtain ⟨O, hO⟩ : ∃ O, othF (n + 3) K B G j = O := ⟨_, rfl⟩
        have OL : k < O.length := by rw [← hO, othF_len, GN.out]; exact hkl
        have OO := H.out.2
        rw [hO] at OO ST
        have d8 : B8 (O.getD k []) := by rw [getD_in OL]; exact OO.1 _ (List.getElem_mem OL)
        obtain ⟨d, hd⟩ : ∃ d, O.getD k [] = d := ⟨_, rfl⟩
        rw [hd] at d8 ST
        obtain ⟨sn, hs⟩ : ∃ s, xorB d (B j).1 = s := ⟨_, rfl⟩
        rw [hs] at ST
        have sn8 : B8 sn := hs ▸ xorB_ok d8 (B j).2
        have oe : At8 wr go (0 + k * 8) d := hd ▸ OO.bl.at8 OL
        rw [Nat.zero_add] at oe
        have ox := recs_blk (rangeTo X_35.out H.out.1) hlt
        rw [Nat.zero_add] at ox
        have HOO := Lib.hid OO
        have HOE := Lib.hid oe
        have HOX := Lib.hid ox
        have HHB := Lib.hid H.out.1
        have HSN := Lib.hid hs
        have HOLn := Lib.hid OL
        have hne : w.heap.size ≠ go := by
          have := World.block_lt_of_cell? x32 _ ((recs_key X_35.out (i := 0) (by decide)))
          have : w.heap.size < x32.heap.size := this
          omega
        clear OO oe ox hO hd hs hk OL
        go_wp2_with fail
        refine wp_region_held (S := (fun w' : World => At8 w' w.heap.size (j * 9 + 1) (B j).1)) rfl ?_
        change wpAnyH _ _ _ _ _ _ _ _ wr.drew
        have zhz2 : Below wr.heap.size wr wr.drew := (Below.refl wr.heap.size wr).drew
        generalize wr.drew = zwz1 at zhz2 ⊢
        have zhq3 : Below wr.heap.size wr zwz1 := zhz2
        have zO_4 := Lib.hid (OwnB.to HOO.out zhq3)
        have zE_5 := Lib.hid (rangeTo HOE.out zhq3)
        have zY_6 := Lib.hid (rangeTo HOX.out zhq3)
        have zHB_7 : Hid (Below x32.heap.size x32 zwz1) := Lib.hid (HHB.out.trans (zhq3.mono HHB.out.size))
        clear zhq3
        clear zhz2
        have zhS8 : (fun w' : World => At8 w' w.heap.size (j * 9 + 1) (B j).1) zwz1 := zY_6.out
        refine takeD (i := 0) (v := .slice (some ⟨go, 0, none⟩) (n + 3) co) (some 57) rfl rfl (by kernel_rfl) (by kernel_rfl) (by kernel_rfl) (fun _ _ _ h => h) (Or.inl ⟨by rfl, by rintro w' -; go_simp⟩) zhS8 ?_
        simp only [Act.put, List.setIfInBounds_toArray, List.set_cons_zero, List.set_cons_succ]
        refine takeD (i := 1) (v := .int .i64 (k : Int)) (some 58) rfl rfl (by kernel_rfl) (by kernel_rfl) (by kernel_rfl) (fun _ _ _ h => h) (Or.inl ⟨by rfl, by rintro w' -; go_simp⟩) zhS8 ?_
        simp only [Act.put, List.setIfInBounds_toArray, List.set_cons_zero, List.set_cons_succ]
        refine takeD (i := 2) (v := .slice (some ⟨go, 0, none⟩) (n + 3) co) (some 59) rfl rfl (by kernel_rfl) (by kernel_rfl) (by kernel_rfl) (fun _ _ _ h => h) (Or.inl ⟨by rfl, by rintro w' -; go_simp⟩) zhS8 ?_
        simp only [Act.put, List.setIfInBounds_toArray, List.set_cons_zero, List.set_cons_succ]
        refine takeD (i := 3) (v := .int .i64 (k : Int)) (some 60) rfl rfl (by kernel_rfl) (by kernel_rfl) (by kernel_rfl) (fun _ _ _ h => h) (Or.inl ⟨by rfl, by rintro w' -; go_simp⟩) zhS8 ?_
        simp only [Act.put, List.setIfInBounds_toArray, List.set_cons_zero, List.set_cons_succ]
        refine takeD (i := 4) (v := .pointer (some ⟨go, k * 8, none⟩)) (some 61) rfl rfl (by kernel_rfl) (by kernel_rfl) (by kernel_rfl) (fun _ _ _ h => h) (Or.inl ⟨by rfl, by rintro w' -; go_simp⟩) zhS8 ?_
        simp only [Act.put, List.setIfInBounds_toArray, List.set_cons_zero, List.set_cons_succ]
        refine takeD (i := 6) (v := .int .i64 (j : Int)) (some 63) rfl rfl (by kernel_rfl) (by kernel_rfl) (by kernel_rfl) (fun _ _ _ h => h) (Or.inl ⟨by rfl, by rintro w' -; go_simp⟩) zhS8 ?_
        simp only [Act.put, List.setIfInBounds_toArray, List.set_cons_zero, List.set_cons_succ]
        refine takeD (i := 7) (v := .pointer (some ⟨w.heap.size, j * 9, none⟩)) (some 64) rfl rfl (by kernel_rfl) (by kernel_rfl) (by kernel_rfl) (fun _ _ _ h => h) (Or.inl ⟨by rfl, by rintro w' -; go_simp⟩) zhS8 ?_
        simp only [Act.put, List.setIfInBounds_toArray, List.set_cons_zero, List.set_cons_succ]
        refine takeD (i := 8) (v := .pointer (some ⟨w.heap.size, j * 9 + 1, none⟩)) (some 65) rfl rfl (by kernel_rfl) (by kernel_rfl) (by kernel_rfl) (fun _ _ _ h => h) (Or.inl ⟨by rfl, by rintro w' -; go_simp⟩) zhS8 ?_
        simp only [Act.put, List.setIfInBounds_toArray, List.set_cons_zero, List.set_cons_succ]
        refine takeD (i := 9) (v := .agg (bcs (B j).1)) (some 66) rfl rfl (by kernel_rfl) (by kernel_rfl) (by kernel_rfl) (fun _ _ _ h => h) (yieldsIf_load8 (by rfl) _ _ rfl _ _ rfl (B j).1 _ (fun w' h => h) Try.underlying44 rfl (size8 (B j).2.1)) zhS8 ?_
        simp only [Act.put, List.setIfInBounds_toArray, List.set_cons_zero, List.set_cons_succ]
        refine wpAnyH_ready (rs := [5]) (by kernel_rfl) (by simp) ?_
        refine AllReadyH.cons rfl (fun zK9 hzK9 => ?_) AllReadyH.nil
        have HzK9 := Lib.hid hzK9
        clear hzK9
        rw [if_pos (by rfl)]
        refine wp_load8 _ _ rfl _ _ rfl d _ zE_5.out Try.underlying44 rfl (size8 d8.1) ?_
        refine HzK9.out _ _ zhS8 fun _ => ?_
        try simp only [Act.put, List.setIfInBounds_toArray, List.set_cons_zero, List.set_cons_succ]
        refine wpAnyH_ready (rs := [10]) (by kernel_rfl) (by simp) ?_
        refine AllReadyH.cons rfl (fun zK10 hzK10 => ?_) AllReadyH.nil
        have HzK10 := Lib.hid hzK10
        clear hzK10
        rw [if_pos (by rfl)]
        go_simp
        go_at_call 26
        refine (xor_b d (B j).1 sn _ d8 (B j).2 HSN.out).mono ?_
        rintro e zx11 ⟨rfl, hb⟩
        have zhq12 : Below zwz1.heap.size zwz1 zx11 := hb
        have zO_13 := Lib.hid (OwnB.to zO_4.out zhq12)
        have zE_14 := Lib.hid (rangeTo zE_5.out zhq12)
        have zY_15 := Lib.hid (rangeTo zY_6.out zhq12)
        have zHB_16 : Hid (Below x32.heap.size x32 zx11) := Lib.hid (zHB_7.out.trans (zhq12.mono zHB_7.out.size))
        clear zhq12
        clear hb
        have zhS17 : (fun w' : World => At8 w' w.heap.size (j * 9 + 1) (B j).1) zx11 := zY_15.out
        refine HzK10.out _ _ zhS17 fun _ => ?_
        try simp only [Act.put, List.setIfInBounds_toArray, List.set_cons_zero, List.set_cons_succ]
        refine takeD (i := 11) (v := .pointer (some ⟨go, k * 8, none⟩)) (some 68) rfl rfl (by kernel_rfl) (by kernel_rfl) (by kernel_rfl) (fun _ _ _ h => h) (Or.inl ⟨by rfl, by rintro w' -; go_simp⟩) zhS17 ?_
        simp only [Act.put, List.setIfInBounds_toArray, List.set_cons_zero, List.set_cons_succ]
        refine wpAnyH_ready (rs := [12]) (by kernel_rfl) (by simp) ?_
        refine AllReadyH.cons rfl (fun zK18 hzK18 => ?_) AllReadyH.nil
        have HzK18 := Lib.hid hzK18
        clear hzK18
        rw [if_pos (by rfl)]
        have th : zx11.there go (k * 8) (bcs sn).size := by rw [bcs_size, sn8.1]; exact zO_13.out.there HOLn.out
        refine wp_store8 _ _ _ rfl _ _ sn rfl rfl th (size8 sn8.1) ?_
        have ZO := Lib.hid (zO_13.out.set HOLn.out sn8)
        have ZB := Lib.hid (below_setCells zHB_16.out (sn.map bv) go (k * 8) ho1)
        have ZY := Lib.hid (World.rangeAt_setCells_apart zY_15.out go (k * 8) (sn.map bv) (Or.inl hne))
        have zhS19 : (fun w' : World => At8 w' w.heap.size (j * 9 + 1) (B j).1) (zx11.setCells go (k * 8) (sn.map bv)) := ZY.out
        refine HzK18.out _ _ zhS19 fun _ => ?_
        refine wpAnyH_done (by kernel_rfl) ?_ _
        go_wp2
        go_roundw
        case rel => exact ⟨j + 1, by omega, by go_num, Lib.hid ⟨ZB.out, by rw [ST.out]; exact ZO.out⟩⟩
        case measure => simp [intOf]; omega
      · have ST : Hid (othF (n + 3) K B G (j + 1) = othF (n + 3) K B G j) := Lib.hid (by
          have hN3 : ((n + 3 : Nat) : Int) = (n : Int) + 3 := by omega
          rw [othF, hN3, if_neg hk])
        have hk2 : (K j).tmod ((n : Int) + 3) < 0 := by omega
        have hk3 : decide ((0 : Int) ≤ (K j).tmod ((n : Int) + 3)) = false := decide_eq_false hk
        go_wp2
        go_roundw
        case rel => exact ⟨j + 1, by omega, by go_num, Lib.hid ⟨H.out.1, by rw [ST.out]; exact H.out.2⟩⟩
        case measure => simp [intOf]; omega
    · obtain rfl : j = 3 := by omega
      have hN3 : n + 3 = G.length := GN.out.symm
      obtain ⟨E, hE⟩ : ∃ E, othF (n + 3) K B G 3 = E := ⟨_, rfl⟩
      have O3 := H.out.2
      have ck := oth_chk (K := K) (B := B) G8.out GC.out (by rw [GN.out]; omega)
      rw [← hN3, hE] at ck
      rw [hE] at O3
      obtain ⟨t, ht⟩ : ∃ t, decide (E = G) = t := ⟨_, rfl⟩
      rw [ht] at ck
      have CK := Lib.hid ck
      have TT := Lib.hid ht
      have HE := Lib.hid O3.bl
      have HG3 := Lib.hid (Bl.to G_37.out H.out.1)
      have HB3 : Hid (Below w.heap.size w wr) := Lib.hid (HB_38.out.trans (H.out.1.mono HB_38.out.size))
      clear hE O3 ck ht hN3
      go_wp2_with fail
      refine (check_b _ E t _ HE.out CK.out).mono ?_
      rintro e yx2 ⟨rfl, yhb1⟩
      have yhq3 : Below wr.heap.size wr yx2 := yhb1
      have yE_4 := Lib.hid (Bl.to HE.out yhq3)
      have yG_5 := Lib.hid (Bl.to HG3.out yhq3)
      have yHB_6 : Hid (Below w.heap.size w yx2) := Lib.hid (HB3.out.trans (yhq3.mono HB3.out.size))
      clear yhq3
      clear yhb1
      go_wp2_with fail
      refine (same_b _ _ E G t _ yE_4.out yG_5.out TT.out).mono ?_
      rintro e yx8 ⟨rfl, yhb7⟩
      have yhq9 : Below yx2.heap.size yx2 yx8 := yhb7
      have yE_10 := Lib.hid (Bl.to yE_4.out yhq9)
      have yG_11 := Lib.hid (Bl.to yG_5.out yhq9)
      have yHB_12 : Hid (Below w.heap.size w yx8) := Lib.hid (yHB_6.out.trans (yhq9.mono yHB_6.out.size))
      clear yhq9
      clear yhb7
      go_wp2_with fail
      go_ret
      exact ⟨by first | rfl | simp, yHB_12.out⟩
theorem pldi_walk (v : Value) (D : List (List Nat)) (K : Nat → Int) (B : Nat → Blk) (w : World) (h : Bl w v D) : Calls Try.prog 9 #[v, .agg (recs 3 K B).toArray] w (lawPost w) := by
  by_cases h1 : D.length < 1
  · exact pldi_lo v D K B w h h1
  · by_cases h2 : 13 < D.length
    · exact pldi_hi v D K B w h ⟨h1, h2⟩
    · exact pldi_ok v D K B w h ⟨by omega, by omega⟩
end Go.Proofs.Ytfhgalfdlkdliaa
