/- Caches: Clone of the program and of the reference; Cut at any number. WRITTEN BY gen_Cch.py. -/
import Derived.Test.YtbaclcpnnompnaaCcg
import Derived.Test.YtbaclcpnnompnaaRu
namespace Go.Proofs.Ytbaclcpnnompnaa
open Go Go.RowKit Med
set_option linter.unusedVariables false
set_option linter.unusedSimpArgs false

theorem ccu_any {B : Nat} {w : World} {K R Bn T S O : Nat} {l : List Sec} {ops : List Med.Op} (h : Ce B w K R Bn T S O l ops) (x : Int) : Calls Try.prog 17 #[.pointer (some ⟨K, 0, none⟩), .int .i64 x] w (fuPost B K R Bn T S O (Med.play R Bn T S O l (ops.take x.toNat)) w) := by
  by_cases h0 : x < 0
  · rw [show x.toNat = 0 by omega]; exact ccu_neg h x h0
  · obtain ⟨k, rfl⟩ : ∃ k : Nat, x = k := ⟨x.toNat, by omega⟩
    rw [Int.toNat_natCast]
    by_cases hk : k ≤ ops.length
    · exact ccu_in h k hk
    · rw [List.take_of_length_le (by omega)]
      have := ccu_all h k (by omega)
      rwa [List.take_length] at this
set_option maxHeartbeats 4000000 in
set_option maxRecDepth 100000 in
theorem ccl_any {B : Nat} {w : World} {K R Bn T S O : Nat} {l : List Sec} {ops : List Med.Op} (h : Ce B w K R Bn T S O l ops) (hn : ops.length ≤ 1000) : Calls Try.prog 24 #[.pointer (some ⟨K, 0, none⟩)] w (cnPost R Bn T S O l ops w) := by
  obtain ⟨D, X, c, C, Y, d, v, h⟩ := h
  obtain ⟨p, cap, rfl, hl, hm⟩ := h.fl.form
  have HC := Lib.hid h
  have HN := Lib.hid hn
  obtain ⟨N, hN⟩ : ∃ n, ops.length = n := ⟨_, rfl⟩
  have EN := Lib.hid hN
  rw [hN] at HC
  clear h hl hm hn hN
  go_enter Try.func24, Try.ntmps24
  go_wp2_with fail
  refine wp_region_held (P := Try.prog) (S := (fun w' : World => Below w.heap.size w w')) rfl ?_
  change wpAnyH _ _ _ _ _ _ _ _ w.drew
  have hz2 : Below w.heap.size w w.drew := (Below.refl w.heap.size w).drew
  generalize w.drew = wz1 at hz2 ⊢
  have C_3 := Lib.hid (Ca.fw HC.out (hz2))
  have hl4 := hz2
  have HT_5 : Hid (Below w.heap.size w wz1) := Lib.hid (hl4)
  refine wpAnyH_up (S' := (fun w' : World => Below wz1.heap.size wz1 w')) (fun w' h => hz2.trans (h.mono hz2.size)) ?_
  have hS6 : (fun w' : World => Below wz1.heap.size wz1 w') wz1 := Below.refl _ _
  refine takeD (i := 0) (v := .pointer (some ⟨K, 0, none⟩)) (some 5) rfl rfl (by kernel_rfl) (by kernel_rfl) (by kernel_rfl) (fun _ _ _ h => h) (Or.inl ⟨by rfl, by rintro w' -; go_simp⟩) hS6 ?_
  simp only [Act.put, List.setIfInBounds_toArray, List.set_cons_zero, List.set_cons_succ]
  refine takeD (i := 1) (v := .pointer (some ⟨K, 0, none⟩)) (some 6) rfl rfl (by kernel_rfl) (by kernel_rfl) (by kernel_rfl) (fun _ _ _ h => h) (Or.inl ⟨by rfl, by rintro w' -; go_simp⟩) hS6 ?_
  simp only [Act.put, List.setIfInBounds_toArray, List.set_cons_zero, List.set_cons_succ]
  refine takeD (i := 2) (v := .pointer (some ⟨K, 0, none⟩)) (some 7) rfl rfl (by kernel_rfl) (by kernel_rfl) (by kernel_rfl) (fun _ _ _ h => h) (Or.inl ⟨by rfl, by rintro w' -; go_simp⟩) hS6 ?_
  simp only [Act.put, List.setIfInBounds_toArray, List.set_cons_zero, List.set_cons_succ]
  refine takeD (i := 3) (v := .pointer (some ⟨D, 0, none⟩)) (some 8) rfl rfl (by kernel_rfl) (by kernel_rfl) (by kernel_rfl) (fun _ _ _ h => h) (Or.inl ⟨by rfl, by rintro w' h; have hc := (Ca.fw C_3.out h).cells.1; go_simp⟩) hS6 ?_
  simp only [Act.put, List.setIfInBounds_toArray, List.set_cons_zero, List.set_cons_succ]
  refine takeD (i := 5) (v := .pointer (some ⟨K, 0, none⟩)) (some 10) rfl rfl (by kernel_rfl) (by kernel_rfl) (by kernel_rfl) (fun _ _ _ h => h) (Or.inl ⟨by rfl, by rintro w' -; go_simp⟩) hS6 ?_
  simp only [Act.put, List.setIfInBounds_toArray, List.set_cons_zero, List.set_cons_succ]
  refine takeD (i := 6) (v := .pointer (some ⟨K, 0, none⟩)) (some 11) rfl rfl (by kernel_rfl) (by kernel_rfl) (by kernel_rfl) (fun _ _ _ h => h) (Or.inl ⟨by rfl, by rintro w' -; go_simp⟩) hS6 ?_
  simp only [Act.put, List.setIfInBounds_toArray, List.set_cons_zero, List.set_cons_succ]
  refine takeD (i := 7) (v := .pointer (some ⟨K, 1, none⟩)) (some 12) rfl rfl (by kernel_rfl) (by kernel_rfl) (by kernel_rfl) (fun _ _ _ h => h) (Or.inl ⟨by rfl, by rintro w' -; go_simp⟩) hS6 ?_
  simp only [Act.put, List.setIfInBounds_toArray, List.set_cons_zero, List.set_cons_succ]
  refine takeD (i := 8) (v := .slice p N cap) (some 13) rfl rfl (by kernel_rfl) (by kernel_rfl) (by kernel_rfl) (fun _ _ _ h => h) (Or.inl ⟨by rfl, by rintro w' h; have hc := (Ca.fw C_3.out h).cells.2.1; go_simp⟩) hS6 ?_
  simp only [Act.put, List.setIfInBounds_toArray, List.set_cons_zero, List.set_cons_succ]
  refine takeD (i := 10) (v := .pointer (some ⟨K, 0, none⟩)) (some 15) rfl rfl (by kernel_rfl) (by kernel_rfl) (by kernel_rfl) (fun _ _ _ h => h) (Or.inl ⟨by rfl, by rintro w' -; go_simp⟩) hS6 ?_
  simp only [Act.put, List.setIfInBounds_toArray, List.set_cons_zero, List.set_cons_succ]
  refine takeD (i := 11) (v := .pointer (some ⟨K, 0, none⟩)) (some 16) rfl rfl (by kernel_rfl) (by kernel_rfl) (by kernel_rfl) (fun _ _ _ h => h) (Or.inl ⟨by rfl, by rintro w' -; go_simp⟩) hS6 ?_
  simp only [Act.put, List.setIfInBounds_toArray, List.set_cons_zero, List.set_cons_succ]
  refine takeD (i := 12) (v := .pointer (some ⟨K, 2, none⟩)) (some 17) rfl rfl (by kernel_rfl) (by kernel_rfl) (by kernel_rfl) (fun _ _ _ h => h) (Or.inl ⟨by rfl, by rintro w' -; go_simp⟩) hS6 ?_
  simp only [Act.put, List.setIfInBounds_toArray, List.set_cons_zero, List.set_cons_succ]
  refine takeD (i := 13) (v := .pointer (some ⟨C, 0, none⟩)) (some 18) rfl rfl (by kernel_rfl) (by kernel_rfl) (by kernel_rfl) (fun _ _ _ h => h) (Or.inl ⟨by rfl, by rintro w' h; have hc := (Ca.fw C_3.out h).cells.2.2; go_simp⟩) hS6 ?_
  simp only [Act.put, List.setIfInBounds_toArray, List.set_cons_zero, List.set_cons_succ]
  refine wpAnyH_ready (rs := [4]) (by kernel_rfl) (by simp) ?_
  refine AllReadyH.cons rfl (fun K7 hK7 => ?_) AllReadyH.nil
  have HK7 := Lib.hid hK7
  clear hK7
  rw [if_pos (by rfl)]
  go_simp
  refine (pcl_any C_3.out.du).mono ?_
  rintro e x8 ⟨M1, X1, c1, rfl, hm, hx, hb⟩
  have Q1 := Lib.hid (show w.heap.size ≤ X1 from Nat.le_trans HT_5.out.size hx.2)
  have C_9 := Lib.hid (Ca.fw C_3.out (hb))
  have hl10 := hb
  have HT_11 : Hid (Below w.heap.size w x8) := Lib.hid (HT_5.out.trans ((hl10).mono HT_5.out.size))
  have HD1 := Lib.hid hm
  clear hb hm hx
  have hb13 : Below wz1.heap.size wz1 x8 := hl10
  have hS12 : (fun w' : World => Below wz1.heap.size wz1 w') x8 := hb13
  refine HK7.out _ _ hS12 fun _ => ?_
  try simp only [Act.put, List.setIfInBounds_toArray, List.set_cons_zero, List.set_cons_succ]
  refine wpAnyH_up (S' := (fun w' : World => Below x8.heap.size x8 w')) (fun w' h => hb13.trans (h.mono hb13.size)) ?_
  have hS14 : (fun w' : World => Below x8.heap.size x8 w') x8 := Below.refl _ _
  refine wpAnyH_ready (rs := [9]) (by kernel_rfl) (by simp) ?_
  refine AllReadyH.cons rfl (fun K15 hK15 => ?_) AllReadyH.nil
  have HK15 := Lib.hid hK15
  clear hK15
  rw [if_pos (by rfl)]
  go_simp
  refine (fclone_any (A := B) _ ops x8 C_9.out.fl (by have := HN.out; omega)).mono ?_
  rintro e x16 ⟨v2, rfl, hf, hb⟩
  obtain ⟨p2, cap2, rfl, -, -⟩ := hf.form
  rw [EN.out] at hf ⊢
  have LF := Lib.hid HT_11.out.size
  have C_17 := Lib.hid (Ca.fw C_9.out (hb))
  have D1_18 := Lib.hid (Md.fw HD1.out (hb))
  have hl19 := hb
  have HT_20 : Hid (Below w.heap.size w x16) := Lib.hid (HT_11.out.trans ((hl19).mono HT_11.out.size))
  have HF := Lib.hid (hf.low LF.out)
  clear hb hf
  have hb22 : Below x8.heap.size x8 x16 := hl19
  have hS21 : (fun w' : World => Below x8.heap.size x8 w') x16 := hb22
  refine HK15.out _ _ hS21 fun _ => ?_
  try simp only [Act.put, List.setIfInBounds_toArray, List.set_cons_zero, List.set_cons_succ]
  refine wpAnyH_up (S' := (fun w' : World => Below x16.heap.size x16 w')) (fun w' h => hb22.trans (h.mono hb22.size)) ?_
  have hS23 : (fun w' : World => Below x16.heap.size x16 w') x16 := Below.refl _ _
  refine wpAnyH_ready (rs := [14]) (by kernel_rfl) (by simp) ?_
  refine AllReadyH.cons rfl (fun K24 hK24 => ?_) AllReadyH.nil
  have HK24 := Lib.hid hK24
  clear hK24
  rw [if_pos (by rfl)]
  go_simp
  refine (pcl_any C_17.out.co).mono ?_
  rintro e x25 ⟨M2, X2, c2, rfl, hm, hx, hb⟩
  have Q2 := Lib.hid (show w.heap.size ≤ X2 from Nat.le_trans HT_20.out.size hx.2)
  have NE := Lib.hid (show X1 ≠ X2 from by have := D1_18.out.sx.lt; omega)
  have C_26 := Lib.hid (Ca.fw C_17.out (hb))
  have D1_27 := Lib.hid (Md.fw D1_18.out (hb))
  have F_28 := Lib.hid (Fl.fw HF.out (hb))
  have hl29 := hb
  have HT_30 : Hid (Below w.heap.size w x25) := Lib.hid (HT_20.out.trans ((hl29).mono HT_20.out.size))
  have HD2 := Lib.hid hm
  clear hb hm hx
  have hb32 : Below x16.heap.size x16 x25 := hl29
  have hS31 : (fun w' : World => Below x16.heap.size x16 w') x25 := hb32
  refine HK24.out _ _ hS31 fun _ => ?_
  try simp only [Act.put, List.setIfInBounds_toArray, List.set_cons_zero, List.set_cons_succ]
  refine wpAnyH_up (S' := (fun w' : World => Below x25.heap.size x25 w')) (fun w' h => hb32.trans (h.mono hb32.size)) ?_
  have hS33 : (fun w' : World => Below x25.heap.size x25 w') x25 := Below.refl _ _
  refine takeD (i := 15) (v := .agg #[.pointer (some ⟨M1, 0, none⟩), .slice p2 N cap2, .pointer (some ⟨M2, 0, none⟩)]) (some 20) rfl rfl (by kernel_rfl) (by kernel_rfl) (by kernel_rfl) (fun _ _ _ h => h) (Or.inl ⟨by rfl, by rintro w' -; go_simp⟩) hS33 ?_
  simp only [Act.put, List.setIfInBounds_toArray, List.set_cons_zero, List.set_cons_succ]
  refine wpAnyH_ready (rs := [16]) (by kernel_rfl) (by simp) ?_
  refine AllReadyH.cons rfl (fun K34 hK34 => ?_) AllReadyH.nil
  have HK34 := Lib.hid hK34
  clear hK34
  rw [if_pos (by rfl)]
  go_simp
  obtain ⟨N1, hN1⟩ : ∃ n, x25.heap.size = n := ⟨_, rfl⟩
  have SB := gr_new x25 #[.pointer (some ⟨M1, 0, none⟩), .slice p2 N cap2, .pointer (some ⟨M2, 0, none⟩)] 76 hN1
  obtain ⟨x35, hxb⟩ : ∃ q, x25.alloc (.cells #[.pointer (some ⟨M1, 0, none⟩), .slice p2 N cap2, .pointer (some ⟨M2, 0, none⟩)] 76) = q := ⟨_, rfl⟩
  have hbx : Below x25.heap.size x25 x35 := by rw [← hxb]; exact (Below.refl _ _).alloc (Nat.le_refl _) _
  rw [hxb] at SB
  rw [hxb]
  rw [hN1]
  have NG := Lib.hid (show w.heap.size ≤ N1 from by rw [← hN1]; exact HT_30.out.size)
  have C_36 := Lib.hid (Ca.fw C_26.out (hbx))
  have D1_37 := Lib.hid (Md.fw D1_27.out (hbx))
  have F_38 := Lib.hid (Fl.fw F_28.out (hbx))
  have D2_39 := Lib.hid (Md.fw HD2.out (hbx))
  have hl40 := hbx
  have HT_41 : Hid (Below w.heap.size w x35) := Lib.hid (HT_30.out.trans ((hl40).mono HT_30.out.size))
  have SBH := Lib.hid SB
  clear SB
  clear hbx hxb hN1
  have hb43 : Below x25.heap.size x25 x35 := hl40
  have hS42 : (fun w' : World => Below x25.heap.size x25 w') x35 := hb43
  refine HK34.out _ _ hS42 fun _ => ?_
  try simp only [Act.put, List.setIfInBounds_toArray, List.set_cons_zero, List.set_cons_succ]
  refine wpAnyH_up (S' := (fun w' : World => Below x35.heap.size x35 w')) (fun w' h => hb43.trans (h.mono hb43.size)) ?_
  have hS44 : (fun w' : World => Below x35.heap.size x35 w') x35 := Below.refl _ _
  refine takeD (i := 17) (v := .pointer (some ⟨N1, 0, none⟩)) (some 2) rfl rfl (by kernel_rfl) (by kernel_rfl) (by kernel_rfl) (fun _ _ _ h => h) (Or.inl ⟨by rfl, by rintro w' -; go_simp⟩) hS44 ?_
  simp only [Act.put, List.setIfInBounds_toArray, List.set_cons_zero, List.set_cons_succ]
  refine wpAnyH_done (by kernel_rfl) ?_ _
  go_wp2_with fail
  go_ret
  exact ⟨N1, rfl, ⟨M1, X1, c1, M2, X2, c2, _, SBH.out, D1_37.out, D2_39.out, NE.out, F_38.out, NG.out, Q1.out, Q2.out⟩, HT_41.out⟩
/-- What the reference's New and Clone return. -/
def rnPost (R Bn T S O : Nat) (l : List Sec) (ops : List Med.Op) (w : World) (e : Ending) (w' : World) : Prop := ∃ K, e = .returned (.pointer (some ⟨K, 0, none⟩)) ∧ Re w.heap.size w' K R Bn T S O l ops ∧ Below w.heap.size w w'
set_option maxHeartbeats 4000000 in
set_option maxRecDepth 100000 in
theorem rcc_any {B : Nat} {w : World} {K R Bn T S O : Nat} {l : List Sec} {ops : List Med.Op} (h : Re B w K R Bn T S O l ops) : Calls Try.prog 25 #[.pointer (some ⟨K, 0, none⟩)] w (rnPost R Bn T S O l ops w) := by
  obtain ⟨M, X, c, v, h⟩ := h
  obtain ⟨p, cap, rfl, hl, hm⟩ := h.ol.form
  have HC := Lib.hid h
  obtain ⟨N, hN⟩ : ∃ n, ops.length = n := ⟨_, rfl⟩
  have EN := Lib.hid hN
  rw [hN] at HC
  clear h hl hm hN
  go_enter Try.func25, Try.ntmps25
  go_wp2_with fail
  refine wp_region_held (P := Try.prog) (S := (fun w' : World => Below w.heap.size w w')) rfl ?_
  change wpAnyH _ _ _ _ _ _ _ _ w.drew
  have hz2 : Below w.heap.size w w.drew := (Below.refl w.heap.size w).drew
  generalize w.drew = wz1 at hz2 ⊢
  have C_3 := Lib.hid (Ra.fw HC.out (hz2))
  have hl4 := hz2
  have HT_5 : Hid (Below w.heap.size w wz1) := Lib.hid (hl4)
  refine wpAnyH_up (S' := (fun w' : World => Below wz1.heap.size wz1 w')) (fun w' h => hz2.trans (h.mono hz2.size)) ?_
  have hS6 : (fun w' : World => Below wz1.heap.size wz1 w') wz1 := Below.refl _ _
  refine takeD (i := 0) (v := .pointer (some ⟨K, 0, none⟩)) (some 3) rfl rfl (by kernel_rfl) (by kernel_rfl) (by kernel_rfl) (fun _ _ _ h => h) (Or.inl ⟨by rfl, by rintro w' -; go_simp⟩) hS6 ?_
  simp only [Act.put, List.setIfInBounds_toArray, List.set_cons_zero, List.set_cons_succ]
  refine takeD (i := 1) (v := .pointer (some ⟨K, 0, none⟩)) (some 4) rfl rfl (by kernel_rfl) (by kernel_rfl) (by kernel_rfl) (fun _ _ _ h => h) (Or.inl ⟨by rfl, by rintro w' -; go_simp⟩) hS6 ?_
  simp only [Act.put, List.setIfInBounds_toArray, List.set_cons_zero, List.set_cons_succ]
  refine takeD (i := 2) (v := .pointer (some ⟨K, 0, none⟩)) (some 5) rfl rfl (by kernel_rfl) (by kernel_rfl) (by kernel_rfl) (fun _ _ _ h => h) (Or.inl ⟨by rfl, by rintro w' -; go_simp⟩) hS6 ?_
  simp only [Act.put, List.setIfInBounds_toArray, List.set_cons_zero, List.set_cons_succ]
  refine takeD (i := 3) (v := .pointer (some ⟨M, 0, none⟩)) (some 6) rfl rfl (by kernel_rfl) (by kernel_rfl) (by kernel_rfl) (fun _ _ _ h => h) (Or.inl ⟨by rfl, by rintro w' h; have hc := (Ra.fw C_3.out h).cells.1; go_simp⟩) hS6 ?_
  simp only [Act.put, List.setIfInBounds_toArray, List.set_cons_zero, List.set_cons_succ]
  refine takeD (i := 5) (v := .pointer (some ⟨K, 0, none⟩)) (some 8) rfl rfl (by kernel_rfl) (by kernel_rfl) (by kernel_rfl) (fun _ _ _ h => h) (Or.inl ⟨by rfl, by rintro w' -; go_simp⟩) hS6 ?_
  simp only [Act.put, List.setIfInBounds_toArray, List.set_cons_zero, List.set_cons_succ]
  refine takeD (i := 6) (v := .pointer (some ⟨K, 0, none⟩)) (some 9) rfl rfl (by kernel_rfl) (by kernel_rfl) (by kernel_rfl) (fun _ _ _ h => h) (Or.inl ⟨by rfl, by rintro w' -; go_simp⟩) hS6 ?_
  simp only [Act.put, List.setIfInBounds_toArray, List.set_cons_zero, List.set_cons_succ]
  refine takeD (i := 7) (v := .pointer (some ⟨K, 1, none⟩)) (some 10) rfl rfl (by kernel_rfl) (by kernel_rfl) (by kernel_rfl) (fun _ _ _ h => h) (Or.inl ⟨by rfl, by rintro w' -; go_simp⟩) hS6 ?_
  simp only [Act.put, List.setIfInBounds_toArray, List.set_cons_zero, List.set_cons_succ]
  refine takeD (i := 8) (v := .slice p N cap) (some 11) rfl rfl (by kernel_rfl) (by kernel_rfl) (by kernel_rfl) (fun _ _ _ h => h) (Or.inl ⟨by rfl, by rintro w' h; have hc := (Ra.fw C_3.out h).cells.2; go_simp⟩) hS6 ?_
  simp only [Act.put, List.setIfInBounds_toArray, List.set_cons_zero, List.set_cons_succ]
  refine wpAnyH_ready (rs := [4]) (by kernel_rfl) (by simp) ?_
  refine AllReadyH.cons rfl (fun K7 hK7 => ?_) AllReadyH.nil
  have HK7 := Lib.hid hK7
  clear hK7
  rw [if_pos (by rfl)]
  go_simp
  refine (rcl_any C_3.out.md).mono ?_
  rintro e x8 ⟨M1, X1, c1, rfl, hm, hx, hb⟩
  have Q1 := Lib.hid (show w.heap.size ≤ X1 from Nat.le_trans HT_5.out.size hx.2)
  have C_9 := Lib.hid (Ra.fw C_3.out (hb))
  have hl10 := hb
  have HT_11 : Hid (Below w.heap.size w x8) := Lib.hid (HT_5.out.trans ((hl10).mono HT_5.out.size))
  have HD1 := Lib.hid hm
  clear hb hm hx
  have hb13 : Below wz1.heap.size wz1 x8 := hl10
  have hS12 : (fun w' : World => Below wz1.heap.size wz1 w') x8 := hb13
  refine HK7.out _ _ hS12 fun _ => ?_
  try simp only [Act.put, List.setIfInBounds_toArray, List.set_cons_zero, List.set_cons_succ]
  refine wpAnyH_up (S' := (fun w' : World => Below x8.heap.size x8 w')) (fun w' h => hb13.trans (h.mono hb13.size)) ?_
  have hS14 : (fun w' : World => Below x8.heap.size x8 w') x8 := Below.refl _ _
  refine takeD (i := 9) (v := .agg #[.pointer (some ⟨M1, 0, none⟩), .slice p N cap]) (some 12) rfl rfl (by kernel_rfl) (by kernel_rfl) (by kernel_rfl) (fun _ _ _ h => h) (Or.inl ⟨by rfl, by rintro w' -; go_simp⟩) hS14 ?_
  simp only [Act.put, List.setIfInBounds_toArray, List.set_cons_zero, List.set_cons_succ]
  refine wpAnyH_ready (rs := [10]) (by kernel_rfl) (by simp) ?_
  refine AllReadyH.cons rfl (fun K15 hK15 => ?_) AllReadyH.nil
  have HK15 := Lib.hid hK15
  clear hK15
  rw [if_pos (by rfl)]
  go_simp
  obtain ⟨N1, hN1⟩ : ∃ n, x8.heap.size = n := ⟨_, rfl⟩
  have SB := gr_new x8 #[.pointer (some ⟨M1, 0, none⟩), .slice p N cap] 44 hN1
  obtain ⟨x16, hxb⟩ : ∃ q, x8.alloc (.cells #[.pointer (some ⟨M1, 0, none⟩), .slice p N cap] 44) = q := ⟨_, rfl⟩
  have hbx : Below x8.heap.size x8 x16 := by rw [← hxb]; exact (Below.refl _ _).alloc (Nat.le_refl _) _
  rw [hxb] at SB
  rw [hxb]
  rw [hN1]
  have NG := Lib.hid (show w.heap.size ≤ N1 from by rw [← hN1]; exact HT_11.out.size)
  have C_17 := Lib.hid (Ra.fw C_9.out (hbx))
  have D1_18 := Lib.hid (Md.fw HD1.out (hbx))
  have hl19 := hbx
  have HT_20 : Hid (Below w.heap.size w x16) := Lib.hid (HT_11.out.trans ((hl19).mono HT_11.out.size))
  have SBH := Lib.hid SB
  clear SB
  clear hbx hxb hN1
  have hb22 : Below x8.heap.size x8 x16 := hl19
  have hS21 : (fun w' : World => Below x8.heap.size x8 w') x16 := hb22
  refine HK15.out _ _ hS21 fun _ => ?_
  try simp only [Act.put, List.setIfInBounds_toArray, List.set_cons_zero, List.set_cons_succ]
  refine wpAnyH_up (S' := (fun w' : World => Below x16.heap.size x16 w')) (fun w' h => hb22.trans (h.mono hb22.size)) ?_
  have hS23 : (fun w' : World => Below x16.heap.size x16 w') x16 := Below.refl _ _
  refine takeD (i := 11) (v := .pointer (some ⟨N1, 0, none⟩)) (some 2) rfl rfl (by kernel_rfl) (by kernel_rfl) (by kernel_rfl) (fun _ _ _ h => h) (Or.inl ⟨by rfl, by rintro w' -; go_simp⟩) hS23 ?_
  simp only [Act.put, List.setIfInBounds_toArray, List.set_cons_zero, List.set_cons_succ]
  refine wpAnyH_done (by kernel_rfl) ?_ _
  go_wp2_with fail
  go_ret
  exact ⟨N1, rfl, ⟨M1, X1, c1, _, SBH.out, D1_18.out, C_17.out.ol, NG.out, Q1.out⟩, HT_20.out⟩
end Go.Proofs.Ytbaclcpnnompnaa
