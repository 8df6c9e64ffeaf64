/- The walk of the law DecodeCombines. WRITTEN BY gen_Vb.py. -/
import Derived.Test.YtheijobnmdbodaaDo
import Derived.Test.YtheijobnmdbodaaGJ
namespace Go.Proofs.Ytheijobnmdbodaa
open Go Go.RowKit Lin
set_option linter.unusedVariables false
set_option linter.unusedSimpArgs false

set_option maxHeartbeats 4000000 in
set_option maxRecDepth 100000 in
theorem cl_long (v1 v2 : Value) (l : List Nat) (D : List (List Nat)) (w : World) (h1 : Bs w v1 l) (h2 : Bl w v2 D) (hs : 40 < l.length ∨ 40 < D.length) : Calls Try.prog 4 #[v1, v2] w (lawPost w) := by
  have H1 := Lib.hid h1
  have H2 := Lib.hid h2
  have hm1 := h1.len
  have hm2 : D.length ≤ maxLen := by obtain ⟨_, _, _, hm, _⟩ := h2; omega
  obtain ⟨A1, c1, rfl⟩ := h1.form
  obtain ⟨A2, c2, rfl⟩ := h2.form
  obtain ⟨m, hm⟩ : ∃ m, l.length = m := ⟨_, rfl⟩
  obtain ⟨n, hn⟩ : ∃ n, D.length = n := ⟨_, rfl⟩
  have MM := Lib.hid hm
  have NN := Lib.hid hn
  rw [hm] at hm1 H1 hs ⊢
  rw [hn] at hm2 H2 hs ⊢
  have hmI : (m : Int) ≤ 9223372036854775807 := by unfold maxLen at hm1; omega
  have hnI : (n : Int) ≤ 9223372036854775807 := by unfold maxLen at hm2; omega
  clear h1 h2 hm hn hm1 hm2
  have hcase : decide ((40 : Int) < (m : Int)) = true ∨ (decide ((40 : Int) < (m : Int)) = false ∧ decide ((40 : Int) < (n : Int)) = true) := by
    by_cases h : 40 < m
    · exact Or.inl (by simp; omega)
    · exact Or.inr ⟨by simp; omega, by simp; omega⟩
  clear hs
  rcases hcase with g0 | ⟨g0, g1⟩
  all_goals
    go_enter Try.func4, Try.ntmps4
    go_wp2_with fail
    refine (dawake_any _).mono ?_
    rintro e x2 ⟨rfl, hb1⟩
    have hq3 : Below w.heap.size w x2 := hb1
    have HB_4 : Hid (Below w.heap.size w x2) := Lib.hid (hq3)
    clear hq3
    clear hb1
    go_wp2_with fail
    go_ret
    exact ⟨by first | rfl | simp, HB_4.out⟩
set_option maxHeartbeats 4000000 in
set_option maxRecDepth 100000 in
theorem cl_err (v1 v2 : Value) (l : List Nat) (D : List (List Nat)) (w : World) (h1 : Bs w v1 l) (h2 : Bl w v2 D) (hs : l.length ≤ 40 ∧ D.length ≤ 40 ∧ l.length ≠ D.length) : Calls Try.prog 4 #[v1, v2] w (lawPost w) := by
  have H1 := Lib.hid h1
  have H2 := Lib.hid h2
  have hm1 := h1.len
  have hm2 : D.length ≤ maxLen := by obtain ⟨_, _, _, hm, _⟩ := h2; omega
  obtain ⟨A1, c1, rfl⟩ := h1.form
  obtain ⟨A2, c2, rfl⟩ := h2.form
  obtain ⟨m, hm⟩ : ∃ m, l.length = m := ⟨_, rfl⟩
  obtain ⟨n, hn⟩ : ∃ n, D.length = n := ⟨_, rfl⟩
  have MM := Lib.hid hm
  have NN := Lib.hid hn
  rw [hm] at hm1 H1 hs ⊢
  rw [hn] at hm2 H2 hs ⊢
  have hmI : (m : Int) ≤ 9223372036854775807 := by unfold maxLen at hm1; omega
  have hnI : (n : Int) ≤ 9223372036854775807 := by unfold maxLen at hm2; omega
  clear h1 h2 hm hn hm1 hm2
  have g0 : decide ((40 : Int) < (m : Int)) = false := by simp; omega
  have g1 : decide ((40 : Int) < (n : Int)) = false := by simp; omega
  have CO := Lib.hid fun w v1 v2 (h1 : Bs w v1 l) (h2 : Bl w v2 D) => comb_err v1 v2 l D w h1 h2 (by rw [MM.out, NN.out]; exact hs.2.2)
  have g2 : ((m : Int) != (n : Int)) = true := by have := hs.2.2; simp; omega
  have X8 := zeroB.2
  have ZZ : Hid ((#[.int .u8 0, .int .u8 0, .int .u8 0, .int .u8 0, .int .u8 0, .int .u8 0, .int .u8 0, .int .u8 0] : Array Value) = bcs zeroB.1) := Lib.hid rfl
  obtain ⟨s, hsd⟩ : ∃ s, zeroB.1 = s := ⟨_, rfl⟩
  rw [hsd] at CO X8 ZZ
  have EQ := fun w' => eql8 s s X8 X8 w'
  have TH := Lib.hid fun w => new8 (w := w) X8.1
  have SI := Lib.hid (size8 X8.1)
  rw [decide_eq_true rfl] at EQ
  clear hs hsd
  go_enter Try.func4, Try.ntmps4
  go_wp2_with fail
  refine (dawake_any _).mono ?_
  rintro e x2 ⟨rfl, hb1⟩
  have hq3 : Below w.heap.size w x2 := hb1
  have V_4 := Lib.hid (Bs.to H1.out hq3)
  have D_5 := Lib.hid (Bl.to H2.out hq3)
  have HB_6 : Hid (Below w.heap.size w x2) := Lib.hid (hq3)
  clear hq3
  clear hb1
  go_wp2_with fail
  refine (CO.out _ _ _ V_4.out D_5.out).mono ?_
  rintro e x8 ⟨rfl, hb7⟩
  have hq9 : Below x2.heap.size x2 x8 := hb7
  have V_10 := Lib.hid (Bs.to V_4.out hq9)
  have D_11 := Lib.hid (Bl.to D_5.out hq9)
  have HB_12 : Hid (Below w.heap.size w x8) := Lib.hid (HB_6.out.trans (hq9.mono HB_6.out.size))
  clear hq9
  clear hb7
  go_upto_region 7 with (refine wpList_store8 rfl _ _ _ rfl _ 0 _ rfl rfl (TH.out _) SI.out ?_)
  obtain ⟨W2, hW2⟩ : ∃ W2, (x8.alloc (.cells #[.int .u8 0, .int .u8 0, .int .u8 0, .int .u8 0, .int .u8 0, .int .u8 0, .int .u8 0, .int .u8 0] 33)).setCells x8.heap.size 0 (s.map bv) = W2 := ⟨_, rfl⟩
  have R5 := Lib.hid (put8 (w := x8) X8.1)
  have B5 := Lib.hid (new8_below x8 s)
  rw [hW2] at R5 B5 ⊢
  clear hW2
  obtain ⟨nb, hnb⟩ : ∃ nb, x8.heap.size = nb := ⟨_, rfl⟩
  rw [hnb] at R5 ⊢
  have hq13 : Below x8.heap.size x8 W2 := B5.out
  have V_14 := Lib.hid (Bs.to V_10.out hq13)
  have D_15 := Lib.hid (Bl.to D_11.out hq13)
  have HB_16 : Hid (Below w.heap.size w W2) := Lib.hid (HB_12.out.trans (hq13.mono HB_12.out.size))
  clear hq13
  clear hnb
  have RZ := R5.out
  rw [← ZZ.out] at RZ
  have d0 : W2.cell? ⟨nb, 0, none⟩ = some (.int .u8 0) := (RZ.cell 0).trans rfl
  have d1 : W2.cell? ⟨nb, 1, none⟩ = some (.int .u8 0) := (RZ.cell 1).trans rfl
  have d2 : W2.cell? ⟨nb, 2, none⟩ = some (.int .u8 0) := (RZ.cell 2).trans rfl
  have d3 : W2.cell? ⟨nb, 3, none⟩ = some (.int .u8 0) := (RZ.cell 3).trans rfl
  have d4 : W2.cell? ⟨nb, 4, none⟩ = some (.int .u8 0) := (RZ.cell 4).trans rfl
  have d5 : W2.cell? ⟨nb, 5, none⟩ = some (.int .u8 0) := (RZ.cell 5).trans rfl
  have d6 : W2.cell? ⟨nb, 6, none⟩ = some (.int .u8 0) := (RZ.cell 6).trans rfl
  have d7 : W2.cell? ⟨nb, 7, none⟩ = some (.int .u8 0) := (RZ.cell 7).trans rfl
  have EZ : ∀ w', (binOp .eql 33 (.agg #[.int .u8 0, .int .u8 0, .int .u8 0, .int .u8 0, .int .u8 0, .int .u8 0, .int .u8 0, .int .u8 0]) (.agg #[.int .u8 0, .int .u8 0, .int .u8 0, .int .u8 0, .int .u8 0, .int .u8 0, .int .u8 0, .int .u8 0])).run Try.prog w' = .ok (.bool true) w' := fun w' => by rw [ZZ.out]; exact EQ w'
  clear RZ
  clear EQ
  go_wp2_with fail
  go_ret
  exact ⟨by first | rfl | simp, HB_16.out⟩
set_option maxHeartbeats 4000000 in
set_option maxRecDepth 100000 in
theorem cl_ok (v1 v2 : Value) (l : List Nat) (D : List (List Nat)) (w : World) (h1 : Bs w v1 l) (h2 : Bl w v2 D) (hs : l.length ≤ 40 ∧ D.length ≤ 40 ∧ l.length = D.length) : Calls Try.prog 4 #[v1, v2] w (lawPost w) := by
  have H1 := Lib.hid h1
  have H2 := Lib.hid h2
  have hm1 := h1.len
  have hm2 : D.length ≤ maxLen := by obtain ⟨_, _, _, hm, _⟩ := h2; omega
  obtain ⟨A1, c1, rfl⟩ := h1.form
  obtain ⟨A2, c2, rfl⟩ := h2.form
  obtain ⟨m, hm⟩ : ∃ m, l.length = m := ⟨_, rfl⟩
  obtain ⟨n, hn⟩ : ∃ n, D.length = n := ⟨_, rfl⟩
  have MM := Lib.hid hm
  have NN := Lib.hid hn
  rw [hm] at hm1 H1 hs ⊢
  rw [hn] at hm2 H2 hs ⊢
  have hmI : (m : Int) ≤ 9223372036854775807 := by unfold maxLen at hm1; omega
  have hnI : (n : Int) ≤ 9223372036854775807 := by unfold maxLen at hm2; omega
  clear h1 h2 hm hn hm1 hm2
  have g0 : decide ((40 : Int) < (m : Int)) = false := by simp; omega
  have g1 : decide ((40 : Int) < (n : Int)) = false := by simp; omega
  obtain rfl : m = n := hs.2.2
  have X8 := combB_ok H1.out.lt D
  have CO := Lib.hid fun w v1 v2 (h1 : Bs w v1 l) (h2 : Bl w v2 D) => comb_ok v1 v2 l D w h1 h2 (by rw [MM.out, NN.out]) (by rw [MM.out]; omega)
  have RC := Lib.hid fun w v1 v2 (h1 : Bs w v1 l) (h2 : Bl w v2 D) => rcomb_ok v1 v2 l D w h1 h2 (by rw [MM.out, NN.out]) (by rw [MM.out]; omega)
  have g2 : ((m : Int) != (m : Int)) = false := by simp
  obtain ⟨s, hsd⟩ : ∃ s, combB l D = s := ⟨_, rfl⟩
  rw [hsd] at CO RC X8
  have EQ := fun w' => eql8 s s X8 X8 w'
  have TH := Lib.hid fun w => new8 (w := w) X8.1
  have SI := Lib.hid (size8 X8.1)
  rw [decide_eq_true rfl] at EQ
  clear hs hsd
  go_enter Try.func4, Try.ntmps4
  go_wp2_with fail
  refine (dawake_any _).mono ?_
  rintro e x2 ⟨rfl, hb1⟩
  have hq3 : Below w.heap.size w x2 := hb1
  have V_4 := Lib.hid (Bs.to H1.out hq3)
  have D_5 := Lib.hid (Bl.to H2.out hq3)
  have HB_6 : Hid (Below w.heap.size w x2) := Lib.hid (hq3)
  clear hq3
  clear hb1
  go_wp2_with fail
  refine (CO.out _ _ _ V_4.out D_5.out).mono ?_
  rintro e x8 ⟨rfl, hb7⟩
  have hq9 : Below x2.heap.size x2 x8 := hb7
  have V_10 := Lib.hid (Bs.to V_4.out hq9)
  have D_11 := Lib.hid (Bl.to D_5.out hq9)
  have HB_12 : Hid (Below w.heap.size w x8) := Lib.hid (HB_6.out.trans (hq9.mono HB_6.out.size))
  clear hq9
  clear hb7
  go_wp2_with (refine wpList_store8 rfl _ _ _ rfl _ 0 _ rfl rfl (TH.out _) SI.out ?_)
  obtain ⟨W2, hW2⟩ : ∃ W2, (x8.alloc (.cells #[.int .u8 0, .int .u8 0, .int .u8 0, .int .u8 0, .int .u8 0, .int .u8 0, .int .u8 0, .int .u8 0] 33)).setCells x8.heap.size 0 (s.map bv) = W2 := ⟨_, rfl⟩
  have R5 := Lib.hid (put8 (w := x8) X8.1)
  have B5 := Lib.hid (new8_below x8 s)
  rw [hW2] at R5 B5 ⊢
  clear hW2
  obtain ⟨nb, hnb⟩ : ∃ nb, x8.heap.size = nb := ⟨_, rfl⟩
  rw [hnb] at R5 ⊢
  have hq13 : Below x8.heap.size x8 W2 := B5.out
  have V_14 := Lib.hid (Bs.to V_10.out hq13)
  have D_15 := Lib.hid (Bl.to D_11.out hq13)
  have HB_16 : Hid (Below w.heap.size w W2) := Lib.hid (HB_12.out.trans (hq13.mono HB_12.out.size))
  clear hq13
  clear hnb
  go_wp2_with fail
  refine wp_region_held (P := Try.prog) (S := (fun w' : World => At8 w' nb 0 s)) rfl ?_
  change wpAnyH _ _ _ _ _ _ _ _ W2.drew
  have hz18 : Below W2.heap.size W2 W2.drew := (Below.refl W2.heap.size W2).drew
  generalize W2.drew = wz17 at hz18 ⊢
  have hq19 : Below W2.heap.size W2 wz17 := hz18
  have V_20 := Lib.hid (Bs.to V_14.out hq19)
  have D_21 := Lib.hid (Bl.to D_15.out hq19)
  have R_22 := Lib.hid (Row.to R5.out hq19)
  have HB_23 : Hid (Below w.heap.size w wz17) := Lib.hid (HB_16.out.trans (hq19.mono HB_16.out.size))
  clear hq19
  clear hz18
  have hS24 : (fun w' : World => At8 w' nb 0 s) wz17 := R_22.out.at8
  refine takeD (i := 0) (v := .int .i64 0) (some 35) rfl rfl (by kernel_rfl) (by kernel_rfl) (by kernel_rfl) (fun _ _ _ h => h) (Or.inl ⟨by rfl, by rintro w' -; go_simp⟩) hS24 ?_
  simp only [Act.put, List.setIfInBounds_toArray, List.set_cons_zero, List.set_cons_succ]
  refine takeD (i := 1) (v := .bool true) (some 36) rfl rfl (by kernel_rfl) (by kernel_rfl) (by kernel_rfl) (fun _ _ _ h => h) (Or.inl ⟨by rfl, by rintro w' -; go_simp⟩) hS24 ?_
  simp only [Act.put, List.setIfInBounds_toArray, List.set_cons_zero, List.set_cons_succ]
  refine takeD (i := 2) (v := .bool true) (some 37) rfl rfl (by kernel_rfl) (by kernel_rfl) (by kernel_rfl) (fun _ _ _ h => h) (Or.inl ⟨by rfl, by rintro w' -; go_simp⟩) hS24 ?_
  simp only [Act.put, List.setIfInBounds_toArray, List.set_cons_zero, List.set_cons_succ]
  refine takeD (i := 3) (v := .agg (bcs s)) (some 38) rfl rfl (by kernel_rfl) (by kernel_rfl) (by kernel_rfl) (fun _ _ _ h => h) (yieldsIf_load8 (by rfl) _ _ rfl _ _ rfl s _ (fun w' h => h) Try.underlying33 rfl (size8 X8.1)) hS24 ?_
  simp only [Act.put, List.setIfInBounds_toArray, List.set_cons_zero, List.set_cons_succ]
  refine takeD (i := 4) (v := .slice A1 m c1) (some 39) rfl rfl (by kernel_rfl) (by kernel_rfl) (by kernel_rfl) (fun _ _ _ h => h) (Or.inl ⟨by rfl, by rintro w' -; go_simp⟩) hS24 ?_
  simp only [Act.put, List.setIfInBounds_toArray, List.set_cons_zero, List.set_cons_succ]
  refine takeD (i := 5) (v := .slice A2 m c2) (some 40) rfl rfl (by kernel_rfl) (by kernel_rfl) (by kernel_rfl) (fun _ _ _ h => h) (Or.inl ⟨by rfl, by rintro w' -; go_simp⟩) hS24 ?_
  simp only [Act.put, List.setIfInBounds_toArray, List.set_cons_zero, List.set_cons_succ]
  refine wpAnyH_ready (rs := [6]) (by kernel_rfl) (by simp) ?_
  refine AllReadyH.cons rfl (fun K25 hK25 => ?_) AllReadyH.nil
  have HK25 := Lib.hid hK25
  clear hK25
  rw [if_pos (by rfl)]
  go_simp
  go_at_call 16
  refine (RC.out _ _ _ V_20.out D_21.out).mono ?_
  rintro e x26 ⟨rfl, hb⟩
  have hq27 : Below wz17.heap.size wz17 x26 := hb
  have V_28 := Lib.hid (Bs.to V_20.out hq27)
  have D_29 := Lib.hid (Bl.to D_21.out hq27)
  have R_30 := Lib.hid (Row.to R_22.out hq27)
  have HB_31 : Hid (Below w.heap.size w x26) := Lib.hid (HB_23.out.trans (hq27.mono HB_23.out.size))
  clear hq27
  clear hb
  have hS32 : (fun w' : World => At8 w' nb 0 s) x26 := R_30.out.at8
  refine HK25.out _ _ hS32 fun _ => ?_
  try simp only [Act.put, List.setIfInBounds_toArray, List.set_cons_zero, List.set_cons_succ]
  refine takeD (i := 7) (v := .bool true) (some 42) rfl rfl (by kernel_rfl) (by kernel_rfl) (by kernel_rfl) (fun _ _ _ h => h) (Or.inl ⟨by rfl, by rintro w' -; go_simp⟩) hS32 ?_
  simp only [Act.put, List.setIfInBounds_toArray, List.set_cons_zero, List.set_cons_succ]
  refine takeD (i := 8) (v := .bool true) (some 43) rfl rfl (by kernel_rfl) (by kernel_rfl) (by kernel_rfl) (fun _ _ _ h => h) (Or.inl ⟨by rfl, by rintro w' -; go_simp⟩) hS32 ?_
  simp only [Act.put, List.setIfInBounds_toArray, List.set_cons_zero, List.set_cons_succ]
  refine takeD (i := 9) (v := .bool true) (some 4) rfl rfl (by kernel_rfl) (by kernel_rfl) (by kernel_rfl) (fun _ _ _ h => h) (Or.inl ⟨by rfl, by rintro w' -; go_simp⟩) hS32 ?_
  simp only [Act.put, List.setIfInBounds_toArray, List.set_cons_zero, List.set_cons_succ]
  refine wpAnyH_done (by kernel_rfl) ?_ _
  go_wp2_with fail
  go_ret
  exact ⟨by first | rfl | simp, HB_31.out⟩
theorem combineslaw (v1 v2 : Value) (l : List Nat) (D : List (List Nat)) (w : World) (h1 : Bs w v1 l) (h2 : Bl w v2 D) : Calls Try.prog 4 #[v1, v2] w (lawPost w) := by
  by_cases hs : 40 < l.length ∨ 40 < D.length
  · exact cl_long v1 v2 l D w h1 h2 hs
  · by_cases he : l.length = D.length
    · exact cl_ok v1 v2 l D w h1 h2 ⟨by omega, by omega, he⟩
    · exact cl_err v1 v2 l D w h1 h2 ⟨by omega, by omega, he⟩
end Go.Proofs.Ytheijobnmdbodaa
