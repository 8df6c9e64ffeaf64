/- Contract: decode's Locate. WRITTEN BY gen_Dk.py. -/
import Derived.Test.YtheijobnmdbodaaDj
namespace Go.Proofs.Ytheijobnmdbodaa
open Go Go.RowKit Lin
set_option linter.unusedVariables false
set_option linter.unusedSimpArgs false

def locPost (P : List (List Nat)) (w : World) (e : Ending) (w' : World) : Prop := ∃ k en : Nat, e = .returned (.tuple #[.int .i64 (k : Int), .int .i64 (en : Int)]) ∧ locR P k en ∧ Below w.heap.size w w'
set_option maxHeartbeats 4000000 in
set_option maxRecDepth 100000 in
theorem loc_arg (v : Value) (P : List (List Nat)) (w : World) (h : Bl w v P) (hs : P.length < 4 ∨ 16 < P.length) : Calls Try.prog 27 #[v] w (bPost (.tuple #[.int .i64 0, .int .i64 1]) w) := by
  have SE := Lib.hid (syn_err v P w h hs)
  clear h hs
  go_enter Try.func27, Try.ntmps27
  go_wp2_with fail
  refine SE.out.mono ?_
  rintro e w1 ⟨rfl, hb⟩
  have HB := Lib.hid hb
  clear hb
  go_wp2_with fail
  go_ret2
  exact ⟨rfl, HB.out⟩
set_option maxHeartbeats 4000000 in
set_option maxRecDepth 100000 in
theorem loc_ttt (v : Value) (P : List (List Nat)) (w : World) (h : Bl w v P) (h4 : 4 ≤ P.length) (h16 : P.length ≤ 16) (e0 : synB P 0 = zeroB.1) (e1 : synB P 1 = zeroB.1) (e2 : synB P 2 = zeroB.1) : Calls Try.prog 27 #[v] w (locPost P w) := by
  have OK := Lib.hid h.ok
  obtain ⟨n, hn⟩ : ∃ n, P.length = n + 3 := ⟨P.length - 3, by omega⟩
  have PN : P.length - 3 = n := by omega
  have SY := Lib.hid (syn_ok v P w h h4 h16)
  obtain ⟨A, c, rfl⟩ := h.form
  obtain ⟨N, hN⟩ : ∃ N, P.length = N := ⟨_, rfl⟩
  have e3 : (N : Int) - 3 = (n : Int) := by omega
  have hnl : (n : Int) ≤ 13 := by omega
  have RES : Hid (locR P 0 9) := Lib.hid (loc_none OK.out h4 h16 e0 e1 e2)
  have S8 := Lib.hid fun j (hj : j < 3) => synB_ok OK.out (show 3 ≤ P.length by omega) hj
  unfold synL at SY
  obtain ⟨s0, q0⟩ : ∃ s, synB P 0 = s := ⟨_, rfl⟩
  obtain ⟨s1, q1⟩ : ∃ s, synB P 1 = s := ⟨_, rfl⟩
  obtain ⟨s2, q2⟩ : ∃ s, synB P 2 = s := ⟨_, rfl⟩
  have b0 := S8.out 0 (by decide)
  have b1 := S8.out 1 (by decide)
  have b2 := S8.out 2 (by decide)
  rw [q0] at SY b0 e0
  rw [q1] at SY b1 e1
  rw [q2] at SY b2 e2
  have ZZ : Hid ((#[.int .u8 0, .int .u8 0, .int .u8 0, .int .u8 0, .int .u8 0, .int .u8 0, .int .u8 0, .int .u8 0] : Array Value) = bcs zeroB.1) := Lib.hid rfl
  obtain ⟨z, hz⟩ : ∃ z, zeroB.1 = z := ⟨_, rfl⟩
  have z8 : B8 z := hz ▸ zeroB.2
  rw [hz] at e0 e1 e2 ZZ
  have E0 := fun w' => eql8 s0 z b0 z8 w'
  have E1 := fun w' => eql8 s1 z b1 z8 w'
  have E2 := fun w' => eql8 s2 z b2 z8 w'
  rw [decide_eq_true e0] at E0
  rw [decide_eq_true e1] at E1
  rw [decide_eq_true e2] at E2
  have h13 : n ≤ 13 := by omega
  have h1 : 1 ≤ n := by omega
  rw [hN] at SY ⊢
  have LE : (N : Int) ≤ 16 := by omega
  clear h h4 h16 hn PN hN q0 q1 q2 S8 hz
  clear e0 e1 e2
  go_enter Try.func27, Try.ntmps27
  go_wp2_with fail
  refine (SY.out).mono ?_
  rintro e x2 ⟨g, rfl, hn3, hb1⟩
  have hq4 : Below w.heap.size w x2 := hb1
  have HB_5 : Hid (Below w.heap.size w x2) := Lib.hid (hq4)
  clear hq4
  have S_6 := Lib.hid hn3
  clear hb1 hn3
  have a0 := Bl.at8 S_6.out (i := 0) (by simp)
  have a1 := Bl.at8 S_6.out (i := 1) (by simp)
  have a2 := Bl.at8 S_6.out (i := 2) (by simp)
  rw [show [s0, s1, s2].getD 0 [] = s0 from rfl, Nat.zero_mul, Nat.zero_add] at a0
  rw [show [s0, s1, s2].getD 1 [] = s1 from rfl, Nat.one_mul, Nat.zero_add] at a1
  rw [show [s0, s1, s2].getD 2 [] = s2 from rfl, Nat.zero_add] at a2
  have A0 := Lib.hid a0
  have A1 := Lib.hid a1
  have A2 := Lib.hid a2
  clear a0 a1 a2
  go_wp2_with fail
  rw [ZZ.out]
  obtain ⟨W2, hW2⟩ : ∃ W2, x2.alloc (.cells (bcs z) 33) = W2 := ⟨_, rfl⟩
  have hq : Below x2.heap.size x2 W2 := by rw [← hW2]; exact (Below.refl _ _).alloc (Nat.le_refl _) _
  have rz := row_new x2 (bcs z) 33
  rw [hW2] at rz ⊢
  have AZ := Lib.hid rz.at8
  obtain ⟨zb, hzb⟩ : ∃ zb, x2.heap.size = zb := ⟨_, rfl⟩
  rw [hzb] at AZ ⊢
  clear rz hW2
  have hq7 : Below x2.heap.size x2 W2 := hq
  have S_8 := Lib.hid (Bl.to S_6.out hq7)
  have A0_9 := Lib.hid (At8.to A0.out hq7)
  have A1_10 := Lib.hid (At8.to A1.out hq7)
  have A2_11 := Lib.hid (At8.to A2.out hq7)
  have HB_12 : Hid (Below w.heap.size w W2) := Lib.hid (HB_5.out.trans (hq7.mono HB_5.out.size))
  clear hq7
  clear hq hzb
  refine wp_region_held (P := Try.prog) (S := (fun w' : World => At8 w' g 0 s0 ∧ At8 w' g 8 s1 ∧ At8 w' g (2 * 8) s2 ∧ At8 w' zb 0 z)) rfl ?_
  change wpAnyH _ _ _ _ _ _ _ _ W2.drew
  have hz14 : Below W2.heap.size W2 W2.drew := (Below.refl W2.heap.size W2).drew
  generalize W2.drew = wz13 at hz14 ⊢
  have hq15 : Below W2.heap.size W2 wz13 := hz14
  have S_16 := Lib.hid (Bl.to S_8.out hq15)
  have A0_17 := Lib.hid (At8.to A0_9.out hq15)
  have A1_18 := Lib.hid (At8.to A1_10.out hq15)
  have A2_19 := Lib.hid (At8.to A2_11.out hq15)
  have AZ_20 := Lib.hid (At8.to AZ.out hq15)
  have HB_21 : Hid (Below w.heap.size w wz13) := Lib.hid (HB_12.out.trans (hq15.mono HB_12.out.size))
  clear hq15
  clear hz14
  have hS22 : (fun w' : World => At8 w' g 0 s0 ∧ At8 w' g 8 s1 ∧ At8 w' g (2 * 8) s2 ∧ At8 w' zb 0 z) wz13 := ⟨A0_17.out, A1_18.out, A2_19.out, AZ_20.out⟩
  refine takeD (i := 0) (v := .slice (some ⟨g, 0, none⟩) 3 3) (some 20) rfl rfl (by kernel_rfl) (by kernel_rfl) (by kernel_rfl) (fun _ _ _ h => h) (Or.inl ⟨by rfl, by rintro w' -; go_simp⟩) hS22 ?_
  simp only [Act.put, List.setIfInBounds_toArray, List.set_cons_zero, List.set_cons_succ]
  refine takeD (i := 1) (v := .pointer (some ⟨g, 0, none⟩)) (some 21) rfl rfl (by kernel_rfl) (by kernel_rfl) (by kernel_rfl) (fun _ _ _ h => h) (Or.inl ⟨by rfl, by rintro w' -; go_simp⟩) hS22 ?_
  simp only [Act.put, List.setIfInBounds_toArray, List.set_cons_zero, List.set_cons_succ]
  refine takeD (i := 2) (v := .agg (bcs s0)) (some 22) rfl rfl (by kernel_rfl) (by kernel_rfl) (by kernel_rfl) (fun _ _ _ h => h) (yieldsIf_load8 (by rfl) _ _ rfl _ _ rfl s0 _ (fun w' h => h.1) Try.underlying33 rfl (size8 b0.1)) hS22 ?_
  simp only [Act.put, List.setIfInBounds_toArray, List.set_cons_zero, List.set_cons_succ]
  refine takeD (i := 3) (v := .agg (bcs z)) (some 23) rfl rfl (by kernel_rfl) (by kernel_rfl) (by kernel_rfl) (fun _ _ _ h => h) (yieldsIf_load8 (by rfl) _ _ rfl _ _ rfl z _ (fun w' h => h.2.2.2) Try.underlying33 rfl (size8 z8.1)) hS22 ?_
  simp only [Act.put, List.setIfInBounds_toArray, List.set_cons_zero, List.set_cons_succ]
  refine takeD (i := 4) (v := .bool true) (some 24) rfl rfl (by kernel_rfl) (by kernel_rfl) (by kernel_rfl) (fun _ _ _ h => h) (Or.inl ⟨by rfl, by rintro w' -; go_simp⟩) hS22 ?_
  simp only [Act.put, List.setIfInBounds_toArray, List.set_cons_zero, List.set_cons_succ]
  refine takeD (i := 5) (v := .bool true) (some 25) rfl rfl (by kernel_rfl) (by kernel_rfl) (by kernel_rfl) (fun _ _ _ h => h) (Or.inl ⟨by rfl, by rintro w' -; go_simp⟩) hS22 ?_
  simp only [Act.put, List.setIfInBounds_toArray, List.set_cons_zero, List.set_cons_succ]
  refine takeD (i := 6) (v := .slice (some ⟨g, 0, none⟩) 3 3) (some 26) rfl rfl (by kernel_rfl) (by kernel_rfl) (by kernel_rfl) (fun _ _ _ h => h) (Or.inl ⟨by rfl, by rintro w' -; go_simp⟩) hS22 ?_
  simp only [Act.put, List.setIfInBounds_toArray, List.set_cons_zero, List.set_cons_succ]
  refine takeD (i := 7) (v := .pointer (some ⟨g, 8, none⟩)) (some 27) rfl rfl (by kernel_rfl) (by kernel_rfl) (by kernel_rfl) (fun _ _ _ h => h) (Or.inl ⟨by rfl, by rintro w' -; go_simp⟩) hS22 ?_
  simp only [Act.put, List.setIfInBounds_toArray, List.set_cons_zero, List.set_cons_succ]
  refine takeD (i := 8) (v := .agg (bcs s1)) (some 28) rfl rfl (by kernel_rfl) (by kernel_rfl) (by kernel_rfl) (fun _ _ _ h => h) (yieldsIf_load8 (by rfl) _ _ rfl _ _ rfl s1 _ (fun w' h => h.2.1) Try.underlying33 rfl (size8 b1.1)) hS22 ?_
  simp only [Act.put, List.setIfInBounds_toArray, List.set_cons_zero, List.set_cons_succ]
  refine takeD (i := 9) (v := .agg (bcs z)) (some 29) rfl rfl (by kernel_rfl) (by kernel_rfl) (by kernel_rfl) (fun _ _ _ h => h) (yieldsIf_load8 (by rfl) _ _ rfl _ _ rfl z _ (fun w' h => h.2.2.2) Try.underlying33 rfl (size8 z8.1)) hS22 ?_
  simp only [Act.put, List.setIfInBounds_toArray, List.set_cons_zero, List.set_cons_succ]
  refine takeD (i := 10) (v := .bool true) (some 30) rfl rfl (by kernel_rfl) (by kernel_rfl) (by kernel_rfl) (fun _ _ _ h => h) (Or.inl ⟨by rfl, by rintro w' -; go_simp⟩) hS22 ?_
  simp only [Act.put, List.setIfInBounds_toArray, List.set_cons_zero, List.set_cons_succ]
  refine takeD (i := 11) (v := .bool true) (some 31) rfl rfl (by kernel_rfl) (by kernel_rfl) (by kernel_rfl) (fun _ _ _ h => h) (Or.inl ⟨by rfl, by rintro w' -; go_simp⟩) hS22 ?_
  simp only [Act.put, List.setIfInBounds_toArray, List.set_cons_zero, List.set_cons_succ]
  refine takeD (i := 12) (v := .bool true) (some 32) rfl rfl (by kernel_rfl) (by kernel_rfl) (by kernel_rfl) (fun _ _ _ h => h) (Or.inl ⟨by rfl, by rintro w' -; go_simp⟩) hS22 ?_
  simp only [Act.put, List.setIfInBounds_toArray, List.set_cons_zero, List.set_cons_succ]
  refine takeD (i := 13) (v := .slice (some ⟨g, 0, none⟩) 3 3) (some 33) rfl rfl (by kernel_rfl) (by kernel_rfl) (by kernel_rfl) (fun _ _ _ h => h) (Or.inl ⟨by rfl, by rintro w' -; go_simp⟩) hS22 ?_
  simp only [Act.put, List.setIfInBounds_toArray, List.set_cons_zero, List.set_cons_succ]
  refine takeD (i := 14) (v := .pointer (some ⟨g, 2 * 8, none⟩)) (some 34) rfl rfl (by kernel_rfl) (by kernel_rfl) (by kernel_rfl) (fun _ _ _ h => h) (Or.inl ⟨by rfl, by rintro w' -; go_simp⟩) hS22 ?_
  simp only [Act.put, List.setIfInBounds_toArray, List.set_cons_zero, List.set_cons_succ]
  refine takeD (i := 15) (v := .agg (bcs s2)) (some 35) rfl rfl (by kernel_rfl) (by kernel_rfl) (by kernel_rfl) (fun _ _ _ h => h) (yieldsIf_load8 (by rfl) _ _ rfl _ _ rfl s2 _ (fun w' h => h.2.2.1) Try.underlying33 rfl (size8 b2.1)) hS22 ?_
  simp only [Act.put, List.setIfInBounds_toArray, List.set_cons_zero, List.set_cons_succ]
  refine takeD (i := 16) (v := .agg (bcs z)) (some 36) rfl rfl (by kernel_rfl) (by kernel_rfl) (by kernel_rfl) (fun _ _ _ h => h) (yieldsIf_load8 (by rfl) _ _ rfl _ _ rfl z _ (fun w' h => h.2.2.2) Try.underlying33 rfl (size8 z8.1)) hS22 ?_
  simp only [Act.put, List.setIfInBounds_toArray, List.set_cons_zero, List.set_cons_succ]
  refine takeD (i := 17) (v := .bool true) (some 37) rfl rfl (by kernel_rfl) (by kernel_rfl) (by kernel_rfl) (fun _ _ _ h => h) (Or.inl ⟨by rfl, by rintro w' -; go_simp⟩) hS22 ?_
  simp only [Act.put, List.setIfInBounds_toArray, List.set_cons_zero, List.set_cons_succ]
  refine takeD (i := 18) (v := .bool true) (some 38) rfl rfl (by kernel_rfl) (by kernel_rfl) (by kernel_rfl) (fun _ _ _ h => h) (Or.inl ⟨by rfl, by rintro w' -; go_simp⟩) hS22 ?_
  simp only [Act.put, List.setIfInBounds_toArray, List.set_cons_zero, List.set_cons_succ]
  refine takeD (i := 19) (v := .bool true) (some 19) rfl rfl (by kernel_rfl) (by kernel_rfl) (by kernel_rfl) (fun _ _ _ h => h) (Or.inl ⟨by rfl, by rintro w' -; go_simp⟩) hS22 ?_
  simp only [Act.put, List.setIfInBounds_toArray, List.set_cons_zero, List.set_cons_succ]
  refine wpAnyH_done (by kernel_rfl) ?_ _
  go_wp2_with fail
  go_ret2
  exact ⟨0, 9, rfl, RES.out, HB_21.out⟩
set_option maxHeartbeats 4000000 in
set_option maxRecDepth 100000 in
theorem loc_ttf (v : Value) (P : List (List Nat)) (w : World) (h : Bl w v P) (h4 : 4 ≤ P.length) (h16 : P.length ≤ 16) (e0 : synB P 0 = zeroB.1) (e1 : synB P 1 = zeroB.1) (e2 : synB P 2 ≠ zeroB.1) : Calls Try.prog 27 #[v] w (locPost P w) := by
  have OK := Lib.hid h.ok
  obtain ⟨n, hn⟩ : ∃ n, P.length = n + 3 := ⟨P.length - 3, by omega⟩
  have PN : P.length - 3 = n := by omega
  have SY := Lib.hid (syn_ok v P w h h4 h16)
  obtain ⟨A, c, rfl⟩ := h.form
  obtain ⟨N, hN⟩ : ∃ N, P.length = N := ⟨_, rfl⟩
  have e3 : (N : Int) - 3 = (n : Int) := by omega
  have hnl : (n : Int) ≤ 13 := by omega
  have RES : Hid (locR P (n + 2) 0) := Lib.hid (by
    rw [← PN]
    refine loc_par OK.out h4 h16 (m := 2) (by decide) e2 fun j hj hne => ?_
    match j, hj with
    | 0, _ => exact e0
    | 1, _ => exact e1
    | 2, _ => exact absurd rfl hne)
  have S8 := Lib.hid fun j (hj : j < 3) => synB_ok OK.out (show 3 ≤ P.length by omega) hj
  unfold synL at SY
  obtain ⟨s0, q0⟩ : ∃ s, synB P 0 = s := ⟨_, rfl⟩
  obtain ⟨s1, q1⟩ : ∃ s, synB P 1 = s := ⟨_, rfl⟩
  obtain ⟨s2, q2⟩ : ∃ s, synB P 2 = s := ⟨_, rfl⟩
  have b0 := S8.out 0 (by decide)
  have b1 := S8.out 1 (by decide)
  have b2 := S8.out 2 (by decide)
  rw [q0] at SY b0 e0
  rw [q1] at SY b1 e1
  rw [q2] at SY b2 e2
  have ZZ : Hid ((#[.int .u8 0, .int .u8 0, .int .u8 0, .int .u8 0, .int .u8 0, .int .u8 0, .int .u8 0, .int .u8 0] : Array Value) = bcs zeroB.1) := Lib.hid rfl
  obtain ⟨z, hz⟩ : ∃ z, zeroB.1 = z := ⟨_, rfl⟩
  have z8 : B8 z := hz ▸ zeroB.2
  rw [hz] at e0 e1 e2 ZZ
  have E0 := fun w' => eql8 s0 z b0 z8 w'
  have E1 := fun w' => eql8 s1 z b1 z8 w'
  have E2 := fun w' => eql8 s2 z b2 z8 w'
  rw [decide_eq_true e0] at E0
  rw [decide_eq_true e1] at E1
  rw [decide_eq_false e2] at E2
  have h13 : n ≤ 13 := by omega
  have h1 : 1 ≤ n := by omega
  rw [hN] at SY ⊢
  have LE : (N : Int) ≤ 16 := by omega
  clear h h4 h16 hn PN hN q0 q1 q2 S8 hz
  clear e0 e1 e2
  go_enter Try.func27, Try.ntmps27
  go_wp2_with fail
  refine (SY.out).mono ?_
  rintro e x2 ⟨g, rfl, hn3, hb1⟩
  have hq4 : Below w.heap.size w x2 := hb1
  have HB_5 : Hid (Below w.heap.size w x2) := Lib.hid (hq4)
  clear hq4
  have S_6 := Lib.hid hn3
  clear hb1 hn3
  have a0 := Bl.at8 S_6.out (i := 0) (by simp)
  have a1 := Bl.at8 S_6.out (i := 1) (by simp)
  have a2 := Bl.at8 S_6.out (i := 2) (by simp)
  rw [show [s0, s1, s2].getD 0 [] = s0 from rfl, Nat.zero_mul, Nat.zero_add] at a0
  rw [show [s0, s1, s2].getD 1 [] = s1 from rfl, Nat.one_mul, Nat.zero_add] at a1
  rw [show [s0, s1, s2].getD 2 [] = s2 from rfl, Nat.zero_add] at a2
  have A0 := Lib.hid a0
  have A1 := Lib.hid a1
  have A2 := Lib.hid a2
  clear a0 a1 a2
  go_wp2_with fail
  rw [ZZ.out]
  obtain ⟨W2, hW2⟩ : ∃ W2, x2.alloc (.cells (bcs z) 33) = W2 := ⟨_, rfl⟩
  have hq : Below x2.heap.size x2 W2 := by rw [← hW2]; exact (Below.refl _ _).alloc (Nat.le_refl _) _
  have rz := row_new x2 (bcs z) 33
  rw [hW2] at rz ⊢
  have AZ := Lib.hid rz.at8
  obtain ⟨zb, hzb⟩ : ∃ zb, x2.heap.size = zb := ⟨_, rfl⟩
  rw [hzb] at AZ ⊢
  clear rz hW2
  have hq7 : Below x2.heap.size x2 W2 := hq
  have S_8 := Lib.hid (Bl.to S_6.out hq7)
  have A0_9 := Lib.hid (At8.to A0.out hq7)
  have A1_10 := Lib.hid (At8.to A1.out hq7)
  have A2_11 := Lib.hid (At8.to A2.out hq7)
  have HB_12 : Hid (Below w.heap.size w W2) := Lib.hid (HB_5.out.trans (hq7.mono HB_5.out.size))
  clear hq7
  clear hq hzb
  refine wp_region_held (P := Try.prog) (S := (fun w' : World => At8 w' g 0 s0 ∧ At8 w' g 8 s1 ∧ At8 w' g (2 * 8) s2 ∧ At8 w' zb 0 z)) rfl ?_
  change wpAnyH _ _ _ _ _ _ _ _ W2.drew
  have hz14 : Below W2.heap.size W2 W2.drew := (Below.refl W2.heap.size W2).drew
  generalize W2.drew = wz13 at hz14 ⊢
  have hq15 : Below W2.heap.size W2 wz13 := hz14
  have S_16 := Lib.hid (Bl.to S_8.out hq15)
  have A0_17 := Lib.hid (At8.to A0_9.out hq15)
  have A1_18 := Lib.hid (At8.to A1_10.out hq15)
  have A2_19 := Lib.hid (At8.to A2_11.out hq15)
  have AZ_20 := Lib.hid (At8.to AZ.out hq15)
  have HB_21 : Hid (Below w.heap.size w wz13) := Lib.hid (HB_12.out.trans (hq15.mono HB_12.out.size))
  clear hq15
  clear hz14
  have hS22 : (fun w' : World => At8 w' g 0 s0 ∧ At8 w' g 8 s1 ∧ At8 w' g (2 * 8) s2 ∧ At8 w' zb 0 z) wz13 := ⟨A0_17.out, A1_18.out, A2_19.out, AZ_20.out⟩
  refine takeD (i := 0) (v := .slice (some ⟨g, 0, none⟩) 3 3) (some 20) rfl rfl (by kernel_rfl) (by kernel_rfl) (by kernel_rfl) (fun _ _ _ h => h) (Or.inl ⟨by rfl, by rintro w' -; go_simp⟩) hS22 ?_
  simp only [Act.put, List.setIfInBounds_toArray, List.set_cons_zero, List.set_cons_succ]
  refine takeD (i := 1) (v := .pointer (some ⟨g, 0, none⟩)) (some 21) rfl rfl (by kernel_rfl) (by kernel_rfl) (by kernel_rfl) (fun _ _ _ h => h) (Or.inl ⟨by rfl, by rintro w' -; go_simp⟩) hS22 ?_
  simp only [Act.put, List.setIfInBounds_toArray, List.set_cons_zero, List.set_cons_succ]
  refine takeD (i := 2) (v := .agg (bcs s0)) (some 22) rfl rfl (by kernel_rfl) (by kernel_rfl) (by kernel_rfl) (fun _ _ _ h => h) (yieldsIf_load8 (by rfl) _ _ rfl _ _ rfl s0 _ (fun w' h => h.1) Try.underlying33 rfl (size8 b0.1)) hS22 ?_
  simp only [Act.put, List.setIfInBounds_toArray, List.set_cons_zero, List.set_cons_succ]
  refine takeD (i := 3) (v := .agg (bcs z)) (some 23) rfl rfl (by kernel_rfl) (by kernel_rfl) (by kernel_rfl) (fun _ _ _ h => h) (yieldsIf_load8 (by rfl) _ _ rfl _ _ rfl z _ (fun w' h => h.2.2.2) Try.underlying33 rfl (size8 z8.1)) hS22 ?_
  simp only [Act.put, List.setIfInBounds_toArray, List.set_cons_zero, List.set_cons_succ]
  refine takeD (i := 4) (v := .bool true) (some 24) rfl rfl (by kernel_rfl) (by kernel_rfl) (by kernel_rfl) (fun _ _ _ h => h) (Or.inl ⟨by rfl, by rintro w' -; go_simp⟩) hS22 ?_
  simp only [Act.put, List.setIfInBounds_toArray, List.set_cons_zero, List.set_cons_succ]
  refine takeD (i := 5) (v := .bool true) (some 25) rfl rfl (by kernel_rfl) (by kernel_rfl) (by kernel_rfl) (fun _ _ _ h => h) (Or.inl ⟨by rfl, by rintro w' -; go_simp⟩) hS22 ?_
  simp only [Act.put, List.setIfInBounds_toArray, List.set_cons_zero, List.set_cons_succ]
  refine takeD (i := 6) (v := .slice (some ⟨g, 0, none⟩) 3 3) (some 26) rfl rfl (by kernel_rfl) (by kernel_rfl) (by kernel_rfl) (fun _ _ _ h => h) (Or.inl ⟨by rfl, by rintro w' -; go_simp⟩) hS22 ?_
  simp only [Act.put, List.setIfInBounds_toArray, List.set_cons_zero, List.set_cons_succ]
  refine takeD (i := 7) (v := .pointer (some ⟨g, 8, none⟩)) (some 27) rfl rfl (by kernel_rfl) (by kernel_rfl) (by kernel_rfl) (fun _ _ _ h => h) (Or.inl ⟨by rfl, by rintro w' -; go_simp⟩) hS22 ?_
  simp only [Act.put, List.setIfInBounds_toArray, List.set_cons_zero, List.set_cons_succ]
  refine takeD (i := 8) (v := .agg (bcs s1)) (some 28) rfl rfl (by kernel_rfl) (by kernel_rfl) (by kernel_rfl) (fun _ _ _ h => h) (yieldsIf_load8 (by rfl) _ _ rfl _ _ rfl s1 _ (fun w' h => h.2.1) Try.underlying33 rfl (size8 b1.1)) hS22 ?_
  simp only [Act.put, List.setIfInBounds_toArray, List.set_cons_zero, List.set_cons_succ]
  refine takeD (i := 9) (v := .agg (bcs z)) (some 29) rfl rfl (by kernel_rfl) (by kernel_rfl) (by kernel_rfl) (fun _ _ _ h => h) (yieldsIf_load8 (by rfl) _ _ rfl _ _ rfl z _ (fun w' h => h.2.2.2) Try.underlying33 rfl (size8 z8.1)) hS22 ?_
  simp only [Act.put, List.setIfInBounds_toArray, List.set_cons_zero, List.set_cons_succ]
  refine takeD (i := 10) (v := .bool true) (some 30) rfl rfl (by kernel_rfl) (by kernel_rfl) (by kernel_rfl) (fun _ _ _ h => h) (Or.inl ⟨by rfl, by rintro w' -; go_simp⟩) hS22 ?_
  simp only [Act.put, List.setIfInBounds_toArray, List.set_cons_zero, List.set_cons_succ]
  refine takeD (i := 11) (v := .bool true) (some 31) rfl rfl (by kernel_rfl) (by kernel_rfl) (by kernel_rfl) (fun _ _ _ h => h) (Or.inl ⟨by rfl, by rintro w' -; go_simp⟩) hS22 ?_
  simp only [Act.put, List.setIfInBounds_toArray, List.set_cons_zero, List.set_cons_succ]
  refine takeD (i := 12) (v := .bool true) (some 32) rfl rfl (by kernel_rfl) (by kernel_rfl) (by kernel_rfl) (fun _ _ _ h => h) (Or.inl ⟨by rfl, by rintro w' -; go_simp⟩) hS22 ?_
  simp only [Act.put, List.setIfInBounds_toArray, List.set_cons_zero, List.set_cons_succ]
  refine takeD (i := 13) (v := .slice (some ⟨g, 0, none⟩) 3 3) (some 33) rfl rfl (by kernel_rfl) (by kernel_rfl) (by kernel_rfl) (fun _ _ _ h => h) (Or.inl ⟨by rfl, by rintro w' -; go_simp⟩) hS22 ?_
  simp only [Act.put, List.setIfInBounds_toArray, List.set_cons_zero, List.set_cons_succ]
  refine takeD (i := 14) (v := .pointer (some ⟨g, 2 * 8, none⟩)) (some 34) rfl rfl (by kernel_rfl) (by kernel_rfl) (by kernel_rfl) (fun _ _ _ h => h) (Or.inl ⟨by rfl, by rintro w' -; go_simp⟩) hS22 ?_
  simp only [Act.put, List.setIfInBounds_toArray, List.set_cons_zero, List.set_cons_succ]
  refine takeD (i := 15) (v := .agg (bcs s2)) (some 35) rfl rfl (by kernel_rfl) (by kernel_rfl) (by kernel_rfl) (fun _ _ _ h => h) (yieldsIf_load8 (by rfl) _ _ rfl _ _ rfl s2 _ (fun w' h => h.2.2.1) Try.underlying33 rfl (size8 b2.1)) hS22 ?_
  simp only [Act.put, List.setIfInBounds_toArray, List.set_cons_zero, List.set_cons_succ]
  refine takeD (i := 16) (v := .agg (bcs z)) (some 36) rfl rfl (by kernel_rfl) (by kernel_rfl) (by kernel_rfl) (fun _ _ _ h => h) (yieldsIf_load8 (by rfl) _ _ rfl _ _ rfl z _ (fun w' h => h.2.2.2) Try.underlying33 rfl (size8 z8.1)) hS22 ?_
  simp only [Act.put, List.setIfInBounds_toArray, List.set_cons_zero, List.set_cons_succ]
  refine takeD (i := 17) (v := .bool false) (some 37) rfl rfl (by kernel_rfl) (by kernel_rfl) (by kernel_rfl) (fun _ _ _ h => h) (Or.inl ⟨by rfl, by rintro w' -; go_simp⟩) hS22 ?_
  simp only [Act.put, List.setIfInBounds_toArray, List.set_cons_zero, List.set_cons_succ]
  refine takeD (i := 18) (v := .bool false) (some 38) rfl rfl (by kernel_rfl) (by kernel_rfl) (by kernel_rfl) (fun _ _ _ h => h) (Or.inl ⟨by rfl, by rintro w' -; go_simp⟩) hS22 ?_
  simp only [Act.put, List.setIfInBounds_toArray, List.set_cons_zero, List.set_cons_succ]
  refine takeD (i := 19) (v := .bool false) (some 19) rfl rfl (by kernel_rfl) (by kernel_rfl) (by kernel_rfl) (fun _ _ _ h => h) (Or.inl ⟨by rfl, by rintro w' -; go_simp⟩) hS22 ?_
  simp only [Act.put, List.setIfInBounds_toArray, List.set_cons_zero, List.set_cons_succ]
  refine wpAnyH_done (by kernel_rfl) ?_ _
  go_wp2_with fail
  refine wp_region_held (P := Try.prog) (S := (fun w' : World => At8 w' g 0 s0 ∧ At8 w' g 8 s1 ∧ At8 w' g (2 * 8) s2 ∧ At8 w' zb 0 z)) rfl ?_
  change wpAnyH _ _ _ _ _ _ _ _ wz13.drew
  have hz24 : Below wz13.heap.size wz13 wz13.drew := (Below.refl wz13.heap.size wz13).drew
  generalize wz13.drew = wz23 at hz24 ⊢
  have hq25 : Below wz13.heap.size wz13 wz23 := hz24
  have S_26 := Lib.hid (Bl.to S_16.out hq25)
  have A0_27 := Lib.hid (At8.to A0_17.out hq25)
  have A1_28 := Lib.hid (At8.to A1_18.out hq25)
  have A2_29 := Lib.hid (At8.to A2_19.out hq25)
  have AZ_30 := Lib.hid (At8.to AZ_20.out hq25)
  have HB_31 : Hid (Below w.heap.size w wz23) := Lib.hid (HB_21.out.trans (hq25.mono HB_21.out.size))
  clear hq25
  clear hz24
  have hS32 : (fun w' : World => At8 w' g 0 s0 ∧ At8 w' g 8 s1 ∧ At8 w' g (2 * 8) s2 ∧ At8 w' zb 0 z) wz23 := ⟨A0_27.out, A1_28.out, A2_29.out, AZ_30.out⟩
  refine takeD (i := 0) (v := .slice (some ⟨g, 0, none⟩) 3 3) (some 40) rfl rfl (by kernel_rfl) (by kernel_rfl) (by kernel_rfl) (fun _ _ _ h => h) (Or.inl ⟨by rfl, by rintro w' -; go_simp⟩) hS32 ?_
  simp only [Act.put, List.setIfInBounds_toArray, List.set_cons_zero, List.set_cons_succ]
  refine takeD (i := 1) (v := .pointer (some ⟨g, 8, none⟩)) (some 41) rfl rfl (by kernel_rfl) (by kernel_rfl) (by kernel_rfl) (fun _ _ _ h => h) (Or.inl ⟨by rfl, by rintro w' -; go_simp⟩) hS32 ?_
  simp only [Act.put, List.setIfInBounds_toArray, List.set_cons_zero, List.set_cons_succ]
  refine takeD (i := 2) (v := .agg (bcs s1)) (some 42) rfl rfl (by kernel_rfl) (by kernel_rfl) (by kernel_rfl) (fun _ _ _ h => h) (yieldsIf_load8 (by rfl) _ _ rfl _ _ rfl s1 _ (fun w' h => h.2.1) Try.underlying33 rfl (size8 b1.1)) hS32 ?_
  simp only [Act.put, List.setIfInBounds_toArray, List.set_cons_zero, List.set_cons_succ]
  refine takeD (i := 3) (v := .agg (bcs z)) (some 43) rfl rfl (by kernel_rfl) (by kernel_rfl) (by kernel_rfl) (fun _ _ _ h => h) (yieldsIf_load8 (by rfl) _ _ rfl _ _ rfl z _ (fun w' h => h.2.2.2) Try.underlying33 rfl (size8 z8.1)) hS32 ?_
  simp only [Act.put, List.setIfInBounds_toArray, List.set_cons_zero, List.set_cons_succ]
  refine takeD (i := 4) (v := .bool true) (some 44) rfl rfl (by kernel_rfl) (by kernel_rfl) (by kernel_rfl) (fun _ _ _ h => h) (Or.inl ⟨by rfl, by rintro w' -; go_simp⟩) hS32 ?_
  simp only [Act.put, List.setIfInBounds_toArray, List.set_cons_zero, List.set_cons_succ]
  refine takeD (i := 5) (v := .bool true) (some 45) rfl rfl (by kernel_rfl) (by kernel_rfl) (by kernel_rfl) (fun _ _ _ h => h) (Or.inl ⟨by rfl, by rintro w' -; go_simp⟩) hS32 ?_
  simp only [Act.put, List.setIfInBounds_toArray, List.set_cons_zero, List.set_cons_succ]
  refine takeD (i := 6) (v := .slice (some ⟨g, 0, none⟩) 3 3) (some 46) rfl rfl (by kernel_rfl) (by kernel_rfl) (by kernel_rfl) (fun _ _ _ h => h) (Or.inl ⟨by rfl, by rintro w' -; go_simp⟩) hS32 ?_
  simp only [Act.put, List.setIfInBounds_toArray, List.set_cons_zero, List.set_cons_succ]
  refine takeD (i := 7) (v := .pointer (some ⟨g, 2 * 8, none⟩)) (some 47) rfl rfl (by kernel_rfl) (by kernel_rfl) (by kernel_rfl) (fun _ _ _ h => h) (Or.inl ⟨by rfl, by rintro w' -; go_simp⟩) hS32 ?_
  simp only [Act.put, List.setIfInBounds_toArray, List.set_cons_zero, List.set_cons_succ]
  refine takeD (i := 8) (v := .agg (bcs s2)) (some 48) rfl rfl (by kernel_rfl) (by kernel_rfl) (by kernel_rfl) (fun _ _ _ h => h) (yieldsIf_load8 (by rfl) _ _ rfl _ _ rfl s2 _ (fun w' h => h.2.2.1) Try.underlying33 rfl (size8 b2.1)) hS32 ?_
  simp only [Act.put, List.setIfInBounds_toArray, List.set_cons_zero, List.set_cons_succ]
  refine takeD (i := 9) (v := .agg (bcs z)) (some 49) rfl rfl (by kernel_rfl) (by kernel_rfl) (by kernel_rfl) (fun _ _ _ h => h) (yieldsIf_load8 (by rfl) _ _ rfl _ _ rfl z _ (fun w' h => h.2.2.2) Try.underlying33 rfl (size8 z8.1)) hS32 ?_
  simp only [Act.put, List.setIfInBounds_toArray, List.set_cons_zero, List.set_cons_succ]
  refine takeD (i := 10) (v := .bool false) (some 50) rfl rfl (by kernel_rfl) (by kernel_rfl) (by kernel_rfl) (fun _ _ _ h => h) (Or.inl ⟨by rfl, by rintro w' -; go_simp⟩) hS32 ?_
  simp only [Act.put, List.setIfInBounds_toArray, List.set_cons_zero, List.set_cons_succ]
  refine takeD (i := 11) (v := .bool false) (some 51) rfl rfl (by kernel_rfl) (by kernel_rfl) (by kernel_rfl) (fun _ _ _ h => h) (Or.inl ⟨by rfl, by rintro w' -; go_simp⟩) hS32 ?_
  simp only [Act.put, List.setIfInBounds_toArray, List.set_cons_zero, List.set_cons_succ]
  refine takeD (i := 12) (v := .bool false) (some 39) rfl rfl (by kernel_rfl) (by kernel_rfl) (by kernel_rfl) (fun _ _ _ h => h) (Or.inl ⟨by rfl, by rintro w' -; go_simp⟩) hS32 ?_
  simp only [Act.put, List.setIfInBounds_toArray, List.set_cons_zero, List.set_cons_succ]
  refine wpAnyH_done (by kernel_rfl) ?_ _
  go_wp2_with fail
  refine wp_region_held (P := Try.prog) (S := (fun w' : World => At8 w' g 0 s0 ∧ At8 w' g 8 s1 ∧ At8 w' g (2 * 8) s2 ∧ At8 w' zb 0 z)) rfl ?_
  change wpAnyH _ _ _ _ _ _ _ _ wz23.drew
  have hz34 : Below wz23.heap.size wz23 wz23.drew := (Below.refl wz23.heap.size wz23).drew
  generalize wz23.drew = wz33 at hz34 ⊢
  have hq35 : Below wz23.heap.size wz23 wz33 := hz34
  have S_36 := Lib.hid (Bl.to S_26.out hq35)
  have A0_37 := Lib.hid (At8.to A0_27.out hq35)
  have A1_38 := Lib.hid (At8.to A1_28.out hq35)
  have A2_39 := Lib.hid (At8.to A2_29.out hq35)
  have AZ_40 := Lib.hid (At8.to AZ_30.out hq35)
  have HB_41 : Hid (Below w.heap.size w wz33) := Lib.hid (HB_31.out.trans (hq35.mono HB_31.out.size))
  clear hq35
  clear hz34
  have hS42 : (fun w' : World => At8 w' g 0 s0 ∧ At8 w' g 8 s1 ∧ At8 w' g (2 * 8) s2 ∧ At8 w' zb 0 z) wz33 := ⟨A0_37.out, A1_38.out, A2_39.out, AZ_40.out⟩
  refine takeD (i := 0) (v := .slice (some ⟨g, 0, none⟩) 3 3) (some 54) rfl rfl (by kernel_rfl) (by kernel_rfl) (by kernel_rfl) (fun _ _ _ h => h) (Or.inl ⟨by rfl, by rintro w' -; go_simp⟩) hS42 ?_
  simp only [Act.put, List.setIfInBounds_toArray, List.set_cons_zero, List.set_cons_succ]
  refine takeD (i := 1) (v := .pointer (some ⟨g, 0, none⟩)) (some 55) rfl rfl (by kernel_rfl) (by kernel_rfl) (by kernel_rfl) (fun _ _ _ h => h) (Or.inl ⟨by rfl, by rintro w' -; go_simp⟩) hS42 ?_
  simp only [Act.put, List.setIfInBounds_toArray, List.set_cons_zero, List.set_cons_succ]
  refine takeD (i := 2) (v := .agg (bcs s0)) (some 56) rfl rfl (by kernel_rfl) (by kernel_rfl) (by kernel_rfl) (fun _ _ _ h => h) (yieldsIf_load8 (by rfl) _ _ rfl _ _ rfl s0 _ (fun w' h => h.1) Try.underlying33 rfl (size8 b0.1)) hS42 ?_
  simp only [Act.put, List.setIfInBounds_toArray, List.set_cons_zero, List.set_cons_succ]
  refine takeD (i := 3) (v := .agg (bcs z)) (some 57) rfl rfl (by kernel_rfl) (by kernel_rfl) (by kernel_rfl) (fun _ _ _ h => h) (yieldsIf_load8 (by rfl) _ _ rfl _ _ rfl z _ (fun w' h => h.2.2.2) Try.underlying33 rfl (size8 z8.1)) hS42 ?_
  simp only [Act.put, List.setIfInBounds_toArray, List.set_cons_zero, List.set_cons_succ]
  refine takeD (i := 4) (v := .bool true) (some 58) rfl rfl (by kernel_rfl) (by kernel_rfl) (by kernel_rfl) (fun _ _ _ h => h) (Or.inl ⟨by rfl, by rintro w' -; go_simp⟩) hS42 ?_
  simp only [Act.put, List.setIfInBounds_toArray, List.set_cons_zero, List.set_cons_succ]
  refine takeD (i := 5) (v := .bool true) (some 59) rfl rfl (by kernel_rfl) (by kernel_rfl) (by kernel_rfl) (fun _ _ _ h => h) (Or.inl ⟨by rfl, by rintro w' -; go_simp⟩) hS42 ?_
  simp only [Act.put, List.setIfInBounds_toArray, List.set_cons_zero, List.set_cons_succ]
  refine takeD (i := 6) (v := .slice (some ⟨g, 0, none⟩) 3 3) (some 60) rfl rfl (by kernel_rfl) (by kernel_rfl) (by kernel_rfl) (fun _ _ _ h => h) (Or.inl ⟨by rfl, by rintro w' -; go_simp⟩) hS42 ?_
  simp only [Act.put, List.setIfInBounds_toArray, List.set_cons_zero, List.set_cons_succ]
  refine takeD (i := 7) (v := .pointer (some ⟨g, 2 * 8, none⟩)) (some 61) rfl rfl (by kernel_rfl) (by kernel_rfl) (by kernel_rfl) (fun _ _ _ h => h) (Or.inl ⟨by rfl, by rintro w' -; go_simp⟩) hS42 ?_
  simp only [Act.put, List.setIfInBounds_toArray, List.set_cons_zero, List.set_cons_succ]
  refine takeD (i := 8) (v := .agg (bcs s2)) (some 62) rfl rfl (by kernel_rfl) (by kernel_rfl) (by kernel_rfl) (fun _ _ _ h => h) (yieldsIf_load8 (by rfl) _ _ rfl _ _ rfl s2 _ (fun w' h => h.2.2.1) Try.underlying33 rfl (size8 b2.1)) hS42 ?_
  simp only [Act.put, List.setIfInBounds_toArray, List.set_cons_zero, List.set_cons_succ]
  refine takeD (i := 9) (v := .agg (bcs z)) (some 63) rfl rfl (by kernel_rfl) (by kernel_rfl) (by kernel_rfl) (fun _ _ _ h => h) (yieldsIf_load8 (by rfl) _ _ rfl _ _ rfl z _ (fun w' h => h.2.2.2) Try.underlying33 rfl (size8 z8.1)) hS42 ?_
  simp only [Act.put, List.setIfInBounds_toArray, List.set_cons_zero, List.set_cons_succ]
  refine takeD (i := 10) (v := .bool false) (some 64) rfl rfl (by kernel_rfl) (by kernel_rfl) (by kernel_rfl) (fun _ _ _ h => h) (Or.inl ⟨by rfl, by rintro w' -; go_simp⟩) hS42 ?_
  simp only [Act.put, List.setIfInBounds_toArray, List.set_cons_zero, List.set_cons_succ]
  refine takeD (i := 11) (v := .bool false) (some 65) rfl rfl (by kernel_rfl) (by kernel_rfl) (by kernel_rfl) (fun _ _ _ h => h) (Or.inl ⟨by rfl, by rintro w' -; go_simp⟩) hS42 ?_
  simp only [Act.put, List.setIfInBounds_toArray, List.set_cons_zero, List.set_cons_succ]
  refine takeD (i := 12) (v := .bool false) (some 53) rfl rfl (by kernel_rfl) (by kernel_rfl) (by kernel_rfl) (fun _ _ _ h => h) (Or.inl ⟨by rfl, by rintro w' -; go_simp⟩) hS42 ?_
  simp only [Act.put, List.setIfInBounds_toArray, List.set_cons_zero, List.set_cons_succ]
  refine wpAnyH_done (by kernel_rfl) ?_ _
  go_wp2_with fail
  refine wp_region_held (P := Try.prog) (S := (fun w' : World => At8 w' g 0 s0 ∧ At8 w' g 8 s1 ∧ At8 w' g (2 * 8) s2 ∧ At8 w' zb 0 z)) rfl ?_
  change wpAnyH _ _ _ _ _ _ _ _ wz33.drew
  have hz44 : Below wz33.heap.size wz33 wz33.drew := (Below.refl wz33.heap.size wz33).drew
  generalize wz33.drew = wz43 at hz44 ⊢
  have hq45 : Below wz33.heap.size wz33 wz43 := hz44
  have S_46 := Lib.hid (Bl.to S_36.out hq45)
  have A0_47 := Lib.hid (At8.to A0_37.out hq45)
  have A1_48 := Lib.hid (At8.to A1_38.out hq45)
  have A2_49 := Lib.hid (At8.to A2_39.out hq45)
  have AZ_50 := Lib.hid (At8.to AZ_40.out hq45)
  have HB_51 : Hid (Below w.heap.size w wz43) := Lib.hid (HB_41.out.trans (hq45.mono HB_41.out.size))
  clear hq45
  clear hz44
  have hS52 : (fun w' : World => At8 w' g 0 s0 ∧ At8 w' g 8 s1 ∧ At8 w' g (2 * 8) s2 ∧ At8 w' zb 0 z) wz43 := ⟨A0_47.out, A1_48.out, A2_49.out, AZ_50.out⟩
  refine takeD (i := 0) (v := .slice (some ⟨g, 0, none⟩) 3 3) (some 69) rfl rfl (by kernel_rfl) (by kernel_rfl) (by kernel_rfl) (fun _ _ _ h => h) (Or.inl ⟨by rfl, by rintro w' -; go_simp⟩) hS52 ?_
  simp only [Act.put, List.setIfInBounds_toArray, List.set_cons_zero, List.set_cons_succ]
  refine takeD (i := 1) (v := .pointer (some ⟨g, 0, none⟩)) (some 70) rfl rfl (by kernel_rfl) (by kernel_rfl) (by kernel_rfl) (fun _ _ _ h => h) (Or.inl ⟨by rfl, by rintro w' -; go_simp⟩) hS52 ?_
  simp only [Act.put, List.setIfInBounds_toArray, List.set_cons_zero, List.set_cons_succ]
  refine takeD (i := 2) (v := .agg (bcs s0)) (some 71) rfl rfl (by kernel_rfl) (by kernel_rfl) (by kernel_rfl) (fun _ _ _ h => h) (yieldsIf_load8 (by rfl) _ _ rfl _ _ rfl s0 _ (fun w' h => h.1) Try.underlying33 rfl (size8 b0.1)) hS52 ?_
  simp only [Act.put, List.setIfInBounds_toArray, List.set_cons_zero, List.set_cons_succ]
  refine takeD (i := 3) (v := .agg (bcs z)) (some 72) rfl rfl (by kernel_rfl) (by kernel_rfl) (by kernel_rfl) (fun _ _ _ h => h) (yieldsIf_load8 (by rfl) _ _ rfl _ _ rfl z _ (fun w' h => h.2.2.2) Try.underlying33 rfl (size8 z8.1)) hS52 ?_
  simp only [Act.put, List.setIfInBounds_toArray, List.set_cons_zero, List.set_cons_succ]
  refine takeD (i := 4) (v := .bool true) (some 73) rfl rfl (by kernel_rfl) (by kernel_rfl) (by kernel_rfl) (fun _ _ _ h => h) (Or.inl ⟨by rfl, by rintro w' -; go_simp⟩) hS52 ?_
  simp only [Act.put, List.setIfInBounds_toArray, List.set_cons_zero, List.set_cons_succ]
  refine takeD (i := 5) (v := .bool true) (some 74) rfl rfl (by kernel_rfl) (by kernel_rfl) (by kernel_rfl) (fun _ _ _ h => h) (Or.inl ⟨by rfl, by rintro w' -; go_simp⟩) hS52 ?_
  simp only [Act.put, List.setIfInBounds_toArray, List.set_cons_zero, List.set_cons_succ]
  refine takeD (i := 6) (v := .slice (some ⟨g, 0, none⟩) 3 3) (some 75) rfl rfl (by kernel_rfl) (by kernel_rfl) (by kernel_rfl) (fun _ _ _ h => h) (Or.inl ⟨by rfl, by rintro w' -; go_simp⟩) hS52 ?_
  simp only [Act.put, List.setIfInBounds_toArray, List.set_cons_zero, List.set_cons_succ]
  refine takeD (i := 7) (v := .pointer (some ⟨g, 8, none⟩)) (some 76) rfl rfl (by kernel_rfl) (by kernel_rfl) (by kernel_rfl) (fun _ _ _ h => h) (Or.inl ⟨by rfl, by rintro w' -; go_simp⟩) hS52 ?_
  simp only [Act.put, List.setIfInBounds_toArray, List.set_cons_zero, List.set_cons_succ]
  refine takeD (i := 8) (v := .agg (bcs s1)) (some 77) rfl rfl (by kernel_rfl) (by kernel_rfl) (by kernel_rfl) (fun _ _ _ h => h) (yieldsIf_load8 (by rfl) _ _ rfl _ _ rfl s1 _ (fun w' h => h.2.1) Try.underlying33 rfl (size8 b1.1)) hS52 ?_
  simp only [Act.put, List.setIfInBounds_toArray, List.set_cons_zero, List.set_cons_succ]
  refine takeD (i := 9) (v := .agg (bcs z)) (some 78) rfl rfl (by kernel_rfl) (by kernel_rfl) (by kernel_rfl) (fun _ _ _ h => h) (yieldsIf_load8 (by rfl) _ _ rfl _ _ rfl z _ (fun w' h => h.2.2.2) Try.underlying33 rfl (size8 z8.1)) hS52 ?_
  simp only [Act.put, List.setIfInBounds_toArray, List.set_cons_zero, List.set_cons_succ]
  refine takeD (i := 10) (v := .bool true) (some 79) rfl rfl (by kernel_rfl) (by kernel_rfl) (by kernel_rfl) (fun _ _ _ h => h) (Or.inl ⟨by rfl, by rintro w' -; go_simp⟩) hS52 ?_
  simp only [Act.put, List.setIfInBounds_toArray, List.set_cons_zero, List.set_cons_succ]
  refine takeD (i := 11) (v := .bool true) (some 80) rfl rfl (by kernel_rfl) (by kernel_rfl) (by kernel_rfl) (fun _ _ _ h => h) (Or.inl ⟨by rfl, by rintro w' -; go_simp⟩) hS52 ?_
  simp only [Act.put, List.setIfInBounds_toArray, List.set_cons_zero, List.set_cons_succ]
  refine takeD (i := 12) (v := .bool true) (some 68) rfl rfl (by kernel_rfl) (by kernel_rfl) (by kernel_rfl) (fun _ _ _ h => h) (Or.inl ⟨by rfl, by rintro w' -; go_simp⟩) hS52 ?_
  simp only [Act.put, List.setIfInBounds_toArray, List.set_cons_zero, List.set_cons_succ]
  refine wpAnyH_done (by kernel_rfl) ?_ _
  go_wp2_with fail
  go_ret2
  exact ⟨(n + 2), 0, rfl, RES.out, HB_51.out⟩
set_option maxHeartbeats 4000000 in
set_option maxRecDepth 100000 in
theorem loc_tft (v : Value) (P : List (List Nat)) (w : World) (h : Bl w v P) (h4 : 4 ≤ P.length) (h16 : P.length ≤ 16) (e0 : synB P 0 = zeroB.1) (e1 : synB P 1 ≠ zeroB.1) (e2 : synB P 2 = zeroB.1) : Calls Try.prog 27 #[v] w (locPost P w) := by
  have OK := Lib.hid h.ok
  obtain ⟨n, hn⟩ : ∃ n, P.length = n + 3 := ⟨P.length - 3, by omega⟩
  have PN : P.length - 3 = n := by omega
  have SY := Lib.hid (syn_ok v P w h h4 h16)
  obtain ⟨A, c, rfl⟩ := h.form
  obtain ⟨N, hN⟩ : ∃ N, P.length = N := ⟨_, rfl⟩
  have e3 : (N : Int) - 3 = (n : Int) := by omega
  have hnl : (n : Int) ≤ 13 := by omega
  have RES : Hid (locR P (n + 1) 0) := Lib.hid (by
    rw [← PN]
    refine loc_par OK.out h4 h16 (m := 1) (by decide) e1 fun j hj hne => ?_
    match j, hj with
    | 0, _ => exact e0
    | 1, _ => exact absurd rfl hne
    | 2, _ => exact e2)
  have S8 := Lib.hid fun j (hj : j < 3) => synB_ok OK.out (show 3 ≤ P.length by omega) hj
  unfold synL at SY
  obtain ⟨s0, q0⟩ : ∃ s, synB P 0 = s := ⟨_, rfl⟩
  obtain ⟨s1, q1⟩ : ∃ s, synB P 1 = s := ⟨_, rfl⟩
  obtain ⟨s2, q2⟩ : ∃ s, synB P 2 = s := ⟨_, rfl⟩
  have b0 := S8.out 0 (by decide)
  have b1 := S8.out 1 (by decide)
  have b2 := S8.out 2 (by decide)
  rw [q0] at SY b0 e0
  rw [q1] at SY b1 e1
  rw [q2] at SY b2 e2
  have ZZ : Hid ((#[.int .u8 0, .int .u8 0, .int .u8 0, .int .u8 0, .int .u8 0, .int .u8 0, .int .u8 0, .int .u8 0] : Array Value) = bcs zeroB.1) := Lib.hid rfl
  obtain ⟨z, hz⟩ : ∃ z, zeroB.1 = z := ⟨_, rfl⟩
  have z8 : B8 z := hz ▸ zeroB.2
  rw [hz] at e0 e1 e2 ZZ
  have E0 := fun w' => eql8 s0 z b0 z8 w'
  have E1 := fun w' => eql8 s1 z b1 z8 w'
  have E2 := fun w' => eql8 s2 z b2 z8 w'
  rw [decide_eq_true e0] at E0
  rw [decide_eq_false e1] at E1
  rw [decide_eq_true e2] at E2
  have h13 : n ≤ 13 := by omega
  have h1 : 1 ≤ n := by omega
  rw [hN] at SY ⊢
  have LE : (N : Int) ≤ 16 := by omega
  clear h h4 h16 hn PN hN q0 q1 q2 S8 hz
  clear e0 e1 e2
  go_enter Try.func27, Try.ntmps27
  go_wp2_with fail
  refine (SY.out).mono ?_
  rintro e x2 ⟨g, rfl, hn3, hb1⟩
  have hq4 : Below w.heap.size w x2 := hb1
  have HB_5 : Hid (Below w.heap.size w x2) := Lib.hid (hq4)
  clear hq4
  have S_6 := Lib.hid hn3
  clear hb1 hn3
  have a0 := Bl.at8 S_6.out (i := 0) (by simp)
  have a1 := Bl.at8 S_6.out (i := 1) (by simp)
  have a2 := Bl.at8 S_6.out (i := 2) (by simp)
  rw [show [s0, s1, s2].getD 0 [] = s0 from rfl, Nat.zero_mul, Nat.zero_add] at a0
  rw [show [s0, s1, s2].getD 1 [] = s1 from rfl, Nat.one_mul, Nat.zero_add] at a1
  rw [show [s0, s1, s2].getD 2 [] = s2 from rfl, Nat.zero_add] at a2
  have A0 := Lib.hid a0
  have A1 := Lib.hid a1
  have A2 := Lib.hid a2
  clear a0 a1 a2
  go_wp2_with fail
  rw [ZZ.out]
  obtain ⟨W2, hW2⟩ : ∃ W2, x2.alloc (.cells (bcs z) 33) = W2 := ⟨_, rfl⟩
  have hq : Below x2.heap.size x2 W2 := by rw [← hW2]; exact (Below.refl _ _).alloc (Nat.le_refl _) _
  have rz := row_new x2 (bcs z) 33
  rw [hW2] at rz ⊢
  have AZ := Lib.hid rz.at8
  obtain ⟨zb, hzb⟩ : ∃ zb, x2.heap.size = zb := ⟨_, rfl⟩
  rw [hzb] at AZ ⊢
  clear rz hW2
  have hq7 : Below x2.heap.size x2 W2 := hq
  have S_8 := Lib.hid (Bl.to S_6.out hq7)
  have A0_9 := Lib.hid (At8.to A0.out hq7)
  have A1_10 := Lib.hid (At8.to A1.out hq7)
  have A2_11 := Lib.hid (At8.to A2.out hq7)
  have HB_12 : Hid (Below w.heap.size w W2) := Lib.hid (HB_5.out.trans (hq7.mono HB_5.out.size))
  clear hq7
  clear hq hzb
  refine wp_region_held (P := Try.prog) (S := (fun w' : World => At8 w' g 0 s0 ∧ At8 w' g 8 s1 ∧ At8 w' g (2 * 8) s2 ∧ At8 w' zb 0 z)) rfl ?_
  change wpAnyH _ _ _ _ _ _ _ _ W2.drew
  have hz14 : Below W2.heap.size W2 W2.drew := (Below.refl W2.heap.size W2).drew
  generalize W2.drew = wz13 at hz14 ⊢
  have hq15 : Below W2.heap.size W2 wz13 := hz14
  have S_16 := Lib.hid (Bl.to S_8.out hq15)
  have A0_17 := Lib.hid (At8.to A0_9.out hq15)
  have A1_18 := Lib.hid (At8.to A1_10.out hq15)
  have A2_19 := Lib.hid (At8.to A2_11.out hq15)
  have AZ_20 := Lib.hid (At8.to AZ.out hq15)
  have HB_21 : Hid (Below w.heap.size w wz13) := Lib.hid (HB_12.out.trans (hq15.mono HB_12.out.size))
  clear hq15
  clear hz14
  have hS22 : (fun w' : World => At8 w' g 0 s0 ∧ At8 w' g 8 s1 ∧ At8 w' g (2 * 8) s2 ∧ At8 w' zb 0 z) wz13 := ⟨A0_17.out, A1_18.out, A2_19.out, AZ_20.out⟩
  refine takeD (i := 0) (v := .slice (some ⟨g, 0, none⟩) 3 3) (some 20) rfl rfl (by kernel_rfl) (by kernel_rfl) (by kernel_rfl) (fun _ _ _ h => h) (Or.inl ⟨by rfl, by rintro w' -; go_simp⟩) hS22 ?_
  simp only [Act.put, List.setIfInBounds_toArray, List.set_cons_zero, List.set_cons_succ]
  refine takeD (i := 1) (v := .pointer (some ⟨g, 0, none⟩)) (some 21) rfl rfl (by kernel_rfl) (by kernel_rfl) (by kernel_rfl) (fun _ _ _ h => h) (Or.inl ⟨by rfl, by rintro w' -; go_simp⟩) hS22 ?_
  simp only [Act.put, List.setIfInBounds_toArray, List.set_cons_zero, List.set_cons_succ]
  refine takeD (i := 2) (v := .agg (bcs s0)) (some 22) rfl rfl (by kernel_rfl) (by kernel_rfl) (by kernel_rfl) (fun _ _ _ h => h) (yieldsIf_load8 (by rfl) _ _ rfl _ _ rfl s0 _ (fun w' h => h.1) Try.underlying33 rfl (size8 b0.1)) hS22 ?_
  simp only [Act.put, List.setIfInBounds_toArray, List.set_cons_zero, List.set_cons_succ]
  refine takeD (i := 3) (v := .agg (bcs z)) (some 23) rfl rfl (by kernel_rfl) (by kernel_rfl) (by kernel_rfl) (fun _ _ _ h => h) (yieldsIf_load8 (by rfl) _ _ rfl _ _ rfl z _ (fun w' h => h.2.2.2) Try.underlying33 rfl (size8 z8.1)) hS22 ?_
  simp only [Act.put, List.setIfInBounds_toArray, List.set_cons_zero, List.set_cons_succ]
  refine takeD (i := 4) (v := .bool true) (some 24) rfl rfl (by kernel_rfl) (by kernel_rfl) (by kernel_rfl) (fun _ _ _ h => h) (Or.inl ⟨by rfl, by rintro w' -; go_simp⟩) hS22 ?_
  simp only [Act.put, List.setIfInBounds_toArray, List.set_cons_zero, List.set_cons_succ]
  refine takeD (i := 5) (v := .bool true) (some 25) rfl rfl (by kernel_rfl) (by kernel_rfl) (by kernel_rfl) (fun _ _ _ h => h) (Or.inl ⟨by rfl, by rintro w' -; go_simp⟩) hS22 ?_
  simp only [Act.put, List.setIfInBounds_toArray, List.set_cons_zero, List.set_cons_succ]
  refine takeD (i := 6) (v := .slice (some ⟨g, 0, none⟩) 3 3) (some 26) rfl rfl (by kernel_rfl) (by kernel_rfl) (by kernel_rfl) (fun _ _ _ h => h) (Or.inl ⟨by rfl, by rintro w' -; go_simp⟩) hS22 ?_
  simp only [Act.put, List.setIfInBounds_toArray, List.set_cons_zero, List.set_cons_succ]
  refine takeD (i := 7) (v := .pointer (some ⟨g, 8, none⟩)) (some 27) rfl rfl (by kernel_rfl) (by kernel_rfl) (by kernel_rfl) (fun _ _ _ h => h) (Or.inl ⟨by rfl, by rintro w' -; go_simp⟩) hS22 ?_
  simp only [Act.put, List.setIfInBounds_toArray, List.set_cons_zero, List.set_cons_succ]
  refine takeD (i := 8) (v := .agg (bcs s1)) (some 28) rfl rfl (by kernel_rfl) (by kernel_rfl) (by kernel_rfl) (fun _ _ _ h => h) (yieldsIf_load8 (by rfl) _ _ rfl _ _ rfl s1 _ (fun w' h => h.2.1) Try.underlying33 rfl (size8 b1.1)) hS22 ?_
  simp only [Act.put, List.setIfInBounds_toArray, List.set_cons_zero, List.set_cons_succ]
  refine takeD (i := 9) (v := .agg (bcs z)) (some 29) rfl rfl (by kernel_rfl) (by kernel_rfl) (by kernel_rfl) (fun _ _ _ h => h) (yieldsIf_load8 (by rfl) _ _ rfl _ _ rfl z _ (fun w' h => h.2.2.2) Try.underlying33 rfl (size8 z8.1)) hS22 ?_
  simp only [Act.put, List.setIfInBounds_toArray, List.set_cons_zero, List.set_cons_succ]
  refine takeD (i := 10) (v := .bool false) (some 30) rfl rfl (by kernel_rfl) (by kernel_rfl) (by kernel_rfl) (fun _ _ _ h => h) (Or.inl ⟨by rfl, by rintro w' -; go_simp⟩) hS22 ?_
  simp only [Act.put, List.setIfInBounds_toArray, List.set_cons_zero, List.set_cons_succ]
  refine takeD (i := 11) (v := .bool false) (some 31) rfl rfl (by kernel_rfl) (by kernel_rfl) (by kernel_rfl) (fun _ _ _ h => h) (Or.inl ⟨by rfl, by rintro w' -; go_simp⟩) hS22 ?_
  simp only [Act.put, List.setIfInBounds_toArray, List.set_cons_zero, List.set_cons_succ]
  refine takeD (i := 12) (v := .bool false) (some 32) rfl rfl (by kernel_rfl) (by kernel_rfl) (by kernel_rfl) (fun _ _ _ h => h) (Or.inl ⟨by rfl, by rintro w' -; go_simp⟩) hS22 ?_
  simp only [Act.put, List.setIfInBounds_toArray, List.set_cons_zero, List.set_cons_succ]
  refine takeD (i := 13) (v := undef) (some 33) rfl rfl (by kernel_rfl) (by kernel_rfl) (by kernel_rfl) (fun _ _ _ h => h) (Or.inr ⟨by rfl, rfl⟩) hS22 ?_
  simp only [Act.put, List.setIfInBounds_toArray, List.set_cons_zero, List.set_cons_succ]
  refine takeD (i := 14) (v := undef) (some 34) rfl rfl (by kernel_rfl) (by kernel_rfl) (by kernel_rfl) (fun _ _ _ h => h) (Or.inr ⟨by rfl, rfl⟩) hS22 ?_
  simp only [Act.put, List.setIfInBounds_toArray, List.set_cons_zero, List.set_cons_succ]
  refine takeD (i := 15) (v := undef) (some 35) rfl rfl (by kernel_rfl) (by kernel_rfl) (by kernel_rfl) (fun _ _ _ h => h) (Or.inr ⟨by rfl, rfl⟩) hS22 ?_
  simp only [Act.put, List.setIfInBounds_toArray, List.set_cons_zero, List.set_cons_succ]
  refine takeD (i := 16) (v := undef) (some 36) rfl rfl (by kernel_rfl) (by kernel_rfl) (by kernel_rfl) (fun _ _ _ h => h) (Or.inr ⟨by rfl, rfl⟩) hS22 ?_
  simp only [Act.put, List.setIfInBounds_toArray, List.set_cons_zero, List.set_cons_succ]
  refine takeD (i := 17) (v := undef) (some 37) rfl rfl (by kernel_rfl) (by kernel_rfl) (by kernel_rfl) (fun _ _ _ h => h) (Or.inr ⟨by rfl, rfl⟩) hS22 ?_
  simp only [Act.put, List.setIfInBounds_toArray, List.set_cons_zero, List.set_cons_succ]
  refine takeD (i := 18) (v := .bool false) (some 38) rfl rfl (by kernel_rfl) (by kernel_rfl) (by kernel_rfl) (fun _ _ _ h => h) (Or.inl ⟨by rfl, by rintro w' -; go_simp⟩) hS22 ?_
  simp only [Act.put, List.setIfInBounds_toArray, List.set_cons_zero, List.set_cons_succ]
  refine takeD (i := 19) (v := .bool false) (some 19) rfl rfl (by kernel_rfl) (by kernel_rfl) (by kernel_rfl) (fun _ _ _ h => h) (Or.inl ⟨by rfl, by rintro w' -; go_simp⟩) hS22 ?_
  simp only [Act.put, List.setIfInBounds_toArray, List.set_cons_zero, List.set_cons_succ]
  refine wpAnyH_done (by kernel_rfl) ?_ _
  go_wp2_with fail
  refine wp_region_held (P := Try.prog) (S := (fun w' : World => At8 w' g 0 s0 ∧ At8 w' g 8 s1 ∧ At8 w' g (2 * 8) s2 ∧ At8 w' zb 0 z)) rfl ?_
  change wpAnyH _ _ _ _ _ _ _ _ wz13.drew
  have hz24 : Below wz13.heap.size wz13 wz13.drew := (Below.refl wz13.heap.size wz13).drew
  generalize wz13.drew = wz23 at hz24 ⊢
  have hq25 : Below wz13.heap.size wz13 wz23 := hz24
  have S_26 := Lib.hid (Bl.to S_16.out hq25)
  have A0_27 := Lib.hid (At8.to A0_17.out hq25)
  have A1_28 := Lib.hid (At8.to A1_18.out hq25)
  have A2_29 := Lib.hid (At8.to A2_19.out hq25)
  have AZ_30 := Lib.hid (At8.to AZ_20.out hq25)
  have HB_31 : Hid (Below w.heap.size w wz23) := Lib.hid (HB_21.out.trans (hq25.mono HB_21.out.size))
  clear hq25
  clear hz24
  have hS32 : (fun w' : World => At8 w' g 0 s0 ∧ At8 w' g 8 s1 ∧ At8 w' g (2 * 8) s2 ∧ At8 w' zb 0 z) wz23 := ⟨A0_27.out, A1_28.out, A2_29.out, AZ_30.out⟩
  refine takeD (i := 0) (v := .slice (some ⟨g, 0, none⟩) 3 3) (some 40) rfl rfl (by kernel_rfl) (by kernel_rfl) (by kernel_rfl) (fun _ _ _ h => h) (Or.inl ⟨by rfl, by rintro w' -; go_simp⟩) hS32 ?_
  simp only [Act.put, List.setIfInBounds_toArray, List.set_cons_zero, List.set_cons_succ]
  refine takeD (i := 1) (v := .pointer (some ⟨g, 8, none⟩)) (some 41) rfl rfl (by kernel_rfl) (by kernel_rfl) (by kernel_rfl) (fun _ _ _ h => h) (Or.inl ⟨by rfl, by rintro w' -; go_simp⟩) hS32 ?_
  simp only [Act.put, List.setIfInBounds_toArray, List.set_cons_zero, List.set_cons_succ]
  refine takeD (i := 2) (v := .agg (bcs s1)) (some 42) rfl rfl (by kernel_rfl) (by kernel_rfl) (by kernel_rfl) (fun _ _ _ h => h) (yieldsIf_load8 (by rfl) _ _ rfl _ _ rfl s1 _ (fun w' h => h.2.1) Try.underlying33 rfl (size8 b1.1)) hS32 ?_
  simp only [Act.put, List.setIfInBounds_toArray, List.set_cons_zero, List.set_cons_succ]
  refine takeD (i := 3) (v := .agg (bcs z)) (some 43) rfl rfl (by kernel_rfl) (by kernel_rfl) (by kernel_rfl) (fun _ _ _ h => h) (yieldsIf_load8 (by rfl) _ _ rfl _ _ rfl z _ (fun w' h => h.2.2.2) Try.underlying33 rfl (size8 z8.1)) hS32 ?_
  simp only [Act.put, List.setIfInBounds_toArray, List.set_cons_zero, List.set_cons_succ]
  refine takeD (i := 4) (v := .bool false) (some 44) rfl rfl (by kernel_rfl) (by kernel_rfl) (by kernel_rfl) (fun _ _ _ h => h) (Or.inl ⟨by rfl, by rintro w' -; go_simp⟩) hS32 ?_
  simp only [Act.put, List.setIfInBounds_toArray, List.set_cons_zero, List.set_cons_succ]
  refine takeD (i := 5) (v := .bool false) (some 45) rfl rfl (by kernel_rfl) (by kernel_rfl) (by kernel_rfl) (fun _ _ _ h => h) (Or.inl ⟨by rfl, by rintro w' -; go_simp⟩) hS32 ?_
  simp only [Act.put, List.setIfInBounds_toArray, List.set_cons_zero, List.set_cons_succ]
  refine takeD (i := 6) (v := undef) (some 46) rfl rfl (by kernel_rfl) (by kernel_rfl) (by kernel_rfl) (fun _ _ _ h => h) (Or.inr ⟨by rfl, rfl⟩) hS32 ?_
  simp only [Act.put, List.setIfInBounds_toArray, List.set_cons_zero, List.set_cons_succ]
  refine takeD (i := 7) (v := undef) (some 47) rfl rfl (by kernel_rfl) (by kernel_rfl) (by kernel_rfl) (fun _ _ _ h => h) (Or.inr ⟨by rfl, rfl⟩) hS32 ?_
  simp only [Act.put, List.setIfInBounds_toArray, List.set_cons_zero, List.set_cons_succ]
  refine takeD (i := 8) (v := undef) (some 48) rfl rfl (by kernel_rfl) (by kernel_rfl) (by kernel_rfl) (fun _ _ _ h => h) (Or.inr ⟨by rfl, rfl⟩) hS32 ?_
  simp only [Act.put, List.setIfInBounds_toArray, List.set_cons_zero, List.set_cons_succ]
  refine takeD (i := 9) (v := undef) (some 49) rfl rfl (by kernel_rfl) (by kernel_rfl) (by kernel_rfl) (fun _ _ _ h => h) (Or.inr ⟨by rfl, rfl⟩) hS32 ?_
  simp only [Act.put, List.setIfInBounds_toArray, List.set_cons_zero, List.set_cons_succ]
  refine takeD (i := 10) (v := undef) (some 50) rfl rfl (by kernel_rfl) (by kernel_rfl) (by kernel_rfl) (fun _ _ _ h => h) (Or.inr ⟨by rfl, rfl⟩) hS32 ?_
  simp only [Act.put, List.setIfInBounds_toArray, List.set_cons_zero, List.set_cons_succ]
  refine takeD (i := 11) (v := .bool false) (some 51) rfl rfl (by kernel_rfl) (by kernel_rfl) (by kernel_rfl) (fun _ _ _ h => h) (Or.inl ⟨by rfl, by rintro w' -; go_simp⟩) hS32 ?_
  simp only [Act.put, List.setIfInBounds_toArray, List.set_cons_zero, List.set_cons_succ]
  refine takeD (i := 12) (v := .bool false) (some 39) rfl rfl (by kernel_rfl) (by kernel_rfl) (by kernel_rfl) (fun _ _ _ h => h) (Or.inl ⟨by rfl, by rintro w' -; go_simp⟩) hS32 ?_
  simp only [Act.put, List.setIfInBounds_toArray, List.set_cons_zero, List.set_cons_succ]
  refine wpAnyH_done (by kernel_rfl) ?_ _
  go_wp2_with fail
  refine wp_region_held (P := Try.prog) (S := (fun w' : World => At8 w' g 0 s0 ∧ At8 w' g 8 s1 ∧ At8 w' g (2 * 8) s2 ∧ At8 w' zb 0 z)) rfl ?_
  change wpAnyH _ _ _ _ _ _ _ _ wz23.drew
  have hz34 : Below wz23.heap.size wz23 wz23.drew := (Below.refl wz23.heap.size wz23).drew
  generalize wz23.drew = wz33 at hz34 ⊢
  have hq35 : Below wz23.heap.size wz23 wz33 := hz34
  have S_36 := Lib.hid (Bl.to S_26.out hq35)
  have A0_37 := Lib.hid (At8.to A0_27.out hq35)
  have A1_38 := Lib.hid (At8.to A1_28.out hq35)
  have A2_39 := Lib.hid (At8.to A2_29.out hq35)
  have AZ_40 := Lib.hid (At8.to AZ_30.out hq35)
  have HB_41 : Hid (Below w.heap.size w wz33) := Lib.hid (HB_31.out.trans (hq35.mono HB_31.out.size))
  clear hq35
  clear hz34
  have hS42 : (fun w' : World => At8 w' g 0 s0 ∧ At8 w' g 8 s1 ∧ At8 w' g (2 * 8) s2 ∧ At8 w' zb 0 z) wz33 := ⟨A0_37.out, A1_38.out, A2_39.out, AZ_40.out⟩
  refine takeD (i := 0) (v := .slice (some ⟨g, 0, none⟩) 3 3) (some 54) rfl rfl (by kernel_rfl) (by kernel_rfl) (by kernel_rfl) (fun _ _ _ h => h) (Or.inl ⟨by rfl, by rintro w' -; go_simp⟩) hS42 ?_
  simp only [Act.put, List.setIfInBounds_toArray, List.set_cons_zero, List.set_cons_succ]
  refine takeD (i := 1) (v := .pointer (some ⟨g, 0, none⟩)) (some 55) rfl rfl (by kernel_rfl) (by kernel_rfl) (by kernel_rfl) (fun _ _ _ h => h) (Or.inl ⟨by rfl, by rintro w' -; go_simp⟩) hS42 ?_
  simp only [Act.put, List.setIfInBounds_toArray, List.set_cons_zero, List.set_cons_succ]
  refine takeD (i := 2) (v := .agg (bcs s0)) (some 56) rfl rfl (by kernel_rfl) (by kernel_rfl) (by kernel_rfl) (fun _ _ _ h => h) (yieldsIf_load8 (by rfl) _ _ rfl _ _ rfl s0 _ (fun w' h => h.1) Try.underlying33 rfl (size8 b0.1)) hS42 ?_
  simp only [Act.put, List.setIfInBounds_toArray, List.set_cons_zero, List.set_cons_succ]
  refine takeD (i := 3) (v := .agg (bcs z)) (some 57) rfl rfl (by kernel_rfl) (by kernel_rfl) (by kernel_rfl) (fun _ _ _ h => h) (yieldsIf_load8 (by rfl) _ _ rfl _ _ rfl z _ (fun w' h => h.2.2.2) Try.underlying33 rfl (size8 z8.1)) hS42 ?_
  simp only [Act.put, List.setIfInBounds_toArray, List.set_cons_zero, List.set_cons_succ]
  refine takeD (i := 4) (v := .bool true) (some 58) rfl rfl (by kernel_rfl) (by kernel_rfl) (by kernel_rfl) (fun _ _ _ h => h) (Or.inl ⟨by rfl, by rintro w' -; go_simp⟩) hS42 ?_
  simp only [Act.put, List.setIfInBounds_toArray, List.set_cons_zero, List.set_cons_succ]
  refine takeD (i := 5) (v := .bool true) (some 59) rfl rfl (by kernel_rfl) (by kernel_rfl) (by kernel_rfl) (fun _ _ _ h => h) (Or.inl ⟨by rfl, by rintro w' -; go_simp⟩) hS42 ?_
  simp only [Act.put, List.setIfInBounds_toArray, List.set_cons_zero, List.set_cons_succ]
  refine takeD (i := 6) (v := .slice (some ⟨g, 0, none⟩) 3 3) (some 60) rfl rfl (by kernel_rfl) (by kernel_rfl) (by kernel_rfl) (fun _ _ _ h => h) (Or.inl ⟨by rfl, by rintro w' -; go_simp⟩) hS42 ?_
  simp only [Act.put, List.setIfInBounds_toArray, List.set_cons_zero, List.set_cons_succ]
  refine takeD (i := 7) (v := .pointer (some ⟨g, 2 * 8, none⟩)) (some 61) rfl rfl (by kernel_rfl) (by kernel_rfl) (by kernel_rfl) (fun _ _ _ h => h) (Or.inl ⟨by rfl, by rintro w' -; go_simp⟩) hS42 ?_
  simp only [Act.put, List.setIfInBounds_toArray, List.set_cons_zero, List.set_cons_succ]
  refine takeD (i := 8) (v := .agg (bcs s2)) (some 62) rfl rfl (by kernel_rfl) (by kernel_rfl) (by kernel_rfl) (fun _ _ _ h => h) (yieldsIf_load8 (by rfl) _ _ rfl _ _ rfl s2 _ (fun w' h => h.2.2.1) Try.underlying33 rfl (size8 b2.1)) hS42 ?_
  simp only [Act.put, List.setIfInBounds_toArray, List.set_cons_zero, List.set_cons_succ]
  refine takeD (i := 9) (v := .agg (bcs z)) (some 63) rfl rfl (by kernel_rfl) (by kernel_rfl) (by kernel_rfl) (fun _ _ _ h => h) (yieldsIf_load8 (by rfl) _ _ rfl _ _ rfl z _ (fun w' h => h.2.2.2) Try.underlying33 rfl (size8 z8.1)) hS42 ?_
  simp only [Act.put, List.setIfInBounds_toArray, List.set_cons_zero, List.set_cons_succ]
  refine takeD (i := 10) (v := .bool true) (some 64) rfl rfl (by kernel_rfl) (by kernel_rfl) (by kernel_rfl) (fun _ _ _ h => h) (Or.inl ⟨by rfl, by rintro w' -; go_simp⟩) hS42 ?_
  simp only [Act.put, List.setIfInBounds_toArray, List.set_cons_zero, List.set_cons_succ]
  refine takeD (i := 11) (v := .bool true) (some 65) rfl rfl (by kernel_rfl) (by kernel_rfl) (by kernel_rfl) (fun _ _ _ h => h) (Or.inl ⟨by rfl, by rintro w' -; go_simp⟩) hS42 ?_
  simp only [Act.put, List.setIfInBounds_toArray, List.set_cons_zero, List.set_cons_succ]
  refine takeD (i := 12) (v := .bool true) (some 53) rfl rfl (by kernel_rfl) (by kernel_rfl) (by kernel_rfl) (fun _ _ _ h => h) (Or.inl ⟨by rfl, by rintro w' -; go_simp⟩) hS42 ?_
  simp only [Act.put, List.setIfInBounds_toArray, List.set_cons_zero, List.set_cons_succ]
  refine wpAnyH_done (by kernel_rfl) ?_ _
  go_wp2_with fail
  go_ret2
  exact ⟨(n + 1), 0, rfl, RES.out, HB_41.out⟩
set_option maxHeartbeats 4000000 in
set_option maxRecDepth 100000 in
theorem loc_tff (v : Value) (P : List (List Nat)) (w : World) (h : Bl w v P) (h4 : 4 ≤ P.length) (h16 : P.length ≤ 16) (e0 : synB P 0 = zeroB.1) (e1 : synB P 1 ≠ zeroB.1) (e2 : synB P 2 ≠ zeroB.1) : Calls Try.prog 27 #[v] w (locPost P w) := by
  have OK := Lib.hid h.ok
  obtain ⟨n, hn⟩ : ∃ n, P.length = n + 3 := ⟨P.length - 3, by omega⟩
  have PN : P.length - 3 = n := by omega
  have SY := Lib.hid (syn_ok v P w h h4 h16)
  obtain ⟨A, c, rfl⟩ := h.form
  obtain ⟨N, hN⟩ : ∃ N, P.length = N := ⟨_, rfl⟩
  have e3 : (N : Int) - 3 = (n : Int) := by omega
  have hnl : (n : Int) ≤ 13 := by omega
  have LD := Lib.hid fun i (hi : i < n) => loc_data OK.out h4 h16 (i := i) (j := 1) (by decide) e1 (by rw [PN]; exact hi)
  have LL : Hid ((∀ i, i < n → ¬ fitS (synB P 0) (synB P 1) (synB P 2) i) → locR P 0 12) := Lib.hid fun hf => loc_lost OK.out h4 h16 (fun h => e1 h.2) (fun h => e2 h.2) (fun h => e1 h.1) (by rw [PN]; exact hf)
  have S8 := Lib.hid fun j (hj : j < 3) => synB_ok OK.out (show 3 ≤ P.length by omega) hj
  unfold synL at SY
  obtain ⟨s0, q0⟩ : ∃ s, synB P 0 = s := ⟨_, rfl⟩
  obtain ⟨s1, q1⟩ : ∃ s, synB P 1 = s := ⟨_, rfl⟩
  obtain ⟨s2, q2⟩ : ∃ s, synB P 2 = s := ⟨_, rfl⟩
  have b0 := S8.out 0 (by decide)
  have b1 := S8.out 1 (by decide)
  have b2 := S8.out 2 (by decide)
  rw [q0] at SY b0 e0
  rw [q1] at SY b1 e1
  rw [q2] at SY b2 e2
  rw [q0, q1, q2] at LL LD
  have ZZ : Hid ((#[.int .u8 0, .int .u8 0, .int .u8 0, .int .u8 0, .int .u8 0, .int .u8 0, .int .u8 0, .int .u8 0] : Array Value) = bcs zeroB.1) := Lib.hid rfl
  obtain ⟨z, hz⟩ : ∃ z, zeroB.1 = z := ⟨_, rfl⟩
  have z8 : B8 z := hz ▸ zeroB.2
  rw [hz] at e0 e1 e2 ZZ
  have E0 := fun w' => eql8 s0 z b0 z8 w'
  have E1 := fun w' => eql8 s1 z b1 z8 w'
  have E2 := fun w' => eql8 s2 z b2 z8 w'
  rw [decide_eq_true e0] at E0
  rw [decide_eq_false e1] at E1
  rw [decide_eq_false e2] at E2
  have h13 : n ≤ 13 := by omega
  have h1 : 1 ≤ n := by omega
  rw [hN] at SY ⊢
  have LE : (N : Int) ≤ 16 := by omega
  clear h h4 h16 hn PN hN q0 q1 q2 S8 hz
  clear e0 e1 e2
  go_enter Try.func27, Try.ntmps27
  go_wp2_with fail
  refine (SY.out).mono ?_
  rintro e x2 ⟨g, rfl, hn3, hb1⟩
  have hq4 : Below w.heap.size w x2 := hb1
  have HB_5 : Hid (Below w.heap.size w x2) := Lib.hid (hq4)
  clear hq4
  have S_6 := Lib.hid hn3
  clear hb1 hn3
  have a0 := Bl.at8 S_6.out (i := 0) (by simp)
  have a1 := Bl.at8 S_6.out (i := 1) (by simp)
  have a2 := Bl.at8 S_6.out (i := 2) (by simp)
  rw [show [s0, s1, s2].getD 0 [] = s0 from rfl, Nat.zero_mul, Nat.zero_add] at a0
  rw [show [s0, s1, s2].getD 1 [] = s1 from rfl, Nat.one_mul, Nat.zero_add] at a1
  rw [show [s0, s1, s2].getD 2 [] = s2 from rfl, Nat.zero_add] at a2
  have A0 := Lib.hid a0
  have A1 := Lib.hid a1
  have A2 := Lib.hid a2
  clear a0 a1 a2
  go_wp2_with fail
  rw [ZZ.out]
  obtain ⟨W2, hW2⟩ : ∃ W2, x2.alloc (.cells (bcs z) 33) = W2 := ⟨_, rfl⟩
  have hq : Below x2.heap.size x2 W2 := by rw [← hW2]; exact (Below.refl _ _).alloc (Nat.le_refl _) _
  have rz := row_new x2 (bcs z) 33
  rw [hW2] at rz ⊢
  have AZ := Lib.hid rz.at8
  obtain ⟨zb, hzb⟩ : ∃ zb, x2.heap.size = zb := ⟨_, rfl⟩
  rw [hzb] at AZ ⊢
  clear rz hW2
  have hq7 : Below x2.heap.size x2 W2 := hq
  have S_8 := Lib.hid (Bl.to S_6.out hq7)
  have A0_9 := Lib.hid (At8.to A0.out hq7)
  have A1_10 := Lib.hid (At8.to A1.out hq7)
  have A2_11 := Lib.hid (At8.to A2.out hq7)
  have HB_12 : Hid (Below w.heap.size w W2) := Lib.hid (HB_5.out.trans (hq7.mono HB_5.out.size))
  clear hq7
  clear hq hzb
  refine wp_region_held (P := Try.prog) (S := (fun w' : World => At8 w' g 0 s0 ∧ At8 w' g 8 s1 ∧ At8 w' g (2 * 8) s2 ∧ At8 w' zb 0 z)) rfl ?_
  change wpAnyH _ _ _ _ _ _ _ _ W2.drew
  have hz14 : Below W2.heap.size W2 W2.drew := (Below.refl W2.heap.size W2).drew
  generalize W2.drew = wz13 at hz14 ⊢
  have hq15 : Below W2.heap.size W2 wz13 := hz14
  have S_16 := Lib.hid (Bl.to S_8.out hq15)
  have A0_17 := Lib.hid (At8.to A0_9.out hq15)
  have A1_18 := Lib.hid (At8.to A1_10.out hq15)
  have A2_19 := Lib.hid (At8.to A2_11.out hq15)
  have AZ_20 := Lib.hid (At8.to AZ.out hq15)
  have HB_21 : Hid (Below w.heap.size w wz13) := Lib.hid (HB_12.out.trans (hq15.mono HB_12.out.size))
  clear hq15
  clear hz14
  have hS22 : (fun w' : World => At8 w' g 0 s0 ∧ At8 w' g 8 s1 ∧ At8 w' g (2 * 8) s2 ∧ At8 w' zb 0 z) wz13 := ⟨A0_17.out, A1_18.out, A2_19.out, AZ_20.out⟩
  refine takeD (i := 0) (v := .slice (some ⟨g, 0, none⟩) 3 3) (some 20) rfl rfl (by kernel_rfl) (by kernel_rfl) (by kernel_rfl) (fun _ _ _ h => h) (Or.inl ⟨by rfl, by rintro w' -; go_simp⟩) hS22 ?_
  simp only [Act.put, List.setIfInBounds_toArray, List.set_cons_zero, List.set_cons_succ]
  refine takeD (i := 1) (v := .pointer (some ⟨g, 0, none⟩)) (some 21) rfl rfl (by kernel_rfl) (by kernel_rfl) (by kernel_rfl) (fun _ _ _ h => h) (Or.inl ⟨by rfl, by rintro w' -; go_simp⟩) hS22 ?_
  simp only [Act.put, List.setIfInBounds_toArray, List.set_cons_zero, List.set_cons_succ]
  refine takeD (i := 2) (v := .agg (bcs s0)) (some 22) rfl rfl (by kernel_rfl) (by kernel_rfl) (by kernel_rfl) (fun _ _ _ h => h) (yieldsIf_load8 (by rfl) _ _ rfl _ _ rfl s0 _ (fun w' h => h.1) Try.underlying33 rfl (size8 b0.1)) hS22 ?_
  simp only [Act.put, List.setIfInBounds_toArray, List.set_cons_zero, List.set_cons_succ]
  refine takeD (i := 3) (v := .agg (bcs z)) (some 23) rfl rfl (by kernel_rfl) (by kernel_rfl) (by kernel_rfl) (fun _ _ _ h => h) (yieldsIf_load8 (by rfl) _ _ rfl _ _ rfl z _ (fun w' h => h.2.2.2) Try.underlying33 rfl (size8 z8.1)) hS22 ?_
  simp only [Act.put, List.setIfInBounds_toArray, List.set_cons_zero, List.set_cons_succ]
  refine takeD (i := 4) (v := .bool true) (some 24) rfl rfl (by kernel_rfl) (by kernel_rfl) (by kernel_rfl) (fun _ _ _ h => h) (Or.inl ⟨by rfl, by rintro w' -; go_simp⟩) hS22 ?_
  simp only [Act.put, List.setIfInBounds_toArray, List.set_cons_zero, List.set_cons_succ]
  refine takeD (i := 5) (v := .bool true) (some 25) rfl rfl (by kernel_rfl) (by kernel_rfl) (by kernel_rfl) (fun _ _ _ h => h) (Or.inl ⟨by rfl, by rintro w' -; go_simp⟩) hS22 ?_
  simp only [Act.put, List.setIfInBounds_toArray, List.set_cons_zero, List.set_cons_succ]
  refine takeD (i := 6) (v := .slice (some ⟨g, 0, none⟩) 3 3) (some 26) rfl rfl (by kernel_rfl) (by kernel_rfl) (by kernel_rfl) (fun _ _ _ h => h) (Or.inl ⟨by rfl, by rintro w' -; go_simp⟩) hS22 ?_
  simp only [Act.put, List.setIfInBounds_toArray, List.set_cons_zero, List.set_cons_succ]
  refine takeD (i := 7) (v := .pointer (some ⟨g, 8, none⟩)) (some 27) rfl rfl (by kernel_rfl) (by kernel_rfl) (by kernel_rfl) (fun _ _ _ h => h) (Or.inl ⟨by rfl, by rintro w' -; go_simp⟩) hS22 ?_
  simp only [Act.put, List.setIfInBounds_toArray, List.set_cons_zero, List.set_cons_succ]
  refine takeD (i := 8) (v := .agg (bcs s1)) (some 28) rfl rfl (by kernel_rfl) (by kernel_rfl) (by kernel_rfl) (fun _ _ _ h => h) (yieldsIf_load8 (by rfl) _ _ rfl _ _ rfl s1 _ (fun w' h => h.2.1) Try.underlying33 rfl (size8 b1.1)) hS22 ?_
  simp only [Act.put, List.setIfInBounds_toArray, List.set_cons_zero, List.set_cons_succ]
  refine takeD (i := 9) (v := .agg (bcs z)) (some 29) rfl rfl (by kernel_rfl) (by kernel_rfl) (by kernel_rfl) (fun _ _ _ h => h) (yieldsIf_load8 (by rfl) _ _ rfl _ _ rfl z _ (fun w' h => h.2.2.2) Try.underlying33 rfl (size8 z8.1)) hS22 ?_
  simp only [Act.put, List.setIfInBounds_toArray, List.set_cons_zero, List.set_cons_succ]
  refine takeD (i := 10) (v := .bool false) (some 30) rfl rfl (by kernel_rfl) (by kernel_rfl) (by kernel_rfl) (fun _ _ _ h => h) (Or.inl ⟨by rfl, by rintro w' -; go_simp⟩) hS22 ?_
  simp only [Act.put, List.setIfInBounds_toArray, List.set_cons_zero, List.set_cons_succ]
  refine takeD (i := 11) (v := .bool false) (some 31) rfl rfl (by kernel_rfl) (by kernel_rfl) (by kernel_rfl) (fun _ _ _ h => h) (Or.inl ⟨by rfl, by rintro w' -; go_simp⟩) hS22 ?_
  simp only [Act.put, List.setIfInBounds_toArray, List.set_cons_zero, List.set_cons_succ]
  refine takeD (i := 12) (v := .bool false) (some 32) rfl rfl (by kernel_rfl) (by kernel_rfl) (by kernel_rfl) (fun _ _ _ h => h) (Or.inl ⟨by rfl, by rintro w' -; go_simp⟩) hS22 ?_
  simp only [Act.put, List.setIfInBounds_toArray, List.set_cons_zero, List.set_cons_succ]
  refine takeD (i := 13) (v := undef) (some 33) rfl rfl (by kernel_rfl) (by kernel_rfl) (by kernel_rfl) (fun _ _ _ h => h) (Or.inr ⟨by rfl, rfl⟩) hS22 ?_
  simp only [Act.put, List.setIfInBounds_toArray, List.set_cons_zero, List.set_cons_succ]
  refine takeD (i := 14) (v := undef) (some 34) rfl rfl (by kernel_rfl) (by kernel_rfl) (by kernel_rfl) (fun _ _ _ h => h) (Or.inr ⟨by rfl, rfl⟩) hS22 ?_
  simp only [Act.put, List.setIfInBounds_toArray, List.set_cons_zero, List.set_cons_succ]
  refine takeD (i := 15) (v := undef) (some 35) rfl rfl (by kernel_rfl) (by kernel_rfl) (by kernel_rfl) (fun _ _ _ h => h) (Or.inr ⟨by rfl, rfl⟩) hS22 ?_
  simp only [Act.put, List.setIfInBounds_toArray, List.set_cons_zero, List.set_cons_succ]
  refine takeD (i := 16) (v := undef) (some 36) rfl rfl (by kernel_rfl) (by kernel_rfl) (by kernel_rfl) (fun _ _ _ h => h) (Or.inr ⟨by rfl, rfl⟩) hS22 ?_
  simp only [Act.put, List.setIfInBounds_toArray, List.set_cons_zero, List.set_cons_succ]
  refine takeD (i := 17) (v := undef) (some 37) rfl rfl (by kernel_rfl) (by kernel_rfl) (by kernel_rfl) (fun _ _ _ h => h) (Or.inr ⟨by rfl, rfl⟩) hS22 ?_
  simp only [Act.put, List.setIfInBounds_toArray, List.set_cons_zero, List.set_cons_succ]
  refine takeD (i := 18) (v := .bool false) (some 38) rfl rfl (by kernel_rfl) (by kernel_rfl) (by kernel_rfl) (fun _ _ _ h => h) (Or.inl ⟨by rfl, by rintro w' -; go_simp⟩) hS22 ?_
  simp only [Act.put, List.setIfInBounds_toArray, List.set_cons_zero, List.set_cons_succ]
  refine takeD (i := 19) (v := .bool false) (some 19) rfl rfl (by kernel_rfl) (by kernel_rfl) (by kernel_rfl) (fun _ _ _ h => h) (Or.inl ⟨by rfl, by rintro w' -; go_simp⟩) hS22 ?_
  simp only [Act.put, List.setIfInBounds_toArray, List.set_cons_zero, List.set_cons_succ]
  refine wpAnyH_done (by kernel_rfl) ?_ _
  go_wp2_with fail
  refine wp_region_held (P := Try.prog) (S := (fun w' : World => At8 w' g 0 s0 ∧ At8 w' g 8 s1 ∧ At8 w' g (2 * 8) s2 ∧ At8 w' zb 0 z)) rfl ?_
  change wpAnyH _ _ _ _ _ _ _ _ wz13.drew
  have hz24 : Below wz13.heap.size wz13 wz13.drew := (Below.refl wz13.heap.size wz13).drew
  generalize wz13.drew = wz23 at hz24 ⊢
  have hq25 : Below wz13.heap.size wz13 wz23 := hz24
  have S_26 := Lib.hid (Bl.to S_16.out hq25)
  have A0_27 := Lib.hid (At8.to A0_17.out hq25)
  have A1_28 := Lib.hid (At8.to A1_18.out hq25)
  have A2_29 := Lib.hid (At8.to A2_19.out hq25)
  have AZ_30 := Lib.hid (At8.to AZ_20.out hq25)
  have HB_31 : Hid (Below w.heap.size w wz23) := Lib.hid (HB_21.out.trans (hq25.mono HB_21.out.size))
  clear hq25
  clear hz24
  have hS32 : (fun w' : World => At8 w' g 0 s0 ∧ At8 w' g 8 s1 ∧ At8 w' g (2 * 8) s2 ∧ At8 w' zb 0 z) wz23 := ⟨A0_27.out, A1_28.out, A2_29.out, AZ_30.out⟩
  refine takeD (i := 0) (v := .slice (some ⟨g, 0, none⟩) 3 3) (some 40) rfl rfl (by kernel_rfl) (by kernel_rfl) (by kernel_rfl) (fun _ _ _ h => h) (Or.inl ⟨by rfl, by rintro w' -; go_simp⟩) hS32 ?_
  simp only [Act.put, List.setIfInBounds_toArray, List.set_cons_zero, List.set_cons_succ]
  refine takeD (i := 1) (v := .pointer (some ⟨g, 8, none⟩)) (some 41) rfl rfl (by kernel_rfl) (by kernel_rfl) (by kernel_rfl) (fun _ _ _ h => h) (Or.inl ⟨by rfl, by rintro w' -; go_simp⟩) hS32 ?_
  simp only [Act.put, List.setIfInBounds_toArray, List.set_cons_zero, List.set_cons_succ]
  refine takeD (i := 2) (v := .agg (bcs s1)) (some 42) rfl rfl (by kernel_rfl) (by kernel_rfl) (by kernel_rfl) (fun _ _ _ h => h) (yieldsIf_load8 (by rfl) _ _ rfl _ _ rfl s1 _ (fun w' h => h.2.1) Try.underlying33 rfl (size8 b1.1)) hS32 ?_
  simp only [Act.put, List.setIfInBounds_toArray, List.set_cons_zero, List.set_cons_succ]
  refine takeD (i := 3) (v := .agg (bcs z)) (some 43) rfl rfl (by kernel_rfl) (by kernel_rfl) (by kernel_rfl) (fun _ _ _ h => h) (yieldsIf_load8 (by rfl) _ _ rfl _ _ rfl z _ (fun w' h => h.2.2.2) Try.underlying33 rfl (size8 z8.1)) hS32 ?_
  simp only [Act.put, List.setIfInBounds_toArray, List.set_cons_zero, List.set_cons_succ]
  refine takeD (i := 4) (v := .bool false) (some 44) rfl rfl (by kernel_rfl) (by kernel_rfl) (by kernel_rfl) (fun _ _ _ h => h) (Or.inl ⟨by rfl, by rintro w' -; go_simp⟩) hS32 ?_
  simp only [Act.put, List.setIfInBounds_toArray, List.set_cons_zero, List.set_cons_succ]
  refine takeD (i := 5) (v := .bool false) (some 45) rfl rfl (by kernel_rfl) (by kernel_rfl) (by kernel_rfl) (fun _ _ _ h => h) (Or.inl ⟨by rfl, by rintro w' -; go_simp⟩) hS32 ?_
  simp only [Act.put, List.setIfInBounds_toArray, List.set_cons_zero, List.set_cons_succ]
  refine takeD (i := 6) (v := undef) (some 46) rfl rfl (by kernel_rfl) (by kernel_rfl) (by kernel_rfl) (fun _ _ _ h => h) (Or.inr ⟨by rfl, rfl⟩) hS32 ?_
  simp only [Act.put, List.setIfInBounds_toArray, List.set_cons_zero, List.set_cons_succ]
  refine takeD (i := 7) (v := undef) (some 47) rfl rfl (by kernel_rfl) (by kernel_rfl) (by kernel_rfl) (fun _ _ _ h => h) (Or.inr ⟨by rfl, rfl⟩) hS32 ?_
  simp only [Act.put, List.setIfInBounds_toArray, List.set_cons_zero, List.set_cons_succ]
  refine takeD (i := 8) (v := undef) (some 48) rfl rfl (by kernel_rfl) (by kernel_rfl) (by kernel_rfl) (fun _ _ _ h => h) (Or.inr ⟨by rfl, rfl⟩) hS32 ?_
  simp only [Act.put, List.setIfInBounds_toArray, List.set_cons_zero, List.set_cons_succ]
  refine takeD (i := 9) (v := undef) (some 49) rfl rfl (by kernel_rfl) (by kernel_rfl) (by kernel_rfl) (fun _ _ _ h => h) (Or.inr ⟨by rfl, rfl⟩) hS32 ?_
  simp only [Act.put, List.setIfInBounds_toArray, List.set_cons_zero, List.set_cons_succ]
  refine takeD (i := 10) (v := undef) (some 50) rfl rfl (by kernel_rfl) (by kernel_rfl) (by kernel_rfl) (fun _ _ _ h => h) (Or.inr ⟨by rfl, rfl⟩) hS32 ?_
  simp only [Act.put, List.setIfInBounds_toArray, List.set_cons_zero, List.set_cons_succ]
  refine takeD (i := 11) (v := .bool false) (some 51) rfl rfl (by kernel_rfl) (by kernel_rfl) (by kernel_rfl) (fun _ _ _ h => h) (Or.inl ⟨by rfl, by rintro w' -; go_simp⟩) hS32 ?_
  simp only [Act.put, List.setIfInBounds_toArray, List.set_cons_zero, List.set_cons_succ]
  refine takeD (i := 12) (v := .bool false) (some 39) rfl rfl (by kernel_rfl) (by kernel_rfl) (by kernel_rfl) (fun _ _ _ h => h) (Or.inl ⟨by rfl, by rintro w' -; go_simp⟩) hS32 ?_
  simp only [Act.put, List.setIfInBounds_toArray, List.set_cons_zero, List.set_cons_succ]
  refine wpAnyH_done (by kernel_rfl) ?_ _
  go_wp2_with fail
  refine wp_region_held (P := Try.prog) (S := (fun w' : World => At8 w' g 0 s0 ∧ At8 w' g 8 s1 ∧ At8 w' g (2 * 8) s2 ∧ At8 w' zb 0 z)) rfl ?_
  change wpAnyH _ _ _ _ _ _ _ _ wz23.drew
  have hz34 : Below wz23.heap.size wz23 wz23.drew := (Below.refl wz23.heap.size wz23).drew
  generalize wz23.drew = wz33 at hz34 ⊢
  have hq35 : Below wz23.heap.size wz23 wz33 := hz34
  have S_36 := Lib.hid (Bl.to S_26.out hq35)
  have A0_37 := Lib.hid (At8.to A0_27.out hq35)
  have A1_38 := Lib.hid (At8.to A1_28.out hq35)
  have A2_39 := Lib.hid (At8.to A2_29.out hq35)
  have AZ_40 := Lib.hid (At8.to AZ_30.out hq35)
  have HB_41 : Hid (Below w.heap.size w wz33) := Lib.hid (HB_31.out.trans (hq35.mono HB_31.out.size))
  clear hq35
  clear hz34
  have hS42 : (fun w' : World => At8 w' g 0 s0 ∧ At8 w' g 8 s1 ∧ At8 w' g (2 * 8) s2 ∧ At8 w' zb 0 z) wz33 := ⟨A0_37.out, A1_38.out, A2_39.out, AZ_40.out⟩
  refine takeD (i := 0) (v := .slice (some ⟨g, 0, none⟩) 3 3) (some 54) rfl rfl (by kernel_rfl) (by kernel_rfl) (by kernel_rfl) (fun _ _ _ h => h) (Or.inl ⟨by rfl, by rintro w' -; go_simp⟩) hS42 ?_
  simp only [Act.put, List.setIfInBounds_toArray, List.set_cons_zero, List.set_cons_succ]
  refine takeD (i := 1) (v := .pointer (some ⟨g, 0, none⟩)) (some 55) rfl rfl (by kernel_rfl) (by kernel_rfl) (by kernel_rfl) (fun _ _ _ h => h) (Or.inl ⟨by rfl, by rintro w' -; go_simp⟩) hS42 ?_
  simp only [Act.put, List.setIfInBounds_toArray, List.set_cons_zero, List.set_cons_succ]
  refine takeD (i := 2) (v := .agg (bcs s0)) (some 56) rfl rfl (by kernel_rfl) (by kernel_rfl) (by kernel_rfl) (fun _ _ _ h => h) (yieldsIf_load8 (by rfl) _ _ rfl _ _ rfl s0 _ (fun w' h => h.1) Try.underlying33 rfl (size8 b0.1)) hS42 ?_
  simp only [Act.put, List.setIfInBounds_toArray, List.set_cons_zero, List.set_cons_succ]
  refine takeD (i := 3) (v := .agg (bcs z)) (some 57) rfl rfl (by kernel_rfl) (by kernel_rfl) (by kernel_rfl) (fun _ _ _ h => h) (yieldsIf_load8 (by rfl) _ _ rfl _ _ rfl z _ (fun w' h => h.2.2.2) Try.underlying33 rfl (size8 z8.1)) hS42 ?_
  simp only [Act.put, List.setIfInBounds_toArray, List.set_cons_zero, List.set_cons_succ]
  refine takeD (i := 4) (v := .bool true) (some 58) rfl rfl (by kernel_rfl) (by kernel_rfl) (by kernel_rfl) (fun _ _ _ h => h) (Or.inl ⟨by rfl, by rintro w' -; go_simp⟩) hS42 ?_
  simp only [Act.put, List.setIfInBounds_toArray, List.set_cons_zero, List.set_cons_succ]
  refine takeD (i := 5) (v := .bool true) (some 59) rfl rfl (by kernel_rfl) (by kernel_rfl) (by kernel_rfl) (fun _ _ _ h => h) (Or.inl ⟨by rfl, by rintro w' -; go_simp⟩) hS42 ?_
  simp only [Act.put, List.setIfInBounds_toArray, List.set_cons_zero, List.set_cons_succ]
  refine takeD (i := 6) (v := .slice (some ⟨g, 0, none⟩) 3 3) (some 60) rfl rfl (by kernel_rfl) (by kernel_rfl) (by kernel_rfl) (fun _ _ _ h => h) (Or.inl ⟨by rfl, by rintro w' -; go_simp⟩) hS42 ?_
  simp only [Act.put, List.setIfInBounds_toArray, List.set_cons_zero, List.set_cons_succ]
  refine takeD (i := 7) (v := .pointer (some ⟨g, 2 * 8, none⟩)) (some 61) rfl rfl (by kernel_rfl) (by kernel_rfl) (by kernel_rfl) (fun _ _ _ h => h) (Or.inl ⟨by rfl, by rintro w' -; go_simp⟩) hS42 ?_
  simp only [Act.put, List.setIfInBounds_toArray, List.set_cons_zero, List.set_cons_succ]
  refine takeD (i := 8) (v := .agg (bcs s2)) (some 62) rfl rfl (by kernel_rfl) (by kernel_rfl) (by kernel_rfl) (fun _ _ _ h => h) (yieldsIf_load8 (by rfl) _ _ rfl _ _ rfl s2 _ (fun w' h => h.2.2.1) Try.underlying33 rfl (size8 b2.1)) hS42 ?_
  simp only [Act.put, List.setIfInBounds_toArray, List.set_cons_zero, List.set_cons_succ]
  refine takeD (i := 9) (v := .agg (bcs z)) (some 63) rfl rfl (by kernel_rfl) (by kernel_rfl) (by kernel_rfl) (fun _ _ _ h => h) (yieldsIf_load8 (by rfl) _ _ rfl _ _ rfl z _ (fun w' h => h.2.2.2) Try.underlying33 rfl (size8 z8.1)) hS42 ?_
  simp only [Act.put, List.setIfInBounds_toArray, List.set_cons_zero, List.set_cons_succ]
  refine takeD (i := 10) (v := .bool false) (some 64) rfl rfl (by kernel_rfl) (by kernel_rfl) (by kernel_rfl) (fun _ _ _ h => h) (Or.inl ⟨by rfl, by rintro w' -; go_simp⟩) hS42 ?_
  simp only [Act.put, List.setIfInBounds_toArray, List.set_cons_zero, List.set_cons_succ]
  refine takeD (i := 11) (v := .bool false) (some 65) rfl rfl (by kernel_rfl) (by kernel_rfl) (by kernel_rfl) (fun _ _ _ h => h) (Or.inl ⟨by rfl, by rintro w' -; go_simp⟩) hS42 ?_
  simp only [Act.put, List.setIfInBounds_toArray, List.set_cons_zero, List.set_cons_succ]
  refine takeD (i := 12) (v := .bool false) (some 53) rfl rfl (by kernel_rfl) (by kernel_rfl) (by kernel_rfl) (fun _ _ _ h => h) (Or.inl ⟨by rfl, by rintro w' -; go_simp⟩) hS42 ?_
  simp only [Act.put, List.setIfInBounds_toArray, List.set_cons_zero, List.set_cons_succ]
  refine wpAnyH_done (by kernel_rfl) ?_ _
  go_wp2_with fail
  refine wp_region_held (P := Try.prog) (S := (fun w' : World => At8 w' g 0 s0 ∧ At8 w' g 8 s1 ∧ At8 w' g (2 * 8) s2 ∧ At8 w' zb 0 z)) rfl ?_
  change wpAnyH _ _ _ _ _ _ _ _ wz33.drew
  have hz44 : Below wz33.heap.size wz33 wz33.drew := (Below.refl wz33.heap.size wz33).drew
  generalize wz33.drew = wz43 at hz44 ⊢
  have hq45 : Below wz33.heap.size wz33 wz43 := hz44
  have S_46 := Lib.hid (Bl.to S_36.out hq45)
  have A0_47 := Lib.hid (At8.to A0_37.out hq45)
  have A1_48 := Lib.hid (At8.to A1_38.out hq45)
  have A2_49 := Lib.hid (At8.to A2_39.out hq45)
  have AZ_50 := Lib.hid (At8.to AZ_40.out hq45)
  have HB_51 : Hid (Below w.heap.size w wz43) := Lib.hid (HB_41.out.trans (hq45.mono HB_41.out.size))
  clear hq45
  clear hz44
  have hS52 : (fun w' : World => At8 w' g 0 s0 ∧ At8 w' g 8 s1 ∧ At8 w' g (2 * 8) s2 ∧ At8 w' zb 0 z) wz43 := ⟨A0_47.out, A1_48.out, A2_49.out, AZ_50.out⟩
  refine takeD (i := 0) (v := .slice (some ⟨g, 0, none⟩) 3 3) (some 69) rfl rfl (by kernel_rfl) (by kernel_rfl) (by kernel_rfl) (fun _ _ _ h => h) (Or.inl ⟨by rfl, by rintro w' -; go_simp⟩) hS52 ?_
  simp only [Act.put, List.setIfInBounds_toArray, List.set_cons_zero, List.set_cons_succ]
  refine takeD (i := 1) (v := .pointer (some ⟨g, 0, none⟩)) (some 70) rfl rfl (by kernel_rfl) (by kernel_rfl) (by kernel_rfl) (fun _ _ _ h => h) (Or.inl ⟨by rfl, by rintro w' -; go_simp⟩) hS52 ?_
  simp only [Act.put, List.setIfInBounds_toArray, List.set_cons_zero, List.set_cons_succ]
  refine takeD (i := 2) (v := .agg (bcs s0)) (some 71) rfl rfl (by kernel_rfl) (by kernel_rfl) (by kernel_rfl) (fun _ _ _ h => h) (yieldsIf_load8 (by rfl) _ _ rfl _ _ rfl s0 _ (fun w' h => h.1) Try.underlying33 rfl (size8 b0.1)) hS52 ?_
  simp only [Act.put, List.setIfInBounds_toArray, List.set_cons_zero, List.set_cons_succ]
  refine takeD (i := 3) (v := .agg (bcs z)) (some 72) rfl rfl (by kernel_rfl) (by kernel_rfl) (by kernel_rfl) (fun _ _ _ h => h) (yieldsIf_load8 (by rfl) _ _ rfl _ _ rfl z _ (fun w' h => h.2.2.2) Try.underlying33 rfl (size8 z8.1)) hS52 ?_
  simp only [Act.put, List.setIfInBounds_toArray, List.set_cons_zero, List.set_cons_succ]
  refine takeD (i := 4) (v := .bool true) (some 73) rfl rfl (by kernel_rfl) (by kernel_rfl) (by kernel_rfl) (fun _ _ _ h => h) (Or.inl ⟨by rfl, by rintro w' -; go_simp⟩) hS52 ?_
  simp only [Act.put, List.setIfInBounds_toArray, List.set_cons_zero, List.set_cons_succ]
  refine takeD (i := 5) (v := .bool true) (some 74) rfl rfl (by kernel_rfl) (by kernel_rfl) (by kernel_rfl) (fun _ _ _ h => h) (Or.inl ⟨by rfl, by rintro w' -; go_simp⟩) hS52 ?_
  simp only [Act.put, List.setIfInBounds_toArray, List.set_cons_zero, List.set_cons_succ]
  refine takeD (i := 6) (v := .slice (some ⟨g, 0, none⟩) 3 3) (some 75) rfl rfl (by kernel_rfl) (by kernel_rfl) (by kernel_rfl) (fun _ _ _ h => h) (Or.inl ⟨by rfl, by rintro w' -; go_simp⟩) hS52 ?_
  simp only [Act.put, List.setIfInBounds_toArray, List.set_cons_zero, List.set_cons_succ]
  refine takeD (i := 7) (v := .pointer (some ⟨g, 8, none⟩)) (some 76) rfl rfl (by kernel_rfl) (by kernel_rfl) (by kernel_rfl) (fun _ _ _ h => h) (Or.inl ⟨by rfl, by rintro w' -; go_simp⟩) hS52 ?_
  simp only [Act.put, List.setIfInBounds_toArray, List.set_cons_zero, List.set_cons_succ]
  refine takeD (i := 8) (v := .agg (bcs s1)) (some 77) rfl rfl (by kernel_rfl) (by kernel_rfl) (by kernel_rfl) (fun _ _ _ h => h) (yieldsIf_load8 (by rfl) _ _ rfl _ _ rfl s1 _ (fun w' h => h.2.1) Try.underlying33 rfl (size8 b1.1)) hS52 ?_
  simp only [Act.put, List.setIfInBounds_toArray, List.set_cons_zero, List.set_cons_succ]
  refine takeD (i := 9) (v := .agg (bcs z)) (some 78) rfl rfl (by kernel_rfl) (by kernel_rfl) (by kernel_rfl) (fun _ _ _ h => h) (yieldsIf_load8 (by rfl) _ _ rfl _ _ rfl z _ (fun w' h => h.2.2.2) Try.underlying33 rfl (size8 z8.1)) hS52 ?_
  simp only [Act.put, List.setIfInBounds_toArray, List.set_cons_zero, List.set_cons_succ]
  refine takeD (i := 10) (v := .bool false) (some 79) rfl rfl (by kernel_rfl) (by kernel_rfl) (by kernel_rfl) (fun _ _ _ h => h) (Or.inl ⟨by rfl, by rintro w' -; go_simp⟩) hS52 ?_
  simp only [Act.put, List.setIfInBounds_toArray, List.set_cons_zero, List.set_cons_succ]
  refine takeD (i := 11) (v := .bool false) (some 80) rfl rfl (by kernel_rfl) (by kernel_rfl) (by kernel_rfl) (fun _ _ _ h => h) (Or.inl ⟨by rfl, by rintro w' -; go_simp⟩) hS52 ?_
  simp only [Act.put, List.setIfInBounds_toArray, List.set_cons_zero, List.set_cons_succ]
  refine takeD (i := 12) (v := .bool false) (some 68) rfl rfl (by kernel_rfl) (by kernel_rfl) (by kernel_rfl) (fun _ _ _ h => h) (Or.inl ⟨by rfl, by rintro w' -; go_simp⟩) hS52 ?_
  simp only [Act.put, List.setIfInBounds_toArray, List.set_cons_zero, List.set_cons_succ]
  refine wpAnyH_done (by kernel_rfl) ?_ _
  go_wp2_with fail
  refine (locd_any _ s0 s1 s2 n _ S_46.out h1 h13).mono ?_
  rintro e w9 ⟨k, en, rfl, hk, hb⟩
  have K := Lib.hid (And.intro hk hb)
  clear hk hb
  go_wp2_with fail
  go_ret2
  refine ⟨k, en, rfl, ?_, HB_51.out.trans (K.out.2.mono HB_51.out.size)⟩
  rcases K.out.1 with ⟨rfl, h1, h2⟩ | ⟨rfl, rfl, h2⟩
  · exact LD.out k h1 h2
  · exact LL.out h2
set_option maxHeartbeats 4000000 in
set_option maxRecDepth 100000 in
theorem loc_ftt (v : Value) (P : List (List Nat)) (w : World) (h : Bl w v P) (h4 : 4 ≤ P.length) (h16 : P.length ≤ 16) (e0 : synB P 0 ≠ zeroB.1) (e1 : synB P 1 = zeroB.1) (e2 : synB P 2 = zeroB.1) : Calls Try.prog 27 #[v] w (locPost P w) := by
  have OK := Lib.hid h.ok
  obtain ⟨n, hn⟩ : ∃ n, P.length = n + 3 := ⟨P.length - 3, by omega⟩
  have PN : P.length - 3 = n := by omega
  have SY := Lib.hid (syn_ok v P w h h4 h16)
  obtain ⟨A, c, rfl⟩ := h.form
  obtain ⟨N, hN⟩ : ∃ N, P.length = N := ⟨_, rfl⟩
  have e3 : (N : Int) - 3 = (n : Int) := by omega
  have hnl : (n : Int) ≤ 13 := by omega
  have RES : Hid (locR P (n + 0) 0) := Lib.hid (by
    rw [← PN]
    refine loc_par OK.out h4 h16 (m := 0) (by decide) e0 fun j hj hne => ?_
    match j, hj with
    | 0, _ => exact absurd rfl hne
    | 1, _ => exact e1
    | 2, _ => exact e2)
  have S8 := Lib.hid fun j (hj : j < 3) => synB_ok OK.out (show 3 ≤ P.length by omega) hj
  unfold synL at SY
  obtain ⟨s0, q0⟩ : ∃ s, synB P 0 = s := ⟨_, rfl⟩
  obtain ⟨s1, q1⟩ : ∃ s, synB P 1 = s := ⟨_, rfl⟩
  obtain ⟨s2, q2⟩ : ∃ s, synB P 2 = s := ⟨_, rfl⟩
  have b0 := S8.out 0 (by decide)
  have b1 := S8.out 1 (by decide)
  have b2 := S8.out 2 (by decide)
  rw [q0] at SY b0 e0
  rw [q1] at SY b1 e1
  rw [q2] at SY b2 e2
  have ZZ : Hid ((#[.int .u8 0, .int .u8 0, .int .u8 0, .int .u8 0, .int .u8 0, .int .u8 0, .int .u8 0, .int .u8 0] : Array Value) = bcs zeroB.1) := Lib.hid rfl
  obtain ⟨z, hz⟩ : ∃ z, zeroB.1 = z := ⟨_, rfl⟩
  have z8 : B8 z := hz ▸ zeroB.2
  rw [hz] at e0 e1 e2 ZZ
  have E0 := fun w' => eql8 s0 z b0 z8 w'
  have E1 := fun w' => eql8 s1 z b1 z8 w'
  have E2 := fun w' => eql8 s2 z b2 z8 w'
  rw [decide_eq_false e0] at E0
  rw [decide_eq_true e1] at E1
  rw [decide_eq_true e2] at E2
  have h13 : n ≤ 13 := by omega
  have h1 : 1 ≤ n := by omega
  rw [hN] at SY ⊢
  have LE : (N : Int) ≤ 16 := by omega
  clear h h4 h16 hn PN hN q0 q1 q2 S8 hz
  clear e0 e1 e2
  go_enter Try.func27, Try.ntmps27
  go_wp2_with fail
  refine (SY.out).mono ?_
  rintro e x2 ⟨g, rfl, hn3, hb1⟩
  have hq4 : Below w.heap.size w x2 := hb1
  have HB_5 : Hid (Below w.heap.size w x2) := Lib.hid (hq4)
  clear hq4
  have S_6 := Lib.hid hn3
  clear hb1 hn3
  have a0 := Bl.at8 S_6.out (i := 0) (by simp)
  have a1 := Bl.at8 S_6.out (i := 1) (by simp)
  have a2 := Bl.at8 S_6.out (i := 2) (by simp)
  rw [show [s0, s1, s2].getD 0 [] = s0 from rfl, Nat.zero_mul, Nat.zero_add] at a0
  rw [show [s0, s1, s2].getD 1 [] = s1 from rfl, Nat.one_mul, Nat.zero_add] at a1
  rw [show [s0, s1, s2].getD 2 [] = s2 from rfl, Nat.zero_add] at a2
  have A0 := Lib.hid a0
  have A1 := Lib.hid a1
  have A2 := Lib.hid a2
  clear a0 a1 a2
  go_wp2_with fail
  rw [ZZ.out]
  obtain ⟨W2, hW2⟩ : ∃ W2, x2.alloc (.cells (bcs z) 33) = W2 := ⟨_, rfl⟩
  have hq : Below x2.heap.size x2 W2 := by rw [← hW2]; exact (Below.refl _ _).alloc (Nat.le_refl _) _
  have rz := row_new x2 (bcs z) 33
  rw [hW2] at rz ⊢
  have AZ := Lib.hid rz.at8
  obtain ⟨zb, hzb⟩ : ∃ zb, x2.heap.size = zb := ⟨_, rfl⟩
  rw [hzb] at AZ ⊢
  clear rz hW2
  have hq7 : Below x2.heap.size x2 W2 := hq
  have S_8 := Lib.hid (Bl.to S_6.out hq7)
  have A0_9 := Lib.hid (At8.to A0.out hq7)
  have A1_10 := Lib.hid (At8.to A1.out hq7)
  have A2_11 := Lib.hid (At8.to A2.out hq7)
  have HB_12 : Hid (Below w.heap.size w W2) := Lib.hid (HB_5.out.trans (hq7.mono HB_5.out.size))
  clear hq7
  clear hq hzb
  refine wp_region_held (P := Try.prog) (S := (fun w' : World => At8 w' g 0 s0 ∧ At8 w' g 8 s1 ∧ At8 w' g (2 * 8) s2 ∧ At8 w' zb 0 z)) rfl ?_
  change wpAnyH _ _ _ _ _ _ _ _ W2.drew
  have hz14 : Below W2.heap.size W2 W2.drew := (Below.refl W2.heap.size W2).drew
  generalize W2.drew = wz13 at hz14 ⊢
  have hq15 : Below W2.heap.size W2 wz13 := hz14
  have S_16 := Lib.hid (Bl.to S_8.out hq15)
  have A0_17 := Lib.hid (At8.to A0_9.out hq15)
  have A1_18 := Lib.hid (At8.to A1_10.out hq15)
  have A2_19 := Lib.hid (At8.to A2_11.out hq15)
  have AZ_20 := Lib.hid (At8.to AZ.out hq15)
  have HB_21 : Hid (Below w.heap.size w wz13) := Lib.hid (HB_12.out.trans (hq15.mono HB_12.out.size))
  clear hq15
  clear hz14
  have hS22 : (fun w' : World => At8 w' g 0 s0 ∧ At8 w' g 8 s1 ∧ At8 w' g (2 * 8) s2 ∧ At8 w' zb 0 z) wz13 := ⟨A0_17.out, A1_18.out, A2_19.out, AZ_20.out⟩
  refine takeD (i := 0) (v := .slice (some ⟨g, 0, none⟩) 3 3) (some 20) rfl rfl (by kernel_rfl) (by kernel_rfl) (by kernel_rfl) (fun _ _ _ h => h) (Or.inl ⟨by rfl, by rintro w' -; go_simp⟩) hS22 ?_
  simp only [Act.put, List.setIfInBounds_toArray, List.set_cons_zero, List.set_cons_succ]
  refine takeD (i := 1) (v := .pointer (some ⟨g, 0, none⟩)) (some 21) rfl rfl (by kernel_rfl) (by kernel_rfl) (by kernel_rfl) (fun _ _ _ h => h) (Or.inl ⟨by rfl, by rintro w' -; go_simp⟩) hS22 ?_
  simp only [Act.put, List.setIfInBounds_toArray, List.set_cons_zero, List.set_cons_succ]
  refine takeD (i := 2) (v := .agg (bcs s0)) (some 22) rfl rfl (by kernel_rfl) (by kernel_rfl) (by kernel_rfl) (fun _ _ _ h => h) (yieldsIf_load8 (by rfl) _ _ rfl _ _ rfl s0 _ (fun w' h => h.1) Try.underlying33 rfl (size8 b0.1)) hS22 ?_
  simp only [Act.put, List.setIfInBounds_toArray, List.set_cons_zero, List.set_cons_succ]
  refine takeD (i := 3) (v := .agg (bcs z)) (some 23) rfl rfl (by kernel_rfl) (by kernel_rfl) (by kernel_rfl) (fun _ _ _ h => h) (yieldsIf_load8 (by rfl) _ _ rfl _ _ rfl z _ (fun w' h => h.2.2.2) Try.underlying33 rfl (size8 z8.1)) hS22 ?_
  simp only [Act.put, List.setIfInBounds_toArray, List.set_cons_zero, List.set_cons_succ]
  refine takeD (i := 4) (v := .bool false) (some 24) rfl rfl (by kernel_rfl) (by kernel_rfl) (by kernel_rfl) (fun _ _ _ h => h) (Or.inl ⟨by rfl, by rintro w' -; go_simp⟩) hS22 ?_
  simp only [Act.put, List.setIfInBounds_toArray, List.set_cons_zero, List.set_cons_succ]
  refine takeD (i := 5) (v := .bool false) (some 25) rfl rfl (by kernel_rfl) (by kernel_rfl) (by kernel_rfl) (fun _ _ _ h => h) (Or.inl ⟨by rfl, by rintro w' -; go_simp⟩) hS22 ?_
  simp only [Act.put, List.setIfInBounds_toArray, List.set_cons_zero, List.set_cons_succ]
  refine takeD (i := 6) (v := undef) (some 26) rfl rfl (by kernel_rfl) (by kernel_rfl) (by kernel_rfl) (fun _ _ _ h => h) (Or.inr ⟨by rfl, rfl⟩) hS22 ?_
  simp only [Act.put, List.setIfInBounds_toArray, List.set_cons_zero, List.set_cons_succ]
  refine takeD (i := 7) (v := undef) (some 27) rfl rfl (by kernel_rfl) (by kernel_rfl) (by kernel_rfl) (fun _ _ _ h => h) (Or.inr ⟨by rfl, rfl⟩) hS22 ?_
  simp only [Act.put, List.setIfInBounds_toArray, List.set_cons_zero, List.set_cons_succ]
  refine takeD (i := 8) (v := undef) (some 28) rfl rfl (by kernel_rfl) (by kernel_rfl) (by kernel_rfl) (fun _ _ _ h => h) (Or.inr ⟨by rfl, rfl⟩) hS22 ?_
  simp only [Act.put, List.setIfInBounds_toArray, List.set_cons_zero, List.set_cons_succ]
  refine takeD (i := 9) (v := undef) (some 29) rfl rfl (by kernel_rfl) (by kernel_rfl) (by kernel_rfl) (fun _ _ _ h => h) (Or.inr ⟨by rfl, rfl⟩) hS22 ?_
  simp only [Act.put, List.setIfInBounds_toArray, List.set_cons_zero, List.set_cons_succ]
  refine takeD (i := 10) (v := undef) (some 30) rfl rfl (by kernel_rfl) (by kernel_rfl) (by kernel_rfl) (fun _ _ _ h => h) (Or.inr ⟨by rfl, rfl⟩) hS22 ?_
  simp only [Act.put, List.setIfInBounds_toArray, List.set_cons_zero, List.set_cons_succ]
  refine takeD (i := 11) (v := .bool false) (some 31) rfl rfl (by kernel_rfl) (by kernel_rfl) (by kernel_rfl) (fun _ _ _ h => h) (Or.inl ⟨by rfl, by rintro w' -; go_simp⟩) hS22 ?_
  simp only [Act.put, List.setIfInBounds_toArray, List.set_cons_zero, List.set_cons_succ]
  refine takeD (i := 12) (v := .bool false) (some 32) rfl rfl (by kernel_rfl) (by kernel_rfl) (by kernel_rfl) (fun _ _ _ h => h) (Or.inl ⟨by rfl, by rintro w' -; go_simp⟩) hS22 ?_
  simp only [Act.put, List.setIfInBounds_toArray, List.set_cons_zero, List.set_cons_succ]
  refine takeD (i := 13) (v := undef) (some 33) rfl rfl (by kernel_rfl) (by kernel_rfl) (by kernel_rfl) (fun _ _ _ h => h) (Or.inr ⟨by rfl, rfl⟩) hS22 ?_
  simp only [Act.put, List.setIfInBounds_toArray, List.set_cons_zero, List.set_cons_succ]
  refine takeD (i := 14) (v := undef) (some 34) rfl rfl (by kernel_rfl) (by kernel_rfl) (by kernel_rfl) (fun _ _ _ h => h) (Or.inr ⟨by rfl, rfl⟩) hS22 ?_
  simp only [Act.put, List.setIfInBounds_toArray, List.set_cons_zero, List.set_cons_succ]
  refine takeD (i := 15) (v := undef) (some 35) rfl rfl (by kernel_rfl) (by kernel_rfl) (by kernel_rfl) (fun _ _ _ h => h) (Or.inr ⟨by rfl, rfl⟩) hS22 ?_
  simp only [Act.put, List.setIfInBounds_toArray, List.set_cons_zero, List.set_cons_succ]
  refine takeD (i := 16) (v := undef) (some 36) rfl rfl (by kernel_rfl) (by kernel_rfl) (by kernel_rfl) (fun _ _ _ h => h) (Or.inr ⟨by rfl, rfl⟩) hS22 ?_
  simp only [Act.put, List.setIfInBounds_toArray, List.set_cons_zero, List.set_cons_succ]
  refine takeD (i := 17) (v := undef) (some 37) rfl rfl (by kernel_rfl) (by kernel_rfl) (by kernel_rfl) (fun _ _ _ h => h) (Or.inr ⟨by rfl, rfl⟩) hS22 ?_
  simp only [Act.put, List.setIfInBounds_toArray, List.set_cons_zero, List.set_cons_succ]
  refine takeD (i := 18) (v := .bool false) (some 38) rfl rfl (by kernel_rfl) (by kernel_rfl) (by kernel_rfl) (fun _ _ _ h => h) (Or.inl ⟨by rfl, by rintro w' -; go_simp⟩) hS22 ?_
  simp only [Act.put, List.setIfInBounds_toArray, List.set_cons_zero, List.set_cons_succ]
  refine takeD (i := 19) (v := .bool false) (some 19) rfl rfl (by kernel_rfl) (by kernel_rfl) (by kernel_rfl) (fun _ _ _ h => h) (Or.inl ⟨by rfl, by rintro w' -; go_simp⟩) hS22 ?_
  simp only [Act.put, List.setIfInBounds_toArray, List.set_cons_zero, List.set_cons_succ]
  refine wpAnyH_done (by kernel_rfl) ?_ _
  go_wp2_with fail
  refine wp_region_held (P := Try.prog) (S := (fun w' : World => At8 w' g 0 s0 ∧ At8 w' g 8 s1 ∧ At8 w' g (2 * 8) s2 ∧ At8 w' zb 0 z)) rfl ?_
  change wpAnyH _ _ _ _ _ _ _ _ wz13.drew
  have hz24 : Below wz13.heap.size wz13 wz13.drew := (Below.refl wz13.heap.size wz13).drew
  generalize wz13.drew = wz23 at hz24 ⊢
  have hq25 : Below wz13.heap.size wz13 wz23 := hz24
  have S_26 := Lib.hid (Bl.to S_16.out hq25)
  have A0_27 := Lib.hid (At8.to A0_17.out hq25)
  have A1_28 := Lib.hid (At8.to A1_18.out hq25)
  have A2_29 := Lib.hid (At8.to A2_19.out hq25)
  have AZ_30 := Lib.hid (At8.to AZ_20.out hq25)
  have HB_31 : Hid (Below w.heap.size w wz23) := Lib.hid (HB_21.out.trans (hq25.mono HB_21.out.size))
  clear hq25
  clear hz24
  have hS32 : (fun w' : World => At8 w' g 0 s0 ∧ At8 w' g 8 s1 ∧ At8 w' g (2 * 8) s2 ∧ At8 w' zb 0 z) wz23 := ⟨A0_27.out, A1_28.out, A2_29.out, AZ_30.out⟩
  refine takeD (i := 0) (v := .slice (some ⟨g, 0, none⟩) 3 3) (some 40) rfl rfl (by kernel_rfl) (by kernel_rfl) (by kernel_rfl) (fun _ _ _ h => h) (Or.inl ⟨by rfl, by rintro w' -; go_simp⟩) hS32 ?_
  simp only [Act.put, List.setIfInBounds_toArray, List.set_cons_zero, List.set_cons_succ]
  refine takeD (i := 1) (v := .pointer (some ⟨g, 8, none⟩)) (some 41) rfl rfl (by kernel_rfl) (by kernel_rfl) (by kernel_rfl) (fun _ _ _ h => h) (Or.inl ⟨by rfl, by rintro w' -; go_simp⟩) hS32 ?_
  simp only [Act.put, List.setIfInBounds_toArray, List.set_cons_zero, List.set_cons_succ]
  refine takeD (i := 2) (v := .agg (bcs s1)) (some 42) rfl rfl (by kernel_rfl) (by kernel_rfl) (by kernel_rfl) (fun _ _ _ h => h) (yieldsIf_load8 (by rfl) _ _ rfl _ _ rfl s1 _ (fun w' h => h.2.1) Try.underlying33 rfl (size8 b1.1)) hS32 ?_
  simp only [Act.put, List.setIfInBounds_toArray, List.set_cons_zero, List.set_cons_succ]
  refine takeD (i := 3) (v := .agg (bcs z)) (some 43) rfl rfl (by kernel_rfl) (by kernel_rfl) (by kernel_rfl) (fun _ _ _ h => h) (yieldsIf_load8 (by rfl) _ _ rfl _ _ rfl z _ (fun w' h => h.2.2.2) Try.underlying33 rfl (size8 z8.1)) hS32 ?_
  simp only [Act.put, List.setIfInBounds_toArray, List.set_cons_zero, List.set_cons_succ]
  refine takeD (i := 4) (v := .bool true) (some 44) rfl rfl (by kernel_rfl) (by kernel_rfl) (by kernel_rfl) (fun _ _ _ h => h) (Or.inl ⟨by rfl, by rintro w' -; go_simp⟩) hS32 ?_
  simp only [Act.put, List.setIfInBounds_toArray, List.set_cons_zero, List.set_cons_succ]
  refine takeD (i := 5) (v := .bool true) (some 45) rfl rfl (by kernel_rfl) (by kernel_rfl) (by kernel_rfl) (fun _ _ _ h => h) (Or.inl ⟨by rfl, by rintro w' -; go_simp⟩) hS32 ?_
  simp only [Act.put, List.setIfInBounds_toArray, List.set_cons_zero, List.set_cons_succ]
  refine takeD (i := 6) (v := .slice (some ⟨g, 0, none⟩) 3 3) (some 46) rfl rfl (by kernel_rfl) (by kernel_rfl) (by kernel_rfl) (fun _ _ _ h => h) (Or.inl ⟨by rfl, by rintro w' -; go_simp⟩) hS32 ?_
  simp only [Act.put, List.setIfInBounds_toArray, List.set_cons_zero, List.set_cons_succ]
  refine takeD (i := 7) (v := .pointer (some ⟨g, 2 * 8, none⟩)) (some 47) rfl rfl (by kernel_rfl) (by kernel_rfl) (by kernel_rfl) (fun _ _ _ h => h) (Or.inl ⟨by rfl, by rintro w' -; go_simp⟩) hS32 ?_
  simp only [Act.put, List.setIfInBounds_toArray, List.set_cons_zero, List.set_cons_succ]
  refine takeD (i := 8) (v := .agg (bcs s2)) (some 48) rfl rfl (by kernel_rfl) (by kernel_rfl) (by kernel_rfl) (fun _ _ _ h => h) (yieldsIf_load8 (by rfl) _ _ rfl _ _ rfl s2 _ (fun w' h => h.2.2.1) Try.underlying33 rfl (size8 b2.1)) hS32 ?_
  simp only [Act.put, List.setIfInBounds_toArray, List.set_cons_zero, List.set_cons_succ]
  refine takeD (i := 9) (v := .agg (bcs z)) (some 49) rfl rfl (by kernel_rfl) (by kernel_rfl) (by kernel_rfl) (fun _ _ _ h => h) (yieldsIf_load8 (by rfl) _ _ rfl _ _ rfl z _ (fun w' h => h.2.2.2) Try.underlying33 rfl (size8 z8.1)) hS32 ?_
  simp only [Act.put, List.setIfInBounds_toArray, List.set_cons_zero, List.set_cons_succ]
  refine takeD (i := 10) (v := .bool true) (some 50) rfl rfl (by kernel_rfl) (by kernel_rfl) (by kernel_rfl) (fun _ _ _ h => h) (Or.inl ⟨by rfl, by rintro w' -; go_simp⟩) hS32 ?_
  simp only [Act.put, List.setIfInBounds_toArray, List.set_cons_zero, List.set_cons_succ]
  refine takeD (i := 11) (v := .bool true) (some 51) rfl rfl (by kernel_rfl) (by kernel_rfl) (by kernel_rfl) (fun _ _ _ h => h) (Or.inl ⟨by rfl, by rintro w' -; go_simp⟩) hS32 ?_
  simp only [Act.put, List.setIfInBounds_toArray, List.set_cons_zero, List.set_cons_succ]
  refine takeD (i := 12) (v := .bool true) (some 39) rfl rfl (by kernel_rfl) (by kernel_rfl) (by kernel_rfl) (fun _ _ _ h => h) (Or.inl ⟨by rfl, by rintro w' -; go_simp⟩) hS32 ?_
  simp only [Act.put, List.setIfInBounds_toArray, List.set_cons_zero, List.set_cons_succ]
  refine wpAnyH_done (by kernel_rfl) ?_ _
  go_wp2_with fail
  go_ret2
  exact ⟨n, 0, rfl, RES.out, HB_31.out⟩
set_option maxHeartbeats 4000000 in
set_option maxRecDepth 100000 in
theorem loc_ftf (v : Value) (P : List (List Nat)) (w : World) (h : Bl w v P) (h4 : 4 ≤ P.length) (h16 : P.length ≤ 16) (e0 : synB P 0 ≠ zeroB.1) (e1 : synB P 1 = zeroB.1) (e2 : synB P 2 ≠ zeroB.1) : Calls Try.prog 27 #[v] w (locPost P w) := by
  have OK := Lib.hid h.ok
  obtain ⟨n, hn⟩ : ∃ n, P.length = n + 3 := ⟨P.length - 3, by omega⟩
  have PN : P.length - 3 = n := by omega
  have SY := Lib.hid (syn_ok v P w h h4 h16)
  obtain ⟨A, c, rfl⟩ := h.form
  obtain ⟨N, hN⟩ : ∃ N, P.length = N := ⟨_, rfl⟩
  have e3 : (N : Int) - 3 = (n : Int) := by omega
  have hnl : (n : Int) ≤ 13 := by omega
  have LD := Lib.hid fun i (hi : i < n) => loc_data OK.out h4 h16 (i := i) (j := 0) (by decide) e0 (by rw [PN]; exact hi)
  have LL : Hid ((∀ i, i < n → ¬ fitS (synB P 0) (synB P 1) (synB P 2) i) → locR P 0 12) := Lib.hid fun hf => loc_lost OK.out h4 h16 (fun h => e0 h.1) (fun h => e0 h.1) (fun h => e2 h.2) (by rw [PN]; exact hf)
  have S8 := Lib.hid fun j (hj : j < 3) => synB_ok OK.out (show 3 ≤ P.length by omega) hj
  unfold synL at SY
  obtain ⟨s0, q0⟩ : ∃ s, synB P 0 = s := ⟨_, rfl⟩
  obtain ⟨s1, q1⟩ : ∃ s, synB P 1 = s := ⟨_, rfl⟩
  obtain ⟨s2, q2⟩ : ∃ s, synB P 2 = s := ⟨_, rfl⟩
  have b0 := S8.out 0 (by decide)
  have b1 := S8.out 1 (by decide)
  have b2 := S8.out 2 (by decide)
  rw [q0] at SY b0 e0
  rw [q1] at SY b1 e1
  rw [q2] at SY b2 e2
  rw [q0, q1, q2] at LL LD
  have ZZ : Hid ((#[.int .u8 0, .int .u8 0, .int .u8 0, .int .u8 0, .int .u8 0, .int .u8 0, .int .u8 0, .int .u8 0] : Array Value) = bcs zeroB.1) := Lib.hid rfl
  obtain ⟨z, hz⟩ : ∃ z, zeroB.1 = z := ⟨_, rfl⟩
  have z8 : B8 z := hz ▸ zeroB.2
  rw [hz] at e0 e1 e2 ZZ
  have E0 := fun w' => eql8 s0 z b0 z8 w'
  have E1 := fun w' => eql8 s1 z b1 z8 w'
  have E2 := fun w' => eql8 s2 z b2 z8 w'
  rw [decide_eq_false e0] at E0
  rw [decide_eq_true e1] at E1
  rw [decide_eq_false e2] at E2
  have h13 : n ≤ 13 := by omega
  have h1 : 1 ≤ n := by omega
  rw [hN] at SY ⊢
  have LE : (N : Int) ≤ 16 := by omega
  clear h h4 h16 hn PN hN q0 q1 q2 S8 hz
  clear e0 e1 e2
  go_enter Try.func27, Try.ntmps27
  go_wp2_with fail
  refine (SY.out).mono ?_
  rintro e x2 ⟨g, rfl, hn3, hb1⟩
  have hq4 : Below w.heap.size w x2 := hb1
  have HB_5 : Hid (Below w.heap.size w x2) := Lib.hid (hq4)
  clear hq4
  have S_6 := Lib.hid hn3
  clear hb1 hn3
  have a0 := Bl.at8 S_6.out (i := 0) (by simp)
  have a1 := Bl.at8 S_6.out (i := 1) (by simp)
  have a2 := Bl.at8 S_6.out (i := 2) (by simp)
  rw [show [s0, s1, s2].getD 0 [] = s0 from rfl, Nat.zero_mul, Nat.zero_add] at a0
  rw [show [s0, s1, s2].getD 1 [] = s1 from rfl, Nat.one_mul, Nat.zero_add] at a1
  rw [show [s0, s1, s2].getD 2 [] = s2 from rfl, Nat.zero_add] at a2
  have A0 := Lib.hid a0
  have A1 := Lib.hid a1
  have A2 := Lib.hid a2
  clear a0 a1 a2
  go_wp2_with fail
  rw [ZZ.out]
  obtain ⟨W2, hW2⟩ : ∃ W2, x2.alloc (.cells (bcs z) 33) = W2 := ⟨_, rfl⟩
  have hq : Below x2.heap.size x2 W2 := by rw [← hW2]; exact (Below.refl _ _).alloc (Nat.le_refl _) _
  have rz := row_new x2 (bcs z) 33
  rw [hW2] at rz ⊢
  have AZ := Lib.hid rz.at8
  obtain ⟨zb, hzb⟩ : ∃ zb, x2.heap.size = zb := ⟨_, rfl⟩
  rw [hzb] at AZ ⊢
  clear rz hW2
  have hq7 : Below x2.heap.size x2 W2 := hq
  have S_8 := Lib.hid (Bl.to S_6.out hq7)
  have A0_9 := Lib.hid (At8.to A0.out hq7)
  have A1_10 := Lib.hid (At8.to A1.out hq7)
  have A2_11 := Lib.hid (At8.to A2.out hq7)
  have HB_12 : Hid (Below w.heap.size w W2) := Lib.hid (HB_5.out.trans (hq7.mono HB_5.out.size))
  clear hq7
  clear hq hzb
  refine wp_region_held (P := Try.prog) (S := (fun w' : World => At8 w' g 0 s0 ∧ At8 w' g 8 s1 ∧ At8 w' g (2 * 8) s2 ∧ At8 w' zb 0 z)) rfl ?_
  change wpAnyH _ _ _ _ _ _ _ _ W2.drew
  have hz14 : Below W2.heap.size W2 W2.drew := (Below.refl W2.heap.size W2).drew
  generalize W2.drew = wz13 at hz14 ⊢
  have hq15 : Below W2.heap.size W2 wz13 := hz14
  have S_16 := Lib.hid (Bl.to S_8.out hq15)
  have A0_17 := Lib.hid (At8.to A0_9.out hq15)
  have A1_18 := Lib.hid (At8.to A1_10.out hq15)
  have A2_19 := Lib.hid (At8.to A2_11.out hq15)
  have AZ_20 := Lib.hid (At8.to AZ.out hq15)
  have HB_21 : Hid (Below w.heap.size w wz13) := Lib.hid (HB_12.out.trans (hq15.mono HB_12.out.size))
  clear hq15
  clear hz14
  have hS22 : (fun w' : World => At8 w' g 0 s0 ∧ At8 w' g 8 s1 ∧ At8 w' g (2 * 8) s2 ∧ At8 w' zb 0 z) wz13 := ⟨A0_17.out, A1_18.out, A2_19.out, AZ_20.out⟩
  refine takeD (i := 0) (v := .slice (some ⟨g, 0, none⟩) 3 3) (some 20) rfl rfl (by kernel_rfl) (by kernel_rfl) (by kernel_rfl) (fun _ _ _ h => h) (Or.inl ⟨by rfl, by rintro w' -; go_simp⟩) hS22 ?_
  simp only [Act.put, List.setIfInBounds_toArray, List.set_cons_zero, List.set_cons_succ]
  refine takeD (i := 1) (v := .pointer (some ⟨g, 0, none⟩)) (some 21) rfl rfl (by kernel_rfl) (by kernel_rfl) (by kernel_rfl) (fun _ _ _ h => h) (Or.inl ⟨by rfl, by rintro w' -; go_simp⟩) hS22 ?_
  simp only [Act.put, List.setIfInBounds_toArray, List.set_cons_zero, List.set_cons_succ]
  refine takeD (i := 2) (v := .agg (bcs s0)) (some 22) rfl rfl (by kernel_rfl) (by kernel_rfl) (by kernel_rfl) (fun _ _ _ h => h) (yieldsIf_load8 (by rfl) _ _ rfl _ _ rfl s0 _ (fun w' h => h.1) Try.underlying33 rfl (size8 b0.1)) hS22 ?_
  simp only [Act.put, List.setIfInBounds_toArray, List.set_cons_zero, List.set_cons_succ]
  refine takeD (i := 3) (v := .agg (bcs z)) (some 23) rfl rfl (by kernel_rfl) (by kernel_rfl) (by kernel_rfl) (fun _ _ _ h => h) (yieldsIf_load8 (by rfl) _ _ rfl _ _ rfl z _ (fun w' h => h.2.2.2) Try.underlying33 rfl (size8 z8.1)) hS22 ?_
  simp only [Act.put, List.setIfInBounds_toArray, List.set_cons_zero, List.set_cons_succ]
  refine takeD (i := 4) (v := .bool false) (some 24) rfl rfl (by kernel_rfl) (by kernel_rfl) (by kernel_rfl) (fun _ _ _ h => h) (Or.inl ⟨by rfl, by rintro w' -; go_simp⟩) hS22 ?_
  simp only [Act.put, List.setIfInBounds_toArray, List.set_cons_zero, List.set_cons_succ]
  refine takeD (i := 5) (v := .bool false) (some 25) rfl rfl (by kernel_rfl) (by kernel_rfl) (by kernel_rfl) (fun _ _ _ h => h) (Or.inl ⟨by rfl, by rintro w' -; go_simp⟩) hS22 ?_
  simp only [Act.put, List.setIfInBounds_toArray, List.set_cons_zero, List.set_cons_succ]
  refine takeD (i := 6) (v := undef) (some 26) rfl rfl (by kernel_rfl) (by kernel_rfl) (by kernel_rfl) (fun _ _ _ h => h) (Or.inr ⟨by rfl, rfl⟩) hS22 ?_
  simp only [Act.put, List.setIfInBounds_toArray, List.set_cons_zero, List.set_cons_succ]
  refine takeD (i := 7) (v := undef) (some 27) rfl rfl (by kernel_rfl) (by kernel_rfl) (by kernel_rfl) (fun _ _ _ h => h) (Or.inr ⟨by rfl, rfl⟩) hS22 ?_
  simp only [Act.put, List.setIfInBounds_toArray, List.set_cons_zero, List.set_cons_succ]
  refine takeD (i := 8) (v := undef) (some 28) rfl rfl (by kernel_rfl) (by kernel_rfl) (by kernel_rfl) (fun _ _ _ h => h) (Or.inr ⟨by rfl, rfl⟩) hS22 ?_
  simp only [Act.put, List.setIfInBounds_toArray, List.set_cons_zero, List.set_cons_succ]
  refine takeD (i := 9) (v := undef) (some 29) rfl rfl (by kernel_rfl) (by kernel_rfl) (by kernel_rfl) (fun _ _ _ h => h) (Or.inr ⟨by rfl, rfl⟩) hS22 ?_
  simp only [Act.put, List.setIfInBounds_toArray, List.set_cons_zero, List.set_cons_succ]
  refine takeD (i := 10) (v := undef) (some 30) rfl rfl (by kernel_rfl) (by kernel_rfl) (by kernel_rfl) (fun _ _ _ h => h) (Or.inr ⟨by rfl, rfl⟩) hS22 ?_
  simp only [Act.put, List.setIfInBounds_toArray, List.set_cons_zero, List.set_cons_succ]
  refine takeD (i := 11) (v := .bool false) (some 31) rfl rfl (by kernel_rfl) (by kernel_rfl) (by kernel_rfl) (fun _ _ _ h => h) (Or.inl ⟨by rfl, by rintro w' -; go_simp⟩) hS22 ?_
  simp only [Act.put, List.setIfInBounds_toArray, List.set_cons_zero, List.set_cons_succ]
  refine takeD (i := 12) (v := .bool false) (some 32) rfl rfl (by kernel_rfl) (by kernel_rfl) (by kernel_rfl) (fun _ _ _ h => h) (Or.inl ⟨by rfl, by rintro w' -; go_simp⟩) hS22 ?_
  simp only [Act.put, List.setIfInBounds_toArray, List.set_cons_zero, List.set_cons_succ]
  refine takeD (i := 13) (v := undef) (some 33) rfl rfl (by kernel_rfl) (by kernel_rfl) (by kernel_rfl) (fun _ _ _ h => h) (Or.inr ⟨by rfl, rfl⟩) hS22 ?_
  simp only [Act.put, List.setIfInBounds_toArray, List.set_cons_zero, List.set_cons_succ]
  refine takeD (i := 14) (v := undef) (some 34) rfl rfl (by kernel_rfl) (by kernel_rfl) (by kernel_rfl) (fun _ _ _ h => h) (Or.inr ⟨by rfl, rfl⟩) hS22 ?_
  simp only [Act.put, List.setIfInBounds_toArray, List.set_cons_zero, List.set_cons_succ]
  refine takeD (i := 15) (v := undef) (some 35) rfl rfl (by kernel_rfl) (by kernel_rfl) (by kernel_rfl) (fun _ _ _ h => h) (Or.inr ⟨by rfl, rfl⟩) hS22 ?_
  simp only [Act.put, List.setIfInBounds_toArray, List.set_cons_zero, List.set_cons_succ]
  refine takeD (i := 16) (v := undef) (some 36) rfl rfl (by kernel_rfl) (by kernel_rfl) (by kernel_rfl) (fun _ _ _ h => h) (Or.inr ⟨by rfl, rfl⟩) hS22 ?_
  simp only [Act.put, List.setIfInBounds_toArray, List.set_cons_zero, List.set_cons_succ]
  refine takeD (i := 17) (v := undef) (some 37) rfl rfl (by kernel_rfl) (by kernel_rfl) (by kernel_rfl) (fun _ _ _ h => h) (Or.inr ⟨by rfl, rfl⟩) hS22 ?_
  simp only [Act.put, List.setIfInBounds_toArray, List.set_cons_zero, List.set_cons_succ]
  refine takeD (i := 18) (v := .bool false) (some 38) rfl rfl (by kernel_rfl) (by kernel_rfl) (by kernel_rfl) (fun _ _ _ h => h) (Or.inl ⟨by rfl, by rintro w' -; go_simp⟩) hS22 ?_
  simp only [Act.put, List.setIfInBounds_toArray, List.set_cons_zero, List.set_cons_succ]
  refine takeD (i := 19) (v := .bool false) (some 19) rfl rfl (by kernel_rfl) (by kernel_rfl) (by kernel_rfl) (fun _ _ _ h => h) (Or.inl ⟨by rfl, by rintro w' -; go_simp⟩) hS22 ?_
  simp only [Act.put, List.setIfInBounds_toArray, List.set_cons_zero, List.set_cons_succ]
  refine wpAnyH_done (by kernel_rfl) ?_ _
  go_wp2_with fail
  refine wp_region_held (P := Try.prog) (S := (fun w' : World => At8 w' g 0 s0 ∧ At8 w' g 8 s1 ∧ At8 w' g (2 * 8) s2 ∧ At8 w' zb 0 z)) rfl ?_
  change wpAnyH _ _ _ _ _ _ _ _ wz13.drew
  have hz24 : Below wz13.heap.size wz13 wz13.drew := (Below.refl wz13.heap.size wz13).drew
  generalize wz13.drew = wz23 at hz24 ⊢
  have hq25 : Below wz13.heap.size wz13 wz23 := hz24
  have S_26 := Lib.hid (Bl.to S_16.out hq25)
  have A0_27 := Lib.hid (At8.to A0_17.out hq25)
  have A1_28 := Lib.hid (At8.to A1_18.out hq25)
  have A2_29 := Lib.hid (At8.to A2_19.out hq25)
  have AZ_30 := Lib.hid (At8.to AZ_20.out hq25)
  have HB_31 : Hid (Below w.heap.size w wz23) := Lib.hid (HB_21.out.trans (hq25.mono HB_21.out.size))
  clear hq25
  clear hz24
  have hS32 : (fun w' : World => At8 w' g 0 s0 ∧ At8 w' g 8 s1 ∧ At8 w' g (2 * 8) s2 ∧ At8 w' zb 0 z) wz23 := ⟨A0_27.out, A1_28.out, A2_29.out, AZ_30.out⟩
  refine takeD (i := 0) (v := .slice (some ⟨g, 0, none⟩) 3 3) (some 40) rfl rfl (by kernel_rfl) (by kernel_rfl) (by kernel_rfl) (fun _ _ _ h => h) (Or.inl ⟨by rfl, by rintro w' -; go_simp⟩) hS32 ?_
  simp only [Act.put, List.setIfInBounds_toArray, List.set_cons_zero, List.set_cons_succ]
  refine takeD (i := 1) (v := .pointer (some ⟨g, 8, none⟩)) (some 41) rfl rfl (by kernel_rfl) (by kernel_rfl) (by kernel_rfl) (fun _ _ _ h => h) (Or.inl ⟨by rfl, by rintro w' -; go_simp⟩) hS32 ?_
  simp only [Act.put, List.setIfInBounds_toArray, List.set_cons_zero, List.set_cons_succ]
  refine takeD (i := 2) (v := .agg (bcs s1)) (some 42) rfl rfl (by kernel_rfl) (by kernel_rfl) (by kernel_rfl) (fun _ _ _ h => h) (yieldsIf_load8 (by rfl) _ _ rfl _ _ rfl s1 _ (fun w' h => h.2.1) Try.underlying33 rfl (size8 b1.1)) hS32 ?_
  simp only [Act.put, List.setIfInBounds_toArray, List.set_cons_zero, List.set_cons_succ]
  refine takeD (i := 3) (v := .agg (bcs z)) (some 43) rfl rfl (by kernel_rfl) (by kernel_rfl) (by kernel_rfl) (fun _ _ _ h => h) (yieldsIf_load8 (by rfl) _ _ rfl _ _ rfl z _ (fun w' h => h.2.2.2) Try.underlying33 rfl (size8 z8.1)) hS32 ?_
  simp only [Act.put, List.setIfInBounds_toArray, List.set_cons_zero, List.set_cons_succ]
  refine takeD (i := 4) (v := .bool true) (some 44) rfl rfl (by kernel_rfl) (by kernel_rfl) (by kernel_rfl) (fun _ _ _ h => h) (Or.inl ⟨by rfl, by rintro w' -; go_simp⟩) hS32 ?_
  simp only [Act.put, List.setIfInBounds_toArray, List.set_cons_zero, List.set_cons_succ]
  refine takeD (i := 5) (v := .bool true) (some 45) rfl rfl (by kernel_rfl) (by kernel_rfl) (by kernel_rfl) (fun _ _ _ h => h) (Or.inl ⟨by rfl, by rintro w' -; go_simp⟩) hS32 ?_
  simp only [Act.put, List.setIfInBounds_toArray, List.set_cons_zero, List.set_cons_succ]
  refine takeD (i := 6) (v := .slice (some ⟨g, 0, none⟩) 3 3) (some 46) rfl rfl (by kernel_rfl) (by kernel_rfl) (by kernel_rfl) (fun _ _ _ h => h) (Or.inl ⟨by rfl, by rintro w' -; go_simp⟩) hS32 ?_
  simp only [Act.put, List.setIfInBounds_toArray, List.set_cons_zero, List.set_cons_succ]
  refine takeD (i := 7) (v := .pointer (some ⟨g, 2 * 8, none⟩)) (some 47) rfl rfl (by kernel_rfl) (by kernel_rfl) (by kernel_rfl) (fun _ _ _ h => h) (Or.inl ⟨by rfl, by rintro w' -; go_simp⟩) hS32 ?_
  simp only [Act.put, List.setIfInBounds_toArray, List.set_cons_zero, List.set_cons_succ]
  refine takeD (i := 8) (v := .agg (bcs s2)) (some 48) rfl rfl (by kernel_rfl) (by kernel_rfl) (by kernel_rfl) (fun _ _ _ h => h) (yieldsIf_load8 (by rfl) _ _ rfl _ _ rfl s2 _ (fun w' h => h.2.2.1) Try.underlying33 rfl (size8 b2.1)) hS32 ?_
  simp only [Act.put, List.setIfInBounds_toArray, List.set_cons_zero, List.set_cons_succ]
  refine takeD (i := 9) (v := .agg (bcs z)) (some 49) rfl rfl (by kernel_rfl) (by kernel_rfl) (by kernel_rfl) (fun _ _ _ h => h) (yieldsIf_load8 (by rfl) _ _ rfl _ _ rfl z _ (fun w' h => h.2.2.2) Try.underlying33 rfl (size8 z8.1)) hS32 ?_
  simp only [Act.put, List.setIfInBounds_toArray, List.set_cons_zero, List.set_cons_succ]
  refine takeD (i := 10) (v := .bool false) (some 50) rfl rfl (by kernel_rfl) (by kernel_rfl) (by kernel_rfl) (fun _ _ _ h => h) (Or.inl ⟨by rfl, by rintro w' -; go_simp⟩) hS32 ?_
  simp only [Act.put, List.setIfInBounds_toArray, List.set_cons_zero, List.set_cons_succ]
  refine takeD (i := 11) (v := .bool false) (some 51) rfl rfl (by kernel_rfl) (by kernel_rfl) (by kernel_rfl) (fun _ _ _ h => h) (Or.inl ⟨by rfl, by rintro w' -; go_simp⟩) hS32 ?_
  simp only [Act.put, List.setIfInBounds_toArray, List.set_cons_zero, List.set_cons_succ]
  refine takeD (i := 12) (v := .bool false) (some 39) rfl rfl (by kernel_rfl) (by kernel_rfl) (by kernel_rfl) (fun _ _ _ h => h) (Or.inl ⟨by rfl, by rintro w' -; go_simp⟩) hS32 ?_
  simp only [Act.put, List.setIfInBounds_toArray, List.set_cons_zero, List.set_cons_succ]
  refine wpAnyH_done (by kernel_rfl) ?_ _
  go_wp2_with fail
  refine wp_region_held (P := Try.prog) (S := (fun w' : World => At8 w' g 0 s0 ∧ At8 w' g 8 s1 ∧ At8 w' g (2 * 8) s2 ∧ At8 w' zb 0 z)) rfl ?_
  change wpAnyH _ _ _ _ _ _ _ _ wz23.drew
  have hz34 : Below wz23.heap.size wz23 wz23.drew := (Below.refl wz23.heap.size wz23).drew
  generalize wz23.drew = wz33 at hz34 ⊢
  have hq35 : Below wz23.heap.size wz23 wz33 := hz34
  have S_36 := Lib.hid (Bl.to S_26.out hq35)
  have A0_37 := Lib.hid (At8.to A0_27.out hq35)
  have A1_38 := Lib.hid (At8.to A1_28.out hq35)
  have A2_39 := Lib.hid (At8.to A2_29.out hq35)
  have AZ_40 := Lib.hid (At8.to AZ_30.out hq35)
  have HB_41 : Hid (Below w.heap.size w wz33) := Lib.hid (HB_31.out.trans (hq35.mono HB_31.out.size))
  clear hq35
  clear hz34
  have hS42 : (fun w' : World => At8 w' g 0 s0 ∧ At8 w' g 8 s1 ∧ At8 w' g (2 * 8) s2 ∧ At8 w' zb 0 z) wz33 := ⟨A0_37.out, A1_38.out, A2_39.out, AZ_40.out⟩
  refine takeD (i := 0) (v := .slice (some ⟨g, 0, none⟩) 3 3) (some 54) rfl rfl (by kernel_rfl) (by kernel_rfl) (by kernel_rfl) (fun _ _ _ h => h) (Or.inl ⟨by rfl, by rintro w' -; go_simp⟩) hS42 ?_
  simp only [Act.put, List.setIfInBounds_toArray, List.set_cons_zero, List.set_cons_succ]
  refine takeD (i := 1) (v := .pointer (some ⟨g, 0, none⟩)) (some 55) rfl rfl (by kernel_rfl) (by kernel_rfl) (by kernel_rfl) (fun _ _ _ h => h) (Or.inl ⟨by rfl, by rintro w' -; go_simp⟩) hS42 ?_
  simp only [Act.put, List.setIfInBounds_toArray, List.set_cons_zero, List.set_cons_succ]
  refine takeD (i := 2) (v := .agg (bcs s0)) (some 56) rfl rfl (by kernel_rfl) (by kernel_rfl) (by kernel_rfl) (fun _ _ _ h => h) (yieldsIf_load8 (by rfl) _ _ rfl _ _ rfl s0 _ (fun w' h => h.1) Try.underlying33 rfl (size8 b0.1)) hS42 ?_
  simp only [Act.put, List.setIfInBounds_toArray, List.set_cons_zero, List.set_cons_succ]
  refine takeD (i := 3) (v := .agg (bcs z)) (some 57) rfl rfl (by kernel_rfl) (by kernel_rfl) (by kernel_rfl) (fun _ _ _ h => h) (yieldsIf_load8 (by rfl) _ _ rfl _ _ rfl z _ (fun w' h => h.2.2.2) Try.underlying33 rfl (size8 z8.1)) hS42 ?_
  simp only [Act.put, List.setIfInBounds_toArray, List.set_cons_zero, List.set_cons_succ]
  refine takeD (i := 4) (v := .bool false) (some 58) rfl rfl (by kernel_rfl) (by kernel_rfl) (by kernel_rfl) (fun _ _ _ h => h) (Or.inl ⟨by rfl, by rintro w' -; go_simp⟩) hS42 ?_
  simp only [Act.put, List.setIfInBounds_toArray, List.set_cons_zero, List.set_cons_succ]
  refine takeD (i := 5) (v := .bool false) (some 59) rfl rfl (by kernel_rfl) (by kernel_rfl) (by kernel_rfl) (fun _ _ _ h => h) (Or.inl ⟨by rfl, by rintro w' -; go_simp⟩) hS42 ?_
  simp only [Act.put, List.setIfInBounds_toArray, List.set_cons_zero, List.set_cons_succ]
  refine takeD (i := 6) (v := undef) (some 60) rfl rfl (by kernel_rfl) (by kernel_rfl) (by kernel_rfl) (fun _ _ _ h => h) (Or.inr ⟨by rfl, rfl⟩) hS42 ?_
  simp only [Act.put, List.setIfInBounds_toArray, List.set_cons_zero, List.set_cons_succ]
  refine takeD (i := 7) (v := undef) (some 61) rfl rfl (by kernel_rfl) (by kernel_rfl) (by kernel_rfl) (fun _ _ _ h => h) (Or.inr ⟨by rfl, rfl⟩) hS42 ?_
  simp only [Act.put, List.setIfInBounds_toArray, List.set_cons_zero, List.set_cons_succ]
  refine takeD (i := 8) (v := undef) (some 62) rfl rfl (by kernel_rfl) (by kernel_rfl) (by kernel_rfl) (fun _ _ _ h => h) (Or.inr ⟨by rfl, rfl⟩) hS42 ?_
  simp only [Act.put, List.setIfInBounds_toArray, List.set_cons_zero, List.set_cons_succ]
  refine takeD (i := 9) (v := undef) (some 63) rfl rfl (by kernel_rfl) (by kernel_rfl) (by kernel_rfl) (fun _ _ _ h => h) (Or.inr ⟨by rfl, rfl⟩) hS42 ?_
  simp only [Act.put, List.setIfInBounds_toArray, List.set_cons_zero, List.set_cons_succ]
  refine takeD (i := 10) (v := undef) (some 64) rfl rfl (by kernel_rfl) (by kernel_rfl) (by kernel_rfl) (fun _ _ _ h => h) (Or.inr ⟨by rfl, rfl⟩) hS42 ?_
  simp only [Act.put, List.setIfInBounds_toArray, List.set_cons_zero, List.set_cons_succ]
  refine takeD (i := 11) (v := .bool false) (some 65) rfl rfl (by kernel_rfl) (by kernel_rfl) (by kernel_rfl) (fun _ _ _ h => h) (Or.inl ⟨by rfl, by rintro w' -; go_simp⟩) hS42 ?_
  simp only [Act.put, List.setIfInBounds_toArray, List.set_cons_zero, List.set_cons_succ]
  refine takeD (i := 12) (v := .bool false) (some 53) rfl rfl (by kernel_rfl) (by kernel_rfl) (by kernel_rfl) (fun _ _ _ h => h) (Or.inl ⟨by rfl, by rintro w' -; go_simp⟩) hS42 ?_
  simp only [Act.put, List.setIfInBounds_toArray, List.set_cons_zero, List.set_cons_succ]
  refine wpAnyH_done (by kernel_rfl) ?_ _
  go_wp2_with fail
  refine wp_region_held (P := Try.prog) (S := (fun w' : World => At8 w' g 0 s0 ∧ At8 w' g 8 s1 ∧ At8 w' g (2 * 8) s2 ∧ At8 w' zb 0 z)) rfl ?_
  change wpAnyH _ _ _ _ _ _ _ _ wz33.drew
  have hz44 : Below wz33.heap.size wz33 wz33.drew := (Below.refl wz33.heap.size wz33).drew
  generalize wz33.drew = wz43 at hz44 ⊢
  have hq45 : Below wz33.heap.size wz33 wz43 := hz44
  have S_46 := Lib.hid (Bl.to S_36.out hq45)
  have A0_47 := Lib.hid (At8.to A0_37.out hq45)
  have A1_48 := Lib.hid (At8.to A1_38.out hq45)
  have A2_49 := Lib.hid (At8.to A2_39.out hq45)
  have AZ_50 := Lib.hid (At8.to AZ_40.out hq45)
  have HB_51 : Hid (Below w.heap.size w wz43) := Lib.hid (HB_41.out.trans (hq45.mono HB_41.out.size))
  clear hq45
  clear hz44
  have hS52 : (fun w' : World => At8 w' g 0 s0 ∧ At8 w' g 8 s1 ∧ At8 w' g (2 * 8) s2 ∧ At8 w' zb 0 z) wz43 := ⟨A0_47.out, A1_48.out, A2_49.out, AZ_50.out⟩
  refine takeD (i := 0) (v := .slice (some ⟨g, 0, none⟩) 3 3) (some 69) rfl rfl (by kernel_rfl) (by kernel_rfl) (by kernel_rfl) (fun _ _ _ h => h) (Or.inl ⟨by rfl, by rintro w' -; go_simp⟩) hS52 ?_
  simp only [Act.put, List.setIfInBounds_toArray, List.set_cons_zero, List.set_cons_succ]
  refine takeD (i := 1) (v := .pointer (some ⟨g, 0, none⟩)) (some 70) rfl rfl (by kernel_rfl) (by kernel_rfl) (by kernel_rfl) (fun _ _ _ h => h) (Or.inl ⟨by rfl, by rintro w' -; go_simp⟩) hS52 ?_
  simp only [Act.put, List.setIfInBounds_toArray, List.set_cons_zero, List.set_cons_succ]
  refine takeD (i := 2) (v := .agg (bcs s0)) (some 71) rfl rfl (by kernel_rfl) (by kernel_rfl) (by kernel_rfl) (fun _ _ _ h => h) (yieldsIf_load8 (by rfl) _ _ rfl _ _ rfl s0 _ (fun w' h => h.1) Try.underlying33 rfl (size8 b0.1)) hS52 ?_
  simp only [Act.put, List.setIfInBounds_toArray, List.set_cons_zero, List.set_cons_succ]
  refine takeD (i := 3) (v := .agg (bcs z)) (some 72) rfl rfl (by kernel_rfl) (by kernel_rfl) (by kernel_rfl) (fun _ _ _ h => h) (yieldsIf_load8 (by rfl) _ _ rfl _ _ rfl z _ (fun w' h => h.2.2.2) Try.underlying33 rfl (size8 z8.1)) hS52 ?_
  simp only [Act.put, List.setIfInBounds_toArray, List.set_cons_zero, List.set_cons_succ]
  refine takeD (i := 4) (v := .bool false) (some 73) rfl rfl (by kernel_rfl) (by kernel_rfl) (by kernel_rfl) (fun _ _ _ h => h) (Or.inl ⟨by rfl, by rintro w' -; go_simp⟩) hS52 ?_
  simp only [Act.put, List.setIfInBounds_toArray, List.set_cons_zero, List.set_cons_succ]
  refine takeD (i := 5) (v := .bool false) (some 74) rfl rfl (by kernel_rfl) (by kernel_rfl) (by kernel_rfl) (fun _ _ _ h => h) (Or.inl ⟨by rfl, by rintro w' -; go_simp⟩) hS52 ?_
  simp only [Act.put, List.setIfInBounds_toArray, List.set_cons_zero, List.set_cons_succ]
  refine takeD (i := 6) (v := undef) (some 75) rfl rfl (by kernel_rfl) (by kernel_rfl) (by kernel_rfl) (fun _ _ _ h => h) (Or.inr ⟨by rfl, rfl⟩) hS52 ?_
  simp only [Act.put, List.setIfInBounds_toArray, List.set_cons_zero, List.set_cons_succ]
  refine takeD (i := 7) (v := undef) (some 76) rfl rfl (by kernel_rfl) (by kernel_rfl) (by kernel_rfl) (fun _ _ _ h => h) (Or.inr ⟨by rfl, rfl⟩) hS52 ?_
  simp only [Act.put, List.setIfInBounds_toArray, List.set_cons_zero, List.set_cons_succ]
  refine takeD (i := 8) (v := undef) (some 77) rfl rfl (by kernel_rfl) (by kernel_rfl) (by kernel_rfl) (fun _ _ _ h => h) (Or.inr ⟨by rfl, rfl⟩) hS52 ?_
  simp only [Act.put, List.setIfInBounds_toArray, List.set_cons_zero, List.set_cons_succ]
  refine takeD (i := 9) (v := undef) (some 78) rfl rfl (by kernel_rfl) (by kernel_rfl) (by kernel_rfl) (fun _ _ _ h => h) (Or.inr ⟨by rfl, rfl⟩) hS52 ?_
  simp only [Act.put, List.setIfInBounds_toArray, List.set_cons_zero, List.set_cons_succ]
  refine takeD (i := 10) (v := undef) (some 79) rfl rfl (by kernel_rfl) (by kernel_rfl) (by kernel_rfl) (fun _ _ _ h => h) (Or.inr ⟨by rfl, rfl⟩) hS52 ?_
  simp only [Act.put, List.setIfInBounds_toArray, List.set_cons_zero, List.set_cons_succ]
  refine takeD (i := 11) (v := .bool false) (some 80) rfl rfl (by kernel_rfl) (by kernel_rfl) (by kernel_rfl) (fun _ _ _ h => h) (Or.inl ⟨by rfl, by rintro w' -; go_simp⟩) hS52 ?_
  simp only [Act.put, List.setIfInBounds_toArray, List.set_cons_zero, List.set_cons_succ]
  refine takeD (i := 12) (v := .bool false) (some 68) rfl rfl (by kernel_rfl) (by kernel_rfl) (by kernel_rfl) (fun _ _ _ h => h) (Or.inl ⟨by rfl, by rintro w' -; go_simp⟩) hS52 ?_
  simp only [Act.put, List.setIfInBounds_toArray, List.set_cons_zero, List.set_cons_succ]
  refine wpAnyH_done (by kernel_rfl) ?_ _
  go_wp2_with fail
  refine (locd_any _ s0 s1 s2 n _ S_46.out h1 h13).mono ?_
  rintro e w9 ⟨k, en, rfl, hk, hb⟩
  have K := Lib.hid (And.intro hk hb)
  clear hk hb
  go_wp2_with fail
  go_ret2
  refine ⟨k, en, rfl, ?_, HB_51.out.trans (K.out.2.mono HB_51.out.size)⟩
  rcases K.out.1 with ⟨rfl, h1, h2⟩ | ⟨rfl, rfl, h2⟩
  · exact LD.out k h1 h2
  · exact LL.out h2
set_option maxHeartbeats 4000000 in
set_option maxRecDepth 100000 in
theorem loc_fft (v : Value) (P : List (List Nat)) (w : World) (h : Bl w v P) (h4 : 4 ≤ P.length) (h16 : P.length ≤ 16) (e0 : synB P 0 ≠ zeroB.1) (e1 : synB P 1 ≠ zeroB.1) (e2 : synB P 2 = zeroB.1) : Calls Try.prog 27 #[v] w (locPost P w) := by
  have OK := Lib.hid h.ok
  obtain ⟨n, hn⟩ : ∃ n, P.length = n + 3 := ⟨P.length - 3, by omega⟩
  have PN : P.length - 3 = n := by omega
  have SY := Lib.hid (syn_ok v P w h h4 h16)
  obtain ⟨A, c, rfl⟩ := h.form
  obtain ⟨N, hN⟩ : ∃ N, P.length = N := ⟨_, rfl⟩
  have e3 : (N : Int) - 3 = (n : Int) := by omega
  have hnl : (n : Int) ≤ 13 := by omega
  have LD := Lib.hid fun i (hi : i < n) => loc_data OK.out h4 h16 (i := i) (j := 0) (by decide) e0 (by rw [PN]; exact hi)
  have LL : Hid ((∀ i, i < n → ¬ fitS (synB P 0) (synB P 1) (synB P 2) i) → locR P 0 12) := Lib.hid fun hf => loc_lost OK.out h4 h16 (fun h => e0 h.1) (fun h => e0 h.1) (fun h => e1 h.1) (by rw [PN]; exact hf)
  have S8 := Lib.hid fun j (hj : j < 3) => synB_ok OK.out (show 3 ≤ P.length by omega) hj
  unfold synL at SY
  obtain ⟨s0, q0⟩ : ∃ s, synB P 0 = s := ⟨_, rfl⟩
  obtain ⟨s1, q1⟩ : ∃ s, synB P 1 = s := ⟨_, rfl⟩
  obtain ⟨s2, q2⟩ : ∃ s, synB P 2 = s := ⟨_, rfl⟩
  have b0 := S8.out 0 (by decide)
  have b1 := S8.out 1 (by decide)
  have b2 := S8.out 2 (by decide)
  rw [q0] at SY b0 e0
  rw [q1] at SY b1 e1
  rw [q2] at SY b2 e2
  rw [q0, q1, q2] at LL LD
  have ZZ : Hid ((#[.int .u8 0, .int .u8 0, .int .u8 0, .int .u8 0, .int .u8 0, .int .u8 0, .int .u8 0, .int .u8 0] : Array Value) = bcs zeroB.1) := Lib.hid rfl
  obtain ⟨z, hz⟩ : ∃ z, zeroB.1 = z := ⟨_, rfl⟩
  have z8 : B8 z := hz ▸ zeroB.2
  rw [hz] at e0 e1 e2 ZZ
  have E0 := fun w' => eql8 s0 z b0 z8 w'
  have E1 := fun w' => eql8 s1 z b1 z8 w'
  have E2 := fun w' => eql8 s2 z b2 z8 w'
  rw [decide_eq_false e0] at E0
  rw [decide_eq_false e1] at E1
  rw [decide_eq_true e2] at E2
  have h13 : n ≤ 13 := by omega
  have h1 : 1 ≤ n := by omega
  rw [hN] at SY ⊢
  have LE : (N : Int) ≤ 16 := by omega
  clear h h4 h16 hn PN hN q0 q1 q2 S8 hz
  clear e0 e1 e2
  go_enter Try.func27, Try.ntmps27
  go_wp2_with fail
  refine (SY.out).mono ?_
  rintro e x2 ⟨g, rfl, hn3, hb1⟩
  have hq4 : Below w.heap.size w x2 := hb1
  have HB_5 : Hid (Below w.heap.size w x2) := Lib.hid (hq4)
  clear hq4
  have S_6 := Lib.hid hn3
  clear hb1 hn3
  have a0 := Bl.at8 S_6.out (i := 0) (by simp)
  have a1 := Bl.at8 S_6.out (i := 1) (by simp)
  have a2 := Bl.at8 S_6.out (i := 2) (by simp)
  rw [show [s0, s1, s2].getD 0 [] = s0 from rfl, Nat.zero_mul, Nat.zero_add] at a0
  rw [show [s0, s1, s2].getD 1 [] = s1 from rfl, Nat.one_mul, Nat.zero_add] at a1
  rw [show [s0, s1, s2].getD 2 [] = s2 from rfl, Nat.zero_add] at a2
  have A0 := Lib.hid a0
  have A1 := Lib.hid a1
  have A2 := Lib.hid a2
  clear a0 a1 a2
  go_wp2_with fail
  rw [ZZ.out]
  obtain ⟨W2, hW2⟩ : ∃ W2, x2.alloc (.cells (bcs z) 33) = W2 := ⟨_, rfl⟩
  have hq : Below x2.heap.size x2 W2 := by rw [← hW2]; exact (Below.refl _ _).alloc (Nat.le_refl _) _
  have rz := row_new x2 (bcs z) 33
  rw [hW2] at rz ⊢
  have AZ := Lib.hid rz.at8
  obtain ⟨zb, hzb⟩ : ∃ zb, x2.heap.size = zb := ⟨_, rfl⟩
  rw [hzb] at AZ ⊢
  clear rz hW2
  have hq7 : Below x2.heap.size x2 W2 := hq
  have S_8 := Lib.hid (Bl.to S_6.out hq7)
  have A0_9 := Lib.hid (At8.to A0.out hq7)
  have A1_10 := Lib.hid (At8.to A1.out hq7)
  have A2_11 := Lib.hid (At8.to A2.out hq7)
  have HB_12 : Hid (Below w.heap.size w W2) := Lib.hid (HB_5.out.trans (hq7.mono HB_5.out.size))
  clear hq7
  clear hq hzb
  refine wp_region_held (P := Try.prog) (S := (fun w' : World => At8 w' g 0 s0 ∧ At8 w' g 8 s1 ∧ At8 w' g (2 * 8) s2 ∧ At8 w' zb 0 z)) rfl ?_
  change wpAnyH _ _ _ _ _ _ _ _ W2.drew
  have hz14 : Below W2.heap.size W2 W2.drew := (Below.refl W2.heap.size W2).drew
  generalize W2.drew = wz13 at hz14 ⊢
  have hq15 : Below W2.heap.size W2 wz13 := hz14
  have S_16 := Lib.hid (Bl.to S_8.out hq15)
  have A0_17 := Lib.hid (At8.to A0_9.out hq15)
  have A1_18 := Lib.hid (At8.to A1_10.out hq15)
  have A2_19 := Lib.hid (At8.to A2_11.out hq15)
  have AZ_20 := Lib.hid (At8.to AZ.out hq15)
  have HB_21 : Hid (Below w.heap.size w wz13) := Lib.hid (HB_12.out.trans (hq15.mono HB_12.out.size))
  clear hq15
  clear hz14
  have hS22 : (fun w' : World => At8 w' g 0 s0 ∧ At8 w' g 8 s1 ∧ At8 w' g (2 * 8) s2 ∧ At8 w' zb 0 z) wz13 := ⟨A0_17.out, A1_18.out, A2_19.out, AZ_20.out⟩
  refine takeD (i := 0) (v := .slice (some ⟨g, 0, none⟩) 3 3) (some 20) rfl rfl (by kernel_rfl) (by kernel_rfl) (by kernel_rfl) (fun _ _ _ h => h) (Or.inl ⟨by rfl, by rintro w' -; go_simp⟩) hS22 ?_
  simp only [Act.put, List.setIfInBounds_toArray, List.set_cons_zero, List.set_cons_succ]
  refine takeD (i := 1) (v := .pointer (some ⟨g, 0, none⟩)) (some 21) rfl rfl (by kernel_rfl) (by kernel_rfl) (by kernel_rfl) (fun _ _ _ h => h) (Or.inl ⟨by rfl, by rintro w' -; go_simp⟩) hS22 ?_
  simp only [Act.put, List.setIfInBounds_toArray, List.set_cons_zero, List.set_cons_succ]
  refine takeD (i := 2) (v := .agg (bcs s0)) (some 22) rfl rfl (by kernel_rfl) (by kernel_rfl) (by kernel_rfl) (fun _ _ _ h => h) (yieldsIf_load8 (by rfl) _ _ rfl _ _ rfl s0 _ (fun w' h => h.1) Try.underlying33 rfl (size8 b0.1)) hS22 ?_
  simp only [Act.put, List.setIfInBounds_toArray, List.set_cons_zero, List.set_cons_succ]
  refine takeD (i := 3) (v := .agg (bcs z)) (some 23) rfl rfl (by kernel_rfl) (by kernel_rfl) (by kernel_rfl) (fun _ _ _ h => h) (yieldsIf_load8 (by rfl) _ _ rfl _ _ rfl z _ (fun w' h => h.2.2.2) Try.underlying33 rfl (size8 z8.1)) hS22 ?_
  simp only [Act.put, List.setIfInBounds_toArray, List.set_cons_zero, List.set_cons_succ]
  refine takeD (i := 4) (v := .bool false) (some 24) rfl rfl (by kernel_rfl) (by kernel_rfl) (by kernel_rfl) (fun _ _ _ h => h) (Or.inl ⟨by rfl, by rintro w' -; go_simp⟩) hS22 ?_
  simp only [Act.put, List.setIfInBounds_toArray, List.set_cons_zero, List.set_cons_succ]
  refine takeD (i := 5) (v := .bool false) (some 25) rfl rfl (by kernel_rfl) (by kernel_rfl) (by kernel_rfl) (fun _ _ _ h => h) (Or.inl ⟨by rfl, by rintro w' -; go_simp⟩) hS22 ?_
  simp only [Act.put, List.setIfInBounds_toArray, List.set_cons_zero, List.set_cons_succ]
  refine takeD (i := 6) (v := undef) (some 26) rfl rfl (by kernel_rfl) (by kernel_rfl) (by kernel_rfl) (fun _ _ _ h => h) (Or.inr ⟨by rfl, rfl⟩) hS22 ?_
  simp only [Act.put, List.setIfInBounds_toArray, List.set_cons_zero, List.set_cons_succ]
  refine takeD (i := 7) (v := undef) (some 27) rfl rfl (by kernel_rfl) (by kernel_rfl) (by kernel_rfl) (fun _ _ _ h => h) (Or.inr ⟨by rfl, rfl⟩) hS22 ?_
  simp only [Act.put, List.setIfInBounds_toArray, List.set_cons_zero, List.set_cons_succ]
  refine takeD (i := 8) (v := undef) (some 28) rfl rfl (by kernel_rfl) (by kernel_rfl) (by kernel_rfl) (fun _ _ _ h => h) (Or.inr ⟨by rfl, rfl⟩) hS22 ?_
  simp only [Act.put, List.setIfInBounds_toArray, List.set_cons_zero, List.set_cons_succ]
  refine takeD (i := 9) (v := undef) (some 29) rfl rfl (by kernel_rfl) (by kernel_rfl) (by kernel_rfl) (fun _ _ _ h => h) (Or.inr ⟨by rfl, rfl⟩) hS22 ?_
  simp only [Act.put, List.setIfInBounds_toArray, List.set_cons_zero, List.set_cons_succ]
  refine takeD (i := 10) (v := undef) (some 30) rfl rfl (by kernel_rfl) (by kernel_rfl) (by kernel_rfl) (fun _ _ _ h => h) (Or.inr ⟨by rfl, rfl⟩) hS22 ?_
  simp only [Act.put, List.setIfInBounds_toArray, List.set_cons_zero, List.set_cons_succ]
  refine takeD (i := 11) (v := .bool false) (some 31) rfl rfl (by kernel_rfl) (by kernel_rfl) (by kernel_rfl) (fun _ _ _ h => h) (Or.inl ⟨by rfl, by rintro w' -; go_simp⟩) hS22 ?_
  simp only [Act.put, List.setIfInBounds_toArray, List.set_cons_zero, List.set_cons_succ]
  refine takeD (i := 12) (v := .bool false) (some 32) rfl rfl (by kernel_rfl) (by kernel_rfl) (by kernel_rfl) (fun _ _ _ h => h) (Or.inl ⟨by rfl, by rintro w' -; go_simp⟩) hS22 ?_
  simp only [Act.put, List.setIfInBounds_toArray, List.set_cons_zero, List.set_cons_succ]
  refine takeD (i := 13) (v := undef) (some 33) rfl rfl (by kernel_rfl) (by kernel_rfl) (by kernel_rfl) (fun _ _ _ h => h) (Or.inr ⟨by rfl, rfl⟩) hS22 ?_
  simp only [Act.put, List.setIfInBounds_toArray, List.set_cons_zero, List.set_cons_succ]
  refine takeD (i := 14) (v := undef) (some 34) rfl rfl (by kernel_rfl) (by kernel_rfl) (by kernel_rfl) (fun _ _ _ h => h) (Or.inr ⟨by rfl, rfl⟩) hS22 ?_
  simp only [Act.put, List.setIfInBounds_toArray, List.set_cons_zero, List.set_cons_succ]
  refine takeD (i := 15) (v := undef) (some 35) rfl rfl (by kernel_rfl) (by kernel_rfl) (by kernel_rfl) (fun _ _ _ h => h) (Or.inr ⟨by rfl, rfl⟩) hS22 ?_
  simp only [Act.put, List.setIfInBounds_toArray, List.set_cons_zero, List.set_cons_succ]
  refine takeD (i := 16) (v := undef) (some 36) rfl rfl (by kernel_rfl) (by kernel_rfl) (by kernel_rfl) (fun _ _ _ h => h) (Or.inr ⟨by rfl, rfl⟩) hS22 ?_
  simp only [Act.put, List.setIfInBounds_toArray, List.set_cons_zero, List.set_cons_succ]
  refine takeD (i := 17) (v := undef) (some 37) rfl rfl (by kernel_rfl) (by kernel_rfl) (by kernel_rfl) (fun _ _ _ h => h) (Or.inr ⟨by rfl, rfl⟩) hS22 ?_
  simp only [Act.put, List.setIfInBounds_toArray, List.set_cons_zero, List.set_cons_succ]
  refine takeD (i := 18) (v := .bool false) (some 38) rfl rfl (by kernel_rfl) (by kernel_rfl) (by kernel_rfl) (fun _ _ _ h => h) (Or.inl ⟨by rfl, by rintro w' -; go_simp⟩) hS22 ?_
  simp only [Act.put, List.setIfInBounds_toArray, List.set_cons_zero, List.set_cons_succ]
  refine takeD (i := 19) (v := .bool false) (some 19) rfl rfl (by kernel_rfl) (by kernel_rfl) (by kernel_rfl) (fun _ _ _ h => h) (Or.inl ⟨by rfl, by rintro w' -; go_simp⟩) hS22 ?_
  simp only [Act.put, List.setIfInBounds_toArray, List.set_cons_zero, List.set_cons_succ]
  refine wpAnyH_done (by kernel_rfl) ?_ _
  go_wp2_with fail
  refine wp_region_held (P := Try.prog) (S := (fun w' : World => At8 w' g 0 s0 ∧ At8 w' g 8 s1 ∧ At8 w' g (2 * 8) s2 ∧ At8 w' zb 0 z)) rfl ?_
  change wpAnyH _ _ _ _ _ _ _ _ wz13.drew
  have hz24 : Below wz13.heap.size wz13 wz13.drew := (Below.refl wz13.heap.size wz13).drew
  generalize wz13.drew = wz23 at hz24 ⊢
  have hq25 : Below wz13.heap.size wz13 wz23 := hz24
  have S_26 := Lib.hid (Bl.to S_16.out hq25)
  have A0_27 := Lib.hid (At8.to A0_17.out hq25)
  have A1_28 := Lib.hid (At8.to A1_18.out hq25)
  have A2_29 := Lib.hid (At8.to A2_19.out hq25)
  have AZ_30 := Lib.hid (At8.to AZ_20.out hq25)
  have HB_31 : Hid (Below w.heap.size w wz23) := Lib.hid (HB_21.out.trans (hq25.mono HB_21.out.size))
  clear hq25
  clear hz24
  have hS32 : (fun w' : World => At8 w' g 0 s0 ∧ At8 w' g 8 s1 ∧ At8 w' g (2 * 8) s2 ∧ At8 w' zb 0 z) wz23 := ⟨A0_27.out, A1_28.out, A2_29.out, AZ_30.out⟩
  refine takeD (i := 0) (v := .slice (some ⟨g, 0, none⟩) 3 3) (some 40) rfl rfl (by kernel_rfl) (by kernel_rfl) (by kernel_rfl) (fun _ _ _ h => h) (Or.inl ⟨by rfl, by rintro w' -; go_simp⟩) hS32 ?_
  simp only [Act.put, List.setIfInBounds_toArray, List.set_cons_zero, List.set_cons_succ]
  refine takeD (i := 1) (v := .pointer (some ⟨g, 8, none⟩)) (some 41) rfl rfl (by kernel_rfl) (by kernel_rfl) (by kernel_rfl) (fun _ _ _ h => h) (Or.inl ⟨by rfl, by rintro w' -; go_simp⟩) hS32 ?_
  simp only [Act.put, List.setIfInBounds_toArray, List.set_cons_zero, List.set_cons_succ]
  refine takeD (i := 2) (v := .agg (bcs s1)) (some 42) rfl rfl (by kernel_rfl) (by kernel_rfl) (by kernel_rfl) (fun _ _ _ h => h) (yieldsIf_load8 (by rfl) _ _ rfl _ _ rfl s1 _ (fun w' h => h.2.1) Try.underlying33 rfl (size8 b1.1)) hS32 ?_
  simp only [Act.put, List.setIfInBounds_toArray, List.set_cons_zero, List.set_cons_succ]
  refine takeD (i := 3) (v := .agg (bcs z)) (some 43) rfl rfl (by kernel_rfl) (by kernel_rfl) (by kernel_rfl) (fun _ _ _ h => h) (yieldsIf_load8 (by rfl) _ _ rfl _ _ rfl z _ (fun w' h => h.2.2.2) Try.underlying33 rfl (size8 z8.1)) hS32 ?_
  simp only [Act.put, List.setIfInBounds_toArray, List.set_cons_zero, List.set_cons_succ]
  refine takeD (i := 4) (v := .bool false) (some 44) rfl rfl (by kernel_rfl) (by kernel_rfl) (by kernel_rfl) (fun _ _ _ h => h) (Or.inl ⟨by rfl, by rintro w' -; go_simp⟩) hS32 ?_
  simp only [Act.put, List.setIfInBounds_toArray, List.set_cons_zero, List.set_cons_succ]
  refine takeD (i := 5) (v := .bool false) (some 45) rfl rfl (by kernel_rfl) (by kernel_rfl) (by kernel_rfl) (fun _ _ _ h => h) (Or.inl ⟨by rfl, by rintro w' -; go_simp⟩) hS32 ?_
  simp only [Act.put, List.setIfInBounds_toArray, List.set_cons_zero, List.set_cons_succ]
  refine takeD (i := 6) (v := undef) (some 46) rfl rfl (by kernel_rfl) (by kernel_rfl) (by kernel_rfl) (fun _ _ _ h => h) (Or.inr ⟨by rfl, rfl⟩) hS32 ?_
  simp only [Act.put, List.setIfInBounds_toArray, List.set_cons_zero, List.set_cons_succ]
  refine takeD (i := 7) (v := undef) (some 47) rfl rfl (by kernel_rfl) (by kernel_rfl) (by kernel_rfl) (fun _ _ _ h => h) (Or.inr ⟨by rfl, rfl⟩) hS32 ?_
  simp only [Act.put, List.setIfInBounds_toArray, List.set_cons_zero, List.set_cons_succ]
  refine takeD (i := 8) (v := undef) (some 48) rfl rfl (by kernel_rfl) (by kernel_rfl) (by kernel_rfl) (fun _ _ _ h => h) (Or.inr ⟨by rfl, rfl⟩) hS32 ?_
  simp only [Act.put, List.setIfInBounds_toArray, List.set_cons_zero, List.set_cons_succ]
  refine takeD (i := 9) (v := undef) (some 49) rfl rfl (by kernel_rfl) (by kernel_rfl) (by kernel_rfl) (fun _ _ _ h => h) (Or.inr ⟨by rfl, rfl⟩) hS32 ?_
  simp only [Act.put, List.setIfInBounds_toArray, List.set_cons_zero, List.set_cons_succ]
  refine takeD (i := 10) (v := undef) (some 50) rfl rfl (by kernel_rfl) (by kernel_rfl) (by kernel_rfl) (fun _ _ _ h => h) (Or.inr ⟨by rfl, rfl⟩) hS32 ?_
  simp only [Act.put, List.setIfInBounds_toArray, List.set_cons_zero, List.set_cons_succ]
  refine takeD (i := 11) (v := .bool false) (some 51) rfl rfl (by kernel_rfl) (by kernel_rfl) (by kernel_rfl) (fun _ _ _ h => h) (Or.inl ⟨by rfl, by rintro w' -; go_simp⟩) hS32 ?_
  simp only [Act.put, List.setIfInBounds_toArray, List.set_cons_zero, List.set_cons_succ]
  refine takeD (i := 12) (v := .bool false) (some 39) rfl rfl (by kernel_rfl) (by kernel_rfl) (by kernel_rfl) (fun _ _ _ h => h) (Or.inl ⟨by rfl, by rintro w' -; go_simp⟩) hS32 ?_
  simp only [Act.put, List.setIfInBounds_toArray, List.set_cons_zero, List.set_cons_succ]
  refine wpAnyH_done (by kernel_rfl) ?_ _
  go_wp2_with fail
  refine wp_region_held (P := Try.prog) (S := (fun w' : World => At8 w' g 0 s0 ∧ At8 w' g 8 s1 ∧ At8 w' g (2 * 8) s2 ∧ At8 w' zb 0 z)) rfl ?_
  change wpAnyH _ _ _ _ _ _ _ _ wz23.drew
  have hz34 : Below wz23.heap.size wz23 wz23.drew := (Below.refl wz23.heap.size wz23).drew
  generalize wz23.drew = wz33 at hz34 ⊢
  have hq35 : Below wz23.heap.size wz23 wz33 := hz34
  have S_36 := Lib.hid (Bl.to S_26.out hq35)
  have A0_37 := Lib.hid (At8.to A0_27.out hq35)
  have A1_38 := Lib.hid (At8.to A1_28.out hq35)
  have A2_39 := Lib.hid (At8.to A2_29.out hq35)
  have AZ_40 := Lib.hid (At8.to AZ_30.out hq35)
  have HB_41 : Hid (Below w.heap.size w wz33) := Lib.hid (HB_31.out.trans (hq35.mono HB_31.out.size))
  clear hq35
  clear hz34
  have hS42 : (fun w' : World => At8 w' g 0 s0 ∧ At8 w' g 8 s1 ∧ At8 w' g (2 * 8) s2 ∧ At8 w' zb 0 z) wz33 := ⟨A0_37.out, A1_38.out, A2_39.out, AZ_40.out⟩
  refine takeD (i := 0) (v := .slice (some ⟨g, 0, none⟩) 3 3) (some 54) rfl rfl (by kernel_rfl) (by kernel_rfl) (by kernel_rfl) (fun _ _ _ h => h) (Or.inl ⟨by rfl, by rintro w' -; go_simp⟩) hS42 ?_
  simp only [Act.put, List.setIfInBounds_toArray, List.set_cons_zero, List.set_cons_succ]
  refine takeD (i := 1) (v := .pointer (some ⟨g, 0, none⟩)) (some 55) rfl rfl (by kernel_rfl) (by kernel_rfl) (by kernel_rfl) (fun _ _ _ h => h) (Or.inl ⟨by rfl, by rintro w' -; go_simp⟩) hS42 ?_
  simp only [Act.put, List.setIfInBounds_toArray, List.set_cons_zero, List.set_cons_succ]
  refine takeD (i := 2) (v := .agg (bcs s0)) (some 56) rfl rfl (by kernel_rfl) (by kernel_rfl) (by kernel_rfl) (fun _ _ _ h => h) (yieldsIf_load8 (by rfl) _ _ rfl _ _ rfl s0 _ (fun w' h => h.1) Try.underlying33 rfl (size8 b0.1)) hS42 ?_
  simp only [Act.put, List.setIfInBounds_toArray, List.set_cons_zero, List.set_cons_succ]
  refine takeD (i := 3) (v := .agg (bcs z)) (some 57) rfl rfl (by kernel_rfl) (by kernel_rfl) (by kernel_rfl) (fun _ _ _ h => h) (yieldsIf_load8 (by rfl) _ _ rfl _ _ rfl z _ (fun w' h => h.2.2.2) Try.underlying33 rfl (size8 z8.1)) hS42 ?_
  simp only [Act.put, List.setIfInBounds_toArray, List.set_cons_zero, List.set_cons_succ]
  refine takeD (i := 4) (v := .bool false) (some 58) rfl rfl (by kernel_rfl) (by kernel_rfl) (by kernel_rfl) (fun _ _ _ h => h) (Or.inl ⟨by rfl, by rintro w' -; go_simp⟩) hS42 ?_
  simp only [Act.put, List.setIfInBounds_toArray, List.set_cons_zero, List.set_cons_succ]
  refine takeD (i := 5) (v := .bool false) (some 59) rfl rfl (by kernel_rfl) (by kernel_rfl) (by kernel_rfl) (fun _ _ _ h => h) (Or.inl ⟨by rfl, by rintro w' -; go_simp⟩) hS42 ?_
  simp only [Act.put, List.setIfInBounds_toArray, List.set_cons_zero, List.set_cons_succ]
  refine takeD (i := 6) (v := undef) (some 60) rfl rfl (by kernel_rfl) (by kernel_rfl) (by kernel_rfl) (fun _ _ _ h => h) (Or.inr ⟨by rfl, rfl⟩) hS42 ?_
  simp only [Act.put, List.setIfInBounds_toArray, List.set_cons_zero, List.set_cons_succ]
  refine takeD (i := 7) (v := undef) (some 61) rfl rfl (by kernel_rfl) (by kernel_rfl) (by kernel_rfl) (fun _ _ _ h => h) (Or.inr ⟨by rfl, rfl⟩) hS42 ?_
  simp only [Act.put, List.setIfInBounds_toArray, List.set_cons_zero, List.set_cons_succ]
  refine takeD (i := 8) (v := undef) (some 62) rfl rfl (by kernel_rfl) (by kernel_rfl) (by kernel_rfl) (fun _ _ _ h => h) (Or.inr ⟨by rfl, rfl⟩) hS42 ?_
  simp only [Act.put, List.setIfInBounds_toArray, List.set_cons_zero, List.set_cons_succ]
  refine takeD (i := 9) (v := undef) (some 63) rfl rfl (by kernel_rfl) (by kernel_rfl) (by kernel_rfl) (fun _ _ _ h => h) (Or.inr ⟨by rfl, rfl⟩) hS42 ?_
  simp only [Act.put, List.setIfInBounds_toArray, List.set_cons_zero, List.set_cons_succ]
  refine takeD (i := 10) (v := undef) (some 64) rfl rfl (by kernel_rfl) (by kernel_rfl) (by kernel_rfl) (fun _ _ _ h => h) (Or.inr ⟨by rfl, rfl⟩) hS42 ?_
  simp only [Act.put, List.setIfInBounds_toArray, List.set_cons_zero, List.set_cons_succ]
  refine takeD (i := 11) (v := .bool false) (some 65) rfl rfl (by kernel_rfl) (by kernel_rfl) (by kernel_rfl) (fun _ _ _ h => h) (Or.inl ⟨by rfl, by rintro w' -; go_simp⟩) hS42 ?_
  simp only [Act.put, List.setIfInBounds_toArray, List.set_cons_zero, List.set_cons_succ]
  refine takeD (i := 12) (v := .bool false) (some 53) rfl rfl (by kernel_rfl) (by kernel_rfl) (by kernel_rfl) (fun _ _ _ h => h) (Or.inl ⟨by rfl, by rintro w' -; go_simp⟩) hS42 ?_
  simp only [Act.put, List.setIfInBounds_toArray, List.set_cons_zero, List.set_cons_succ]
  refine wpAnyH_done (by kernel_rfl) ?_ _
  go_wp2_with fail
  refine wp_region_held (P := Try.prog) (S := (fun w' : World => At8 w' g 0 s0 ∧ At8 w' g 8 s1 ∧ At8 w' g (2 * 8) s2 ∧ At8 w' zb 0 z)) rfl ?_
  change wpAnyH _ _ _ _ _ _ _ _ wz33.drew
  have hz44 : Below wz33.heap.size wz33 wz33.drew := (Below.refl wz33.heap.size wz33).drew
  generalize wz33.drew = wz43 at hz44 ⊢
  have hq45 : Below wz33.heap.size wz33 wz43 := hz44
  have S_46 := Lib.hid (Bl.to S_36.out hq45)
  have A0_47 := Lib.hid (At8.to A0_37.out hq45)
  have A1_48 := Lib.hid (At8.to A1_38.out hq45)
  have A2_49 := Lib.hid (At8.to A2_39.out hq45)
  have AZ_50 := Lib.hid (At8.to AZ_40.out hq45)
  have HB_51 : Hid (Below w.heap.size w wz43) := Lib.hid (HB_41.out.trans (hq45.mono HB_41.out.size))
  clear hq45
  clear hz44
  have hS52 : (fun w' : World => At8 w' g 0 s0 ∧ At8 w' g 8 s1 ∧ At8 w' g (2 * 8) s2 ∧ At8 w' zb 0 z) wz43 := ⟨A0_47.out, A1_48.out, A2_49.out, AZ_50.out⟩
  refine takeD (i := 0) (v := .slice (some ⟨g, 0, none⟩) 3 3) (some 69) rfl rfl (by kernel_rfl) (by kernel_rfl) (by kernel_rfl) (fun _ _ _ h => h) (Or.inl ⟨by rfl, by rintro w' -; go_simp⟩) hS52 ?_
  simp only [Act.put, List.setIfInBounds_toArray, List.set_cons_zero, List.set_cons_succ]
  refine takeD (i := 1) (v := .pointer (some ⟨g, 0, none⟩)) (some 70) rfl rfl (by kernel_rfl) (by kernel_rfl) (by kernel_rfl) (fun _ _ _ h => h) (Or.inl ⟨by rfl, by rintro w' -; go_simp⟩) hS52 ?_
  simp only [Act.put, List.setIfInBounds_toArray, List.set_cons_zero, List.set_cons_succ]
  refine takeD (i := 2) (v := .agg (bcs s0)) (some 71) rfl rfl (by kernel_rfl) (by kernel_rfl) (by kernel_rfl) (fun _ _ _ h => h) (yieldsIf_load8 (by rfl) _ _ rfl _ _ rfl s0 _ (fun w' h => h.1) Try.underlying33 rfl (size8 b0.1)) hS52 ?_
  simp only [Act.put, List.setIfInBounds_toArray, List.set_cons_zero, List.set_cons_succ]
  refine takeD (i := 3) (v := .agg (bcs z)) (some 72) rfl rfl (by kernel_rfl) (by kernel_rfl) (by kernel_rfl) (fun _ _ _ h => h) (yieldsIf_load8 (by rfl) _ _ rfl _ _ rfl z _ (fun w' h => h.2.2.2) Try.underlying33 rfl (size8 z8.1)) hS52 ?_
  simp only [Act.put, List.setIfInBounds_toArray, List.set_cons_zero, List.set_cons_succ]
  refine takeD (i := 4) (v := .bool false) (some 73) rfl rfl (by kernel_rfl) (by kernel_rfl) (by kernel_rfl) (fun _ _ _ h => h) (Or.inl ⟨by rfl, by rintro w' -; go_simp⟩) hS52 ?_
  simp only [Act.put, List.setIfInBounds_toArray, List.set_cons_zero, List.set_cons_succ]
  refine takeD (i := 5) (v := .bool false) (some 74) rfl rfl (by kernel_rfl) (by kernel_rfl) (by kernel_rfl) (fun _ _ _ h => h) (Or.inl ⟨by rfl, by rintro w' -; go_simp⟩) hS52 ?_
  simp only [Act.put, List.setIfInBounds_toArray, List.set_cons_zero, List.set_cons_succ]
  refine takeD (i := 6) (v := undef) (some 75) rfl rfl (by kernel_rfl) (by kernel_rfl) (by kernel_rfl) (fun _ _ _ h => h) (Or.inr ⟨by rfl, rfl⟩) hS52 ?_
  simp only [Act.put, List.setIfInBounds_toArray, List.set_cons_zero, List.set_cons_succ]
  refine takeD (i := 7) (v := undef) (some 76) rfl rfl (by kernel_rfl) (by kernel_rfl) (by kernel_rfl) (fun _ _ _ h => h) (Or.inr ⟨by rfl, rfl⟩) hS52 ?_
  simp only [Act.put, List.setIfInBounds_toArray, List.set_cons_zero, List.set_cons_succ]
  refine takeD (i := 8) (v := undef) (some 77) rfl rfl (by kernel_rfl) (by kernel_rfl) (by kernel_rfl) (fun _ _ _ h => h) (Or.inr ⟨by rfl, rfl⟩) hS52 ?_
  simp only [Act.put, List.setIfInBounds_toArray, List.set_cons_zero, List.set_cons_succ]
  refine takeD (i := 9) (v := undef) (some 78) rfl rfl (by kernel_rfl) (by kernel_rfl) (by kernel_rfl) (fun _ _ _ h => h) (Or.inr ⟨by rfl, rfl⟩) hS52 ?_
  simp only [Act.put, List.setIfInBounds_toArray, List.set_cons_zero, List.set_cons_succ]
  refine takeD (i := 10) (v := undef) (some 79) rfl rfl (by kernel_rfl) (by kernel_rfl) (by kernel_rfl) (fun _ _ _ h => h) (Or.inr ⟨by rfl, rfl⟩) hS52 ?_
  simp only [Act.put, List.setIfInBounds_toArray, List.set_cons_zero, List.set_cons_succ]
  refine takeD (i := 11) (v := .bool false) (some 80) rfl rfl (by kernel_rfl) (by kernel_rfl) (by kernel_rfl) (fun _ _ _ h => h) (Or.inl ⟨by rfl, by rintro w' -; go_simp⟩) hS52 ?_
  simp only [Act.put, List.setIfInBounds_toArray, List.set_cons_zero, List.set_cons_succ]
  refine takeD (i := 12) (v := .bool false) (some 68) rfl rfl (by kernel_rfl) (by kernel_rfl) (by kernel_rfl) (fun _ _ _ h => h) (Or.inl ⟨by rfl, by rintro w' -; go_simp⟩) hS52 ?_
  simp only [Act.put, List.setIfInBounds_toArray, List.set_cons_zero, List.set_cons_succ]
  refine wpAnyH_done (by kernel_rfl) ?_ _
  go_wp2_with fail
  refine (locd_any _ s0 s1 s2 n _ S_46.out h1 h13).mono ?_
  rintro e w9 ⟨k, en, rfl, hk, hb⟩
  have K := Lib.hid (And.intro hk hb)
  clear hk hb
  go_wp2_with fail
  go_ret2
  refine ⟨k, en, rfl, ?_, HB_51.out.trans (K.out.2.mono HB_51.out.size)⟩
  rcases K.out.1 with ⟨rfl, h1, h2⟩ | ⟨rfl, rfl, h2⟩
  · exact LD.out k h1 h2
  · exact LL.out h2
set_option maxHeartbeats 4000000 in
set_option maxRecDepth 100000 in
theorem loc_fff (v : Value) (P : List (List Nat)) (w : World) (h : Bl w v P) (h4 : 4 ≤ P.length) (h16 : P.length ≤ 16) (e0 : synB P 0 ≠ zeroB.1) (e1 : synB P 1 ≠ zeroB.1) (e2 : synB P 2 ≠ zeroB.1) : Calls Try.prog 27 #[v] w (locPost P w) := by
  have OK := Lib.hid h.ok
  obtain ⟨n, hn⟩ : ∃ n, P.length = n + 3 := ⟨P.length - 3, by omega⟩
  have PN : P.length - 3 = n := by omega
  have SY := Lib.hid (syn_ok v P w h h4 h16)
  obtain ⟨A, c, rfl⟩ := h.form
  obtain ⟨N, hN⟩ : ∃ N, P.length = N := ⟨_, rfl⟩
  have e3 : (N : Int) - 3 = (n : Int) := by omega
  have hnl : (n : Int) ≤ 13 := by omega
  have LD := Lib.hid fun i (hi : i < n) => loc_data OK.out h4 h16 (i := i) (j := 0) (by decide) e0 (by rw [PN]; exact hi)
  have LL : Hid ((∀ i, i < n → ¬ fitS (synB P 0) (synB P 1) (synB P 2) i) → locR P 0 12) := Lib.hid fun hf => loc_lost OK.out h4 h16 (fun h => e0 h.1) (fun h => e0 h.1) (fun h => e1 h.1) (by rw [PN]; exact hf)
  have S8 := Lib.hid fun j (hj : j < 3) => synB_ok OK.out (show 3 ≤ P.length by omega) hj
  unfold synL at SY
  obtain ⟨s0, q0⟩ : ∃ s, synB P 0 = s := ⟨_, rfl⟩
  obtain ⟨s1, q1⟩ : ∃ s, synB P 1 = s := ⟨_, rfl⟩
  obtain ⟨s2, q2⟩ : ∃ s, synB P 2 = s := ⟨_, rfl⟩
  have b0 := S8.out 0 (by decide)
  have b1 := S8.out 1 (by decide)
  have b2 := S8.out 2 (by decide)
  rw [q0] at SY b0 e0
  rw [q1] at SY b1 e1
  rw [q2] at SY b2 e2
  rw [q0, q1, q2] at LL LD
  have ZZ : Hid ((#[.int .u8 0, .int .u8 0, .int .u8 0, .int .u8 0, .int .u8 0, .int .u8 0, .int .u8 0, .int .u8 0] : Array Value) = bcs zeroB.1) := Lib.hid rfl
  obtain ⟨z, hz⟩ : ∃ z, zeroB.1 = z := ⟨_, rfl⟩
  have z8 : B8 z := hz ▸ zeroB.2
  rw [hz] at e0 e1 e2 ZZ
  have E0 := fun w' => eql8 s0 z b0 z8 w'
  have E1 := fun w' => eql8 s1 z b1 z8 w'
  have E2 := fun w' => eql8 s2 z b2 z8 w'
  rw [decide_eq_false e0] at E0
  rw [decide_eq_false e1] at E1
  rw [decide_eq_false e2] at E2
  have h13 : n ≤ 13 := by omega
  have h1 : 1 ≤ n := by omega
  rw [hN] at SY ⊢
  have LE : (N : Int) ≤ 16 := by omega
  clear h h4 h16 hn PN hN q0 q1 q2 S8 hz
  clear e0 e1 e2
  go_enter Try.func27, Try.ntmps27
  go_wp2_with fail
  refine (SY.out).mono ?_
  rintro e x2 ⟨g, rfl, hn3, hb1⟩
  have hq4 : Below w.heap.size w x2 := hb1
  have HB_5 : Hid (Below w.heap.size w x2) := Lib.hid (hq4)
  clear hq4
  have S_6 := Lib.hid hn3
  clear hb1 hn3
  have a0 := Bl.at8 S_6.out (i := 0) (by simp)
  have a1 := Bl.at8 S_6.out (i := 1) (by simp)
  have a2 := Bl.at8 S_6.out (i := 2) (by simp)
  rw [show [s0, s1, s2].getD 0 [] = s0 from rfl, Nat.zero_mul, Nat.zero_add] at a0
  rw [show [s0, s1, s2].getD 1 [] = s1 from rfl, Nat.one_mul, Nat.zero_add] at a1
  rw [show [s0, s1, s2].getD 2 [] = s2 from rfl, Nat.zero_add] at a2
  have A0 := Lib.hid a0
  have A1 := Lib.hid a1
  have A2 := Lib.hid a2
  clear a0 a1 a2
  go_wp2_with fail
  rw [ZZ.out]
  obtain ⟨W2, hW2⟩ : ∃ W2, x2.alloc (.cells (bcs z) 33) = W2 := ⟨_, rfl⟩
  have hq : Below x2.heap.size x2 W2 := by rw [← hW2]; exact (Below.refl _ _).alloc (Nat.le_refl _) _
  have rz := row_new x2 (bcs z) 33
  rw [hW2] at rz ⊢
  have AZ := Lib.hid rz.at8
  obtain ⟨zb, hzb⟩ : ∃ zb, x2.heap.size = zb := ⟨_, rfl⟩
  rw [hzb] at AZ ⊢
  clear rz hW2
  have hq7 : Below x2.heap.size x2 W2 := hq
  have S_8 := Lib.hid (Bl.to S_6.out hq7)
  have A0_9 := Lib.hid (At8.to A0.out hq7)
  have A1_10 := Lib.hid (At8.to A1.out hq7)
  have A2_11 := Lib.hid (At8.to A2.out hq7)
  have HB_12 : Hid (Below w.heap.size w W2) := Lib.hid (HB_5.out.trans (hq7.mono HB_5.out.size))
  clear hq7
  clear hq hzb
  refine wp_region_held (P := Try.prog) (S := (fun w' : World => At8 w' g 0 s0 ∧ At8 w' g 8 s1 ∧ At8 w' g (2 * 8) s2 ∧ At8 w' zb 0 z)) rfl ?_
  change wpAnyH _ _ _ _ _ _ _ _ W2.drew
  have hz14 : Below W2.heap.size W2 W2.drew := (Below.refl W2.heap.size W2).drew
  generalize W2.drew = wz13 at hz14 ⊢
  have hq15 : Below W2.heap.size W2 wz13 := hz14
  have S_16 := Lib.hid (Bl.to S_8.out hq15)
  have A0_17 := Lib.hid (At8.to A0_9.out hq15)
  have A1_18 := Lib.hid (At8.to A1_10.out hq15)
  have A2_19 := Lib.hid (At8.to A2_11.out hq15)
  have AZ_20 := Lib.hid (At8.to AZ.out hq15)
  have HB_21 : Hid (Below w.heap.size w wz13) := Lib.hid (HB_12.out.trans (hq15.mono HB_12.out.size))
  clear hq15
  clear hz14
  have hS22 : (fun w' : World => At8 w' g 0 s0 ∧ At8 w' g 8 s1 ∧ At8 w' g (2 * 8) s2 ∧ At8 w' zb 0 z) wz13 := ⟨A0_17.out, A1_18.out, A2_19.out, AZ_20.out⟩
  refine takeD (i := 0) (v := .slice (some ⟨g, 0, none⟩) 3 3) (some 20) rfl rfl (by kernel_rfl) (by kernel_rfl) (by kernel_rfl) (fun _ _ _ h => h) (Or.inl ⟨by rfl, by rintro w' -; go_simp⟩) hS22 ?_
  simp only [Act.put, List.setIfInBounds_toArray, List.set_cons_zero, List.set_cons_succ]
  refine takeD (i := 1) (v := .pointer (some ⟨g, 0, none⟩)) (some 21) rfl rfl (by kernel_rfl) (by kernel_rfl) (by kernel_rfl) (fun _ _ _ h => h) (Or.inl ⟨by rfl, by rintro w' -; go_simp⟩) hS22 ?_
  simp only [Act.put, List.setIfInBounds_toArray, List.set_cons_zero, List.set_cons_succ]
  refine takeD (i := 2) (v := .agg (bcs s0)) (some 22) rfl rfl (by kernel_rfl) (by kernel_rfl) (by kernel_rfl) (fun _ _ _ h => h) (yieldsIf_load8 (by rfl) _ _ rfl _ _ rfl s0 _ (fun w' h => h.1) Try.underlying33 rfl (size8 b0.1)) hS22 ?_
  simp only [Act.put, List.setIfInBounds_toArray, List.set_cons_zero, List.set_cons_succ]
  refine takeD (i := 3) (v := .agg (bcs z)) (some 23) rfl rfl (by kernel_rfl) (by kernel_rfl) (by kernel_rfl) (fun _ _ _ h => h) (yieldsIf_load8 (by rfl) _ _ rfl _ _ rfl z _ (fun w' h => h.2.2.2) Try.underlying33 rfl (size8 z8.1)) hS22 ?_
  simp only [Act.put, List.setIfInBounds_toArray, List.set_cons_zero, List.set_cons_succ]
  refine takeD (i := 4) (v := .bool false) (some 24) rfl rfl (by kernel_rfl) (by kernel_rfl) (by kernel_rfl) (fun _ _ _ h => h) (Or.inl ⟨by rfl, by rintro w' -; go_simp⟩) hS22 ?_
  simp only [Act.put, List.setIfInBounds_toArray, List.set_cons_zero, List.set_cons_succ]
  refine takeD (i := 5) (v := .bool false) (some 25) rfl rfl (by kernel_rfl) (by kernel_rfl) (by kernel_rfl) (fun _ _ _ h => h) (Or.inl ⟨by rfl, by rintro w' -; go_simp⟩) hS22 ?_
  simp only [Act.put, List.setIfInBounds_toArray, List.set_cons_zero, List.set_cons_succ]
  refine takeD (i := 6) (v := undef) (some 26) rfl rfl (by kernel_rfl) (by kernel_rfl) (by kernel_rfl) (fun _ _ _ h => h) (Or.inr ⟨by rfl, rfl⟩) hS22 ?_
  simp only [Act.put, List.setIfInBounds_toArray, List.set_cons_zero, List.set_cons_succ]
  refine takeD (i := 7) (v := undef) (some 27) rfl rfl (by kernel_rfl) (by kernel_rfl) (by kernel_rfl) (fun _ _ _ h => h) (Or.inr ⟨by rfl, rfl⟩) hS22 ?_
  simp only [Act.put, List.setIfInBounds_toArray, List.set_cons_zero, List.set_cons_succ]
  refine takeD (i := 8) (v := undef) (some 28) rfl rfl (by kernel_rfl) (by kernel_rfl) (by kernel_rfl) (fun _ _ _ h => h) (Or.inr ⟨by rfl, rfl⟩) hS22 ?_
  simp only [Act.put, List.setIfInBounds_toArray, List.set_cons_zero, List.set_cons_succ]
  refine takeD (i := 9) (v := undef) (some 29) rfl rfl (by kernel_rfl) (by kernel_rfl) (by kernel_rfl) (fun _ _ _ h => h) (Or.inr ⟨by rfl, rfl⟩) hS22 ?_
  simp only [Act.put, List.setIfInBounds_toArray, List.set_cons_zero, List.set_cons_succ]
  refine takeD (i := 10) (v := undef) (some 30) rfl rfl (by kernel_rfl) (by kernel_rfl) (by kernel_rfl) (fun _ _ _ h => h) (Or.inr ⟨by rfl, rfl⟩) hS22 ?_
  simp only [Act.put, List.setIfInBounds_toArray, List.set_cons_zero, List.set_cons_succ]
  refine takeD (i := 11) (v := .bool false) (some 31) rfl rfl (by kernel_rfl) (by kernel_rfl) (by kernel_rfl) (fun _ _ _ h => h) (Or.inl ⟨by rfl, by rintro w' -; go_simp⟩) hS22 ?_
  simp only [Act.put, List.setIfInBounds_toArray, List.set_cons_zero, List.set_cons_succ]
  refine takeD (i := 12) (v := .bool false) (some 32) rfl rfl (by kernel_rfl) (by kernel_rfl) (by kernel_rfl) (fun _ _ _ h => h) (Or.inl ⟨by rfl, by rintro w' -; go_simp⟩) hS22 ?_
  simp only [Act.put, List.setIfInBounds_toArray, List.set_cons_zero, List.set_cons_succ]
  refine takeD (i := 13) (v := undef) (some 33) rfl rfl (by kernel_rfl) (by kernel_rfl) (by kernel_rfl) (fun _ _ _ h => h) (Or.inr ⟨by rfl, rfl⟩) hS22 ?_
  simp only [Act.put, List.setIfInBounds_toArray, List.set_cons_zero, List.set_cons_succ]
  refine takeD (i := 14) (v := undef) (some 34) rfl rfl (by kernel_rfl) (by kernel_rfl) (by kernel_rfl) (fun _ _ _ h => h) (Or.inr ⟨by rfl, rfl⟩) hS22 ?_
  simp only [Act.put, List.setIfInBounds_toArray, List.set_cons_zero, List.set_cons_succ]
  refine takeD (i := 15) (v := undef) (some 35) rfl rfl (by kernel_rfl) (by kernel_rfl) (by kernel_rfl) (fun _ _ _ h => h) (Or.inr ⟨by rfl, rfl⟩) hS22 ?_
  simp only [Act.put, List.setIfInBounds_toArray, List.set_cons_zero, List.set_cons_succ]
  refine takeD (i := 16) (v := undef) (some 36) rfl rfl (by kernel_rfl) (by kernel_rfl) (by kernel_rfl) (fun _ _ _ h => h) (Or.inr ⟨by rfl, rfl⟩) hS22 ?_
  simp only [Act.put, List.setIfInBounds_toArray, List.set_cons_zero, List.set_cons_succ]
  refine takeD (i := 17) (v := undef) (some 37) rfl rfl (by kernel_rfl) (by kernel_rfl) (by kernel_rfl) (fun _ _ _ h => h) (Or.inr ⟨by rfl, rfl⟩) hS22 ?_
  simp only [Act.put, List.setIfInBounds_toArray, List.set_cons_zero, List.set_cons_succ]
  refine takeD (i := 18) (v := .bool false) (some 38) rfl rfl (by kernel_rfl) (by kernel_rfl) (by kernel_rfl) (fun _ _ _ h => h) (Or.inl ⟨by rfl, by rintro w' -; go_simp⟩) hS22 ?_
  simp only [Act.put, List.setIfInBounds_toArray, List.set_cons_zero, List.set_cons_succ]
  refine takeD (i := 19) (v := .bool false) (some 19) rfl rfl (by kernel_rfl) (by kernel_rfl) (by kernel_rfl) (fun _ _ _ h => h) (Or.inl ⟨by rfl, by rintro w' -; go_simp⟩) hS22 ?_
  simp only [Act.put, List.setIfInBounds_toArray, List.set_cons_zero, List.set_cons_succ]
  refine wpAnyH_done (by kernel_rfl) ?_ _
  go_wp2_with fail
  refine wp_region_held (P := Try.prog) (S := (fun w' : World => At8 w' g 0 s0 ∧ At8 w' g 8 s1 ∧ At8 w' g (2 * 8) s2 ∧ At8 w' zb 0 z)) rfl ?_
  change wpAnyH _ _ _ _ _ _ _ _ wz13.drew
  have hz24 : Below wz13.heap.size wz13 wz13.drew := (Below.refl wz13.heap.size wz13).drew
  generalize wz13.drew = wz23 at hz24 ⊢
  have hq25 : Below wz13.heap.size wz13 wz23 := hz24
  have S_26 := Lib.hid (Bl.to S_16.out hq25)
  have A0_27 := Lib.hid (At8.to A0_17.out hq25)
  have A1_28 := Lib.hid (At8.to A1_18.out hq25)
  have A2_29 := Lib.hid (At8.to A2_19.out hq25)
  have AZ_30 := Lib.hid (At8.to AZ_20.out hq25)
  have HB_31 : Hid (Below w.heap.size w wz23) := Lib.hid (HB_21.out.trans (hq25.mono HB_21.out.size))
  clear hq25
  clear hz24
  have hS32 : (fun w' : World => At8 w' g 0 s0 ∧ At8 w' g 8 s1 ∧ At8 w' g (2 * 8) s2 ∧ At8 w' zb 0 z) wz23 := ⟨A0_27.out, A1_28.out, A2_29.out, AZ_30.out⟩
  refine takeD (i := 0) (v := .slice (some ⟨g, 0, none⟩) 3 3) (some 40) rfl rfl (by kernel_rfl) (by kernel_rfl) (by kernel_rfl) (fun _ _ _ h => h) (Or.inl ⟨by rfl, by rintro w' -; go_simp⟩) hS32 ?_
  simp only [Act.put, List.setIfInBounds_toArray, List.set_cons_zero, List.set_cons_succ]
  refine takeD (i := 1) (v := .pointer (some ⟨g, 8, none⟩)) (some 41) rfl rfl (by kernel_rfl) (by kernel_rfl) (by kernel_rfl) (fun _ _ _ h => h) (Or.inl ⟨by rfl, by rintro w' -; go_simp⟩) hS32 ?_
  simp only [Act.put, List.setIfInBounds_toArray, List.set_cons_zero, List.set_cons_succ]
  refine takeD (i := 2) (v := .agg (bcs s1)) (some 42) rfl rfl (by kernel_rfl) (by kernel_rfl) (by kernel_rfl) (fun _ _ _ h => h) (yieldsIf_load8 (by rfl) _ _ rfl _ _ rfl s1 _ (fun w' h => h.2.1) Try.underlying33 rfl (size8 b1.1)) hS32 ?_
  simp only [Act.put, List.setIfInBounds_toArray, List.set_cons_zero, List.set_cons_succ]
  refine takeD (i := 3) (v := .agg (bcs z)) (some 43) rfl rfl (by kernel_rfl) (by kernel_rfl) (by kernel_rfl) (fun _ _ _ h => h) (yieldsIf_load8 (by rfl) _ _ rfl _ _ rfl z _ (fun w' h => h.2.2.2) Try.underlying33 rfl (size8 z8.1)) hS32 ?_
  simp only [Act.put, List.setIfInBounds_toArray, List.set_cons_zero, List.set_cons_succ]
  refine takeD (i := 4) (v := .bool false) (some 44) rfl rfl (by kernel_rfl) (by kernel_rfl) (by kernel_rfl) (fun _ _ _ h => h) (Or.inl ⟨by rfl, by rintro w' -; go_simp⟩) hS32 ?_
  simp only [Act.put, List.setIfInBounds_toArray, List.set_cons_zero, List.set_cons_succ]
  refine takeD (i := 5) (v := .bool false) (some 45) rfl rfl (by kernel_rfl) (by kernel_rfl) (by kernel_rfl) (fun _ _ _ h => h) (Or.inl ⟨by rfl, by rintro w' -; go_simp⟩) hS32 ?_
  simp only [Act.put, List.setIfInBounds_toArray, List.set_cons_zero, List.set_cons_succ]
  refine takeD (i := 6) (v := undef) (some 46) rfl rfl (by kernel_rfl) (by kernel_rfl) (by kernel_rfl) (fun _ _ _ h => h) (Or.inr ⟨by rfl, rfl⟩) hS32 ?_
  simp only [Act.put, List.setIfInBounds_toArray, List.set_cons_zero, List.set_cons_succ]
  refine takeD (i := 7) (v := undef) (some 47) rfl rfl (by kernel_rfl) (by kernel_rfl) (by kernel_rfl) (fun _ _ _ h => h) (Or.inr ⟨by rfl, rfl⟩) hS32 ?_
  simp only [Act.put, List.setIfInBounds_toArray, List.set_cons_zero, List.set_cons_succ]
  refine takeD (i := 8) (v := undef) (some 48) rfl rfl (by kernel_rfl) (by kernel_rfl) (by kernel_rfl) (fun _ _ _ h => h) (Or.inr ⟨by rfl, rfl⟩) hS32 ?_
  simp only [Act.put, List.setIfInBounds_toArray, List.set_cons_zero, List.set_cons_succ]
  refine takeD (i := 9) (v := undef) (some 49) rfl rfl (by kernel_rfl) (by kernel_rfl) (by kernel_rfl) (fun _ _ _ h => h) (Or.inr ⟨by rfl, rfl⟩) hS32 ?_
  simp only [Act.put, List.setIfInBounds_toArray, List.set_cons_zero, List.set_cons_succ]
  refine takeD (i := 10) (v := undef) (some 50) rfl rfl (by kernel_rfl) (by kernel_rfl) (by kernel_rfl) (fun _ _ _ h => h) (Or.inr ⟨by rfl, rfl⟩) hS32 ?_
  simp only [Act.put, List.setIfInBounds_toArray, List.set_cons_zero, List.set_cons_succ]
  refine takeD (i := 11) (v := .bool false) (some 51) rfl rfl (by kernel_rfl) (by kernel_rfl) (by kernel_rfl) (fun _ _ _ h => h) (Or.inl ⟨by rfl, by rintro w' -; go_simp⟩) hS32 ?_
  simp only [Act.put, List.setIfInBounds_toArray, List.set_cons_zero, List.set_cons_succ]
  refine takeD (i := 12) (v := .bool false) (some 39) rfl rfl (by kernel_rfl) (by kernel_rfl) (by kernel_rfl) (fun _ _ _ h => h) (Or.inl ⟨by rfl, by rintro w' -; go_simp⟩) hS32 ?_
  simp only [Act.put, List.setIfInBounds_toArray, List.set_cons_zero, List.set_cons_succ]
  refine wpAnyH_done (by kernel_rfl) ?_ _
  go_wp2_with fail
  refine wp_region_held (P := Try.prog) (S := (fun w' : World => At8 w' g 0 s0 ∧ At8 w' g 8 s1 ∧ At8 w' g (2 * 8) s2 ∧ At8 w' zb 0 z)) rfl ?_
  change wpAnyH _ _ _ _ _ _ _ _ wz23.drew
  have hz34 : Below wz23.heap.size wz23 wz23.drew := (Below.refl wz23.heap.size wz23).drew
  generalize wz23.drew = wz33 at hz34 ⊢
  have hq35 : Below wz23.heap.size wz23 wz33 := hz34
  have S_36 := Lib.hid (Bl.to S_26.out hq35)
  have A0_37 := Lib.hid (At8.to A0_27.out hq35)
  have A1_38 := Lib.hid (At8.to A1_28.out hq35)
  have A2_39 := Lib.hid (At8.to A2_29.out hq35)
  have AZ_40 := Lib.hid (At8.to AZ_30.out hq35)
  have HB_41 : Hid (Below w.heap.size w wz33) := Lib.hid (HB_31.out.trans (hq35.mono HB_31.out.size))
  clear hq35
  clear hz34
  have hS42 : (fun w' : World => At8 w' g 0 s0 ∧ At8 w' g 8 s1 ∧ At8 w' g (2 * 8) s2 ∧ At8 w' zb 0 z) wz33 := ⟨A0_37.out, A1_38.out, A2_39.out, AZ_40.out⟩
  refine takeD (i := 0) (v := .slice (some ⟨g, 0, none⟩) 3 3) (some 54) rfl rfl (by kernel_rfl) (by kernel_rfl) (by kernel_rfl) (fun _ _ _ h => h) (Or.inl ⟨by rfl, by rintro w' -; go_simp⟩) hS42 ?_
  simp only [Act.put, List.setIfInBounds_toArray, List.set_cons_zero, List.set_cons_succ]
  refine takeD (i := 1) (v := .pointer (some ⟨g, 0, none⟩)) (some 55) rfl rfl (by kernel_rfl) (by kernel_rfl) (by kernel_rfl) (fun _ _ _ h => h) (Or.inl ⟨by rfl, by rintro w' -; go_simp⟩) hS42 ?_
  simp only [Act.put, List.setIfInBounds_toArray, List.set_cons_zero, List.set_cons_succ]
  refine takeD (i := 2) (v := .agg (bcs s0)) (some 56) rfl rfl (by kernel_rfl) (by kernel_rfl) (by kernel_rfl) (fun _ _ _ h => h) (yieldsIf_load8 (by rfl) _ _ rfl _ _ rfl s0 _ (fun w' h => h.1) Try.underlying33 rfl (size8 b0.1)) hS42 ?_
  simp only [Act.put, List.setIfInBounds_toArray, List.set_cons_zero, List.set_cons_succ]
  refine takeD (i := 3) (v := .agg (bcs z)) (some 57) rfl rfl (by kernel_rfl) (by kernel_rfl) (by kernel_rfl) (fun _ _ _ h => h) (yieldsIf_load8 (by rfl) _ _ rfl _ _ rfl z _ (fun w' h => h.2.2.2) Try.underlying33 rfl (size8 z8.1)) hS42 ?_
  simp only [Act.put, List.setIfInBounds_toArray, List.set_cons_zero, List.set_cons_succ]
  refine takeD (i := 4) (v := .bool false) (some 58) rfl rfl (by kernel_rfl) (by kernel_rfl) (by kernel_rfl) (fun _ _ _ h => h) (Or.inl ⟨by rfl, by rintro w' -; go_simp⟩) hS42 ?_
  simp only [Act.put, List.setIfInBounds_toArray, List.set_cons_zero, List.set_cons_succ]
  refine takeD (i := 5) (v := .bool false) (some 59) rfl rfl (by kernel_rfl) (by kernel_rfl) (by kernel_rfl) (fun _ _ _ h => h) (Or.inl ⟨by rfl, by rintro w' -; go_simp⟩) hS42 ?_
  simp only [Act.put, List.setIfInBounds_toArray, List.set_cons_zero, List.set_cons_succ]
  refine takeD (i := 6) (v := undef) (some 60) rfl rfl (by kernel_rfl) (by kernel_rfl) (by kernel_rfl) (fun _ _ _ h => h) (Or.inr ⟨by rfl, rfl⟩) hS42 ?_
  simp only [Act.put, List.setIfInBounds_toArray, List.set_cons_zero, List.set_cons_succ]
  refine takeD (i := 7) (v := undef) (some 61) rfl rfl (by kernel_rfl) (by kernel_rfl) (by kernel_rfl) (fun _ _ _ h => h) (Or.inr ⟨by rfl, rfl⟩) hS42 ?_
  simp only [Act.put, List.setIfInBounds_toArray, List.set_cons_zero, List.set_cons_succ]
  refine takeD (i := 8) (v := undef) (some 62) rfl rfl (by kernel_rfl) (by kernel_rfl) (by kernel_rfl) (fun _ _ _ h => h) (Or.inr ⟨by rfl, rfl⟩) hS42 ?_
  simp only [Act.put, List.setIfInBounds_toArray, List.set_cons_zero, List.set_cons_succ]
  refine takeD (i := 9) (v := undef) (some 63) rfl rfl (by kernel_rfl) (by kernel_rfl) (by kernel_rfl) (fun _ _ _ h => h) (Or.inr ⟨by rfl, rfl⟩) hS42 ?_
  simp only [Act.put, List.setIfInBounds_toArray, List.set_cons_zero, List.set_cons_succ]
  refine takeD (i := 10) (v := undef) (some 64) rfl rfl (by kernel_rfl) (by kernel_rfl) (by kernel_rfl) (fun _ _ _ h => h) (Or.inr ⟨by rfl, rfl⟩) hS42 ?_
  simp only [Act.put, List.setIfInBounds_toArray, List.set_cons_zero, List.set_cons_succ]
  refine takeD (i := 11) (v := .bool false) (some 65) rfl rfl (by kernel_rfl) (by kernel_rfl) (by kernel_rfl) (fun _ _ _ h => h) (Or.inl ⟨by rfl, by rintro w' -; go_simp⟩) hS42 ?_
  simp only [Act.put, List.setIfInBounds_toArray, List.set_cons_zero, List.set_cons_succ]
  refine takeD (i := 12) (v := .bool false) (some 53) rfl rfl (by kernel_rfl) (by kernel_rfl) (by kernel_rfl) (fun _ _ _ h => h) (Or.inl ⟨by rfl, by rintro w' -; go_simp⟩) hS42 ?_
  simp only [Act.put, List.setIfInBounds_toArray, List.set_cons_zero, List.set_cons_succ]
  refine wpAnyH_done (by kernel_rfl) ?_ _
  go_wp2_with fail
  refine wp_region_held (P := Try.prog) (S := (fun w' : World => At8 w' g 0 s0 ∧ At8 w' g 8 s1 ∧ At8 w' g (2 * 8) s2 ∧ At8 w' zb 0 z)) rfl ?_
  change wpAnyH _ _ _ _ _ _ _ _ wz33.drew
  have hz44 : Below wz33.heap.size wz33 wz33.drew := (Below.refl wz33.heap.size wz33).drew
  generalize wz33.drew = wz43 at hz44 ⊢
  have hq45 : Below wz33.heap.size wz33 wz43 := hz44
  have S_46 := Lib.hid (Bl.to S_36.out hq45)
  have A0_47 := Lib.hid (At8.to A0_37.out hq45)
  have A1_48 := Lib.hid (At8.to A1_38.out hq45)
  have A2_49 := Lib.hid (At8.to A2_39.out hq45)
  have AZ_50 := Lib.hid (At8.to AZ_40.out hq45)
  have HB_51 : Hid (Below w.heap.size w wz43) := Lib.hid (HB_41.out.trans (hq45.mono HB_41.out.size))
  clear hq45
  clear hz44
  have hS52 : (fun w' : World => At8 w' g 0 s0 ∧ At8 w' g 8 s1 ∧ At8 w' g (2 * 8) s2 ∧ At8 w' zb 0 z) wz43 := ⟨A0_47.out, A1_48.out, A2_49.out, AZ_50.out⟩
  refine takeD (i := 0) (v := .slice (some ⟨g, 0, none⟩) 3 3) (some 69) rfl rfl (by kernel_rfl) (by kernel_rfl) (by kernel_rfl) (fun _ _ _ h => h) (Or.inl ⟨by rfl, by rintro w' -; go_simp⟩) hS52 ?_
  simp only [Act.put, List.setIfInBounds_toArray, List.set_cons_zero, List.set_cons_succ]
  refine takeD (i := 1) (v := .pointer (some ⟨g, 0, none⟩)) (some 70) rfl rfl (by kernel_rfl) (by kernel_rfl) (by kernel_rfl) (fun _ _ _ h => h) (Or.inl ⟨by rfl, by rintro w' -; go_simp⟩) hS52 ?_
  simp only [Act.put, List.setIfInBounds_toArray, List.set_cons_zero, List.set_cons_succ]
  refine takeD (i := 2) (v := .agg (bcs s0)) (some 71) rfl rfl (by kernel_rfl) (by kernel_rfl) (by kernel_rfl) (fun _ _ _ h => h) (yieldsIf_load8 (by rfl) _ _ rfl _ _ rfl s0 _ (fun w' h => h.1) Try.underlying33 rfl (size8 b0.1)) hS52 ?_
  simp only [Act.put, List.setIfInBounds_toArray, List.set_cons_zero, List.set_cons_succ]
  refine takeD (i := 3) (v := .agg (bcs z)) (some 72) rfl rfl (by kernel_rfl) (by kernel_rfl) (by kernel_rfl) (fun _ _ _ h => h) (yieldsIf_load8 (by rfl) _ _ rfl _ _ rfl z _ (fun w' h => h.2.2.2) Try.underlying33 rfl (size8 z8.1)) hS52 ?_
  simp only [Act.put, List.setIfInBounds_toArray, List.set_cons_zero, List.set_cons_succ]
  refine takeD (i := 4) (v := .bool false) (some 73) rfl rfl (by kernel_rfl) (by kernel_rfl) (by kernel_rfl) (fun _ _ _ h => h) (Or.inl ⟨by rfl, by rintro w' -; go_simp⟩) hS52 ?_
  simp only [Act.put, List.setIfInBounds_toArray, List.set_cons_zero, List.set_cons_succ]
  refine takeD (i := 5) (v := .bool false) (some 74) rfl rfl (by kernel_rfl) (by kernel_rfl) (by kernel_rfl) (fun _ _ _ h => h) (Or.inl ⟨by rfl, by rintro w' -; go_simp⟩) hS52 ?_
  simp only [Act.put, List.setIfInBounds_toArray, List.set_cons_zero, List.set_cons_succ]
  refine takeD (i := 6) (v := undef) (some 75) rfl rfl (by kernel_rfl) (by kernel_rfl) (by kernel_rfl) (fun _ _ _ h => h) (Or.inr ⟨by rfl, rfl⟩) hS52 ?_
  simp only [Act.put, List.setIfInBounds_toArray, List.set_cons_zero, List.set_cons_succ]
  refine takeD (i := 7) (v := undef) (some 76) rfl rfl (by kernel_rfl) (by kernel_rfl) (by kernel_rfl) (fun _ _ _ h => h) (Or.inr ⟨by rfl, rfl⟩) hS52 ?_
  simp only [Act.put, List.setIfInBounds_toArray, List.set_cons_zero, List.set_cons_succ]
  refine takeD (i := 8) (v := undef) (some 77) rfl rfl (by kernel_rfl) (by kernel_rfl) (by kernel_rfl) (fun _ _ _ h => h) (Or.inr ⟨by rfl, rfl⟩) hS52 ?_
  simp only [Act.put, List.setIfInBounds_toArray, List.set_cons_zero, List.set_cons_succ]
  refine takeD (i := 9) (v := undef) (some 78) rfl rfl (by kernel_rfl) (by kernel_rfl) (by kernel_rfl) (fun _ _ _ h => h) (Or.inr ⟨by rfl, rfl⟩) hS52 ?_
  simp only [Act.put, List.setIfInBounds_toArray, List.set_cons_zero, List.set_cons_succ]
  refine takeD (i := 10) (v := undef) (some 79) rfl rfl (by kernel_rfl) (by kernel_rfl) (by kernel_rfl) (fun _ _ _ h => h) (Or.inr ⟨by rfl, rfl⟩) hS52 ?_
  simp only [Act.put, List.setIfInBounds_toArray, List.set_cons_zero, List.set_cons_succ]
  refine takeD (i := 11) (v := .bool false) (some 80) rfl rfl (by kernel_rfl) (by kernel_rfl) (by kernel_rfl) (fun _ _ _ h => h) (Or.inl ⟨by rfl, by rintro w' -; go_simp⟩) hS52 ?_
  simp only [Act.put, List.setIfInBounds_toArray, List.set_cons_zero, List.set_cons_succ]
  refine takeD (i := 12) (v := .bool false) (some 68) rfl rfl (by kernel_rfl) (by kernel_rfl) (by kernel_rfl) (fun _ _ _ h => h) (Or.inl ⟨by rfl, by rintro w' -; go_simp⟩) hS52 ?_
  simp only [Act.put, List.setIfInBounds_toArray, List.set_cons_zero, List.set_cons_succ]
  refine wpAnyH_done (by kernel_rfl) ?_ _
  go_wp2_with fail
  refine (locd_any _ s0 s1 s2 n _ S_46.out h1 h13).mono ?_
  rintro e w9 ⟨k, en, rfl, hk, hb⟩
  have K := Lib.hid (And.intro hk hb)
  clear hk hb
  go_wp2_with fail
  go_ret2
  refine ⟨k, en, rfl, ?_, HB_51.out.trans (K.out.2.mono HB_51.out.size)⟩
  rcases K.out.1 with ⟨rfl, h1, h2⟩ | ⟨rfl, rfl, h2⟩
  · exact LD.out k h1 h2
  · exact LL.out h2
theorem loc_any (v : Value) (P : List (List Nat)) (w : World) (h : Bl w v P) (h4 : 4 ≤ P.length) (h16 : P.length ≤ 16) : Calls Try.prog 27 #[v] w (locPost P w) := by
  by_cases e0 : synB P 0 = zeroB.1 <;> by_cases e1 : synB P 1 = zeroB.1 <;> by_cases e2 : synB P 2 = zeroB.1
  · exact loc_ttt v P w h h4 h16 e0 e1 e2
  · exact loc_ttf v P w h h4 h16 e0 e1 e2
  · exact loc_tft v P w h h4 h16 e0 e1 e2
  · exact loc_tff v P w h h4 h16 e0 e1 e2
  · exact loc_ftt v P w h h4 h16 e0 e1 e2
  · exact loc_ftf v P w h h4 h16 e0 e1 e2
  · exact loc_fft v P w h h4 h16 e0 e1 e2
  · exact loc_fff v P w h h4 h16 e0 e1 e2
end Go.Proofs.Ytheijobnmdbodaa
