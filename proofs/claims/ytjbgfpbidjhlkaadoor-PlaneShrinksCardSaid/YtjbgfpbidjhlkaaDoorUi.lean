/- Contracts: common, Meet, Join. WRITTEN BY gen_Ui.py. -/
import Derived.Test.YtjbgfpbidjhlkaaDoorUf
namespace Go.Proofs.YtjbgfpbidjhlkaaDoor
open Go Go.RowKit Pl
set_option linter.unusedVariables false
set_option linter.unusedSimpArgs false

theorem Spc.list {w : World} {S q : Nat} (h : Spc w S q) : ∃ g cap, w.cell? ⟨S, 1, none⟩ = some (.slice (some ⟨g, 0, none⟩) (cN q) cap) := by
  obtain ⟨u, g, cap, M, h1, h2, h3⟩ := h; exact ⟨g, cap, h2⟩
theorem sphas_yes (q S n : Nat) (w : World) (h : Spc w S q) (hn : n < cN q) : Calls Tryd.prog 41 #[.pointer (some ⟨S, 0, none⟩), .int .i64 (n : Int)] w (still (.bool true) w) := by
  obtain ⟨g, cap, c1⟩ := h.list
  obtain ⟨N, hN⟩ : ∃ N, cN q = N := ⟨_, rfl⟩
  rw [hN] at hn c1
  have hI : (n : Int) < (N : Int) := by omega
  clear h hN
  go_enter Tryd.func41, Tryd.ntmps41
  go_wp2
  go_ret
  exact ⟨rfl, rfl⟩
theorem sphas_no (q S : Nat) (n : Int) (w : World) (h : Spc w S q) (hn : n < 0 ∨ (cN q : Int) ≤ n) : Calls Tryd.prog 41 #[.pointer (some ⟨S, 0, none⟩), .int .i64 n] w (still (.bool false) w) := by
  obtain ⟨g, cap, c1⟩ := h.list
  obtain ⟨N, hN⟩ : ∃ N, cN q = N := ⟨_, rfl⟩
  rw [hN] at hn c1
  clear h hN
  by_cases h0 : n < 0
  · have h1 : ¬ 0 ≤ n := by omega
    clear hn
    go_enter Tryd.func41, Tryd.ntmps41
    go_wp2
    go_ret
    exact ⟨rfl, rfl⟩
  · have h1 : 0 ≤ n := by omega
    have h2 : ¬ n < (N : Int) := by omega
    clear hn h0
    go_enter Tryd.func41, Tryd.ntmps41
    go_wp2
    go_ret
    exact ⟨rfl, rfl⟩
theorem wp_mapPt {w : World} {o : Oper} {a : Act} {K : Act → World → Prop} {Q : Exit → Act → World → Prop} (m x : Operand) (ho : o.op = .lookup 49 m x false)
    (M q n : Nat) (c : C3) (h : Mp w M (all q)) (hq : q ∈ szs) (hn : n < cN q) (hc : pt q n = c) (hm : a.eval m = .map (some M)) (hx : a.eval x = .agg (ka c))
    (hK : K (a.put o.dst (.int .i64 (n : Int))) w) : o.wp Tryd.prog a w K Q := by
  have hl : n < (all q).length := by rw [all_pt hq]; simpa using hn
  have e : (all q)[n] = pt q n := by rw [← getD_in (x := (0, 0, 0)) hl]; exact all_at hq hn
  exact wp_mapGet m x ho M q n (all q) h (by have := (szs_ok hq).2.2.1; omega) hl (by rw [e]; exact (pt_el hq hn).1) hm (by rw [e, hc]; exact hx) hK

theorem com_arg (q a b : Int) (w : World) (hK : Kd w) (hq : ∀ k, k < 7 → (kS k : Int) ≠ q) : Calls Tryd.prog 35 #[.int .i64 q, .int .i64 a, .int .i64 b] w (bel (.tuple #[.int .i64 0, .int .i64 1]) w) := by
  have NE := Lib.hid (ns_arg q w hK hq)
  clear hK hq
  go_enter Tryd.func35, Tryd.ntmps35
  go_wp2_with fail
  refine NE.out.mono ?_
  rintro e w1 ⟨rfl, hb⟩
  have HB := Lib.hid hb
  clear hb
  go_wp2_with fail
  go_ret2
  exact ⟨rfl, HB.out⟩
theorem com_limit (q : Nat) (a b : Int) (w : World) (hK : Kd w) (hq : q ∈ Sf.sizes) (h8 : q ∉ szs) : Calls Tryd.prog 35 #[.int .i64 (q : Int), .int .i64 a, .int .i64 b] w (bel (.tuple #[.int .i64 0, .int .i64 7]) w) := by
  have NE := Lib.hid (ns_limit q w hK hq h8)
  clear hK hq h8
  go_enter Tryd.func35, Tryd.ntmps35
  go_wp2_with fail
  refine NE.out.mono ?_
  rintro e w1 ⟨rfl, hb⟩
  have HB := Lib.hid hb
  clear hb
  go_wp2_with fail
  go_ret2
  exact ⟨rfl, HB.out⟩
theorem com_range (q : Nat) (a b : Int) (w : World) (hK : Kd w) (hq : q ∈ szs) (hab : (a < 0 ∨ (cN q : Int) ≤ a) ∨ (b < 0 ∨ (cN q : Int) ≤ b)) : Calls Tryd.prog 35 #[.int .i64 (q : Int), .int .i64 a, .int .i64 b] w (bel (.tuple #[.int .i64 0, .int .i64 2]) w) := by
  have NE := Lib.hid (ns_ok q w hK hq)
  have QS := Lib.hid hq
  clear hK hq
  go_enter Tryd.func35, Tryd.ntmps35
  go_wp2_with fail
  refine NE.out.mono ?_
  rintro e w1 ⟨S, rfl, hs, hb⟩
  have HB := Lib.hid hb
  have SP := Lib.hid hs
  clear hb hs
  by_cases ha : a < 0 ∨ (cN q : Int) ≤ a
  · have H1 := Lib.hid (sphas_no q S a w1 SP.out ha)
    clear hab ha
    go_wp2_with fail
    refine H1.out.mono ?_
    rintro e z ⟨rfl, hzz⟩
    obtain rfl := hzz.symm
    go_wp2_with fail
    go_ret2
    exact ⟨rfl, HB.out⟩
  · obtain ⟨n, rfl⟩ : ∃ n : Nat, a = (n : Int) := ⟨a.toNat, by omega⟩
    have H1 := Lib.hid (sphas_yes q S n w1 SP.out (by omega))
    have H2 := Lib.hid (sphas_no q S b w1 SP.out (by rcases hab with h | h; exact absurd h ha; exact h))
    clear hab ha
    go_wp2_with fail
    refine H1.out.mono ?_
    rintro e z ⟨rfl, hzz⟩
    obtain rfl := hzz.symm
    go_wp2_with fail
    refine H2.out.mono ?_
    rintro e z ⟨rfl, hzz⟩
    obtain rfl := hzz.symm
    go_wp2_with fail
    go_ret2
    exact ⟨rfl, HB.out⟩
theorem com_none (q a : Nat) (w : World) (hK : Kd w) (hq : q ∈ szs) (ha : a < cN q) : Calls Tryd.prog 35 #[.int .i64 (q : Int), .int .i64 (a : Int), .int .i64 (a : Int)] w (bel (.tuple #[.int .i64 0, .int .i64 9]) w) := by
  have NE := Lib.hid (ns_ok q w hK hq)
  have QS := Lib.hid hq
  clear hK hq
  go_enter Tryd.func35, Tryd.ntmps35
  go_wp2_with fail
  refine NE.out.mono ?_
  rintro e w1 ⟨S, rfl, hs, hb⟩
  have HB := Lib.hid hb
  have SP := Lib.hid hs
  clear hb hs
  have H1 := Lib.hid (sphas_yes q S a w1 SP.out ha)
  clear ha
  go_wp2_with fail
  refine H1.out.mono ?_
  rintro e z ⟨rfl, hzz⟩
  obtain rfl := hzz.symm
  go_wp2_with fail
  refine H1.out.mono ?_
  rintro e z ⟨rfl, hzz⟩
  obtain rfl := hzz.symm
  go_wp2_with fail
  go_ret2
  exact ⟨rfl, HB.out⟩
set_option maxHeartbeats 4000000 in
set_option maxRecDepth 100000 in
theorem com_ok (q a b : Nat) (w : World) (hK : Kd w) (hq : q ∈ szs) (ha : a < cN q) (hb : b < cN q) (hne : a ≠ b) : Calls Tryd.prog 35 #[.int .i64 (q : Int), .int .i64 (a : Int), .int .i64 (b : Int)] w (bel (.tuple #[.int .i64 (meet q a b : Nat), .int .i64 0]) w) := by
  have NE := Lib.hid (ns_ok q w hK hq)
  have QS := Lib.hid hq
  clear hK hq
  go_enter Tryd.func35, Tryd.ntmps35
  go_wp2_with fail
  refine NE.out.mono ?_
  rintro e w1 ⟨S, rfl, hs, hbw⟩
  have HB := Lib.hid hbw
  have SP := Lib.hid hs
  clear hbw hs
  have H1 := Lib.hid (sphas_yes q S a w1 SP.out ha)
  have H2 := Lib.hid (sphas_yes q S b w1 SP.out hb)
  have neI : ¬ ((a : Int) = (b : Int)) := by omega
  obtain ⟨u, g, cap, M, hF, hc1, hc2, hcap, hcs, hm⟩ := SP.out
  have FD := Lib.hid hF
  have C1 := Lib.hid hc1
  have C2 := Lib.hid hc2
  have MM := Lib.hid hm
  have AA := Lib.hid (hcs a ha)
  have AB := Lib.hid (hcs b hb)
  obtain ⟨k1, k2, k3, -, -⟩ := cross_ok QS.out ha hb hne
  have ea := (pt_el QS.out ha).1
  have eb := (pt_el QS.out hb).1
  have CR := Lib.hid fun W' (h : Fs W' S u q) => cross_any q S u (pt q a) (pt q b) W' QS.out h ea eb
  have NR := Lib.hid fun W' (h : Fs W' S u q) => normalized_any q S u (cross q (pt q a) (pt q b)) W' QS.out h (cross_eq QS.out ea eb).2 k1
  rw [k3] at NR
  have K2 := Lib.hid k2
  obtain ⟨N, hN⟩ : ∃ N, cN q = N := ⟨_, rfl⟩
  rw [hN] at C1 ha hb hcap
  have aI : (a : Int) < (N : Int) := by omega
  have bI : (b : Int) < (N : Int) := by omega
  obtain ⟨m, hm'⟩ : ∃ m, meet q a b = m := ⟨_, rfl⟩
  rw [hm'] at NR K2
  have MQ := Lib.hid hm'
  obtain ⟨c, hc⟩ : ∃ c, pt q m = c := ⟨_, rfl⟩
  rw [hc] at NR
  have PM := Lib.hid hc
  obtain ⟨x, hx⟩ : ∃ x, cross q (pt q a) (pt q b) = x := ⟨_, rfl⟩
  rw [hx] at CR NR
  clear hx
  obtain ⟨ca, hca⟩ : ∃ c, pt q a = c := ⟨_, rfl⟩
  obtain ⟨cb, hcb⟩ : ∃ c, pt q b = c := ⟨_, rfl⟩
  rw [hca] at CR AA
  rw [hcb] at CR AB
  clear hca hcb hc hm' hN k1 k2 k3 ea eb hF hc1 hc2 hcs hm hne SP
  go_wp2_with fail
  refine H1.out.mono ?_
  rintro e z ⟨rfl, hzz⟩
  obtain rfl := hzz.symm
  go_wp2_with fail
  refine H2.out.mono ?_
  rintro e z ⟨rfl, hzz⟩
  obtain rfl := hzz.symm
  clear H1 H2
  go_wp2_with fail
  refine wp_region_held (P := Tryd.prog) (S := (fun w' : World => w'.cell? ⟨S, 1, none⟩ = some (.slice (some ⟨g, 0, none⟩) N cap) ∧ w'.cell? ⟨S, 2, none⟩ = some (.map (some M)) ∧ At3 w' g (a * 3) ca ∧ At3 w' g (b * 3) cb)) rfl ?_
  change wpAnyH _ _ _ _ _ _ _ _ w1.drew
  have hz2 : Below w1.heap.size w1 w1.drew := (Below.refl w1.heap.size w1).drew
  generalize w1.drew = wz1 at hz2 ⊢
  have hq3 : Below w1.heap.size w1 wz1 := hz2
  have F_4 := Lib.hid (Fs.to FD.out hq3)
  have C_5 := Lib.hid (cell_to C1.out hq3)
  have D_6 := Lib.hid (cell_to C2.out hq3)
  have M_7 := Lib.hid (Mp.to MM.out hq3)
  have A_8 := Lib.hid (At3.to AA.out hq3)
  have E_9 := Lib.hid (At3.to AB.out hq3)
  have HB_10 : Hid (Below w.heap.size w wz1) := Lib.hid (HB.out.trans (hq3.mono HB.out.size))
  clear hq3
  clear hz2
  have hS11 : (fun w' : World => w'.cell? ⟨S, 1, none⟩ = some (.slice (some ⟨g, 0, none⟩) N cap) ∧ w'.cell? ⟨S, 2, none⟩ = some (.map (some M)) ∧ At3 w' g (a * 3) ca ∧ At3 w' g (b * 3) cb) wz1 := ⟨C_5.out, D_6.out, A_8.out, E_9.out⟩
  refine takeD (i := 0) (v := .pointer (some ⟨S, 0, none⟩)) (some 31) rfl rfl (by kernel_rfl) (by kernel_rfl) (by kernel_rfl) (fun _ _ _ h => h) (Or.inl ⟨by rfl, by rintro w' -; go_simp⟩) hS11 ?_
  simp only [Act.put, List.setIfInBounds_toArray, List.set_cons_zero, List.set_cons_succ]
  refine takeD (i := 1) (v := .pointer (some ⟨S, 0, none⟩)) (some 32) rfl rfl (by kernel_rfl) (by kernel_rfl) (by kernel_rfl) (fun _ _ _ h => h) (Or.inl ⟨by rfl, by rintro w' -; go_simp⟩) hS11 ?_
  simp only [Act.put, List.setIfInBounds_toArray, List.set_cons_zero, List.set_cons_succ]
  refine takeD (i := 2) (v := .pointer (some ⟨S, 2, none⟩)) (some 33) rfl rfl (by kernel_rfl) (by kernel_rfl) (by kernel_rfl) (fun _ _ _ h => h) (Or.inl ⟨by rfl, by rintro w' -; go_simp⟩) hS11 ?_
  simp only [Act.put, List.setIfInBounds_toArray, List.set_cons_zero, List.set_cons_succ]
  refine takeD (i := 3) (v := .map (some M)) (some 34) rfl rfl (by kernel_rfl) (by kernel_rfl) (by kernel_rfl) (fun _ _ _ h => h) (Or.inl ⟨by rfl, by rintro w' h; have hc := h.2.1; go_simp⟩) hS11 ?_
  simp only [Act.put, List.setIfInBounds_toArray, List.set_cons_zero, List.set_cons_succ]
  refine takeD (i := 4) (v := .pointer (some ⟨S, 0, none⟩)) (some 35) rfl rfl (by kernel_rfl) (by kernel_rfl) (by kernel_rfl) (fun _ _ _ h => h) (Or.inl ⟨by rfl, by rintro w' -; go_simp⟩) hS11 ?_
  simp only [Act.put, List.setIfInBounds_toArray, List.set_cons_zero, List.set_cons_succ]
  refine takeD (i := 5) (v := .pointer (some ⟨S, 0, none⟩)) (some 36) rfl rfl (by kernel_rfl) (by kernel_rfl) (by kernel_rfl) (fun _ _ _ h => h) (Or.inl ⟨by rfl, by rintro w' -; go_simp⟩) hS11 ?_
  simp only [Act.put, List.setIfInBounds_toArray, List.set_cons_zero, List.set_cons_succ]
  refine takeD (i := 6) (v := .pointer (some ⟨S, 0, none⟩)) (some 37) rfl rfl (by kernel_rfl) (by kernel_rfl) (by kernel_rfl) (fun _ _ _ h => h) (Or.inl ⟨by rfl, by rintro w' -; go_simp⟩) hS11 ?_
  simp only [Act.put, List.setIfInBounds_toArray, List.set_cons_zero, List.set_cons_succ]
  refine takeD (i := 7) (v := .pointer (some ⟨S, 0, none⟩)) (some 38) rfl rfl (by kernel_rfl) (by kernel_rfl) (by kernel_rfl) (fun _ _ _ h => h) (Or.inl ⟨by rfl, by rintro w' -; go_simp⟩) hS11 ?_
  simp only [Act.put, List.setIfInBounds_toArray, List.set_cons_zero, List.set_cons_succ]
  refine takeD (i := 8) (v := .pointer (some ⟨S, 1, none⟩)) (some 39) rfl rfl (by kernel_rfl) (by kernel_rfl) (by kernel_rfl) (fun _ _ _ h => h) (Or.inl ⟨by rfl, by rintro w' -; go_simp⟩) hS11 ?_
  simp only [Act.put, List.setIfInBounds_toArray, List.set_cons_zero, List.set_cons_succ]
  refine takeD (i := 9) (v := .slice (some ⟨g, 0, none⟩) N cap) (some 40) rfl rfl (by kernel_rfl) (by kernel_rfl) (by kernel_rfl) (fun _ _ _ h => h) (Or.inl ⟨by rfl, by rintro w' h; have hc := h.1; go_simp⟩) hS11 ?_
  simp only [Act.put, List.setIfInBounds_toArray, List.set_cons_zero, List.set_cons_succ]
  refine takeD (i := 10) (v := .int .i64 (a : Int)) (some 41) rfl rfl (by kernel_rfl) (by kernel_rfl) (by kernel_rfl) (fun _ _ _ h => h) (Or.inl ⟨by rfl, by rintro w' -; go_simp⟩) hS11 ?_
  simp only [Act.put, List.setIfInBounds_toArray, List.set_cons_zero, List.set_cons_succ]
  refine takeD (i := 11) (v := .pointer (some ⟨g, a * 3, none⟩)) (some 42) rfl rfl (by kernel_rfl) (by kernel_rfl) (by kernel_rfl) (fun _ _ _ h => h) (Or.inl ⟨by rfl, by rintro w' -; go_simp⟩) hS11 ?_
  simp only [Act.put, List.setIfInBounds_toArray, List.set_cons_zero, List.set_cons_succ]
  refine takeD (i := 12) (v := .agg (ka ca)) (some 43) rfl rfl (by kernel_rfl) (by kernel_rfl) (by kernel_rfl) (fun _ _ _ h => h) (yieldsIf_load_mid (by rfl) _ _ rfl _ _ rfl (kl ca) _ (fun w' h => h.2.2.1) Tryd.underlying53 rfl (si3 ca)) hS11 ?_
  simp only [Act.put, List.setIfInBounds_toArray, List.set_cons_zero, List.set_cons_succ]
  refine takeD (i := 13) (v := .pointer (some ⟨S, 0, none⟩)) (some 44) rfl rfl (by kernel_rfl) (by kernel_rfl) (by kernel_rfl) (fun _ _ _ h => h) (Or.inl ⟨by rfl, by rintro w' -; go_simp⟩) hS11 ?_
  simp only [Act.put, List.setIfInBounds_toArray, List.set_cons_zero, List.set_cons_succ]
  refine takeD (i := 14) (v := .pointer (some ⟨S, 0, none⟩)) (some 45) rfl rfl (by kernel_rfl) (by kernel_rfl) (by kernel_rfl) (fun _ _ _ h => h) (Or.inl ⟨by rfl, by rintro w' -; go_simp⟩) hS11 ?_
  simp only [Act.put, List.setIfInBounds_toArray, List.set_cons_zero, List.set_cons_succ]
  refine takeD (i := 15) (v := .pointer (some ⟨S, 1, none⟩)) (some 46) rfl rfl (by kernel_rfl) (by kernel_rfl) (by kernel_rfl) (fun _ _ _ h => h) (Or.inl ⟨by rfl, by rintro w' -; go_simp⟩) hS11 ?_
  simp only [Act.put, List.setIfInBounds_toArray, List.set_cons_zero, List.set_cons_succ]
  refine takeD (i := 16) (v := .slice (some ⟨g, 0, none⟩) N cap) (some 47) rfl rfl (by kernel_rfl) (by kernel_rfl) (by kernel_rfl) (fun _ _ _ h => h) (Or.inl ⟨by rfl, by rintro w' h; have hc := h.1; go_simp⟩) hS11 ?_
  simp only [Act.put, List.setIfInBounds_toArray, List.set_cons_zero, List.set_cons_succ]
  refine takeD (i := 17) (v := .int .i64 (b : Int)) (some 48) rfl rfl (by kernel_rfl) (by kernel_rfl) (by kernel_rfl) (fun _ _ _ h => h) (Or.inl ⟨by rfl, by rintro w' -; go_simp⟩) hS11 ?_
  simp only [Act.put, List.setIfInBounds_toArray, List.set_cons_zero, List.set_cons_succ]
  refine takeD (i := 18) (v := .pointer (some ⟨g, b * 3, none⟩)) (some 49) rfl rfl (by kernel_rfl) (by kernel_rfl) (by kernel_rfl) (fun _ _ _ h => h) (Or.inl ⟨by rfl, by rintro w' -; go_simp⟩) hS11 ?_
  simp only [Act.put, List.setIfInBounds_toArray, List.set_cons_zero, List.set_cons_succ]
  refine takeD (i := 19) (v := .agg (ka cb)) (some 50) rfl rfl (by kernel_rfl) (by kernel_rfl) (by kernel_rfl) (fun _ _ _ h => h) (yieldsIf_load_mid (by rfl) _ _ rfl _ _ rfl (kl cb) _ (fun w' h => h.2.2.2) Tryd.underlying53 rfl (si3 cb)) hS11 ?_
  simp only [Act.put, List.setIfInBounds_toArray, List.set_cons_zero, List.set_cons_succ]
  refine wpAnyH_ready (rs := [20]) (by kernel_rfl) (by simp) ?_
  refine AllReadyH.cons rfl (fun K12 hK12 => ?_) AllReadyH.nil
  have HK12 := Lib.hid hK12
  clear hK12
  rw [if_pos (by rfl)]
  go_simp
  refine (CR.out _ F_4.out).mono ?_
  rintro e x13 ⟨rfl, hb⟩
  have hq14 : Below wz1.heap.size wz1 x13 := hb
  have F_15 := Lib.hid (Fs.to F_4.out hq14)
  have C_16 := Lib.hid (cell_to C_5.out hq14)
  have D_17 := Lib.hid (cell_to D_6.out hq14)
  have M_18 := Lib.hid (Mp.to M_7.out hq14)
  have A_19 := Lib.hid (At3.to A_8.out hq14)
  have E_20 := Lib.hid (At3.to E_9.out hq14)
  have HB_21 : Hid (Below w.heap.size w x13) := Lib.hid (HB_10.out.trans (hq14.mono HB_10.out.size))
  clear hq14
  clear hb
  have hS22 : (fun w' : World => w'.cell? ⟨S, 1, none⟩ = some (.slice (some ⟨g, 0, none⟩) N cap) ∧ w'.cell? ⟨S, 2, none⟩ = some (.map (some M)) ∧ At3 w' g (a * 3) ca ∧ At3 w' g (b * 3) cb) x13 := ⟨C_16.out, D_17.out, A_19.out, E_20.out⟩
  refine HK12.out _ _ hS22 fun _ => ?_
  try simp only [Act.put, List.setIfInBounds_toArray, List.set_cons_zero, List.set_cons_succ]
  refine wpAnyH_ready (rs := [21]) (by kernel_rfl) (by simp) ?_
  refine AllReadyH.cons rfl (fun K23 hK23 => ?_) AllReadyH.nil
  have HK23 := Lib.hid hK23
  clear hK23
  rw [if_pos (by rfl)]
  go_simp
  refine (NR.out _ F_15.out).mono ?_
  rintro e x24 ⟨rfl, hb⟩
  have hq25 : Below x13.heap.size x13 x24 := hb
  have F_26 := Lib.hid (Fs.to F_15.out hq25)
  have C_27 := Lib.hid (cell_to C_16.out hq25)
  have D_28 := Lib.hid (cell_to D_17.out hq25)
  have M_29 := Lib.hid (Mp.to M_18.out hq25)
  have A_30 := Lib.hid (At3.to A_19.out hq25)
  have E_31 := Lib.hid (At3.to E_20.out hq25)
  have HB_32 : Hid (Below w.heap.size w x24) := Lib.hid (HB_21.out.trans (hq25.mono HB_21.out.size))
  clear hq25
  clear hb
  have hS33 : (fun w' : World => w'.cell? ⟨S, 1, none⟩ = some (.slice (some ⟨g, 0, none⟩) N cap) ∧ w'.cell? ⟨S, 2, none⟩ = some (.map (some M)) ∧ At3 w' g (a * 3) ca ∧ At3 w' g (b * 3) cb) x24 := ⟨C_27.out, D_28.out, A_30.out, E_31.out⟩
  refine HK23.out _ _ hS33 fun _ => ?_
  try simp only [Act.put, List.setIfInBounds_toArray, List.set_cons_zero, List.set_cons_succ]
  refine wpAnyH_ready (rs := [22]) (by kernel_rfl) (by simp) ?_
  refine AllReadyH.cons rfl (fun K34 hK34 => ?_) AllReadyH.nil
  have HK34 := Lib.hid hK34
  clear hK34
  rw [if_pos (by rfl)]
  refine wp_mapPt _ _ rfl M q m c M_29.out QS.out K2.out PM.out rfl rfl ?_
  have hS35 : (fun w' : World => w'.cell? ⟨S, 1, none⟩ = some (.slice (some ⟨g, 0, none⟩) N cap) ∧ w'.cell? ⟨S, 2, none⟩ = some (.map (some M)) ∧ At3 w' g (a * 3) ca ∧ At3 w' g (b * 3) cb) x24 := ⟨C_27.out, D_28.out, A_30.out, E_31.out⟩
  refine HK34.out _ _ hS35 fun _ => ?_
  try simp only [Act.put, List.setIfInBounds_toArray, List.set_cons_zero, List.set_cons_succ]
  refine takeD (i := 23) (v := .int .i64 (m : Int)) (some 6) rfl rfl (by kernel_rfl) (by kernel_rfl) (by kernel_rfl) (fun _ _ _ h => h) (Or.inl ⟨by rfl, by rintro w' -; go_simp⟩) hS35 ?_
  simp only [Act.put, List.setIfInBounds_toArray, List.set_cons_zero, List.set_cons_succ]
  refine takeD (i := 24) (v := .int .i64 0) (some 7) rfl rfl (by kernel_rfl) (by kernel_rfl) (by kernel_rfl) (fun _ _ _ h => h) (Or.inl ⟨by rfl, by rintro w' -; go_simp⟩) hS35 ?_
  simp only [Act.put, List.setIfInBounds_toArray, List.set_cons_zero, List.set_cons_succ]
  refine wpAnyH_done (by kernel_rfl) ?_ _
  go_wp2_with fail
  go_ret2
  exact ⟨by rw [MQ.out]; rfl, HB_32.out⟩
theorem meet_of (q a b x e : Int) (w : World) (h : Calls Tryd.prog 35 #[.int .i64 q, .int .i64 a, .int .i64 b] w (bel (.tuple #[.int .i64 x, .int .i64 e]) w)) : Calls Tryd.prog 18 #[.int .i64 q, .int .i64 a, .int .i64 b] w (bel (.tuple #[.int .i64 x, .int .i64 e]) w) := by
  have H := Lib.hid h
  clear h
  go_enter Tryd.func18, Tryd.ntmps18
  go_wp2_with fail
  refine H.out.mono ?_
  rintro e w1 ⟨rfl, hb⟩
  have HB := Lib.hid hb
  clear hb
  go_wp2_with fail
  go_ret2
  exact ⟨rfl, HB.out⟩
theorem join_of (q a b x e : Int) (w : World) (h : Calls Tryd.prog 35 #[.int .i64 q, .int .i64 a, .int .i64 b] w (bel (.tuple #[.int .i64 x, .int .i64 e]) w)) : Calls Tryd.prog 19 #[.int .i64 q, .int .i64 a, .int .i64 b] w (bel (.tuple #[.int .i64 x, .int .i64 e]) w) := by
  have H := Lib.hid h
  clear h
  go_enter Tryd.func19, Tryd.ntmps19
  go_wp2_with fail
  refine H.out.mono ?_
  rintro e w1 ⟨rfl, hb⟩
  have HB := Lib.hid hb
  clear hb
  go_wp2_with fail
  go_ret2
  exact ⟨rfl, HB.out⟩
end Go.Proofs.YtjbgfpbidjhlkaaDoor
