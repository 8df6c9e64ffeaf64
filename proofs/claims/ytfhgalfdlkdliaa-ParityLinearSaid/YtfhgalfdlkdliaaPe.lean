/- The reference's Same over blocks; parity's Encode. -/
import Derived.Test.YtfhgalfdlkdliaaPd
import Derived.Test.YtfhgalfdlkdliaaBe
import Derived.Test.YtfhgalfdlkdliaaMxb
namespace Go.Proofs.Ytfhgalfdlkdliaa
open Go Go.RowKit
set_option linter.unusedVariables false
set_option linter.unusedSimpArgs false

theorem Dr.drew {w w' : World} (h : Dr w w') : Dr w w'.drew := h.more 1
theorem Bl.eq_of {D1 D2 : List (List Nat)} (h : D1.length = D2.length) (hj : ∀ j, j < D1.length → D1.getD j [] = D2.getD j []) : D1 = D2 := by
  refine List.ext_getElem h fun j h1 h2 => ?_
  have := hj j h1
  rwa [getD_in h1, getD_in h2] at this

theorem range_atD {w : World} {b off : Nat} {D : List (List Nat)} (h : w.rangeAt b off (D.flatten.map bv)) (hD : ∀ d ∈ D, B8 d) {i : Nat} (hi : i < D.length) : At8 w b (off + i * 8) (D.getD i []) := by
  rw [getD_in hi]; exact range_at8 h hD hi
theorem okD {D : List (List Nat)} (hD : ∀ d ∈ D, B8 d) {i : Nat} (hi : i < D.length) : B8 (D.getD i []) := by
  rw [getD_in hi]; exact hD _ (List.getElem_mem hi)

set_option maxHeartbeats 4000000 in
set_option maxRecDepth 100000 in
theorem same_bl (v1 v2 : Value) (D1 D2 : List (List Nat)) (w : World) (h1 : Bl w v1 D1) (h2 : Bl w v2 D2) :
    Calls Try.prog 21 #[v1, v2] w (drPost (.bool (decide (D1 = D2))) w) := by
  have hc1 := fun hn => Bl.at_ h1 hn
  have hc2 := fun hn => Bl.at_ h2 hn
  have O1 := Lib.hid h1.ok
  have O2 := Lib.hid h2.ok
  obtain ⟨A1, c1, rfl, hm1, -⟩ := h1
  obtain ⟨A2, c2, rfl, hm2, -⟩ := h2
  have HC1 := Lib.hid hc1
  have HC2 := Lib.hid hc2
  obtain ⟨n, hn⟩ : ∃ n, D1.length = n := ⟨_, rfl⟩
  obtain ⟨n2, hn2⟩ : ∃ n, D2.length = n := ⟨_, rfl⟩
  rw [hn] at hm1 ⊢
  rw [hn2] at hm2 ⊢
  have hm : (n : Int) ≤ 9223372036854775807 := by have := hm1.1; have := hm1.2; unfold maxLen at this; omega
  have N := Lib.hid hn
  have N2 := Lib.hid hn2
  clear hn hn2 hc1 hc2 hm1 hm2
  by_cases he : n = n2
  · subst he
    go_enter Try.func21, Try.ntmps21
    go_wp2
    go_loopw [5] (fun i wr => ∃ k : Nat, k ≤ n ∧ i = .int .i64 (k : Int) ∧ Hid (Dr w wr ∧ ∀ j, j < k → D1.getD j [] = D2.getD j [])) (fun i _ => n - (intOf i).toNat)
    case atStart => exact ⟨0, Nat.zero_le _, rfl, Lib.hid ⟨Dr.refl w, fun j hj => absurd hj (Nat.not_lt_zero j)⟩⟩
    case round =>
      obtain ⟨k, hk, rfl, H⟩ := hrel
      by_cases hlt : k < n
      · obtain ⟨b1, o1, c1', hv, -, -, hrow1⟩ := HC1.out (by rw [N.out]; omega)
        injection hv with hv1 hv2 hv3
        subst hv1
        obtain ⟨b2, o2, c2', hv', -, -, hrow2⟩ := HC2.out (by rw [N2.out]; omega)
        injection hv' with hv1' hv2' hv3'
        subst hv1'
        clear hv2 hv3 hv2' hv3'
        have l1 : k < D1.length := by rw [N.out]; exact hlt
        have l2 : k < D2.length := by rw [N2.out]; exact hlt
        have q1 := range_atD hrow1 O1.out l1
        have q2 := range_atD hrow2 O2.out l2
        have x8 := okD O1.out l1
        have y8 := okD O2.out l2
        obtain ⟨x, hx⟩ : ∃ x, D1.getD k [] = x := ⟨_, rfl⟩
        obtain ⟨y, hy⟩ : ∃ y, D2.getD k [] = y := ⟨_, rfl⟩
        rw [hx] at q1 x8
        rw [hy] at q2 y8
        have X := Lib.hid hx
        have Y := Lib.hid hy
        clear hx hy hrow1 hrow2 l1 l2
        have hkI : (k : Int) < (n : Int) := by omega
        obtain ⟨t, ht⟩ : ∃ t, decide (x = y) = t := ⟨_, rfl⟩
        have EQ : ∀ w', (binOp .neq 44 (.agg (bcs x)) (.agg (bcs y))).run Try.prog w' = .ok (.bool (!t)) w' := fun w' => by rw [neq8 x y x8 y8, ht]
        have GD := guard37
        have HS : (fun w' : World => At8 w' b1 (o1 + k * 8) x ∧ At8 w' b2 (o2 + k * 8) y) wr.drew := ⟨fun i u hu => (H.out.1.cell _).trans (q1 i u hu), fun i u hu => (H.out.1.cell _).trans (q2 i u hu)⟩
        have T := Lib.hid ht
        clear ht
        go_wp2_with fail
        refine wp_region_held (S := fun w' : World => At8 w' b1 (o1 + k * 8) x ∧ At8 w' b2 (o2 + k * 8) y) rfl ?_
        change wpAnyH _ _ _ _ _ _ _ _ wr.drew

        refine takeD (i := 0) (v := .slice (some ⟨b1, o1, none⟩) n c1) (some 17) rfl rfl (by kernel_rfl) (by kernel_rfl) (by kernel_rfl) (fun _ _ _ h => h) (Or.inl ⟨by rfl, by rintro w' -; go_simp⟩) HS ?_
        simp only [Act.put, List.setIfInBounds_toArray, List.set_cons_zero, List.set_cons_succ]
        refine takeD (i := 1) (v := .int .i64 (k : Int)) (some 18) rfl rfl (by kernel_rfl) (by kernel_rfl) (by kernel_rfl) (fun _ _ _ h => h) (Or.inl ⟨by rfl, by rintro w' -; go_simp⟩) HS ?_
        simp only [Act.put, List.setIfInBounds_toArray, List.set_cons_zero, List.set_cons_succ]
        refine takeD (i := 2) (v := .pointer (some ⟨b1, o1 + k * 8, none⟩)) (some 19) rfl rfl (by kernel_rfl) (by kernel_rfl) (by kernel_rfl) (fun _ _ _ h => h) (Or.inl ⟨by rfl, by rintro w' -; go_simp⟩) HS ?_
        simp only [Act.put, List.setIfInBounds_toArray, List.set_cons_zero, List.set_cons_succ]
        refine takeD (i := 3) (v := .agg (bcs x)) (some 20) rfl rfl (by kernel_rfl) (by kernel_rfl) (by kernel_rfl) (fun _ _ _ h => h) (yieldsIf_load8 (by rfl) _ _ rfl _ _ rfl _ _ (fun w' h => h.1) Try.underlying44 rfl (size8 x8.1)) HS ?_
        simp only [Act.put, List.setIfInBounds_toArray, List.set_cons_zero, List.set_cons_succ]
        refine takeD (i := 4) (v := .slice (some ⟨b2, o2, none⟩) n c2) (some 21) rfl rfl (by kernel_rfl) (by kernel_rfl) (by kernel_rfl) (fun _ _ _ h => h) (Or.inl ⟨by rfl, by rintro w' -; go_simp⟩) HS ?_
        simp only [Act.put, List.setIfInBounds_toArray, List.set_cons_zero, List.set_cons_succ]
        refine takeD (i := 5) (v := .int .i64 (k : Int)) (some 22) rfl rfl (by kernel_rfl) (by kernel_rfl) (by kernel_rfl) (fun _ _ _ h => h) (Or.inl ⟨by rfl, by rintro w' -; go_simp⟩) HS ?_
        simp only [Act.put, List.setIfInBounds_toArray, List.set_cons_zero, List.set_cons_succ]
        refine takeD (i := 6) (v := .pointer (some ⟨b2, o2 + k * 8, none⟩)) (some 23) rfl rfl (by kernel_rfl) (by kernel_rfl) (by kernel_rfl) (fun _ _ _ h => h) (Or.inl ⟨by rfl, by rintro w' -; go_simp⟩) HS ?_
        simp only [Act.put, List.setIfInBounds_toArray, List.set_cons_zero, List.set_cons_succ]
        refine takeD (i := 7) (v := .agg (bcs y)) (some 24) rfl rfl (by kernel_rfl) (by kernel_rfl) (by kernel_rfl) (fun _ _ _ h => h) (yieldsIf_load8 (by rfl) _ _ rfl _ _ rfl _ _ (fun w' h => h.2) Try.underlying44 rfl (size8 y8.1)) HS ?_
        simp only [Act.put, List.setIfInBounds_toArray, List.set_cons_zero, List.set_cons_succ]
        refine takeD (i := 8) (v := .bool (!t)) (some 25) rfl rfl (by kernel_rfl) (by kernel_rfl) (by kernel_rfl) (fun _ _ _ h => h) (Or.inl ⟨by rfl, by rintro w' -; go_simp⟩) HS ?_
        simp only [Act.put, List.setIfInBounds_toArray, List.set_cons_zero, List.set_cons_succ]
        refine wpAnyH_done (by kernel_rfl) ?_ _
        cases t
        · have ne : x ≠ y := by simpa using T.out
          have NE := Lib.hid ne
          clear ne
          go_wp2
          go_ret
          refine ⟨ret_bool ?_, H.out.1.drew⟩
          exact (decide_eq_false fun e => NE.out (by rw [← X.out, ← Y.out, e])).symm
        · have eq : x = y := by simpa using T.out
          have E := Lib.hid eq
          clear eq
          go_wp2
          go_roundw
          case rel =>
            refine ⟨k + 1, by omega, by go_num, Lib.hid ⟨H.out.1.drew, fun j hj => ?_⟩⟩
            rcases Nat.lt_or_ge j k with h | h
            · exact H.out.2 j h
            · obtain rfl : j = k := by omega
              rw [X.out, Y.out]; exact E.out
          case measure => simp [intOf]; omega
      · go_wp2
        go_ret
        refine ⟨ret_bool ?_, H.out.1⟩
        refine (decide_eq_true ?_).symm
        exact Bl.eq_of (by rw [N.out, N2.out]) fun j hj => H.out.2 j (by rw [N.out] at hj; omega)
  · have g0 : ((n : Int) != (n2 : Int)) = true := by simp; omega
    have G : Hid (decide (D1 = D2) = false) := Lib.hid (decide_eq_false fun e => he (by rw [← N.out, ← N2.out, e]))
    clear he
    go_enter Try.func21, Try.ntmps21
    go_wp2
    go_ret
    exact ⟨ret_bool G.out.symm, Dr.refl w⟩
end Go.Proofs.Ytfhgalfdlkdliaa
