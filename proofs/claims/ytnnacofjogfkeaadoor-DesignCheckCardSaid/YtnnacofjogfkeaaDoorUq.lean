/- Contracts: the reference's Affine. WRITTEN BY gen_Uq.py. -/
import Derived.Test.YtnnacofjogfkeaaDoorUl
namespace Go.Proofs.YtnnacofjogfkeaaDoor
open Go Go.RowKit Pl
set_option linter.unusedVariables false
set_option linter.unusedSimpArgs false

def afS (q n : Nat) : List (List Nat) := (List.range n).map fun i => affTo q i (q * q)
theorem afS_len (q n : Nat) : (afS q n).length = n := by simp [afS]
theorem afS_succ (q n : Nat) : afS q (n + 1) = afS q n ++ [affTo q n (q * q)] := by unfold afS; rw [List.range_succ, List.map_append]; rfl
def onA (q n p : Nat) : Bool := if n < q * q then p % q == Sf.addF q (Sf.mulF q (n / q) (p / q)) (n % q) else p / q == n - q * q
theorem affTo_succ (q n m : Nat) : affTo q n (m + 1) = if onA q n m = true then affTo q n m ++ [m] else affTo q n m := by
  unfold affTo
  rw [List.range_succ, List.filter_append]
  by_cases h : onA q n m = true
  · rw [if_pos h]
    unfold onA at h
    simp [h]
  · rw [if_neg h]
    have h := Bool.eq_false_iff.2 h
    unfold onA at h
    simp [h]
theorem affTo_len (q n m : Nat) : (affTo q n m).length ≤ m := by
  unfold affTo; exact Nat.le_trans (List.length_filter_le _ _) (by simp)
theorem wrapN {n : Nat} (h : n ≤ 1000000) : IntKind.i64.wrap (n : Int) = (n : Int) := by rw [IntKind.wrap_i64]; omega

set_option maxHeartbeats 4000000 in
set_option maxRecDepth 100000 in
theorem raff_fx (q : Nat) (w : World) (hq : q ∈ szs) : Calls Tryd.prog 32 #[.int .i64 (q : Int)] w (rdFx (q * q) ((List.range (q * q + q)).map (aff q)) w) := by
  have so := szs_ok hq
  have AE : Hid ((List.range (q * q + q)).map (aff q) = afS q (q * q + q)) := Lib.hid ((aff_tb hq).1.trans (aff_tb hq).2.symm)
  rw [AE.out]
  obtain ⟨s, hs⟩ : ∃ s : Nat, q * q = s := ⟨_, rfl⟩
  have es : (q : Int) * (q : Int) = (s : Int) := by rw [← hs]; rfl
  have s49 : s + q ≤ 56 := by have := so.2.2.2.1; unfold cN at this; omega
  have q2 := so.2.1
  have q7 := so.2.2.1
  have QS := Lib.hid hq
  have QZ := Lib.hid so.1
  have HS := Lib.hid hs
  have ws : IntKind.i64.wrap (s : Int) = (s : Int) := wrapN (by omega)
  rw [hs]
  obtain ⟨B, hB⟩ : ∃ B, w.heap.size = B := ⟨_, rfl⟩
  obtain ⟨w1, hW⟩ : ∃ w1, w.alloc (.cells #[.int .i64 0, .slice none 0 0] 25) = w1 := ⟨_, rfl⟩
  have b0 : Below w.heap.size w w1 := by rw [← hW]; exact (Below.refl _ _).alloc (Nat.le_refl _) _
  have r0 : Row w1 B 25 #[.int .i64 0, .slice none 0 0] := by rw [← hW, ← hB]; exact row_new' _ _ _
  have B1 := Lib.hid b0
  have R1 := Lib.hid r0
  have HW := Lib.hid hW
  have HE := Lib.hid hB
  obtain ⟨bd, hbd⟩ : ∃ bd, w1.heap.size = bd := ⟨_, rfl⟩
  have hb2 : Below w1.heap.size w1 (w1.alloc (.cells #[.int .i64 (s : Int), .slice none 0 0] 25)) := (Below.refl _ _).alloc (Nat.le_refl _) _
  have RD := Lib.hid (row_new' w1 #[.int .i64 (s : Int), .slice none 0 0] 25)
  have B2 := Lib.hid hb2
  have SZ2 : Hid (bd < (w1.alloc (.cells #[.int .i64 (s : Int), .slice none 0 0] 25)).heap.size) := Lib.hid (by rw [World.size_alloc, hbd]; omega)
  rw [hbd] at RD
  have HD := Lib.hid hbd
  have BD1 : Hid (w.heap.size + 1 = bd) := Lib.hid (by rw [← hbd, ← hW, World.size_alloc])
  clear hb2 hbd b0 r0 hW hB hs hq so AE
  go_enter Tryd.func32, Tryd.ntmps32
  go_wp2_with fail
  rw [BD1.out, HE.out, HW.out]
  obtain ⟨w2, hw2⟩ : ∃ w2, w1.alloc (.cells #[.int .i64 (s : Int), .slice none 0 0] 25) = w2 := ⟨_, rfl⟩
  rw [hw2] at RD B2 SZ2 ⊢
  obtain ⟨K, hK⟩ : ∃ K, w2.heap.size = K := ⟨_, rfl⟩
  rw [hK] at SZ2
  have HK := Lib.hid hK
  clear hw2 hK
  have ROW0 : Hid (Below w1.heap.size w1 w2 ∧ Row w2 bd 25 #[.int .i64 (s : Int), .slice none 0 0] ∧ OwnR K w2 (.slice none 0 0) (afS q 0) ∧ K ≤ w2.heap.size) := Lib.hid ⟨B2.out, RD.out, OwnR.nil_ _ _, Nat.le_of_eq HK.out.symm⟩
  clear RD B2
  obtain ⟨N, hN⟩ : ∃ N, s + q = N := ⟨_, rfl⟩
  have eN : (s : Int) + (q : Int) = (N : Int) := by omega
  have HN := Lib.hid hN
  rw [hN] at s49
  have sN : s ≤ N := by omega
  have Nsq : N ≤ s + q := by omega
  clear hN
  go_loopw [4, 5, 6, 7, 8] (fun i _ _ _ _ wr => ∃ n : Nat, n ≤ N ∧ i = .int .i64 (n : Int) ∧ ∃ v, Hid (Below w1.heap.size w1 wr ∧ Row wr bd 25 #[.int .i64 (s : Int), v] ∧ OwnR K wr v (afS q n) ∧ K ≤ wr.heap.size)) (fun i _ _ _ _ _ => N - (intOf i).toNat)
  case atStart => exact ⟨0, Nat.zero_le _, rfl, _, ROW0⟩
  case round =>
    obtain ⟨n, hn, rfl, v, H⟩ := hrel
    obtain ⟨wo, rfl⟩ : ∃ wo, wo = wr := ⟨_, rfl⟩
    by_cases hn2 : n < N
    · have iI : (n : Int) < (N : Int) := by omega
      have SUCI := Lib.hid (afS_succ q n)
      rw [HS.out] at SUCI
      have HO := Lib.hid H.out.1
      have HR := Lib.hid H.out.2.1
      have HL := Lib.hid H.out.2.2.1
      have HKK := Lib.hid H.out.2.2.2
      clear H
      go_wp2_with fail
      go_loopw [5, 6, 7, 8] (fun u k _ _ wr => ∃ p : Nat, p ≤ s ∧ k = .int .i64 (p : Int) ∧ Hid (Below wo.heap.size wo wr ∧ OwnL Nv wr wo.heap.size 3 u (affTo q n p))) (fun _ k _ _ _ => s - (intOf k).toNat)
      case atStart => exact ⟨0, Nat.zero_le _, rfl, Lib.hid ⟨Below.refl _ _, OwnL.nil_ _ _ _⟩⟩
      case round =>
        obtain ⟨k, hk, rfl, J⟩ := hrel
        obtain ⟨A6, c6, rfl⟩ := slform J.out.2.sl
        by_cases hk2 : k < s
        · have kI : (k : Int) < (s : Int) := by omega
          have SUCK := Lib.hid (affTo_succ q n k)
          have LEK := affTo_len q n k
          have IB := Lib.hid J.out.1
          have IO := Lib.hid J.out.2
          obtain ⟨l, hl⟩ : ∃ l, affTo q n k = l := ⟨_, rfl⟩
          rw [hl] at SUCK IO LEK ⊢
          obtain ⟨m, hm⟩ : ∃ m, l.length = m := ⟨_, rfl⟩
          rw [hm] at IO LEK ⊢
          have LM := Lib.hid hm
          have q0 : ¬ q = 0 := by omega
          have xq : k / q < q := Nat.div_lt_of_lt_mul (by rw [HS.out]; exact hk2)
          have yq : k % q < q := Nat.mod_lt _ (by omega)
          have bq : n % q < q := Nat.mod_lt _ (by omega)
          have an : n / q ≤ n := Nat.div_le_self _ _
          have aq : n < s → n / q < q := fun h => Nat.div_lt_of_lt_mul (by rw [HS.out]; exact h)
          have ON : Hid (onA q n k = if n < s then k % q == Sf.addF q (Sf.mulF q (n / q) (k / q)) (n % q) else k / q == n - s) := Lib.hid (by unfold onA; rw [HS.out])
          obtain ⟨x, hx⟩ : ∃ x, k / q = x := ⟨_, rfl⟩
          obtain ⟨y, hy⟩ : ∃ y, k % q = y := ⟨_, rfl⟩
          obtain ⟨a, ha⟩ : ∃ a, n / q = a := ⟨_, rfl⟩
          obtain ⟨b, hb⟩ : ∃ b, n % q = b := ⟨_, rfl⟩
          have d1 : (k : Int).tdiv (q : Int) = (x : Int) := by rw [← hx]; exact (Int.ofNat_tdiv k q).symm
          have d2 : (k : Int).tmod (q : Int) = (y : Int) := by rw [← hy]; exact (Int.ofNat_tmod k q).symm
          have d3 : (n : Int).tdiv (q : Int) = (a : Int) := by rw [← ha]; exact (Int.ofNat_tdiv n q).symm
          have d4 : (n : Int).tmod (q : Int) = (b : Int) := by rw [← hb]; exact (Int.ofNat_tmod n q).symm
          have f1 : (k : Int) / (q : Int) = (x : Int) := by rw [← hx]; rfl
          have f2 : (k : Int) % (q : Int) = (y : Int) := by rw [← hy]; rfl
          have f3 : (n : Int) / (q : Int) = (a : Int) := by rw [← ha]; rfl
          have f4 : (n : Int) % (q : Int) = (b : Int) := by rw [← hb]; rfl
          rw [hx] at xq ON
          rw [hy] at yq ON
          rw [ha] at aq an ON
          rw [hb] at bq ON
          have v1 : IntKind.i64.wrap (x : Int) = (x : Int) := wrapN (by omega)
          have v2 : IntKind.i64.wrap (y : Int) = (y : Int) := wrapN (by omega)
          have v3 : IntKind.i64.wrap (a : Int) = (a : Int) := wrapN (by omega)
          have v4 : IntKind.i64.wrap (b : Int) = (b : Int) := wrapN (by omega)
          clear J hl hm hx hy ha hb an
          by_cases lo : n < s
          · have loI : (n : Int) < (s : Int) := by omega
            have hiI : ¬ (s : Int) ≤ (n : Int) := by omega
            have MM := Lib.hid fun W => rmul_any q a x W QZ.out (aq lo) xq
            have tq := Sf.mul_lt QZ.out (aq lo) xq
            have MA := Lib.hid fun W => radd_any q (Sf.mulF q a x) b W QZ.out tq bq
            rw [if_pos lo] at ON
            obtain ⟨t, ht⟩ : ∃ t, Sf.mulF q a x = t := ⟨_, rfl⟩
            rw [ht] at MM MA ON
            obtain ⟨r, hr⟩ : ∃ r, Sf.addF q t b = r := ⟨_, rfl⟩
            rw [hr] at MA ON
            by_cases yr : y = r
            · have E := Lib.hid (show affTo q n (k + 1) = l ++ [k] by rw [SUCK.out, ON.out, yr, if_pos (by simp)])
              subst yr
              clear SUCK ON ht hr aq xq yq bq tq
              go_wp2_with fail
              refine wp_region_held (P := Tryd.prog) (S := (fun w' : World => True)) rfl ?_
              change wpAnyH _ _ _ _ _ _ _ _ wr.drew
              have zhz2 : Below wr.heap.size wr wr.drew := (Below.refl wr.heap.size wr).drew
              generalize wr.drew = zwz1 at zhz2 ⊢
              have zhq3 : Below wr.heap.size wr zwz1 := zhz2
              have zO_4 := Lib.hid (OwnL.gto IO.out zhq3)
              have zHB_5 : Hid (Below wo.heap.size wo zwz1) := Lib.hid (IB.out.trans (zhq3.mono IB.out.size))
              clear zhq3
              clear zhz2
              have zhS6 : (fun w' : World => True) zwz1 := trivial
              refine takeD (i := 0) (v := .int .i64 (k : Int)) (some 29) rfl rfl (by kernel_rfl) (by kernel_rfl) (by kernel_rfl) (fun _ _ _ h => h) (Or.inl ⟨by rfl, by rintro w' -; go_simp⟩) zhS6 ?_
              simp only [Act.put, List.setIfInBounds_toArray, List.set_cons_zero, List.set_cons_succ]
              refine takeD (i := 1) (v := .int .i64 (q : Int)) (some 30) rfl rfl (by kernel_rfl) (by kernel_rfl) (by kernel_rfl) (fun _ _ _ h => h) (Or.inl ⟨by rfl, by rintro w' -; go_simp⟩) zhS6 ?_
              simp only [Act.put, List.setIfInBounds_toArray, List.set_cons_zero, List.set_cons_succ]
              refine takeD (i := 2) (v := .int .i64 (x : Int)) (some 31) rfl rfl (by kernel_rfl) (by kernel_rfl) (by kernel_rfl) (fun _ _ _ h => h) (Or.inl ⟨by rfl, by rintro w' -; go_simp⟩) zhS6 ?_
              simp only [Act.put, List.setIfInBounds_toArray, List.set_cons_zero, List.set_cons_succ]
              refine takeD (i := 3) (v := .int .i64 (k : Int)) (some 32) rfl rfl (by kernel_rfl) (by kernel_rfl) (by kernel_rfl) (fun _ _ _ h => h) (Or.inl ⟨by rfl, by rintro w' -; go_simp⟩) zhS6 ?_
              simp only [Act.put, List.setIfInBounds_toArray, List.set_cons_zero, List.set_cons_succ]
              refine takeD (i := 4) (v := .int .i64 (q : Int)) (some 33) rfl rfl (by kernel_rfl) (by kernel_rfl) (by kernel_rfl) (fun _ _ _ h => h) (Or.inl ⟨by rfl, by rintro w' -; go_simp⟩) zhS6 ?_
              simp only [Act.put, List.setIfInBounds_toArray, List.set_cons_zero, List.set_cons_succ]
              refine takeD (i := 5) (v := .int .i64 (y : Int)) (some 34) rfl rfl (by kernel_rfl) (by kernel_rfl) (by kernel_rfl) (fun _ _ _ h => h) (Or.inl ⟨by rfl, by rintro w' -; go_simp⟩) zhS6 ?_
              simp only [Act.put, List.setIfInBounds_toArray, List.set_cons_zero, List.set_cons_succ]
              refine takeD (i := 6) (v := .int .i64 (x : Int)) (some 7) rfl rfl (by kernel_rfl) (by kernel_rfl) (by kernel_rfl) (fun _ _ _ h => h) (Or.inl ⟨by rfl, by rintro w' -; go_simp⟩) zhS6 ?_
              simp only [Act.put, List.setIfInBounds_toArray, List.set_cons_zero, List.set_cons_succ]
              refine takeD (i := 7) (v := .int .i64 (y : Int)) (some 8) rfl rfl (by kernel_rfl) (by kernel_rfl) (by kernel_rfl) (fun _ _ _ h => h) (Or.inl ⟨by rfl, by rintro w' -; go_simp⟩) zhS6 ?_
              simp only [Act.put, List.setIfInBounds_toArray, List.set_cons_zero, List.set_cons_succ]
              refine wpAnyH_done (by kernel_rfl) ?_ _
              go_wp2_with fail
              refine wp_region_held (P := Tryd.prog) (S := (fun w' : World => True)) rfl ?_
              change wpAnyH _ _ _ _ _ _ _ _ zwz1.drew
              have zhz8 : Below zwz1.heap.size zwz1 zwz1.drew := (Below.refl zwz1.heap.size zwz1).drew
              generalize zwz1.drew = zwz7 at zhz8 ⊢
              have zhq9 : Below zwz1.heap.size zwz1 zwz7 := zhz8
              have zO_10 := Lib.hid (OwnL.gto zO_4.out zhq9)
              have zHB_11 : Hid (Below wo.heap.size wo zwz7) := Lib.hid (zHB_5.out.trans (zhq9.mono zHB_5.out.size))
              clear zhq9
              clear zhz8
              have zhS12 : (fun w' : World => True) zwz7 := trivial
              refine takeD (i := 0) (v := .int .i64 (n : Int)) (some 35) rfl rfl (by kernel_rfl) (by kernel_rfl) (by kernel_rfl) (fun _ _ _ h => h) (Or.inl ⟨by rfl, by rintro w' -; go_simp⟩) zhS12 ?_
              simp only [Act.put, List.setIfInBounds_toArray, List.set_cons_zero, List.set_cons_succ]
              refine takeD (i := 1) (v := .int .i64 (q : Int)) (some 36) rfl rfl (by kernel_rfl) (by kernel_rfl) (by kernel_rfl) (fun _ _ _ h => h) (Or.inl ⟨by rfl, by rintro w' -; go_simp⟩) zhS12 ?_
              simp only [Act.put, List.setIfInBounds_toArray, List.set_cons_zero, List.set_cons_succ]
              refine takeD (i := 2) (v := .int .i64 (q : Int)) (some 37) rfl rfl (by kernel_rfl) (by kernel_rfl) (by kernel_rfl) (fun _ _ _ h => h) (Or.inl ⟨by rfl, by rintro w' -; go_simp⟩) zhS12 ?_
              simp only [Act.put, List.setIfInBounds_toArray, List.set_cons_zero, List.set_cons_succ]
              refine takeD (i := 3) (v := .int .i64 (s : Int)) (some 38) rfl rfl (by kernel_rfl) (by kernel_rfl) (by kernel_rfl) (fun _ _ _ h => h) (Or.inl ⟨by rfl, by rintro w' -; go_simp⟩) zhS12 ?_
              simp only [Act.put, List.setIfInBounds_toArray, List.set_cons_zero, List.set_cons_succ]
              refine takeD (i := 4) (v := .bool true) (some 39) rfl rfl (by kernel_rfl) (by kernel_rfl) (by kernel_rfl) (fun _ _ _ h => h) (Or.inl ⟨by rfl, by rintro w' -; go_simp⟩) zhS12 ?_
              simp only [Act.put, List.setIfInBounds_toArray, List.set_cons_zero, List.set_cons_succ]
              refine takeD (i := 5) (v := .bool true) (some 40) rfl rfl (by kernel_rfl) (by kernel_rfl) (by kernel_rfl) (fun _ _ _ h => h) (Or.inl ⟨by rfl, by rintro w' -; go_simp⟩) zhS12 ?_
              simp only [Act.put, List.setIfInBounds_toArray, List.set_cons_zero, List.set_cons_succ]
              refine takeD (i := 6) (v := .int .i64 (y : Int)) (some 41) rfl rfl (by kernel_rfl) (by kernel_rfl) (by kernel_rfl) (fun _ _ _ h => h) (Or.inl ⟨by rfl, by rintro w' -; go_simp⟩) zhS12 ?_
              simp only [Act.put, List.setIfInBounds_toArray, List.set_cons_zero, List.set_cons_succ]
              refine takeD (i := 7) (v := .int .i64 (q : Int)) (some 42) rfl rfl (by kernel_rfl) (by kernel_rfl) (by kernel_rfl) (fun _ _ _ h => h) (Or.inl ⟨by rfl, by rintro w' -; go_simp⟩) zhS12 ?_
              simp only [Act.put, List.setIfInBounds_toArray, List.set_cons_zero, List.set_cons_succ]
              refine takeD (i := 8) (v := .int .i64 (q : Int)) (some 43) rfl rfl (by kernel_rfl) (by kernel_rfl) (by kernel_rfl) (fun _ _ _ h => h) (Or.inl ⟨by rfl, by rintro w' -; go_simp⟩) zhS12 ?_
              simp only [Act.put, List.setIfInBounds_toArray, List.set_cons_zero, List.set_cons_succ]
              refine takeD (i := 9) (v := .int .i64 (n : Int)) (some 44) rfl rfl (by kernel_rfl) (by kernel_rfl) (by kernel_rfl) (fun _ _ _ h => h) (Or.inl ⟨by rfl, by rintro w' -; go_simp⟩) zhS12 ?_
              simp only [Act.put, List.setIfInBounds_toArray, List.set_cons_zero, List.set_cons_succ]
              refine takeD (i := 10) (v := .int .i64 (q : Int)) (some 45) rfl rfl (by kernel_rfl) (by kernel_rfl) (by kernel_rfl) (fun _ _ _ h => h) (Or.inl ⟨by rfl, by rintro w' -; go_simp⟩) zhS12 ?_
              simp only [Act.put, List.setIfInBounds_toArray, List.set_cons_zero, List.set_cons_succ]
              refine takeD (i := 11) (v := .int .i64 (a : Int)) (some 46) rfl rfl (by kernel_rfl) (by kernel_rfl) (by kernel_rfl) (fun _ _ _ h => h) (Or.inl ⟨by rfl, by rintro w' -; go_simp⟩) zhS12 ?_
              simp only [Act.put, List.setIfInBounds_toArray, List.set_cons_zero, List.set_cons_succ]
              refine takeD (i := 12) (v := .int .i64 (x : Int)) (some 47) rfl rfl (by kernel_rfl) (by kernel_rfl) (by kernel_rfl) (fun _ _ _ h => h) (Or.inl ⟨by rfl, by rintro w' -; go_simp⟩) zhS12 ?_
              simp only [Act.put, List.setIfInBounds_toArray, List.set_cons_zero, List.set_cons_succ]
              refine takeD (i := 14) (v := .int .i64 (n : Int)) (some 49) rfl rfl (by kernel_rfl) (by kernel_rfl) (by kernel_rfl) (fun _ _ _ h => h) (Or.inl ⟨by rfl, by rintro w' -; go_simp⟩) zhS12 ?_
              simp only [Act.put, List.setIfInBounds_toArray, List.set_cons_zero, List.set_cons_succ]
              refine takeD (i := 15) (v := .int .i64 (q : Int)) (some 50) rfl rfl (by kernel_rfl) (by kernel_rfl) (by kernel_rfl) (fun _ _ _ h => h) (Or.inl ⟨by rfl, by rintro w' -; go_simp⟩) zhS12 ?_
              simp only [Act.put, List.setIfInBounds_toArray, List.set_cons_zero, List.set_cons_succ]
              refine takeD (i := 16) (v := .int .i64 (b : Int)) (some 51) rfl rfl (by kernel_rfl) (by kernel_rfl) (by kernel_rfl) (fun _ _ _ h => h) (Or.inl ⟨by rfl, by rintro w' -; go_simp⟩) zhS12 ?_
              simp only [Act.put, List.setIfInBounds_toArray, List.set_cons_zero, List.set_cons_succ]
              refine wpAnyH_ready (rs := [13]) (by kernel_rfl) (by simp) ?_
              refine AllReadyH.cons rfl (fun zK13 hzK13 => ?_) AllReadyH.nil
              have HzK13 := Lib.hid hzK13
              clear hzK13
              rw [if_pos (by rfl)]
              go_simp
              refine (MM.out _).mono ?_
              rintro e zx14 ⟨rfl, hb⟩
              have zhq15 : Below zwz7.heap.size zwz7 zx14 := hb
              have zO_16 := Lib.hid (OwnL.gto zO_10.out zhq15)
              have zHB_17 : Hid (Below wo.heap.size wo zx14) := Lib.hid (zHB_11.out.trans (zhq15.mono zHB_11.out.size))
              clear zhq15
              clear hb
              have zhS18 : (fun w' : World => True) zx14 := trivial
              refine HzK13.out _ _ zhS18 fun _ => ?_
              try simp only [Act.put, List.setIfInBounds_toArray, List.set_cons_zero, List.set_cons_succ]
              refine wpAnyH_ready (rs := [17]) (by kernel_rfl) (by simp) ?_
              refine AllReadyH.cons rfl (fun zK19 hzK19 => ?_) AllReadyH.nil
              have HzK19 := Lib.hid hzK19
              clear hzK19
              rw [if_pos (by rfl)]
              go_simp
              refine (MA.out _).mono ?_
              rintro e zx20 ⟨rfl, hb⟩
              have zhq21 : Below zx14.heap.size zx14 zx20 := hb
              have zO_22 := Lib.hid (OwnL.gto zO_16.out zhq21)
              have zHB_23 : Hid (Below wo.heap.size wo zx20) := Lib.hid (zHB_17.out.trans (zhq21.mono zHB_17.out.size))
              clear zhq21
              clear hb
              have zhS24 : (fun w' : World => True) zx20 := trivial
              refine HzK19.out _ _ zhS24 fun _ => ?_
              try simp only [Act.put, List.setIfInBounds_toArray, List.set_cons_zero, List.set_cons_succ]
              refine takeD (i := 18) (v := .bool true) (some 53) rfl rfl (by kernel_rfl) (by kernel_rfl) (by kernel_rfl) (fun _ _ _ h => h) (Or.inl ⟨by rfl, by rintro w' -; go_simp⟩) zhS24 ?_
              simp only [Act.put, List.setIfInBounds_toArray, List.set_cons_zero, List.set_cons_succ]
              refine takeD (i := 19) (v := .bool true) (some 54) rfl rfl (by kernel_rfl) (by kernel_rfl) (by kernel_rfl) (fun _ _ _ h => h) (Or.inl ⟨by rfl, by rintro w' -; go_simp⟩) zhS24 ?_
              simp only [Act.put, List.setIfInBounds_toArray, List.set_cons_zero, List.set_cons_succ]
              refine takeD (i := 20) (v := .bool true) (some 55) rfl rfl (by kernel_rfl) (by kernel_rfl) (by kernel_rfl) (fun _ _ _ h => h) (Or.inl ⟨by rfl, by rintro w' -; go_simp⟩) zhS24 ?_
              simp only [Act.put, List.setIfInBounds_toArray, List.set_cons_zero, List.set_cons_succ]
              refine takeD (i := 21) (v := undef) (some 56) rfl rfl (by kernel_rfl) (by kernel_rfl) (by kernel_rfl) (fun _ _ _ h => h) (Or.inr ⟨by rfl, rfl⟩) zhS24 ?_
              simp only [Act.put, List.setIfInBounds_toArray, List.set_cons_zero, List.set_cons_succ]
              refine takeD (i := 22) (v := undef) (some 57) rfl rfl (by kernel_rfl) (by kernel_rfl) (by kernel_rfl) (fun _ _ _ h => h) (Or.inr ⟨by rfl, rfl⟩) zhS24 ?_
              simp only [Act.put, List.setIfInBounds_toArray, List.set_cons_zero, List.set_cons_succ]
              refine takeD (i := 23) (v := undef) (some 58) rfl rfl (by kernel_rfl) (by kernel_rfl) (by kernel_rfl) (fun _ _ _ h => h) (Or.inr ⟨by rfl, rfl⟩) zhS24 ?_
              simp only [Act.put, List.setIfInBounds_toArray, List.set_cons_zero, List.set_cons_succ]
              refine takeD (i := 24) (v := undef) (some 59) rfl rfl (by kernel_rfl) (by kernel_rfl) (by kernel_rfl) (fun _ _ _ h => h) (Or.inr ⟨by rfl, rfl⟩) zhS24 ?_
              simp only [Act.put, List.setIfInBounds_toArray, List.set_cons_zero, List.set_cons_succ]
              refine takeD (i := 25) (v := undef) (some 60) rfl rfl (by kernel_rfl) (by kernel_rfl) (by kernel_rfl) (fun _ _ _ h => h) (Or.inr ⟨by rfl, rfl⟩) zhS24 ?_
              simp only [Act.put, List.setIfInBounds_toArray, List.set_cons_zero, List.set_cons_succ]
              refine takeD (i := 26) (v := undef) (some 61) rfl rfl (by kernel_rfl) (by kernel_rfl) (by kernel_rfl) (fun _ _ _ h => h) (Or.inr ⟨by rfl, rfl⟩) zhS24 ?_
              simp only [Act.put, List.setIfInBounds_toArray, List.set_cons_zero, List.set_cons_succ]
              refine takeD (i := 27) (v := undef) (some 62) rfl rfl (by kernel_rfl) (by kernel_rfl) (by kernel_rfl) (fun _ _ _ h => h) (Or.inr ⟨by rfl, rfl⟩) zhS24 ?_
              simp only [Act.put, List.setIfInBounds_toArray, List.set_cons_zero, List.set_cons_succ]
              refine takeD (i := 28) (v := undef) (some 63) rfl rfl (by kernel_rfl) (by kernel_rfl) (by kernel_rfl) (fun _ _ _ h => h) (Or.inr ⟨by rfl, rfl⟩) zhS24 ?_
              simp only [Act.put, List.setIfInBounds_toArray, List.set_cons_zero, List.set_cons_succ]
              refine takeD (i := 29) (v := undef) (some 64) rfl rfl (by kernel_rfl) (by kernel_rfl) (by kernel_rfl) (fun _ _ _ h => h) (Or.inr ⟨by rfl, rfl⟩) zhS24 ?_
              simp only [Act.put, List.setIfInBounds_toArray, List.set_cons_zero, List.set_cons_succ]
              refine takeD (i := 30) (v := undef) (some 65) rfl rfl (by kernel_rfl) (by kernel_rfl) (by kernel_rfl) (fun _ _ _ h => h) (Or.inr ⟨by rfl, rfl⟩) zhS24 ?_
              simp only [Act.put, List.setIfInBounds_toArray, List.set_cons_zero, List.set_cons_succ]
              refine takeD (i := 31) (v := undef) (some 66) rfl rfl (by kernel_rfl) (by kernel_rfl) (by kernel_rfl) (fun _ _ _ h => h) (Or.inr ⟨by rfl, rfl⟩) zhS24 ?_
              simp only [Act.put, List.setIfInBounds_toArray, List.set_cons_zero, List.set_cons_succ]
              refine takeD (i := 32) (v := undef) (some 67) rfl rfl (by kernel_rfl) (by kernel_rfl) (by kernel_rfl) (fun _ _ _ h => h) (Or.inr ⟨by rfl, rfl⟩) zhS24 ?_
              simp only [Act.put, List.setIfInBounds_toArray, List.set_cons_zero, List.set_cons_succ]
              refine takeD (i := 33) (v := undef) (some 68) rfl rfl (by kernel_rfl) (by kernel_rfl) (by kernel_rfl) (fun _ _ _ h => h) (Or.inr ⟨by rfl, rfl⟩) zhS24 ?_
              simp only [Act.put, List.setIfInBounds_toArray, List.set_cons_zero, List.set_cons_succ]
              refine takeD (i := 34) (v := undef) (some 69) rfl rfl (by kernel_rfl) (by kernel_rfl) (by kernel_rfl) (fun _ _ _ h => h) (Or.inr ⟨by rfl, rfl⟩) zhS24 ?_
              simp only [Act.put, List.setIfInBounds_toArray, List.set_cons_zero, List.set_cons_succ]
              refine takeD (i := 35) (v := .bool true) (some 70) rfl rfl (by kernel_rfl) (by kernel_rfl) (by kernel_rfl) (fun _ _ _ h => h) (Or.inl ⟨by rfl, by rintro w' -; go_simp⟩) zhS24 ?_
              simp only [Act.put, List.setIfInBounds_toArray, List.set_cons_zero, List.set_cons_succ]
              refine wpAnyH_done (by kernel_rfl) ?_ _
              have LIT := Lib.hid (show (zx20.alloc (.cells #[.int .i64 (k : Int)] 3)).cell? ⟨zx20.heap.size, 0, none⟩ = some (.int .i64 (k : Int)) from (row_new' _ _ _).cell 0)
              have hbx : Below zx20.heap.size zx20 (zx20.alloc (.cells #[.int .i64 (k : Int)] 3)) := (Below.refl _ _).alloc (Nat.le_refl _) _
              have O2 := Lib.hid (zO_22.out.gto hbx)
              have B3 := Lib.hid (zHB_23.out.trans (hbx.mono zHB_23.out.size))
              clear hbx
              go_wp2_with (first | (at_builtin; refine wpList_push_n rfl (.tmp 71) (.tmp 73) rfl wo.heap.size (.slice A6 m c6) l m k zx20.heap.size rfl O2.out LM.out rfl LIT.out (by omega) B3.out.size ?_; intro gs cq x9 ho hg hat hlt2; have ZO := Lib.hid ho; have ZB := Lib.hid (B3.out.grown hg B3.out.size (fun k e => (O2.out.own k e).1)); clear ho hg hat hlt2))
              go_roundw
              case rel => exact ⟨k + 1, by omega, by go_num, Lib.hid ⟨ZB.out, by rw [E.out]; exact ZO.out⟩⟩
              case measure => simp [intOf]; omega
            · have E := Lib.hid (show affTo q n (k + 1) = l by rw [SUCK.out, ON.out, if_neg (by simpa using yr)])
              have yrI : ¬ ((y : Int) = (r : Int)) := by omega
              clear SUCK ON ht hr aq xq yq bq tq
              go_wp2_with fail
              refine wp_region_held (P := Tryd.prog) (S := (fun w' : World => True)) rfl ?_
              change wpAnyH _ _ _ _ _ _ _ _ wr.drew
              have zhz2 : Below wr.heap.size wr wr.drew := (Below.refl wr.heap.size wr).drew
              generalize wr.drew = zwz1 at zhz2 ⊢
              have zhq3 : Below wr.heap.size wr zwz1 := zhz2
              have zO_4 := Lib.hid (OwnL.gto IO.out zhq3)
              have zHB_5 : Hid (Below wo.heap.size wo zwz1) := Lib.hid (IB.out.trans (zhq3.mono IB.out.size))
              clear zhq3
              clear zhz2
              have zhS6 : (fun w' : World => True) zwz1 := trivial
              refine takeD (i := 0) (v := .int .i64 (k : Int)) (some 29) rfl rfl (by kernel_rfl) (by kernel_rfl) (by kernel_rfl) (fun _ _ _ h => h) (Or.inl ⟨by rfl, by rintro w' -; go_simp⟩) zhS6 ?_
              simp only [Act.put, List.setIfInBounds_toArray, List.set_cons_zero, List.set_cons_succ]
              refine takeD (i := 1) (v := .int .i64 (q : Int)) (some 30) rfl rfl (by kernel_rfl) (by kernel_rfl) (by kernel_rfl) (fun _ _ _ h => h) (Or.inl ⟨by rfl, by rintro w' -; go_simp⟩) zhS6 ?_
              simp only [Act.put, List.setIfInBounds_toArray, List.set_cons_zero, List.set_cons_succ]
              refine takeD (i := 2) (v := .int .i64 (x : Int)) (some 31) rfl rfl (by kernel_rfl) (by kernel_rfl) (by kernel_rfl) (fun _ _ _ h => h) (Or.inl ⟨by rfl, by rintro w' -; go_simp⟩) zhS6 ?_
              simp only [Act.put, List.setIfInBounds_toArray, List.set_cons_zero, List.set_cons_succ]
              refine takeD (i := 3) (v := .int .i64 (k : Int)) (some 32) rfl rfl (by kernel_rfl) (by kernel_rfl) (by kernel_rfl) (fun _ _ _ h => h) (Or.inl ⟨by rfl, by rintro w' -; go_simp⟩) zhS6 ?_
              simp only [Act.put, List.setIfInBounds_toArray, List.set_cons_zero, List.set_cons_succ]
              refine takeD (i := 4) (v := .int .i64 (q : Int)) (some 33) rfl rfl (by kernel_rfl) (by kernel_rfl) (by kernel_rfl) (fun _ _ _ h => h) (Or.inl ⟨by rfl, by rintro w' -; go_simp⟩) zhS6 ?_
              simp only [Act.put, List.setIfInBounds_toArray, List.set_cons_zero, List.set_cons_succ]
              refine takeD (i := 5) (v := .int .i64 (y : Int)) (some 34) rfl rfl (by kernel_rfl) (by kernel_rfl) (by kernel_rfl) (fun _ _ _ h => h) (Or.inl ⟨by rfl, by rintro w' -; go_simp⟩) zhS6 ?_
              simp only [Act.put, List.setIfInBounds_toArray, List.set_cons_zero, List.set_cons_succ]
              refine takeD (i := 6) (v := .int .i64 (x : Int)) (some 7) rfl rfl (by kernel_rfl) (by kernel_rfl) (by kernel_rfl) (fun _ _ _ h => h) (Or.inl ⟨by rfl, by rintro w' -; go_simp⟩) zhS6 ?_
              simp only [Act.put, List.setIfInBounds_toArray, List.set_cons_zero, List.set_cons_succ]
              refine takeD (i := 7) (v := .int .i64 (y : Int)) (some 8) rfl rfl (by kernel_rfl) (by kernel_rfl) (by kernel_rfl) (fun _ _ _ h => h) (Or.inl ⟨by rfl, by rintro w' -; go_simp⟩) zhS6 ?_
              simp only [Act.put, List.setIfInBounds_toArray, List.set_cons_zero, List.set_cons_succ]
              refine wpAnyH_done (by kernel_rfl) ?_ _
              go_wp2_with fail
              refine wp_region_held (P := Tryd.prog) (S := (fun w' : World => True)) rfl ?_
              change wpAnyH _ _ _ _ _ _ _ _ zwz1.drew
              have zhz8 : Below zwz1.heap.size zwz1 zwz1.drew := (Below.refl zwz1.heap.size zwz1).drew
              generalize zwz1.drew = zwz7 at zhz8 ⊢
              have zhq9 : Below zwz1.heap.size zwz1 zwz7 := zhz8
              have zO_10 := Lib.hid (OwnL.gto zO_4.out zhq9)
              have zHB_11 : Hid (Below wo.heap.size wo zwz7) := Lib.hid (zHB_5.out.trans (zhq9.mono zHB_5.out.size))
              clear zhq9
              clear zhz8
              have zhS12 : (fun w' : World => True) zwz7 := trivial
              refine takeD (i := 0) (v := .int .i64 (n : Int)) (some 35) rfl rfl (by kernel_rfl) (by kernel_rfl) (by kernel_rfl) (fun _ _ _ h => h) (Or.inl ⟨by rfl, by rintro w' -; go_simp⟩) zhS12 ?_
              simp only [Act.put, List.setIfInBounds_toArray, List.set_cons_zero, List.set_cons_succ]
              refine takeD (i := 1) (v := .int .i64 (q : Int)) (some 36) rfl rfl (by kernel_rfl) (by kernel_rfl) (by kernel_rfl) (fun _ _ _ h => h) (Or.inl ⟨by rfl, by rintro w' -; go_simp⟩) zhS12 ?_
              simp only [Act.put, List.setIfInBounds_toArray, List.set_cons_zero, List.set_cons_succ]
              refine takeD (i := 2) (v := .int .i64 (q : Int)) (some 37) rfl rfl (by kernel_rfl) (by kernel_rfl) (by kernel_rfl) (fun _ _ _ h => h) (Or.inl ⟨by rfl, by rintro w' -; go_simp⟩) zhS12 ?_
              simp only [Act.put, List.setIfInBounds_toArray, List.set_cons_zero, List.set_cons_succ]
              refine takeD (i := 3) (v := .int .i64 (s : Int)) (some 38) rfl rfl (by kernel_rfl) (by kernel_rfl) (by kernel_rfl) (fun _ _ _ h => h) (Or.inl ⟨by rfl, by rintro w' -; go_simp⟩) zhS12 ?_
              simp only [Act.put, List.setIfInBounds_toArray, List.set_cons_zero, List.set_cons_succ]
              refine takeD (i := 4) (v := .bool true) (some 39) rfl rfl (by kernel_rfl) (by kernel_rfl) (by kernel_rfl) (fun _ _ _ h => h) (Or.inl ⟨by rfl, by rintro w' -; go_simp⟩) zhS12 ?_
              simp only [Act.put, List.setIfInBounds_toArray, List.set_cons_zero, List.set_cons_succ]
              refine takeD (i := 5) (v := .bool true) (some 40) rfl rfl (by kernel_rfl) (by kernel_rfl) (by kernel_rfl) (fun _ _ _ h => h) (Or.inl ⟨by rfl, by rintro w' -; go_simp⟩) zhS12 ?_
              simp only [Act.put, List.setIfInBounds_toArray, List.set_cons_zero, List.set_cons_succ]
              refine takeD (i := 6) (v := .int .i64 (y : Int)) (some 41) rfl rfl (by kernel_rfl) (by kernel_rfl) (by kernel_rfl) (fun _ _ _ h => h) (Or.inl ⟨by rfl, by rintro w' -; go_simp⟩) zhS12 ?_
              simp only [Act.put, List.setIfInBounds_toArray, List.set_cons_zero, List.set_cons_succ]
              refine takeD (i := 7) (v := .int .i64 (q : Int)) (some 42) rfl rfl (by kernel_rfl) (by kernel_rfl) (by kernel_rfl) (fun _ _ _ h => h) (Or.inl ⟨by rfl, by rintro w' -; go_simp⟩) zhS12 ?_
              simp only [Act.put, List.setIfInBounds_toArray, List.set_cons_zero, List.set_cons_succ]
              refine takeD (i := 8) (v := .int .i64 (q : Int)) (some 43) rfl rfl (by kernel_rfl) (by kernel_rfl) (by kernel_rfl) (fun _ _ _ h => h) (Or.inl ⟨by rfl, by rintro w' -; go_simp⟩) zhS12 ?_
              simp only [Act.put, List.setIfInBounds_toArray, List.set_cons_zero, List.set_cons_succ]
              refine takeD (i := 9) (v := .int .i64 (n : Int)) (some 44) rfl rfl (by kernel_rfl) (by kernel_rfl) (by kernel_rfl) (fun _ _ _ h => h) (Or.inl ⟨by rfl, by rintro w' -; go_simp⟩) zhS12 ?_
              simp only [Act.put, List.setIfInBounds_toArray, List.set_cons_zero, List.set_cons_succ]
              refine takeD (i := 10) (v := .int .i64 (q : Int)) (some 45) rfl rfl (by kernel_rfl) (by kernel_rfl) (by kernel_rfl) (fun _ _ _ h => h) (Or.inl ⟨by rfl, by rintro w' -; go_simp⟩) zhS12 ?_
              simp only [Act.put, List.setIfInBounds_toArray, List.set_cons_zero, List.set_cons_succ]
              refine takeD (i := 11) (v := .int .i64 (a : Int)) (some 46) rfl rfl (by kernel_rfl) (by kernel_rfl) (by kernel_rfl) (fun _ _ _ h => h) (Or.inl ⟨by rfl, by rintro w' -; go_simp⟩) zhS12 ?_
              simp only [Act.put, List.setIfInBounds_toArray, List.set_cons_zero, List.set_cons_succ]
              refine takeD (i := 12) (v := .int .i64 (x : Int)) (some 47) rfl rfl (by kernel_rfl) (by kernel_rfl) (by kernel_rfl) (fun _ _ _ h => h) (Or.inl ⟨by rfl, by rintro w' -; go_simp⟩) zhS12 ?_
              simp only [Act.put, List.setIfInBounds_toArray, List.set_cons_zero, List.set_cons_succ]
              refine takeD (i := 14) (v := .int .i64 (n : Int)) (some 49) rfl rfl (by kernel_rfl) (by kernel_rfl) (by kernel_rfl) (fun _ _ _ h => h) (Or.inl ⟨by rfl, by rintro w' -; go_simp⟩) zhS12 ?_
              simp only [Act.put, List.setIfInBounds_toArray, List.set_cons_zero, List.set_cons_succ]
              refine takeD (i := 15) (v := .int .i64 (q : Int)) (some 50) rfl rfl (by kernel_rfl) (by kernel_rfl) (by kernel_rfl) (fun _ _ _ h => h) (Or.inl ⟨by rfl, by rintro w' -; go_simp⟩) zhS12 ?_
              simp only [Act.put, List.setIfInBounds_toArray, List.set_cons_zero, List.set_cons_succ]
              refine takeD (i := 16) (v := .int .i64 (b : Int)) (some 51) rfl rfl (by kernel_rfl) (by kernel_rfl) (by kernel_rfl) (fun _ _ _ h => h) (Or.inl ⟨by rfl, by rintro w' -; go_simp⟩) zhS12 ?_
              simp only [Act.put, List.setIfInBounds_toArray, List.set_cons_zero, List.set_cons_succ]
              refine wpAnyH_ready (rs := [13]) (by kernel_rfl) (by simp) ?_
              refine AllReadyH.cons rfl (fun zK13 hzK13 => ?_) AllReadyH.nil
              have HzK13 := Lib.hid hzK13
              clear hzK13
              rw [if_pos (by rfl)]
              go_simp
              refine (MM.out _).mono ?_
              rintro e zx14 ⟨rfl, hb⟩
              have zhq15 : Below zwz7.heap.size zwz7 zx14 := hb
              have zO_16 := Lib.hid (OwnL.gto zO_10.out zhq15)
              have zHB_17 : Hid (Below wo.heap.size wo zx14) := Lib.hid (zHB_11.out.trans (zhq15.mono zHB_11.out.size))
              clear zhq15
              clear hb
              have zhS18 : (fun w' : World => True) zx14 := trivial
              refine HzK13.out _ _ zhS18 fun _ => ?_
              try simp only [Act.put, List.setIfInBounds_toArray, List.set_cons_zero, List.set_cons_succ]
              refine wpAnyH_ready (rs := [17]) (by kernel_rfl) (by simp) ?_
              refine AllReadyH.cons rfl (fun zK19 hzK19 => ?_) AllReadyH.nil
              have HzK19 := Lib.hid hzK19
              clear hzK19
              rw [if_pos (by rfl)]
              go_simp
              refine (MA.out _).mono ?_
              rintro e zx20 ⟨rfl, hb⟩
              have zhq21 : Below zx14.heap.size zx14 zx20 := hb
              have zO_22 := Lib.hid (OwnL.gto zO_16.out zhq21)
              have zHB_23 : Hid (Below wo.heap.size wo zx20) := Lib.hid (zHB_17.out.trans (zhq21.mono zHB_17.out.size))
              clear zhq21
              clear hb
              have zhS24 : (fun w' : World => True) zx20 := trivial
              refine HzK19.out _ _ zhS24 fun _ => ?_
              try simp only [Act.put, List.setIfInBounds_toArray, List.set_cons_zero, List.set_cons_succ]
              refine takeD (i := 18) (v := .bool false) (some 53) rfl rfl (by kernel_rfl) (by kernel_rfl) (by kernel_rfl) (fun _ _ _ h => h) (Or.inl ⟨by rfl, by rintro w' -; go_simp⟩) zhS24 ?_
              simp only [Act.put, List.setIfInBounds_toArray, List.set_cons_zero, List.set_cons_succ]
              refine takeD (i := 19) (v := .bool false) (some 54) rfl rfl (by kernel_rfl) (by kernel_rfl) (by kernel_rfl) (fun _ _ _ h => h) (Or.inl ⟨by rfl, by rintro w' -; go_simp⟩) zhS24 ?_
              simp only [Act.put, List.setIfInBounds_toArray, List.set_cons_zero, List.set_cons_succ]
              refine takeD (i := 20) (v := .bool false) (some 55) rfl rfl (by kernel_rfl) (by kernel_rfl) (by kernel_rfl) (fun _ _ _ h => h) (Or.inl ⟨by rfl, by rintro w' -; go_simp⟩) zhS24 ?_
              simp only [Act.put, List.setIfInBounds_toArray, List.set_cons_zero, List.set_cons_succ]
              refine takeD (i := 21) (v := .int .i64 (n : Int)) (some 56) rfl rfl (by kernel_rfl) (by kernel_rfl) (by kernel_rfl) (fun _ _ _ h => h) (Or.inl ⟨by rfl, by rintro w' -; go_simp⟩) zhS24 ?_
              simp only [Act.put, List.setIfInBounds_toArray, List.set_cons_zero, List.set_cons_succ]
              refine takeD (i := 22) (v := .int .i64 (q : Int)) (some 57) rfl rfl (by kernel_rfl) (by kernel_rfl) (by kernel_rfl) (fun _ _ _ h => h) (Or.inl ⟨by rfl, by rintro w' -; go_simp⟩) zhS24 ?_
              simp only [Act.put, List.setIfInBounds_toArray, List.set_cons_zero, List.set_cons_succ]
              refine takeD (i := 23) (v := .int .i64 (q : Int)) (some 58) rfl rfl (by kernel_rfl) (by kernel_rfl) (by kernel_rfl) (fun _ _ _ h => h) (Or.inl ⟨by rfl, by rintro w' -; go_simp⟩) zhS24 ?_
              simp only [Act.put, List.setIfInBounds_toArray, List.set_cons_zero, List.set_cons_succ]
              refine takeD (i := 24) (v := .int .i64 (s : Int)) (some 59) rfl rfl (by kernel_rfl) (by kernel_rfl) (by kernel_rfl) (fun _ _ _ h => h) (Or.inl ⟨by rfl, by rintro w' -; go_simp⟩) zhS24 ?_
              simp only [Act.put, List.setIfInBounds_toArray, List.set_cons_zero, List.set_cons_succ]
              refine takeD (i := 25) (v := .bool false) (some 60) rfl rfl (by kernel_rfl) (by kernel_rfl) (by kernel_rfl) (fun _ _ _ h => h) (Or.inl ⟨by rfl, by rintro w' -; go_simp⟩) zhS24 ?_
              simp only [Act.put, List.setIfInBounds_toArray, List.set_cons_zero, List.set_cons_succ]
              refine takeD (i := 26) (v := .bool false) (some 61) rfl rfl (by kernel_rfl) (by kernel_rfl) (by kernel_rfl) (fun _ _ _ h => h) (Or.inl ⟨by rfl, by rintro w' -; go_simp⟩) zhS24 ?_
              simp only [Act.put, List.setIfInBounds_toArray, List.set_cons_zero, List.set_cons_succ]
              refine takeD (i := 27) (v := undef) (some 62) rfl rfl (by kernel_rfl) (by kernel_rfl) (by kernel_rfl) (fun _ _ _ h => h) (Or.inr ⟨by rfl, rfl⟩) zhS24 ?_
              simp only [Act.put, List.setIfInBounds_toArray, List.set_cons_zero, List.set_cons_succ]
              refine takeD (i := 28) (v := undef) (some 63) rfl rfl (by kernel_rfl) (by kernel_rfl) (by kernel_rfl) (fun _ _ _ h => h) (Or.inr ⟨by rfl, rfl⟩) zhS24 ?_
              simp only [Act.put, List.setIfInBounds_toArray, List.set_cons_zero, List.set_cons_succ]
              refine takeD (i := 29) (v := undef) (some 64) rfl rfl (by kernel_rfl) (by kernel_rfl) (by kernel_rfl) (fun _ _ _ h => h) (Or.inr ⟨by rfl, rfl⟩) zhS24 ?_
              simp only [Act.put, List.setIfInBounds_toArray, List.set_cons_zero, List.set_cons_succ]
              refine takeD (i := 30) (v := undef) (some 65) rfl rfl (by kernel_rfl) (by kernel_rfl) (by kernel_rfl) (fun _ _ _ h => h) (Or.inr ⟨by rfl, rfl⟩) zhS24 ?_
              simp only [Act.put, List.setIfInBounds_toArray, List.set_cons_zero, List.set_cons_succ]
              refine takeD (i := 31) (v := undef) (some 66) rfl rfl (by kernel_rfl) (by kernel_rfl) (by kernel_rfl) (fun _ _ _ h => h) (Or.inr ⟨by rfl, rfl⟩) zhS24 ?_
              simp only [Act.put, List.setIfInBounds_toArray, List.set_cons_zero, List.set_cons_succ]
              refine takeD (i := 32) (v := undef) (some 67) rfl rfl (by kernel_rfl) (by kernel_rfl) (by kernel_rfl) (fun _ _ _ h => h) (Or.inr ⟨by rfl, rfl⟩) zhS24 ?_
              simp only [Act.put, List.setIfInBounds_toArray, List.set_cons_zero, List.set_cons_succ]
              refine takeD (i := 33) (v := undef) (some 68) rfl rfl (by kernel_rfl) (by kernel_rfl) (by kernel_rfl) (fun _ _ _ h => h) (Or.inr ⟨by rfl, rfl⟩) zhS24 ?_
              simp only [Act.put, List.setIfInBounds_toArray, List.set_cons_zero, List.set_cons_succ]
              refine takeD (i := 34) (v := .bool false) (some 69) rfl rfl (by kernel_rfl) (by kernel_rfl) (by kernel_rfl) (fun _ _ _ h => h) (Or.inl ⟨by rfl, by rintro w' -; go_simp⟩) zhS24 ?_
              simp only [Act.put, List.setIfInBounds_toArray, List.set_cons_zero, List.set_cons_succ]
              refine takeD (i := 35) (v := .bool false) (some 70) rfl rfl (by kernel_rfl) (by kernel_rfl) (by kernel_rfl) (fun _ _ _ h => h) (Or.inl ⟨by rfl, by rintro w' -; go_simp⟩) zhS24 ?_
              simp only [Act.put, List.setIfInBounds_toArray, List.set_cons_zero, List.set_cons_succ]
              refine wpAnyH_done (by kernel_rfl) ?_ _
              go_wp2_with fail
              go_roundw
              case rel => exact ⟨k + 1, by omega, by go_num, Lib.hid ⟨zHB_23.out, by rw [E.out]; exact zO_22.out⟩⟩
              case measure => simp [intOf]; omega
          · have loI : ¬ (n : Int) < (s : Int) := by omega
            have hiI : (s : Int) ≤ (n : Int) := by omega
            have hi0 : s ≤ n := by omega
            rw [if_neg lo] at ON
            obtain ⟨c, hc⟩ : ∃ c, n - s = c := ⟨_, rfl⟩
            rw [hc] at ON
            have ec : IntKind.i64.wrap ((n : Int) - (s : Int)) = (c : Int) := by rw [IntKind.wrap_i64]; omega
            by_cases yr : x = c
            · have E := Lib.hid (show affTo q n (k + 1) = l ++ [k] by rw [SUCK.out, ON.out, yr, if_pos (by simp)])
              subst yr
              clear SUCK ON hc aq xq yq bq
              go_wp2_with fail
              refine wp_region_held (P := Tryd.prog) (S := (fun w' : World => True)) rfl ?_
              change wpAnyH _ _ _ _ _ _ _ _ wr.drew
              have zhz2 : Below wr.heap.size wr wr.drew := (Below.refl wr.heap.size wr).drew
              generalize wr.drew = zwz1 at zhz2 ⊢
              have zhq3 : Below wr.heap.size wr zwz1 := zhz2
              have zO_4 := Lib.hid (OwnL.gto IO.out zhq3)
              have zHB_5 : Hid (Below wo.heap.size wo zwz1) := Lib.hid (IB.out.trans (zhq3.mono IB.out.size))
              clear zhq3
              clear zhz2
              have zhS6 : (fun w' : World => True) zwz1 := trivial
              refine takeD (i := 0) (v := .int .i64 (k : Int)) (some 29) rfl rfl (by kernel_rfl) (by kernel_rfl) (by kernel_rfl) (fun _ _ _ h => h) (Or.inl ⟨by rfl, by rintro w' -; go_simp⟩) zhS6 ?_
              simp only [Act.put, List.setIfInBounds_toArray, List.set_cons_zero, List.set_cons_succ]
              refine takeD (i := 1) (v := .int .i64 (q : Int)) (some 30) rfl rfl (by kernel_rfl) (by kernel_rfl) (by kernel_rfl) (fun _ _ _ h => h) (Or.inl ⟨by rfl, by rintro w' -; go_simp⟩) zhS6 ?_
              simp only [Act.put, List.setIfInBounds_toArray, List.set_cons_zero, List.set_cons_succ]
              refine takeD (i := 2) (v := .int .i64 (x : Int)) (some 31) rfl rfl (by kernel_rfl) (by kernel_rfl) (by kernel_rfl) (fun _ _ _ h => h) (Or.inl ⟨by rfl, by rintro w' -; go_simp⟩) zhS6 ?_
              simp only [Act.put, List.setIfInBounds_toArray, List.set_cons_zero, List.set_cons_succ]
              refine takeD (i := 3) (v := .int .i64 (k : Int)) (some 32) rfl rfl (by kernel_rfl) (by kernel_rfl) (by kernel_rfl) (fun _ _ _ h => h) (Or.inl ⟨by rfl, by rintro w' -; go_simp⟩) zhS6 ?_
              simp only [Act.put, List.setIfInBounds_toArray, List.set_cons_zero, List.set_cons_succ]
              refine takeD (i := 4) (v := .int .i64 (q : Int)) (some 33) rfl rfl (by kernel_rfl) (by kernel_rfl) (by kernel_rfl) (fun _ _ _ h => h) (Or.inl ⟨by rfl, by rintro w' -; go_simp⟩) zhS6 ?_
              simp only [Act.put, List.setIfInBounds_toArray, List.set_cons_zero, List.set_cons_succ]
              refine takeD (i := 5) (v := .int .i64 (y : Int)) (some 34) rfl rfl (by kernel_rfl) (by kernel_rfl) (by kernel_rfl) (fun _ _ _ h => h) (Or.inl ⟨by rfl, by rintro w' -; go_simp⟩) zhS6 ?_
              simp only [Act.put, List.setIfInBounds_toArray, List.set_cons_zero, List.set_cons_succ]
              refine takeD (i := 6) (v := .int .i64 (x : Int)) (some 7) rfl rfl (by kernel_rfl) (by kernel_rfl) (by kernel_rfl) (fun _ _ _ h => h) (Or.inl ⟨by rfl, by rintro w' -; go_simp⟩) zhS6 ?_
              simp only [Act.put, List.setIfInBounds_toArray, List.set_cons_zero, List.set_cons_succ]
              refine takeD (i := 7) (v := .int .i64 (y : Int)) (some 8) rfl rfl (by kernel_rfl) (by kernel_rfl) (by kernel_rfl) (fun _ _ _ h => h) (Or.inl ⟨by rfl, by rintro w' -; go_simp⟩) zhS6 ?_
              simp only [Act.put, List.setIfInBounds_toArray, List.set_cons_zero, List.set_cons_succ]
              refine wpAnyH_done (by kernel_rfl) ?_ _
              go_wp2_with fail
              refine wp_region_held (P := Tryd.prog) (S := (fun w' : World => True)) rfl ?_
              change wpAnyH _ _ _ _ _ _ _ _ zwz1.drew
              have zhz8 : Below zwz1.heap.size zwz1 zwz1.drew := (Below.refl zwz1.heap.size zwz1).drew
              generalize zwz1.drew = zwz7 at zhz8 ⊢
              have zhq9 : Below zwz1.heap.size zwz1 zwz7 := zhz8
              have zO_10 := Lib.hid (OwnL.gto zO_4.out zhq9)
              have zHB_11 : Hid (Below wo.heap.size wo zwz7) := Lib.hid (zHB_5.out.trans (zhq9.mono zHB_5.out.size))
              clear zhq9
              clear zhz8
              have zhS12 : (fun w' : World => True) zwz7 := trivial
              refine takeD (i := 0) (v := .int .i64 (n : Int)) (some 35) rfl rfl (by kernel_rfl) (by kernel_rfl) (by kernel_rfl) (fun _ _ _ h => h) (Or.inl ⟨by rfl, by rintro w' -; go_simp⟩) zhS12 ?_
              simp only [Act.put, List.setIfInBounds_toArray, List.set_cons_zero, List.set_cons_succ]
              refine takeD (i := 1) (v := .int .i64 (q : Int)) (some 36) rfl rfl (by kernel_rfl) (by kernel_rfl) (by kernel_rfl) (fun _ _ _ h => h) (Or.inl ⟨by rfl, by rintro w' -; go_simp⟩) zhS12 ?_
              simp only [Act.put, List.setIfInBounds_toArray, List.set_cons_zero, List.set_cons_succ]
              refine takeD (i := 2) (v := .int .i64 (q : Int)) (some 37) rfl rfl (by kernel_rfl) (by kernel_rfl) (by kernel_rfl) (fun _ _ _ h => h) (Or.inl ⟨by rfl, by rintro w' -; go_simp⟩) zhS12 ?_
              simp only [Act.put, List.setIfInBounds_toArray, List.set_cons_zero, List.set_cons_succ]
              refine takeD (i := 3) (v := .int .i64 (s : Int)) (some 38) rfl rfl (by kernel_rfl) (by kernel_rfl) (by kernel_rfl) (fun _ _ _ h => h) (Or.inl ⟨by rfl, by rintro w' -; go_simp⟩) zhS12 ?_
              simp only [Act.put, List.setIfInBounds_toArray, List.set_cons_zero, List.set_cons_succ]
              refine takeD (i := 4) (v := .bool false) (some 39) rfl rfl (by kernel_rfl) (by kernel_rfl) (by kernel_rfl) (fun _ _ _ h => h) (Or.inl ⟨by rfl, by rintro w' -; go_simp⟩) zhS12 ?_
              simp only [Act.put, List.setIfInBounds_toArray, List.set_cons_zero, List.set_cons_succ]
              refine takeD (i := 5) (v := .bool false) (some 40) rfl rfl (by kernel_rfl) (by kernel_rfl) (by kernel_rfl) (fun _ _ _ h => h) (Or.inl ⟨by rfl, by rintro w' -; go_simp⟩) zhS12 ?_
              simp only [Act.put, List.setIfInBounds_toArray, List.set_cons_zero, List.set_cons_succ]
              refine takeD (i := 6) (v := undef) (some 41) rfl rfl (by kernel_rfl) (by kernel_rfl) (by kernel_rfl) (fun _ _ _ h => h) (Or.inr ⟨by rfl, rfl⟩) zhS12 ?_
              simp only [Act.put, List.setIfInBounds_toArray, List.set_cons_zero, List.set_cons_succ]
              refine takeD (i := 7) (v := undef) (some 42) rfl rfl (by kernel_rfl) (by kernel_rfl) (by kernel_rfl) (fun _ _ _ h => h) (Or.inr ⟨by rfl, rfl⟩) zhS12 ?_
              simp only [Act.put, List.setIfInBounds_toArray, List.set_cons_zero, List.set_cons_succ]
              refine takeD (i := 8) (v := undef) (some 43) rfl rfl (by kernel_rfl) (by kernel_rfl) (by kernel_rfl) (fun _ _ _ h => h) (Or.inr ⟨by rfl, rfl⟩) zhS12 ?_
              simp only [Act.put, List.setIfInBounds_toArray, List.set_cons_zero, List.set_cons_succ]
              refine takeD (i := 9) (v := undef) (some 44) rfl rfl (by kernel_rfl) (by kernel_rfl) (by kernel_rfl) (fun _ _ _ h => h) (Or.inr ⟨by rfl, rfl⟩) zhS12 ?_
              simp only [Act.put, List.setIfInBounds_toArray, List.set_cons_zero, List.set_cons_succ]
              refine takeD (i := 10) (v := undef) (some 45) rfl rfl (by kernel_rfl) (by kernel_rfl) (by kernel_rfl) (fun _ _ _ h => h) (Or.inr ⟨by rfl, rfl⟩) zhS12 ?_
              simp only [Act.put, List.setIfInBounds_toArray, List.set_cons_zero, List.set_cons_succ]
              refine takeD (i := 11) (v := undef) (some 46) rfl rfl (by kernel_rfl) (by kernel_rfl) (by kernel_rfl) (fun _ _ _ h => h) (Or.inr ⟨by rfl, rfl⟩) zhS12 ?_
              simp only [Act.put, List.setIfInBounds_toArray, List.set_cons_zero, List.set_cons_succ]
              refine takeD (i := 12) (v := undef) (some 47) rfl rfl (by kernel_rfl) (by kernel_rfl) (by kernel_rfl) (fun _ _ _ h => h) (Or.inr ⟨by rfl, rfl⟩) zhS12 ?_
              simp only [Act.put, List.setIfInBounds_toArray, List.set_cons_zero, List.set_cons_succ]
              refine takeD (i := 13) (v := undef) (some 48) rfl rfl (by kernel_rfl) (by kernel_rfl) (by kernel_rfl) (fun _ _ _ h => h) (Or.inr ⟨by rfl, rfl⟩) zhS12 ?_
              simp only [Act.put, List.setIfInBounds_toArray, List.set_cons_zero, List.set_cons_succ]
              refine takeD (i := 14) (v := undef) (some 49) rfl rfl (by kernel_rfl) (by kernel_rfl) (by kernel_rfl) (fun _ _ _ h => h) (Or.inr ⟨by rfl, rfl⟩) zhS12 ?_
              simp only [Act.put, List.setIfInBounds_toArray, List.set_cons_zero, List.set_cons_succ]
              refine takeD (i := 15) (v := undef) (some 50) rfl rfl (by kernel_rfl) (by kernel_rfl) (by kernel_rfl) (fun _ _ _ h => h) (Or.inr ⟨by rfl, rfl⟩) zhS12 ?_
              simp only [Act.put, List.setIfInBounds_toArray, List.set_cons_zero, List.set_cons_succ]
              refine takeD (i := 16) (v := undef) (some 51) rfl rfl (by kernel_rfl) (by kernel_rfl) (by kernel_rfl) (fun _ _ _ h => h) (Or.inr ⟨by rfl, rfl⟩) zhS12 ?_
              simp only [Act.put, List.setIfInBounds_toArray, List.set_cons_zero, List.set_cons_succ]
              refine takeD (i := 17) (v := undef) (some 52) rfl rfl (by kernel_rfl) (by kernel_rfl) (by kernel_rfl) (fun _ _ _ h => h) (Or.inr ⟨by rfl, rfl⟩) zhS12 ?_
              simp only [Act.put, List.setIfInBounds_toArray, List.set_cons_zero, List.set_cons_succ]
              refine takeD (i := 18) (v := undef) (some 53) rfl rfl (by kernel_rfl) (by kernel_rfl) (by kernel_rfl) (fun _ _ _ h => h) (Or.inr ⟨by rfl, rfl⟩) zhS12 ?_
              simp only [Act.put, List.setIfInBounds_toArray, List.set_cons_zero, List.set_cons_succ]
              refine takeD (i := 19) (v := .bool false) (some 54) rfl rfl (by kernel_rfl) (by kernel_rfl) (by kernel_rfl) (fun _ _ _ h => h) (Or.inl ⟨by rfl, by rintro w' -; go_simp⟩) zhS12 ?_
              simp only [Act.put, List.setIfInBounds_toArray, List.set_cons_zero, List.set_cons_succ]
              refine takeD (i := 20) (v := .bool false) (some 55) rfl rfl (by kernel_rfl) (by kernel_rfl) (by kernel_rfl) (fun _ _ _ h => h) (Or.inl ⟨by rfl, by rintro w' -; go_simp⟩) zhS12 ?_
              simp only [Act.put, List.setIfInBounds_toArray, List.set_cons_zero, List.set_cons_succ]
              refine takeD (i := 21) (v := .int .i64 (n : Int)) (some 56) rfl rfl (by kernel_rfl) (by kernel_rfl) (by kernel_rfl) (fun _ _ _ h => h) (Or.inl ⟨by rfl, by rintro w' -; go_simp⟩) zhS12 ?_
              simp only [Act.put, List.setIfInBounds_toArray, List.set_cons_zero, List.set_cons_succ]
              refine takeD (i := 22) (v := .int .i64 (q : Int)) (some 57) rfl rfl (by kernel_rfl) (by kernel_rfl) (by kernel_rfl) (fun _ _ _ h => h) (Or.inl ⟨by rfl, by rintro w' -; go_simp⟩) zhS12 ?_
              simp only [Act.put, List.setIfInBounds_toArray, List.set_cons_zero, List.set_cons_succ]
              refine takeD (i := 23) (v := .int .i64 (q : Int)) (some 58) rfl rfl (by kernel_rfl) (by kernel_rfl) (by kernel_rfl) (fun _ _ _ h => h) (Or.inl ⟨by rfl, by rintro w' -; go_simp⟩) zhS12 ?_
              simp only [Act.put, List.setIfInBounds_toArray, List.set_cons_zero, List.set_cons_succ]
              refine takeD (i := 24) (v := .int .i64 (s : Int)) (some 59) rfl rfl (by kernel_rfl) (by kernel_rfl) (by kernel_rfl) (fun _ _ _ h => h) (Or.inl ⟨by rfl, by rintro w' -; go_simp⟩) zhS12 ?_
              simp only [Act.put, List.setIfInBounds_toArray, List.set_cons_zero, List.set_cons_succ]
              refine takeD (i := 25) (v := .bool true) (some 60) rfl rfl (by kernel_rfl) (by kernel_rfl) (by kernel_rfl) (fun _ _ _ h => h) (Or.inl ⟨by rfl, by rintro w' -; go_simp⟩) zhS12 ?_
              simp only [Act.put, List.setIfInBounds_toArray, List.set_cons_zero, List.set_cons_succ]
              refine takeD (i := 26) (v := .bool true) (some 61) rfl rfl (by kernel_rfl) (by kernel_rfl) (by kernel_rfl) (fun _ _ _ h => h) (Or.inl ⟨by rfl, by rintro w' -; go_simp⟩) zhS12 ?_
              simp only [Act.put, List.setIfInBounds_toArray, List.set_cons_zero, List.set_cons_succ]
              refine takeD (i := 27) (v := .int .i64 (x : Int)) (some 62) rfl rfl (by kernel_rfl) (by kernel_rfl) (by kernel_rfl) (fun _ _ _ h => h) (Or.inl ⟨by rfl, by rintro w' -; go_simp⟩) zhS12 ?_
              simp only [Act.put, List.setIfInBounds_toArray, List.set_cons_zero, List.set_cons_succ]
              refine takeD (i := 28) (v := .int .i64 (n : Int)) (some 63) rfl rfl (by kernel_rfl) (by kernel_rfl) (by kernel_rfl) (fun _ _ _ h => h) (Or.inl ⟨by rfl, by rintro w' -; go_simp⟩) zhS12 ?_
              simp only [Act.put, List.setIfInBounds_toArray, List.set_cons_zero, List.set_cons_succ]
              refine takeD (i := 29) (v := .int .i64 (q : Int)) (some 64) rfl rfl (by kernel_rfl) (by kernel_rfl) (by kernel_rfl) (fun _ _ _ h => h) (Or.inl ⟨by rfl, by rintro w' -; go_simp⟩) zhS12 ?_
              simp only [Act.put, List.setIfInBounds_toArray, List.set_cons_zero, List.set_cons_succ]
              refine takeD (i := 30) (v := .int .i64 (q : Int)) (some 65) rfl rfl (by kernel_rfl) (by kernel_rfl) (by kernel_rfl) (fun _ _ _ h => h) (Or.inl ⟨by rfl, by rintro w' -; go_simp⟩) zhS12 ?_
              simp only [Act.put, List.setIfInBounds_toArray, List.set_cons_zero, List.set_cons_succ]
              refine takeD (i := 31) (v := .int .i64 (s : Int)) (some 66) rfl rfl (by kernel_rfl) (by kernel_rfl) (by kernel_rfl) (fun _ _ _ h => h) (Or.inl ⟨by rfl, by rintro w' -; go_simp⟩) zhS12 ?_
              simp only [Act.put, List.setIfInBounds_toArray, List.set_cons_zero, List.set_cons_succ]
              refine takeD (i := 32) (v := .int .i64 (x : Int)) (some 67) rfl rfl (by kernel_rfl) (by kernel_rfl) (by kernel_rfl) (fun _ _ _ h => h) (Or.inl ⟨by rfl, by rintro w' -; go_simp⟩) zhS12 ?_
              simp only [Act.put, List.setIfInBounds_toArray, List.set_cons_zero, List.set_cons_succ]
              refine takeD (i := 33) (v := .bool true) (some 68) rfl rfl (by kernel_rfl) (by kernel_rfl) (by kernel_rfl) (fun _ _ _ h => h) (Or.inl ⟨by rfl, by rintro w' -; go_simp⟩) zhS12 ?_
              simp only [Act.put, List.setIfInBounds_toArray, List.set_cons_zero, List.set_cons_succ]
              refine takeD (i := 34) (v := .bool true) (some 69) rfl rfl (by kernel_rfl) (by kernel_rfl) (by kernel_rfl) (fun _ _ _ h => h) (Or.inl ⟨by rfl, by rintro w' -; go_simp⟩) zhS12 ?_
              simp only [Act.put, List.setIfInBounds_toArray, List.set_cons_zero, List.set_cons_succ]
              refine takeD (i := 35) (v := .bool true) (some 70) rfl rfl (by kernel_rfl) (by kernel_rfl) (by kernel_rfl) (fun _ _ _ h => h) (Or.inl ⟨by rfl, by rintro w' -; go_simp⟩) zhS12 ?_
              simp only [Act.put, List.setIfInBounds_toArray, List.set_cons_zero, List.set_cons_succ]
              refine wpAnyH_done (by kernel_rfl) ?_ _
              have LIT := Lib.hid (show (zwz7.alloc (.cells #[.int .i64 (k : Int)] 3)).cell? ⟨zwz7.heap.size, 0, none⟩ = some (.int .i64 (k : Int)) from (row_new' _ _ _).cell 0)
              have hbx : Below zwz7.heap.size zwz7 (zwz7.alloc (.cells #[.int .i64 (k : Int)] 3)) := (Below.refl _ _).alloc (Nat.le_refl _) _
              have O2 := Lib.hid (zO_10.out.gto hbx)
              have B3 := Lib.hid (zHB_11.out.trans (hbx.mono zHB_11.out.size))
              clear hbx
              go_wp2_with (first | (at_builtin; refine wpList_push_n rfl (.tmp 71) (.tmp 73) rfl wo.heap.size (.slice A6 m c6) l m k zwz7.heap.size rfl O2.out LM.out rfl LIT.out (by omega) B3.out.size ?_; intro gs cq x9 ho hg hat hlt2; have ZO := Lib.hid ho; have ZB := Lib.hid (B3.out.grown hg B3.out.size (fun k e => (O2.out.own k e).1)); clear ho hg hat hlt2))
              go_roundw
              case rel => exact ⟨k + 1, by omega, by go_num, Lib.hid ⟨ZB.out, by rw [E.out]; exact ZO.out⟩⟩
              case measure => simp [intOf]; omega
            · have E := Lib.hid (show affTo q n (k + 1) = l by rw [SUCK.out, ON.out, if_neg (by simpa using yr)])
              have yrI : ¬ ((x : Int) = (c : Int)) := by omega
              clear SUCK ON hc aq xq yq bq
              go_wp2_with fail
              refine wp_region_held (P := Tryd.prog) (S := (fun w' : World => True)) rfl ?_
              change wpAnyH _ _ _ _ _ _ _ _ wr.drew
              have zhz2 : Below wr.heap.size wr wr.drew := (Below.refl wr.heap.size wr).drew
              generalize wr.drew = zwz1 at zhz2 ⊢
              have zhq3 : Below wr.heap.size wr zwz1 := zhz2
              have zO_4 := Lib.hid (OwnL.gto IO.out zhq3)
              have zHB_5 : Hid (Below wo.heap.size wo zwz1) := Lib.hid (IB.out.trans (zhq3.mono IB.out.size))
              clear zhq3
              clear zhz2
              have zhS6 : (fun w' : World => True) zwz1 := trivial
              refine takeD (i := 0) (v := .int .i64 (k : Int)) (some 29) rfl rfl (by kernel_rfl) (by kernel_rfl) (by kernel_rfl) (fun _ _ _ h => h) (Or.inl ⟨by rfl, by rintro w' -; go_simp⟩) zhS6 ?_
              simp only [Act.put, List.setIfInBounds_toArray, List.set_cons_zero, List.set_cons_succ]
              refine takeD (i := 1) (v := .int .i64 (q : Int)) (some 30) rfl rfl (by kernel_rfl) (by kernel_rfl) (by kernel_rfl) (fun _ _ _ h => h) (Or.inl ⟨by rfl, by rintro w' -; go_simp⟩) zhS6 ?_
              simp only [Act.put, List.setIfInBounds_toArray, List.set_cons_zero, List.set_cons_succ]
              refine takeD (i := 2) (v := .int .i64 (x : Int)) (some 31) rfl rfl (by kernel_rfl) (by kernel_rfl) (by kernel_rfl) (fun _ _ _ h => h) (Or.inl ⟨by rfl, by rintro w' -; go_simp⟩) zhS6 ?_
              simp only [Act.put, List.setIfInBounds_toArray, List.set_cons_zero, List.set_cons_succ]
              refine takeD (i := 3) (v := .int .i64 (k : Int)) (some 32) rfl rfl (by kernel_rfl) (by kernel_rfl) (by kernel_rfl) (fun _ _ _ h => h) (Or.inl ⟨by rfl, by rintro w' -; go_simp⟩) zhS6 ?_
              simp only [Act.put, List.setIfInBounds_toArray, List.set_cons_zero, List.set_cons_succ]
              refine takeD (i := 4) (v := .int .i64 (q : Int)) (some 33) rfl rfl (by kernel_rfl) (by kernel_rfl) (by kernel_rfl) (fun _ _ _ h => h) (Or.inl ⟨by rfl, by rintro w' -; go_simp⟩) zhS6 ?_
              simp only [Act.put, List.setIfInBounds_toArray, List.set_cons_zero, List.set_cons_succ]
              refine takeD (i := 5) (v := .int .i64 (y : Int)) (some 34) rfl rfl (by kernel_rfl) (by kernel_rfl) (by kernel_rfl) (fun _ _ _ h => h) (Or.inl ⟨by rfl, by rintro w' -; go_simp⟩) zhS6 ?_
              simp only [Act.put, List.setIfInBounds_toArray, List.set_cons_zero, List.set_cons_succ]
              refine takeD (i := 6) (v := .int .i64 (x : Int)) (some 7) rfl rfl (by kernel_rfl) (by kernel_rfl) (by kernel_rfl) (fun _ _ _ h => h) (Or.inl ⟨by rfl, by rintro w' -; go_simp⟩) zhS6 ?_
              simp only [Act.put, List.setIfInBounds_toArray, List.set_cons_zero, List.set_cons_succ]
              refine takeD (i := 7) (v := .int .i64 (y : Int)) (some 8) rfl rfl (by kernel_rfl) (by kernel_rfl) (by kernel_rfl) (fun _ _ _ h => h) (Or.inl ⟨by rfl, by rintro w' -; go_simp⟩) zhS6 ?_
              simp only [Act.put, List.setIfInBounds_toArray, List.set_cons_zero, List.set_cons_succ]
              refine wpAnyH_done (by kernel_rfl) ?_ _
              go_wp2_with fail
              refine wp_region_held (P := Tryd.prog) (S := (fun w' : World => True)) rfl ?_
              change wpAnyH _ _ _ _ _ _ _ _ zwz1.drew
              have zhz8 : Below zwz1.heap.size zwz1 zwz1.drew := (Below.refl zwz1.heap.size zwz1).drew
              generalize zwz1.drew = zwz7 at zhz8 ⊢
              have zhq9 : Below zwz1.heap.size zwz1 zwz7 := zhz8
              have zO_10 := Lib.hid (OwnL.gto zO_4.out zhq9)
              have zHB_11 : Hid (Below wo.heap.size wo zwz7) := Lib.hid (zHB_5.out.trans (zhq9.mono zHB_5.out.size))
              clear zhq9
              clear zhz8
              have zhS12 : (fun w' : World => True) zwz7 := trivial
              refine takeD (i := 0) (v := .int .i64 (n : Int)) (some 35) rfl rfl (by kernel_rfl) (by kernel_rfl) (by kernel_rfl) (fun _ _ _ h => h) (Or.inl ⟨by rfl, by rintro w' -; go_simp⟩) zhS12 ?_
              simp only [Act.put, List.setIfInBounds_toArray, List.set_cons_zero, List.set_cons_succ]
              refine takeD (i := 1) (v := .int .i64 (q : Int)) (some 36) rfl rfl (by kernel_rfl) (by kernel_rfl) (by kernel_rfl) (fun _ _ _ h => h) (Or.inl ⟨by rfl, by rintro w' -; go_simp⟩) zhS12 ?_
              simp only [Act.put, List.setIfInBounds_toArray, List.set_cons_zero, List.set_cons_succ]
              refine takeD (i := 2) (v := .int .i64 (q : Int)) (some 37) rfl rfl (by kernel_rfl) (by kernel_rfl) (by kernel_rfl) (fun _ _ _ h => h) (Or.inl ⟨by rfl, by rintro w' -; go_simp⟩) zhS12 ?_
              simp only [Act.put, List.setIfInBounds_toArray, List.set_cons_zero, List.set_cons_succ]
              refine takeD (i := 3) (v := .int .i64 (s : Int)) (some 38) rfl rfl (by kernel_rfl) (by kernel_rfl) (by kernel_rfl) (fun _ _ _ h => h) (Or.inl ⟨by rfl, by rintro w' -; go_simp⟩) zhS12 ?_
              simp only [Act.put, List.setIfInBounds_toArray, List.set_cons_zero, List.set_cons_succ]
              refine takeD (i := 4) (v := .bool false) (some 39) rfl rfl (by kernel_rfl) (by kernel_rfl) (by kernel_rfl) (fun _ _ _ h => h) (Or.inl ⟨by rfl, by rintro w' -; go_simp⟩) zhS12 ?_
              simp only [Act.put, List.setIfInBounds_toArray, List.set_cons_zero, List.set_cons_succ]
              refine takeD (i := 5) (v := .bool false) (some 40) rfl rfl (by kernel_rfl) (by kernel_rfl) (by kernel_rfl) (fun _ _ _ h => h) (Or.inl ⟨by rfl, by rintro w' -; go_simp⟩) zhS12 ?_
              simp only [Act.put, List.setIfInBounds_toArray, List.set_cons_zero, List.set_cons_succ]
              refine takeD (i := 6) (v := undef) (some 41) rfl rfl (by kernel_rfl) (by kernel_rfl) (by kernel_rfl) (fun _ _ _ h => h) (Or.inr ⟨by rfl, rfl⟩) zhS12 ?_
              simp only [Act.put, List.setIfInBounds_toArray, List.set_cons_zero, List.set_cons_succ]
              refine takeD (i := 7) (v := undef) (some 42) rfl rfl (by kernel_rfl) (by kernel_rfl) (by kernel_rfl) (fun _ _ _ h => h) (Or.inr ⟨by rfl, rfl⟩) zhS12 ?_
              simp only [Act.put, List.setIfInBounds_toArray, List.set_cons_zero, List.set_cons_succ]
              refine takeD (i := 8) (v := undef) (some 43) rfl rfl (by kernel_rfl) (by kernel_rfl) (by kernel_rfl) (fun _ _ _ h => h) (Or.inr ⟨by rfl, rfl⟩) zhS12 ?_
              simp only [Act.put, List.setIfInBounds_toArray, List.set_cons_zero, List.set_cons_succ]
              refine takeD (i := 9) (v := undef) (some 44) rfl rfl (by kernel_rfl) (by kernel_rfl) (by kernel_rfl) (fun _ _ _ h => h) (Or.inr ⟨by rfl, rfl⟩) zhS12 ?_
              simp only [Act.put, List.setIfInBounds_toArray, List.set_cons_zero, List.set_cons_succ]
              refine takeD (i := 10) (v := undef) (some 45) rfl rfl (by kernel_rfl) (by kernel_rfl) (by kernel_rfl) (fun _ _ _ h => h) (Or.inr ⟨by rfl, rfl⟩) zhS12 ?_
              simp only [Act.put, List.setIfInBounds_toArray, List.set_cons_zero, List.set_cons_succ]
              refine takeD (i := 11) (v := undef) (some 46) rfl rfl (by kernel_rfl) (by kernel_rfl) (by kernel_rfl) (fun _ _ _ h => h) (Or.inr ⟨by rfl, rfl⟩) zhS12 ?_
              simp only [Act.put, List.setIfInBounds_toArray, List.set_cons_zero, List.set_cons_succ]
              refine takeD (i := 12) (v := undef) (some 47) rfl rfl (by kernel_rfl) (by kernel_rfl) (by kernel_rfl) (fun _ _ _ h => h) (Or.inr ⟨by rfl, rfl⟩) zhS12 ?_
              simp only [Act.put, List.setIfInBounds_toArray, List.set_cons_zero, List.set_cons_succ]
              refine takeD (i := 13) (v := undef) (some 48) rfl rfl (by kernel_rfl) (by kernel_rfl) (by kernel_rfl) (fun _ _ _ h => h) (Or.inr ⟨by rfl, rfl⟩) zhS12 ?_
              simp only [Act.put, List.setIfInBounds_toArray, List.set_cons_zero, List.set_cons_succ]
              refine takeD (i := 14) (v := undef) (some 49) rfl rfl (by kernel_rfl) (by kernel_rfl) (by kernel_rfl) (fun _ _ _ h => h) (Or.inr ⟨by rfl, rfl⟩) zhS12 ?_
              simp only [Act.put, List.setIfInBounds_toArray, List.set_cons_zero, List.set_cons_succ]
              refine takeD (i := 15) (v := undef) (some 50) rfl rfl (by kernel_rfl) (by kernel_rfl) (by kernel_rfl) (fun _ _ _ h => h) (Or.inr ⟨by rfl, rfl⟩) zhS12 ?_
              simp only [Act.put, List.setIfInBounds_toArray, List.set_cons_zero, List.set_cons_succ]
              refine takeD (i := 16) (v := undef) (some 51) rfl rfl (by kernel_rfl) (by kernel_rfl) (by kernel_rfl) (fun _ _ _ h => h) (Or.inr ⟨by rfl, rfl⟩) zhS12 ?_
              simp only [Act.put, List.setIfInBounds_toArray, List.set_cons_zero, List.set_cons_succ]
              refine takeD (i := 17) (v := undef) (some 52) rfl rfl (by kernel_rfl) (by kernel_rfl) (by kernel_rfl) (fun _ _ _ h => h) (Or.inr ⟨by rfl, rfl⟩) zhS12 ?_
              simp only [Act.put, List.setIfInBounds_toArray, List.set_cons_zero, List.set_cons_succ]
              refine takeD (i := 18) (v := undef) (some 53) rfl rfl (by kernel_rfl) (by kernel_rfl) (by kernel_rfl) (fun _ _ _ h => h) (Or.inr ⟨by rfl, rfl⟩) zhS12 ?_
              simp only [Act.put, List.setIfInBounds_toArray, List.set_cons_zero, List.set_cons_succ]
              refine takeD (i := 19) (v := .bool false) (some 54) rfl rfl (by kernel_rfl) (by kernel_rfl) (by kernel_rfl) (fun _ _ _ h => h) (Or.inl ⟨by rfl, by rintro w' -; go_simp⟩) zhS12 ?_
              simp only [Act.put, List.setIfInBounds_toArray, List.set_cons_zero, List.set_cons_succ]
              refine takeD (i := 20) (v := .bool false) (some 55) rfl rfl (by kernel_rfl) (by kernel_rfl) (by kernel_rfl) (fun _ _ _ h => h) (Or.inl ⟨by rfl, by rintro w' -; go_simp⟩) zhS12 ?_
              simp only [Act.put, List.setIfInBounds_toArray, List.set_cons_zero, List.set_cons_succ]
              refine takeD (i := 21) (v := .int .i64 (n : Int)) (some 56) rfl rfl (by kernel_rfl) (by kernel_rfl) (by kernel_rfl) (fun _ _ _ h => h) (Or.inl ⟨by rfl, by rintro w' -; go_simp⟩) zhS12 ?_
              simp only [Act.put, List.setIfInBounds_toArray, List.set_cons_zero, List.set_cons_succ]
              refine takeD (i := 22) (v := .int .i64 (q : Int)) (some 57) rfl rfl (by kernel_rfl) (by kernel_rfl) (by kernel_rfl) (fun _ _ _ h => h) (Or.inl ⟨by rfl, by rintro w' -; go_simp⟩) zhS12 ?_
              simp only [Act.put, List.setIfInBounds_toArray, List.set_cons_zero, List.set_cons_succ]
              refine takeD (i := 23) (v := .int .i64 (q : Int)) (some 58) rfl rfl (by kernel_rfl) (by kernel_rfl) (by kernel_rfl) (fun _ _ _ h => h) (Or.inl ⟨by rfl, by rintro w' -; go_simp⟩) zhS12 ?_
              simp only [Act.put, List.setIfInBounds_toArray, List.set_cons_zero, List.set_cons_succ]
              refine takeD (i := 24) (v := .int .i64 (s : Int)) (some 59) rfl rfl (by kernel_rfl) (by kernel_rfl) (by kernel_rfl) (fun _ _ _ h => h) (Or.inl ⟨by rfl, by rintro w' -; go_simp⟩) zhS12 ?_
              simp only [Act.put, List.setIfInBounds_toArray, List.set_cons_zero, List.set_cons_succ]
              refine takeD (i := 25) (v := .bool true) (some 60) rfl rfl (by kernel_rfl) (by kernel_rfl) (by kernel_rfl) (fun _ _ _ h => h) (Or.inl ⟨by rfl, by rintro w' -; go_simp⟩) zhS12 ?_
              simp only [Act.put, List.setIfInBounds_toArray, List.set_cons_zero, List.set_cons_succ]
              refine takeD (i := 26) (v := .bool true) (some 61) rfl rfl (by kernel_rfl) (by kernel_rfl) (by kernel_rfl) (fun _ _ _ h => h) (Or.inl ⟨by rfl, by rintro w' -; go_simp⟩) zhS12 ?_
              simp only [Act.put, List.setIfInBounds_toArray, List.set_cons_zero, List.set_cons_succ]
              refine takeD (i := 27) (v := .int .i64 (x : Int)) (some 62) rfl rfl (by kernel_rfl) (by kernel_rfl) (by kernel_rfl) (fun _ _ _ h => h) (Or.inl ⟨by rfl, by rintro w' -; go_simp⟩) zhS12 ?_
              simp only [Act.put, List.setIfInBounds_toArray, List.set_cons_zero, List.set_cons_succ]
              refine takeD (i := 28) (v := .int .i64 (n : Int)) (some 63) rfl rfl (by kernel_rfl) (by kernel_rfl) (by kernel_rfl) (fun _ _ _ h => h) (Or.inl ⟨by rfl, by rintro w' -; go_simp⟩) zhS12 ?_
              simp only [Act.put, List.setIfInBounds_toArray, List.set_cons_zero, List.set_cons_succ]
              refine takeD (i := 29) (v := .int .i64 (q : Int)) (some 64) rfl rfl (by kernel_rfl) (by kernel_rfl) (by kernel_rfl) (fun _ _ _ h => h) (Or.inl ⟨by rfl, by rintro w' -; go_simp⟩) zhS12 ?_
              simp only [Act.put, List.setIfInBounds_toArray, List.set_cons_zero, List.set_cons_succ]
              refine takeD (i := 30) (v := .int .i64 (q : Int)) (some 65) rfl rfl (by kernel_rfl) (by kernel_rfl) (by kernel_rfl) (fun _ _ _ h => h) (Or.inl ⟨by rfl, by rintro w' -; go_simp⟩) zhS12 ?_
              simp only [Act.put, List.setIfInBounds_toArray, List.set_cons_zero, List.set_cons_succ]
              refine takeD (i := 31) (v := .int .i64 (s : Int)) (some 66) rfl rfl (by kernel_rfl) (by kernel_rfl) (by kernel_rfl) (fun _ _ _ h => h) (Or.inl ⟨by rfl, by rintro w' -; go_simp⟩) zhS12 ?_
              simp only [Act.put, List.setIfInBounds_toArray, List.set_cons_zero, List.set_cons_succ]
              refine takeD (i := 32) (v := .int .i64 (c : Int)) (some 67) rfl rfl (by kernel_rfl) (by kernel_rfl) (by kernel_rfl) (fun _ _ _ h => h) (Or.inl ⟨by rfl, by rintro w' -; go_simp⟩) zhS12 ?_
              simp only [Act.put, List.setIfInBounds_toArray, List.set_cons_zero, List.set_cons_succ]
              refine takeD (i := 33) (v := .bool false) (some 68) rfl rfl (by kernel_rfl) (by kernel_rfl) (by kernel_rfl) (fun _ _ _ h => h) (Or.inl ⟨by rfl, by rintro w' -; go_simp⟩) zhS12 ?_
              simp only [Act.put, List.setIfInBounds_toArray, List.set_cons_zero, List.set_cons_succ]
              refine takeD (i := 34) (v := .bool false) (some 69) rfl rfl (by kernel_rfl) (by kernel_rfl) (by kernel_rfl) (fun _ _ _ h => h) (Or.inl ⟨by rfl, by rintro w' -; go_simp⟩) zhS12 ?_
              simp only [Act.put, List.setIfInBounds_toArray, List.set_cons_zero, List.set_cons_succ]
              refine takeD (i := 35) (v := .bool false) (some 70) rfl rfl (by kernel_rfl) (by kernel_rfl) (by kernel_rfl) (fun _ _ _ h => h) (Or.inl ⟨by rfl, by rintro w' -; go_simp⟩) zhS12 ?_
              simp only [Act.put, List.setIfInBounds_toArray, List.set_cons_zero, List.set_cons_succ]
              refine wpAnyH_done (by kernel_rfl) ?_ _
              go_wp2_with fail
              go_roundw
              case rel => exact ⟨k + 1, by omega, by go_num, Lib.hid ⟨zHB_11.out, by rw [E.out]; exact zO_10.out⟩⟩
              case measure => simp [intOf]; omega
        · have ek : k = s := by omega
          have kI : ¬ (k : Int) < (s : Int) := by omega
          have IB := Lib.hid J.out.1
          have IO : Hid (OwnL Nv wr wo.heap.size 3 (.slice A6 (affTo q n k).length c6) (affTo q n s)) := Lib.hid (by rw [← ek]; exact J.out.2)
          obtain ⟨l, hl⟩ : ∃ l, affTo q n s = l := ⟨_, rfl⟩
          rw [hl] at IO SUCI
          obtain ⟨m, hm⟩ : ∃ m, (affTo q n k).length = m := ⟨_, rfl⟩
          rw [hm] at IO ⊢
          have R3 := Lib.hid (HR.out.go IB.out)
          have HL3 := Lib.hid (HL.out.to IB.out)
          have c0 := R3.out.cell 1
          obtain ⟨A7, c7, rfl⟩ := HL3.out.form
          rw [afS_len] at HL HL3 R3 c0
          have hbx : Below wr.heap.size wr (wr.alloc (.cells #[.slice A6 m c6] 40)) := (Below.refl _ _).alloc (Nat.le_refl _) _
          have LIT := Lib.hid (show (wr.alloc (.cells #[.slice A6 m c6] 40)).cell? ⟨wr.heap.size, 0, none⟩ = some (.slice A6 m c6) from (row_new' _ _ _).cell 0)
          have O2 := Lib.hid (IO.out.gto hbx)
          have L2 := Lib.hid (HL3.out.to hbx)
          have R4 := Lib.hid (R3.out.go hbx)
          have HO2 := Lib.hid (HO.out.trans ((IB.out.trans (hbx.mono IB.out.size)).mono HO.out.size))
          have OV := Lib.hid fun k e => (HL.out.own k e).2
          have KW : Hid (K ≤ (wr.alloc (.cells #[.slice A6 m c6] 40)).heap.size) := Lib.hid (by have := IB.out.size; have := hbx.size; have := HKK.out; omega)
          clear hbx hl hm J ek
          go_wp2_with (first | (at_builtin; refine wpList_push_R (K := K) rfl (.tmp 76) (.tmp 78) rfl (.slice A7 n c7) (afS q n) n wr.heap.size (.slice A6 m c6) l wo.heap.size rfl L2.out (afS_len _ _) rfl LIT.out O2.out HKK.out OV.out (by omega) KW.out ?_; intro gs cq x9 ho hg hat; have ZO := Lib.hid ho; have ZR := Lib.hid (R4.out.gr hg (fun e => by have := (L2.out.own _ e.symm).1; have := SZ2.out; omega)); have ZB := Lib.hid (HO2.out.grown hg HO2.out.size (fun k e => by have := (L2.out.own k e).1; have := SZ2.out; have := HD.out; omega)); have ZK : Hid (K ≤ x9.heap.size) := Lib.hid (by have := hg.size; have := KW.out; omega); have cc9 := ZR.out.cell 1; have ff9 := ZR.out.frozen 1; clear ho hg hat c0))
          go_roundw
          case rel =>
            refine ⟨n + 1, by omega, by go_num, _, Lib.hid ⟨ZB.out.setCell (p := ⟨bd, 1, none⟩) (Nat.le_of_eq HD.out) _, ZR.out.store 1 _, ?_, ?_⟩⟩
            · rw [SUCI.out]; exact ZO.out.set SZ2.out 1 _
            · have := ZK.out; simpa [World.setCell] using this
          case measure => simp [intOf]; omega
    · obtain rfl : n = N := by omega
      have iI : ¬ (n : Int) < (n : Int) := by omega
      obtain ⟨A7, c7, rfl⟩ := H.out.2.2.1.form
      rw [afS_len] at H
      have d0 := H.out.2.1.cell 0
      have d1 := H.out.2.1.cell 1
      have R9 := Lib.hid (R1.out.go H.out.1)
      have e0 := R9.out.cell 0
      have e1 := R9.out.cell 1
      have f0 := R9.out.frozen 0
      have f1 := R9.out.frozen 1
      have BK : Hid (B < K) := Lib.hid (by have := R1.out.lt; have := HD.out; have := SZ2.out; omega)
      have R8 := Lib.hid ((R9.out.store 0 (.int .i64 (s : Int))).store 1 (.slice A7 n c7))
      have HB8 := Lib.hid (B1.out.trans (H.out.1.mono B1.out.size))
      have HB9 := Lib.hid ((HB8.out.setCell (p := ⟨B, 0, none⟩) (Nat.le_of_eq HE.out) (.int .i64 (s : Int))).setCell (p := ⟨B, 1, none⟩) (Nat.le_of_eq HE.out) (.slice A7 n c7))
      have GS := Lib.hid (((H.out.2.2.1.set BK.out 0 (.int .i64 (s : Int))).set BK.out 1 (.slice A7 n c7)).fx.low (K' := w.heap.size) (by have := BK.out; have := HE.out; omega))
      clear H
      go_wp2_with fail
      refine bodyPost_ret (results_cell_row (g := B) (t := 25) (fr := (0, 0)) rfl _ _ _ _ rfl R8.out Tryd.underlying25 rfl (by kernel_rfl)) rfl ?_
      refine ⟨_, rfl, ?_, HB9.out⟩
      rw [HN.out]; exact GS.out
theorem raff_any (q : Nat) (w : World) (hq : q ∈ szs) : Calls Tryd.prog 32 #[.int .i64 (q : Int)] w (rdPost (q * q) ((List.range (q * q + q)).map (aff q)) w) :=
  (raff_fx q w hq).mono fun _ _ h => rd_of h
end Go.Proofs.YtnnacofjogfkeaaDoor
