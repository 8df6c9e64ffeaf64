/- Contract: the reference's Decode. WRITTEN BY gen_Dh.py. -/
import Derived.Test.YtheijobnmdbodaaDg
namespace Go.Proofs.Ytheijobnmdbodaa
open Go Go.RowKit Lin
set_option linter.unusedVariables false
set_option linter.unusedSimpArgs false

set_option maxHeartbeats 4000000 in
set_option maxRecDepth 100000 in
theorem rdec_arg (v vb : Value) (P : List (List Nat)) (bad : List Bool) (w : World) (h : Bl w v P) (hb : Bos w vb bad) (hs : P.length < 4 ∨ 16 < P.length ∨ bad.length ≠ P.length) : Calls Try.prog 22 #[v, vb] w (decErr 1 w) := by
  have HP := Lib.hid h
  have HBd := Lib.hid hb
  have hm : P.length ≤ maxLen := by obtain ⟨_, _, _, hm, _⟩ := h; omega
  have hm2 := hb.len
  obtain ⟨A, c, rfl⟩ := h.form
  obtain ⟨A2, c2, rfl⟩ := hb.form
  obtain ⟨N, hN⟩ : ∃ N, P.length = N := ⟨_, rfl⟩
  obtain ⟨L, hL⟩ : ∃ L, bad.length = L := ⟨_, rfl⟩
  have NN := Lib.hid hN
  have LL := Lib.hid hL
  rw [hN] at hm HP hs ⊢
  rw [hL] at hm2 HBd hs ⊢
  have hmI : (N : Int) ≤ 9223372036854775807 := by unfold maxLen at hm; omega
  have hmI2 : (L : Int) ≤ 9223372036854775807 := by unfold maxLen at hm2; omega
  clear h hb hN hL hm hm2
  have hcase : decide ((N : Int) < 4) = true ∨ (decide ((N : Int) < 4) = false ∧ decide ((16 : Int) < (N : Int)) = true) ∨ (decide ((N : Int) < 4) = false ∧ decide ((16 : Int) < (N : Int)) = false ∧ ((L : Int) != (N : Int)) = true) := by
    by_cases h1 : N < 4
    · exact Or.inl (by simp; omega)
    · by_cases h2 : 16 < N
      · exact Or.inr (Or.inl ⟨by simp; omega, by simp; omega⟩)
      · exact Or.inr (Or.inr ⟨by simp; omega, by simp; omega, by simp; omega⟩)
  clear hs
  rcases hcase with g0 | ⟨g0, g1⟩ | ⟨g0, g1, g2⟩
  all_goals
    go_enter Try.func22, Try.ntmps22
    go_wp2_with fail
    go_ret2
    exact ⟨rfl, Below.refl _ _⟩
set_option maxHeartbeats 4000000 in
set_option maxRecDepth 100000 in
theorem rdec_lost (v vb : Value) (P : List (List Nat)) (bad : List Bool) (w : World) (h : Bl w v P) (hb : Bos w vb bad) (hs : 4 ≤ P.length ∧ P.length ≤ 16 ∧ bad.length = P.length ∧ 3 < cntL bad P.length) : Calls Try.prog 22 #[v, vb] w (decErr 12 w) := by
  have hs0 := hs
  have h0 := h
  have hb0 := hb
  have HP := Lib.hid h
  have HBd := Lib.hid hb
  have hm : P.length ≤ maxLen := by obtain ⟨_, _, _, hm, _⟩ := h; omega
  have hm2 := hb.len
  obtain ⟨A, c, rfl⟩ := h.form
  obtain ⟨A2, c2, rfl⟩ := hb.form
  obtain ⟨N, hN⟩ : ∃ N, P.length = N := ⟨_, rfl⟩
  obtain ⟨L, hL⟩ : ∃ L, bad.length = L := ⟨_, rfl⟩
  have NN := Lib.hid hN
  have LL := Lib.hid hL
  rw [hN] at hm HP hs ⊢
  rw [hL] at hm2 HBd hs ⊢
  have hmI : (N : Int) ≤ 9223372036854775807 := by unfold maxLen at hm; omega
  have hmI2 : (L : Int) ≤ 9223372036854775807 := by unfold maxLen at hm2; omega
  clear h hb hN hL hm hm2
  have g0 : decide ((N : Int) < 4) = false := by simp; omega
  have g1 : decide ((16 : Int) < (N : Int)) = false := by simp; omega
  obtain rfl : L = N := hs.2.2.1
  have CN := Lib.hid (count_any _ _ w hb0)
  rw [LL.out] at CN
  obtain ⟨m, hmc⟩ : ∃ m, cntL bad L = m := ⟨_, rfl⟩
  rw [hmc] at CN
  have hm16 : m ≤ 16 := by have := cnt_good bad L; omega
  have hmm : 3 < m := by have := hs.2.2.2; omega
  skip
  clear hs hs0 hmc h0 hb0
  go_enter Try.func22, Try.ntmps22
  go_wp2_with fail
  refine CN.out.mono ?_
  rintro e w' ⟨rfl, rfl⟩
  go_wp2_with fail
  go_ret2
  exact ⟨rfl, Below.refl _ _⟩
set_option maxHeartbeats 4000000 in
set_option maxRecDepth 100000 in
theorem rdec_ok (v vb : Value) (P : List (List Nat)) (bad : List Bool) (w : World) (h : Bl w v P) (hb : Bos w vb bad) (hs : 4 ≤ P.length ∧ P.length ≤ 16 ∧ bad.length = P.length ∧ cntL bad P.length ≤ 3) : Calls Try.prog 22 #[v, vb] w (decPost (decL P bad) P.length w) := by
  have hs0 := hs
  have h0 := h
  have hb0 := hb
  have HP := Lib.hid h
  have HBd := Lib.hid hb
  have hm : P.length ≤ maxLen := by obtain ⟨_, _, _, hm, _⟩ := h; omega
  have hm2 := hb.len
  obtain ⟨A, c, rfl⟩ := h.form
  obtain ⟨A2, c2, rfl⟩ := hb.form
  obtain ⟨N, hN⟩ : ∃ N, P.length = N := ⟨_, rfl⟩
  obtain ⟨L, hL⟩ : ∃ L, bad.length = L := ⟨_, rfl⟩
  have NN := Lib.hid hN
  have LL := Lib.hid hL
  rw [hN] at hm HP hs ⊢
  rw [hL] at hm2 HBd hs ⊢
  have hmI : (N : Int) ≤ 9223372036854775807 := by unfold maxLen at hm; omega
  have hmI2 : (L : Int) ≤ 9223372036854775807 := by unfold maxLen at hm2; omega
  clear h hb hN hL hm hm2
  have g0 : decide ((N : Int) < 4) = false := by simp; omega
  have g1 : decide ((16 : Int) < (N : Int)) = false := by simp; omega
  obtain rfl : L = N := hs.2.2.1
  have CN := Lib.hid (count_any _ _ w hb0)
  rw [LL.out] at CN
  obtain ⟨m, hmc⟩ : ∃ m, cntL bad L = m := ⟨_, rfl⟩
  rw [hmc] at CN
  have hm16 : m ≤ 16 := by have := cnt_good bad L; omega
  have hmm : m ≤ 3 := by have := hs.2.2.2; omega
  have RS := Lib.hid (restore_any _ _ P bad w h0 hb0 hs0)
  rw [NN.out, LL.out] at RS
  obtain ⟨X, hX⟩ : ∃ X, decL P bad = X := ⟨_, rfl⟩
  rw [hX] at RS ⊢
  clear hX
  clear hs hs0 hmc h0 hb0
  go_enter Try.func22, Try.ntmps22
  go_wp2_with fail
  refine CN.out.mono ?_
  rintro e w' ⟨rfl, rfl⟩
  go_wp2_with fail
  refine RS.out.mono ?_
  rintro e w2 ⟨g, cg, rfl, hbl, hbw⟩
  have K := Lib.hid (And.intro hbl hbw)
  clear hbl hbw
  go_wp2_with fail
  go_ret2
  exact ⟨g, cg, rfl, K.out⟩
end Go.Proofs.Ytheijobnmdbodaa
