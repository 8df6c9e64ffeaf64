/- Law walk: DesignBalanced. -/
import Derived.Test.YtnnacofjogfkeaaDoorZa
import Derived.Test.YtnnacofjogfkeaaDoorWa
import Derived.IntWalk
namespace Go.Proofs.YtnnacofjogfkeaaDoor
open Go Go.RowKit Pl Co
set_option linter.unusedVariables false
set_option linter.unusedSimpArgs false

/-- What the law asks of a chosen design. -/
structure Good (v k : Nat) (L : List (List Nat)) (r l : Nat) : Prop where
  cho : cho v k = some L
  bal : Bal v L k r l
  e1 : L.length * k = v * r
  e2 : r * (k - 1) = l * (v - 1)
  e3 : k = v ∨ v ≤ L.length
  size : 4 ≤ k ∧ k ≤ 16 ∧ k ≤ v ∧ v ≤ 60 ∧ L.length ≤ 300
  small : r ≤ 5000 ∧ l ≤ 5000
theorem good_small {v k : Nat} (h4 : 4 ≤ k) (hkv : k ≤ v) (h16 : v ≤ 16) (hc : ch v k ≤ 300) : ∃ L r l, Good v k L r l := by
  obtain ⟨e1, e2⟩ := comb_eqs (v := v) (k := k) (by omega) hkv
  have hn : ∀ j, j < 7 → ¬ (dT j = v ∧ kT j = k) := by
    intro j hj h
    have h1 : ∀ j, j < 7 → dT j ≤ 16 → (dT j = 13 ∧ kT j = 4) ∨ (dT j = 16 ∧ kT j = 4) := by decide
    rcases h1 j hj (by omega) with ⟨a, b⟩ | ⟨a, b⟩
    · have : v = 13 := by omega
      have : k = 4 := by omega
      subst v k
      exact absurd hc (by decide)
    · have : v = 16 := by omega
      have : k = 4 := by omega
      subst v k
      exact absurd hc (by decide)
  have hr : ch (v - 1) (k - 1) ≤ 4800 := by
    have h1 : ch v k * k ≤ 300 * 16 := Nat.mul_le_mul hc (by omega)
    have h2 : 1 * ch (v - 1) (k - 1) ≤ v * ch (v - 1) (k - 1) := Nat.mul_le_mul_right _ (by omega)
    omega
  have hl : ch (v - 2) (k - 2) ≤ ch (v - 1) (k - 1) := by
    have h1 : ch (v - 1) (k - 1) * (k - 1) ≤ ch (v - 1) (k - 1) * (v - 1) := Nat.mul_le_mul_left _ (by omega)
    exact Nat.le_of_mul_le_mul_right (by rw [← e2]; exact h1) (by omega)
  refine ⟨comb v v k, _, _, (cho_none h4 hn).trans (if_pos (by omega)), bal_comb (by omega) (by omega) (by omega) hkv (by omega), by rw [comb_len]; exact e1, e2, ?_, ⟨h4, by omega, hkv, by omega, by rw [comb_len]; exact hc⟩, by omega, by omega⟩
  rw [comb_len]
  by_cases e : k = v
  · exact .inl e
  · exact .inr (ch_ge v k (by omega) (by omega))
def pv (i : Nat) : Nat := [13, 16, 21, 25, 31, 49, 57].getD i 0
def pk (i : Nat) : Nat := [4, 4, 5, 5, 6, 7, 8].getD i 0
def pw (i : Nat) : Nat := [0, 4, 1, 5, 2, 6, 3].getD i 0
theorem pw_ok : ∀ i, i < 7 → pw i < 7 ∧ dT (pw i) = pv i ∧ kT (pw i) = pk i ∧ (aT (pw i) = false → pv i = cN (qT (pw i)) ∧ pk i = qT (pw i) + 1) ∧ (aT (pw i) = true → pv i = qT (pw i) * qT (pw i) ∧ pk i = qT (pw i)) ∧ 4 ≤ pk i ∧ pk i ≤ 16 ∧ pk i ≤ pv i ∧ pv i ≤ 60 := by decide
theorem pl_cells {i : Nat} (hi : i < 7) : (#[.int .i64 13, .int .i64 4, .int .i64 16, .int .i64 4, .int .i64 21, .int .i64 5, .int .i64 25, .int .i64 5, .int .i64 31, .int .i64 6, .int .i64 49, .int .i64 7, .int .i64 57, .int .i64 8] : Array Value)[i * 2]? = some (.int .i64 (pv i : Int)) ∧ (#[.int .i64 13, .int .i64 4, .int .i64 16, .int .i64 4, .int .i64 21, .int .i64 5, .int .i64 25, .int .i64 5, .int .i64 31, .int .i64 6, .int .i64 49, .int .i64 7, .int .i64 57, .int .i64 8] : Array Value)[i * 2 + 1]? = some (.int .i64 (pk i : Int)) := by
  rcases (by omega : i = 0 ∨ i = 1 ∨ i = 2 ∨ i = 3 ∨ i = 4 ∨ i = 5 ∨ i = 6) with rfl | rfl | rfl | rfl | rfl | rfl | rfl <;> exact ⟨rfl, rfl⟩
theorem pl_eqs : ∀ q ∈ szs, cN q * (q + 1) = cN q * (q + 1) ∧ (q + 1) * (q + 1 - 1) = 1 * (cN q - 1) ∧ cN q ≤ 300 ∧ (q * q + q) * q = q * q * (q + 1) ∧ (q + 1) * (q - 1) = 1 * (q * q - 1) ∧ q * q ≤ q * q + q ∧ q * q + q ≤ 300 ∧ q + 1 ≤ 5000 := by decide
theorem good_plane {i : Nat} (hi : i < 7) : ∃ L r l, Good (pv i) (pk i) L r l := by
  obtain ⟨h1, h2, h3, h4, h5, h6, h7, h8, h9⟩ := pw_ok i hi
  have hq := t_sz _ h1
  obtain ⟨p1, p2, p3, p4, p5, p6, p7, p8⟩ := pl_eqs _ hq
  cases e : aT (pw i) with
  | false =>
    obtain ⟨a1, a2⟩ := h4 e
    refine ⟨(List.range (cN (qT (pw i)))).map (line (qT (pw i))), _, _, by rw [← h2, ← h3]; exact cho_tp h1 e, by rw [a1, a2]; exact bal_proj hq, ?_, ?_, ?_, ⟨h6, h7, h8, h9, by simpa using p3⟩, p8, by omega⟩
    · rw [List.length_map, List.length_range, a1, a2]
    · rw [a1, a2]; exact p2
    · rw [List.length_map, List.length_range, a1]; exact .inr (Nat.le_refl _)
  | true =>
    obtain ⟨a1, a2⟩ := h5 e
    refine ⟨(List.range (qT (pw i) * qT (pw i) + qT (pw i))).map (aff (qT (pw i))), _, _, by rw [← h2, ← h3]; exact cho_ta h1 e, by rw [a1, a2]; exact bal_aff hq, ?_, ?_, ?_, ⟨h6, h7, h8, h9, by simpa using p7⟩, p8, by omega⟩
    · rw [List.length_map, List.length_range, a1, a2]; exact p4
    · rw [a1, a2]; exact p5
    · rw [List.length_map, List.length_range, a1]; exact .inr p6

set_option maxHeartbeats 8000000 in
set_option maxRecDepth 100000 in
theorem ballaw_lo (n u : Nat) (w : World) (hK : Kd w) (hP : Pd w) (hn : n < 200) (hn2 : n < 256) (hu : u < 256) : Calls Tryd.prog 6 #[.int .u8 (n : Int), .int .u8 (u : Int)] w (lawPost w) := by
  have AW := Lib.hid (awake7 w hK hP)
  have HK0 := Lib.hid fun W (hb : Below w.heap.size w W) => hK.below hb
  have HP0 := Lib.hid fun W (hb : Below w.heap.size w W) => hP.below hb
  have nI : ¬ (200 : Int) ≤ (n : Int) := by omega
  have nJ : (n : Int) < 200 := by omega
  obtain ⟨v, hv⟩ : ∃ v, 4 + n % 13 = v := ⟨_, rfl⟩
  have EV := Lib.hid (show (4 : Int) + (n : Int) % 13 = (v : Int) by rw [← hv]; rfl)
  have v16 : 4 ≤ v ∧ v ≤ 16 := by omega
  obtain ⟨t, ht⟩ : ∃ t, v - 3 = t := ⟨_, rfl⟩
  have ET := Lib.hid (show (v : Int) - 3 = (t : Int) by omega)
  have t0 : 0 < t := by omega
  have tI : ¬ (t : Int) = 0 := by omega
  obtain ⟨m, hm⟩ : ∃ m, u % t = m := ⟨_, rfl⟩
  have mt : m < t := by rw [← hm]; exact Nat.mod_lt _ t0
  have EM := Lib.hid (show (u : Int) % (t : Int) = (m : Int) by rw [← hm]; rfl)
  obtain ⟨k, hk⟩ : ∃ k, 4 + m = k := ⟨_, rfl⟩
  have WM := Lib.hid (show wrap64 (4 + (m : Int)) = (k : Int) by rw [IntWalk.wrap64_in _ ⟨by omega, by omega⟩]; omega)
  have WK := Lib.hid (show wrap64 (k : Int) = (k : Int) by rw [IntWalk.wrap64_in _ ⟨by omega, by omega⟩])
  have kv' : 4 ≤ k ∧ k ≤ v := by omega
  have kI' : ¬ (16 : Int) < (k : Int) := by omega
  have NM := Lib.hid fun W => rnum_any v k W (by omega) kv'.2
  clear hv ht hm hk t0 mt
  clear hK hP
  go_enter Tryd.func6, Tryd.ntmps6
  go_wp2_with fail
  refine AW.out.mono ?_
  rintro e z1 ⟨rfl, hb1⟩
  have B1 := Lib.hid hb1
  have hba : Below z1.heap.size z1 (z1.alloc (.cells #[.int .i64 13, .int .i64 4, .int .i64 16, .int .i64 4, .int .i64 21, .int .i64 5, .int .i64 25, .int .i64 5, .int .i64 31, .int .i64 6, .int .i64 49, .int .i64 7, .int .i64 57, .int .i64 8] 38)) := (Below.refl _ _).alloc (Nat.le_refl _) _
  have RP := row_new' z1 #[.int .i64 13, .int .i64 4, .int .i64 16, .int .i64 4, .int .i64 21, .int .i64 5, .int .i64 25, .int .i64 5, .int .i64 31, .int .i64 6, .int .i64 49, .int .i64 7, .int .i64 57, .int .i64 8] 38
  have B2 := Lib.hid (B1.out.trans (hba.mono B1.out.size))
  clear hb1 AW hba
  clear RP
  go_wp2_with (first | rw [EV.out] | rw [ET.out] | rw [EM.out] | rw [WM.out])
  obtain ⟨B, hB⟩ : ∃ B, z1.heap.size = B := ⟨_, rfl⟩
  obtain ⟨y1, hy⟩ : ∃ y, z1.alloc (.cells #[.int .i64 13, .int .i64 4, .int .i64 16, .int .i64 4, .int .i64 21, .int .i64 5, .int .i64 25, .int .i64 5, .int .i64 31, .int .i64 6, .int .i64 49, .int .i64 7, .int .i64 57, .int .i64 8] 38) = y := ⟨_, rfl⟩
  rw [hy] at B2 ⊢
  rw [hB]
  clear hy hB nI tI
  refine (NM.out y1).mono ?_
  rintro e z2 ⟨c, rfl, hw2, hc⟩
  obtain rfl := hw2.symm
  by_cases c3 : 300 < c
  · have cI : (300 : Int) < (c : Int) := by omega
    clear hc
    go_wp2_with fail
    go_ret
    exact ⟨rfl, B2.out⟩
  have cI : ¬ (300 : Int) < (c : Int) := by omega
  have GO := Lib.hid (good_small kv'.1 kv'.2 v16.2 (by rcases hc with h | h <;> omega))
  have KX := Lib.hid (HK0.out y1 B2.out)
  have PX := Lib.hid (HP0.out y1 B2.out)
  clear hc c3 NM HK0 HP0
  obtain ⟨L, r, l, GD⟩ := GO.out
  have GS := GD.size
  have GM := GD.small
  have CH := Lib.hid (choose_some (k := k) (d := v) y1 KX.out PX.out GS.1 GS.2.1 GS.2.2.1 GS.2.2.2.1 GD.cho)
  have BAL := Lib.hid GD.bal
  have E1 := GD.e1
  have E2 := GD.e2
  have E3 := Lib.hid GD.e3
  obtain ⟨N, hN⟩ : ∃ N, L.length = N := ⟨_, rfl⟩
  have LN := Lib.hid hN
  have N1 : 1 ≤ N := by have := GD.bal.groups; omega
  have l1 : 1 ≤ l := GD.bal.pos
  rw [hN] at E1 E3 GS
  have EE := Lib.hid (And.intro E1 E2)
  clear GD E1 E2 GO hN
  go_wp2_with fail
  refine CH.out.mono ?_
  rintro e z3 ⟨uu, rfl, hg, hb3⟩
  obtain ⟨A1, k1, rfl⟩ := slform hg
  rw [LN.out] at hg ⊢
  obtain ⟨b1, o1, rfl, -⟩ := hg.cells.2.2.2 (by omega)
  have B3 := Lib.hid (B2.out.trans (hb3.mono B2.out.size))
  have G3 := Lib.hid hg
  have hba : Below z3.heap.size z3 (z3.alloc (.cells #[.int .i64 (v : Int), .slice (some ⟨b1, o1, none⟩) N k1] 25)) := (Below.refl _ _).alloc (Nat.le_refl _) _
  have RD := Lib.hid (row_new' z3 #[.int .i64 (v : Int), .slice (some ⟨b1, o1, none⟩) N k1] 25)
  clear hb3 hg CH
  unfold dv
  go_wp2_with fail
  obtain ⟨D, hD⟩ : ∃ D, z3.heap.size = D := ⟨_, rfl⟩
  obtain ⟨y, hy⟩ : ∃ y, (z3.alloc (.cells #[.int .i64 (v : Int), .slice (some ⟨b1, o1, none⟩) N k1] 25)) = y := ⟨_, rfl⟩
  rw [hy] at RD hba ⊢
  have GY := Lib.hid (G3.out.to hba)
  have BY := Lib.hid (B3.out.trans (hba.mono B3.out.size))
  rw [hD] at RD ⊢
  have CK : Hid (Calls Tryd.prog 16 #[.agg #[.int .i64 (v : Int), .slice (some ⟨b1, o1, none⟩) N k1]] y (bel (.tuple #[.int .i64 (r : Int), .int .i64 (l : Int), .int .i64 0]) y)) := Lib.hid (check_bal BAL.out _ y GY.out)
  clear hba hy hD G3 B3
  refine CK.out.mono ?_
  rintro e z4 ⟨rfl, hb4⟩
  have B4 := Lib.hid (BY.out.trans (hb4.mono BY.out.size))
  have G4 := Lib.hid (GY.out.to hb4)
  have R4 := Lib.hid (RD.out.go hb4)
  have e0 : z4.cell? ⟨D, 0, none⟩ = some (.int .i64 (v : Int)) := R4.out.cell 0
  have e1 : z4.cell? ⟨D, 1, none⟩ = some (.slice (some ⟨b1, o1, none⟩) N k1) := R4.out.cell 1
  obtain ⟨b1', o1', eb, hcl⟩ := G4.out.cells.2.2.2 (by omega)
  injection eb with eb
  injection eb with eb1 eb2 eb3
  subst eb1 eb2
  obtain ⟨u0, x0, n0⟩ := hcl 0 (by omega)
  have LK : (L.getD 0 []).length = k := by
    have h0 : 0 < L.length := by rw [LN.out]; omega
    rw [getD_in h0]; exact (BAL.out.form _ (List.getElem_mem h0)).1
  obtain ⟨A4, c4, rfl⟩ := slform n0
  rw [LK] at x0
  rw [Nat.add_zero] at x0
  have NI : (0 : Int) < (N : Int) := by omega
  have NJ : ¬ (N : Int) < 1 := by omega
  have lI : (1 : Int) ≤ (l : Int) := by omega
  have vB : ((v : Int) != (v : Int)) = false := by simp
  have kB : ((k : Int) != (k : Int)) = false := by simp
  have m1 : (N : Int) * (k : Int) = (v : Int) * (r : Int) := by rw [← Int.natCast_mul, ← Int.natCast_mul, EE.out.1]
  have k1I : (k : Int) - 1 = ((k - 1 : Nat) : Int) := by omega
  have v1I : (v : Int) - 1 = ((v - 1 : Nat) : Int) := by omega
  have m2 : (r : Int) * ((k - 1 : Nat) : Int) = (l : Int) * ((v - 1 : Nat) : Int) := by rw [← Int.natCast_mul, ← Int.natCast_mul, EE.out.2]
  have p1 : v * r ≤ 60 * 5000 := Nat.mul_le_mul (by omega) GM.1
  have p2 : l * (v - 1) ≤ 5000 * 60 := Nat.mul_le_mul GM.2 (by omega)
  have P1 := Lib.hid (show ((v : Int) * (r : Int)) ≤ 300000 ∧ 0 ≤ (v : Int) * (r : Int) by rw [← Int.natCast_mul]; omega)
  have P2 := Lib.hid (show ((l : Int) * ((v - 1 : Nat) : Int)) ≤ 300000 ∧ 0 ≤ (l : Int) * ((v - 1 : Nat) : Int) by rw [← Int.natCast_mul]; omega)
  obtain ⟨x, hx⟩ : ∃ x, (v : Int) * (r : Int) = x := ⟨_, rfl⟩
  obtain ⟨x', hx'⟩ : ∃ x', (l : Int) * ((v - 1 : Nat) : Int) = x' := ⟨_, rfl⟩
  rw [hx] at m1 P1
  rw [hx'] at m2 P2
  have w1 : IntKind.i64.wrap x = x := by have := P1.out; rw [IntKind.wrap_i64]; omega
  have w2 : IntKind.i64.wrap x' = x' := by have := P2.out; rw [IntKind.wrap_i64]; omega
  have W1 := Lib.hid (show wrap64 x = x by have := P1.out; rw [IntWalk.wrap64_in _ ⟨by omega, by omega⟩])
  have W2 := Lib.hid (show wrap64 x' = x' by have := P2.out; rw [IntWalk.wrap64_in _ ⟨by omega, by omega⟩])
  clear hb4 CK hcl eb3 n0 LK p1 p2
  by_cases kv : k = v
  · have kI : ((k : Int) == (v : Int)) = true := by rw [beq_iff_eq]; omega
    clear kv
    have w1' := W1.out
    have w2' := W2.out
    go_wp2_with fail
    go_ret
    exact ⟨rfl, B4.out⟩
  · have kI : ((k : Int) == (v : Int)) = false := by rw [beq_eq_false_iff_ne]; omega
    have NV : v ≤ N := by rcases E3.out with h | h; exact absurd h kv; exact h
    have NVI : (v : Int) ≤ (N : Int) := by omega
    clear kv NV
    have w1' := W1.out
    have w2' := W2.out
    go_wp2_with fail
    go_ret
    exact ⟨rfl, B4.out⟩
set_option maxHeartbeats 8000000 in
set_option maxRecDepth 100000 in
theorem ballaw_hi (n u : Nat) (w : World) (hK : Kd w) (hP : Pd w) (hn : ¬ n < 200) (hn2 : n < 256) (hu : u < 256) : Calls Tryd.prog 6 #[.int .u8 (n : Int), .int .u8 (u : Int)] w (lawPost w) := by
  have AW := Lib.hid (awake7 w hK hP)
  have HK0 := Lib.hid fun W (hb : Below w.heap.size w W) => hK.below hb
  have HP0 := Lib.hid fun W (hb : Below w.heap.size w W) => hP.below hb
  have nI : (200 : Int) ≤ (n : Int) := by omega
  have nJ : ¬ (n : Int) < 200 := by omega
  obtain ⟨i, hi⟩ : ∃ i, u % 7 = i := ⟨_, rfl⟩
  have i7 : i < 7 := by omega
  have ei : (u : Int) % 7 = (i : Int) := by rw [← hi]; rfl
  have WI := Lib.hid (show wrap64 (i : Int) = (i : Int) by rw [IntWalk.wrap64_in _ ⟨by omega, by omega⟩])
  have iI : (i : Int) < 7 := by omega
  obtain ⟨-, -, -, -, -, pb1, pb2, pb3, pb4⟩ := pw_ok i i7
  have GO0 := Lib.hid (good_plane i7)
  have CELLS := Lib.hid (pl_cells i7)
  obtain ⟨v, hv⟩ : ∃ v, pv i = v := ⟨_, rfl⟩
  obtain ⟨k, hk⟩ : ∃ k, pk i = k := ⟨_, rfl⟩
  rw [hv] at GO0 CELLS pb3 pb4
  rw [hk] at GO0 CELLS pb1 pb2 pb3
  have kI' : ¬ (16 : Int) < (k : Int) := by omega
  have NM := Lib.hid fun W => rnum_any v k W pb4 pb3
  clear hi hv hk
  clear hK hP
  go_enter Tryd.func6, Tryd.ntmps6
  go_wp2_with fail
  refine AW.out.mono ?_
  rintro e z1 ⟨rfl, hb1⟩
  have B1 := Lib.hid hb1
  have hba : Below z1.heap.size z1 (z1.alloc (.cells #[.int .i64 13, .int .i64 4, .int .i64 16, .int .i64 4, .int .i64 21, .int .i64 5, .int .i64 25, .int .i64 5, .int .i64 31, .int .i64 6, .int .i64 49, .int .i64 7, .int .i64 57, .int .i64 8] 38)) := (Below.refl _ _).alloc (Nat.le_refl _) _
  have RP := row_new' z1 #[.int .i64 13, .int .i64 4, .int .i64 16, .int .i64 4, .int .i64 21, .int .i64 5, .int .i64 25, .int .i64 5, .int .i64 31, .int .i64 6, .int .i64 49, .int .i64 7, .int .i64 57, .int .i64 8] 38
  have B2 := Lib.hid (B1.out.trans (hba.mono B1.out.size))
  clear hb1 AW hba
  obtain ⟨B, hB⟩ : ∃ B, z1.heap.size = B := ⟨_, rfl⟩
  obtain ⟨y1, hy⟩ : ∃ y, z1.alloc (.cells #[.int .i64 13, .int .i64 4, .int .i64 16, .int .i64 4, .int .i64 21, .int .i64 5, .int .i64 25, .int .i64 5, .int .i64 31, .int .i64 6, .int .i64 49, .int .i64 7, .int .i64 57, .int .i64 8] 38) = y := ⟨_, rfl⟩
  rw [hy] at B2 RP
  rw [hB] at RP
  have x0 : y1.cell? ⟨B, i * 2, none⟩ = some (.int .i64 (v : Int)) := (RP.cell _).trans CELLS.out.1
  have x1 : y1.cell? ⟨B, i * 2 + 1, none⟩ = some (.int .i64 (k : Int)) := (RP.cell _).trans CELLS.out.2
  have HY := Lib.hid hy
  have HB := Lib.hid hB
  clear RP hy hB
  have wi := WI.out
  go_wp2_with fail
  rw [HY.out, HB.out]
  go_quiet (fail)
  clear x0 x1 ei wi
  go_wp2_with fail
  have B3' := Lib.hid (below_drewN B2.out nq)
  revert B3'
  generalize y1.drewN nq = y2
  intro B3'
  refine (NM.out y2).mono ?_
  rintro e z2 ⟨c, rfl, hw2, hc⟩
  obtain rfl := hw2.symm
  have GO := GO0
  have KX := Lib.hid (HK0.out y2 B3'.out)
  have PX := Lib.hid (HP0.out y2 B3'.out)
  clear hc NM HK0 HP0 GO0 CELLS
  by_cases c3 : 300 < c
  · have cI : (300 : Int) < (c : Int) := by omega
    obtain ⟨L, r, l, GD⟩ := GO.out
    have GS := GD.size
    have GM := GD.small
    have CH := Lib.hid (choose_some (k := k) (d := v) y2 KX.out PX.out GS.1 GS.2.1 GS.2.2.1 GS.2.2.2.1 GD.cho)
    have BAL := Lib.hid GD.bal
    have E1 := GD.e1
    have E2 := GD.e2
    have E3 := Lib.hid GD.e3
    obtain ⟨N, hN⟩ : ∃ N, L.length = N := ⟨_, rfl⟩
    have LN := Lib.hid hN
    have N1 : 1 ≤ N := by have := GD.bal.groups; omega
    have l1 : 1 ≤ l := GD.bal.pos
    rw [hN] at E1 E3 GS
    have EE := Lib.hid (And.intro E1 E2)
    clear GD E1 E2 GO hN
    go_wp2_with fail
    refine CH.out.mono ?_
    rintro e z3 ⟨uu, rfl, hg, hb3⟩
    obtain ⟨A1, k1, rfl⟩ := slform hg
    rw [LN.out] at hg ⊢
    obtain ⟨b1, o1, rfl, -⟩ := hg.cells.2.2.2 (by omega)
    have B3 := Lib.hid (B3'.out.trans (hb3.mono B3'.out.size))
    have G3 := Lib.hid hg
    have hba : Below z3.heap.size z3 (z3.alloc (.cells #[.int .i64 (v : Int), .slice (some ⟨b1, o1, none⟩) N k1] 25)) := (Below.refl _ _).alloc (Nat.le_refl _) _
    have RD := Lib.hid (row_new' z3 #[.int .i64 (v : Int), .slice (some ⟨b1, o1, none⟩) N k1] 25)
    clear hb3 hg CH
    unfold dv
    go_wp2_with fail
    obtain ⟨D, hD⟩ : ∃ D, z3.heap.size = D := ⟨_, rfl⟩
    obtain ⟨y, hy⟩ : ∃ y, (z3.alloc (.cells #[.int .i64 (v : Int), .slice (some ⟨b1, o1, none⟩) N k1] 25)) = y := ⟨_, rfl⟩
    rw [hy] at RD hba ⊢
    have GY := Lib.hid (G3.out.to hba)
    have BY := Lib.hid (B3.out.trans (hba.mono B3.out.size))
    rw [hD] at RD ⊢
    have CK : Hid (Calls Tryd.prog 16 #[.agg #[.int .i64 (v : Int), .slice (some ⟨b1, o1, none⟩) N k1]] y (bel (.tuple #[.int .i64 (r : Int), .int .i64 (l : Int), .int .i64 0]) y)) := Lib.hid (check_bal BAL.out _ y GY.out)
    clear hba hy hD G3 B3
    refine CK.out.mono ?_
    rintro e z4 ⟨rfl, hb4⟩
    have B4 := Lib.hid (BY.out.trans (hb4.mono BY.out.size))
    have G4 := Lib.hid (GY.out.to hb4)
    have R4 := Lib.hid (RD.out.go hb4)
    have e0 : z4.cell? ⟨D, 0, none⟩ = some (.int .i64 (v : Int)) := R4.out.cell 0
    have e1 : z4.cell? ⟨D, 1, none⟩ = some (.slice (some ⟨b1, o1, none⟩) N k1) := R4.out.cell 1
    obtain ⟨b1', o1', eb, hcl⟩ := G4.out.cells.2.2.2 (by omega)
    injection eb with eb
    injection eb with eb1 eb2 eb3
    subst eb1 eb2
    obtain ⟨u0, x0, n0⟩ := hcl 0 (by omega)
    have LK : (L.getD 0 []).length = k := by
      have h0 : 0 < L.length := by rw [LN.out]; omega
      rw [getD_in h0]; exact (BAL.out.form _ (List.getElem_mem h0)).1
    obtain ⟨A4, c4, rfl⟩ := slform n0
    rw [LK] at x0
    rw [Nat.add_zero] at x0
    have NI : (0 : Int) < (N : Int) := by omega
    have NJ : ¬ (N : Int) < 1 := by omega
    have lI : (1 : Int) ≤ (l : Int) := by omega
    have vB : ((v : Int) != (v : Int)) = false := by simp
    have kB : ((k : Int) != (k : Int)) = false := by simp
    have m1 : (N : Int) * (k : Int) = (v : Int) * (r : Int) := by rw [← Int.natCast_mul, ← Int.natCast_mul, EE.out.1]
    have k1I : (k : Int) - 1 = ((k - 1 : Nat) : Int) := by omega
    have v1I : (v : Int) - 1 = ((v - 1 : Nat) : Int) := by omega
    have m2 : (r : Int) * ((k - 1 : Nat) : Int) = (l : Int) * ((v - 1 : Nat) : Int) := by rw [← Int.natCast_mul, ← Int.natCast_mul, EE.out.2]
    have p1 : v * r ≤ 60 * 5000 := Nat.mul_le_mul (by omega) GM.1
    have p2 : l * (v - 1) ≤ 5000 * 60 := Nat.mul_le_mul GM.2 (by omega)
    have P1 := Lib.hid (show ((v : Int) * (r : Int)) ≤ 300000 ∧ 0 ≤ (v : Int) * (r : Int) by rw [← Int.natCast_mul]; omega)
    have P2 := Lib.hid (show ((l : Int) * ((v - 1 : Nat) : Int)) ≤ 300000 ∧ 0 ≤ (l : Int) * ((v - 1 : Nat) : Int) by rw [← Int.natCast_mul]; omega)
    obtain ⟨x, hx⟩ : ∃ x, (v : Int) * (r : Int) = x := ⟨_, rfl⟩
    obtain ⟨x', hx'⟩ : ∃ x', (l : Int) * ((v - 1 : Nat) : Int) = x' := ⟨_, rfl⟩
    rw [hx] at m1 P1
    rw [hx'] at m2 P2
    have w1 : IntKind.i64.wrap x = x := by have := P1.out; rw [IntKind.wrap_i64]; omega
    have w2 : IntKind.i64.wrap x' = x' := by have := P2.out; rw [IntKind.wrap_i64]; omega
    have W1 := Lib.hid (show wrap64 x = x by have := P1.out; rw [IntWalk.wrap64_in _ ⟨by omega, by omega⟩])
    have W2 := Lib.hid (show wrap64 x' = x' by have := P2.out; rw [IntWalk.wrap64_in _ ⟨by omega, by omega⟩])
    clear hb4 CK hcl eb3 n0 LK p1 p2
    by_cases kv : k = v
    · have kI : ((k : Int) == (v : Int)) = true := by rw [beq_iff_eq]; omega
      clear kv
      have w1' := W1.out
      have w2' := W2.out
      go_wp2_with fail
      go_ret
      exact ⟨rfl, B4.out⟩
    · have kI : ((k : Int) == (v : Int)) = false := by rw [beq_eq_false_iff_ne]; omega
      have NV : v ≤ N := by rcases E3.out with h | h; exact absurd h kv; exact h
      have NVI : (v : Int) ≤ (N : Int) := by omega
      clear kv NV
      have w1' := W1.out
      have w2' := W2.out
      go_wp2_with fail
      go_ret
      exact ⟨rfl, B4.out⟩
  · have cI : ¬ (300 : Int) < (c : Int) := by omega
    obtain ⟨L, r, l, GD⟩ := GO.out
    have GS := GD.size
    have GM := GD.small
    have CH := Lib.hid (choose_some (k := k) (d := v) y2 KX.out PX.out GS.1 GS.2.1 GS.2.2.1 GS.2.2.2.1 GD.cho)
    have BAL := Lib.hid GD.bal
    have E1 := GD.e1
    have E2 := GD.e2
    have E3 := Lib.hid GD.e3
    obtain ⟨N, hN⟩ : ∃ N, L.length = N := ⟨_, rfl⟩
    have LN := Lib.hid hN
    have N1 : 1 ≤ N := by have := GD.bal.groups; omega
    have l1 : 1 ≤ l := GD.bal.pos
    rw [hN] at E1 E3 GS
    have EE := Lib.hid (And.intro E1 E2)
    clear GD E1 E2 GO hN
    go_wp2_with fail
    refine CH.out.mono ?_
    rintro e z3 ⟨uu, rfl, hg, hb3⟩
    obtain ⟨A1, k1, rfl⟩ := slform hg
    rw [LN.out] at hg ⊢
    obtain ⟨b1, o1, rfl, -⟩ := hg.cells.2.2.2 (by omega)
    have B3 := Lib.hid (B3'.out.trans (hb3.mono B3'.out.size))
    have G3 := Lib.hid hg
    have hba : Below z3.heap.size z3 (z3.alloc (.cells #[.int .i64 (v : Int), .slice (some ⟨b1, o1, none⟩) N k1] 25)) := (Below.refl _ _).alloc (Nat.le_refl _) _
    have RD := Lib.hid (row_new' z3 #[.int .i64 (v : Int), .slice (some ⟨b1, o1, none⟩) N k1] 25)
    clear hb3 hg CH
    unfold dv
    go_wp2_with fail
    obtain ⟨D, hD⟩ : ∃ D, z3.heap.size = D := ⟨_, rfl⟩
    obtain ⟨y, hy⟩ : ∃ y, (z3.alloc (.cells #[.int .i64 (v : Int), .slice (some ⟨b1, o1, none⟩) N k1] 25)) = y := ⟨_, rfl⟩
    rw [hy] at RD hba ⊢
    have GY := Lib.hid (G3.out.to hba)
    have BY := Lib.hid (B3.out.trans (hba.mono B3.out.size))
    rw [hD] at RD ⊢
    have CK : Hid (Calls Tryd.prog 16 #[.agg #[.int .i64 (v : Int), .slice (some ⟨b1, o1, none⟩) N k1]] y (bel (.tuple #[.int .i64 (r : Int), .int .i64 (l : Int), .int .i64 0]) y)) := Lib.hid (check_bal BAL.out _ y GY.out)
    clear hba hy hD G3 B3
    refine CK.out.mono ?_
    rintro e z4 ⟨rfl, hb4⟩
    have B4 := Lib.hid (BY.out.trans (hb4.mono BY.out.size))
    have G4 := Lib.hid (GY.out.to hb4)
    have R4 := Lib.hid (RD.out.go hb4)
    have e0 : z4.cell? ⟨D, 0, none⟩ = some (.int .i64 (v : Int)) := R4.out.cell 0
    have e1 : z4.cell? ⟨D, 1, none⟩ = some (.slice (some ⟨b1, o1, none⟩) N k1) := R4.out.cell 1
    obtain ⟨b1', o1', eb, hcl⟩ := G4.out.cells.2.2.2 (by omega)
    injection eb with eb
    injection eb with eb1 eb2 eb3
    subst eb1 eb2
    obtain ⟨u0, x0, n0⟩ := hcl 0 (by omega)
    have LK : (L.getD 0 []).length = k := by
      have h0 : 0 < L.length := by rw [LN.out]; omega
      rw [getD_in h0]; exact (BAL.out.form _ (List.getElem_mem h0)).1
    obtain ⟨A4, c4, rfl⟩ := slform n0
    rw [LK] at x0
    rw [Nat.add_zero] at x0
    have NI : (0 : Int) < (N : Int) := by omega
    have NJ : ¬ (N : Int) < 1 := by omega
    have lI : (1 : Int) ≤ (l : Int) := by omega
    have vB : ((v : Int) != (v : Int)) = false := by simp
    have kB : ((k : Int) != (k : Int)) = false := by simp
    have m1 : (N : Int) * (k : Int) = (v : Int) * (r : Int) := by rw [← Int.natCast_mul, ← Int.natCast_mul, EE.out.1]
    have k1I : (k : Int) - 1 = ((k - 1 : Nat) : Int) := by omega
    have v1I : (v : Int) - 1 = ((v - 1 : Nat) : Int) := by omega
    have m2 : (r : Int) * ((k - 1 : Nat) : Int) = (l : Int) * ((v - 1 : Nat) : Int) := by rw [← Int.natCast_mul, ← Int.natCast_mul, EE.out.2]
    have p1 : v * r ≤ 60 * 5000 := Nat.mul_le_mul (by omega) GM.1
    have p2 : l * (v - 1) ≤ 5000 * 60 := Nat.mul_le_mul GM.2 (by omega)
    have P1 := Lib.hid (show ((v : Int) * (r : Int)) ≤ 300000 ∧ 0 ≤ (v : Int) * (r : Int) by rw [← Int.natCast_mul]; omega)
    have P2 := Lib.hid (show ((l : Int) * ((v - 1 : Nat) : Int)) ≤ 300000 ∧ 0 ≤ (l : Int) * ((v - 1 : Nat) : Int) by rw [← Int.natCast_mul]; omega)
    obtain ⟨x, hx⟩ : ∃ x, (v : Int) * (r : Int) = x := ⟨_, rfl⟩
    obtain ⟨x', hx'⟩ : ∃ x', (l : Int) * ((v - 1 : Nat) : Int) = x' := ⟨_, rfl⟩
    rw [hx] at m1 P1
    rw [hx'] at m2 P2
    have w1 : IntKind.i64.wrap x = x := by have := P1.out; rw [IntKind.wrap_i64]; omega
    have w2 : IntKind.i64.wrap x' = x' := by have := P2.out; rw [IntKind.wrap_i64]; omega
    have W1 := Lib.hid (show wrap64 x = x by have := P1.out; rw [IntWalk.wrap64_in _ ⟨by omega, by omega⟩])
    have W2 := Lib.hid (show wrap64 x' = x' by have := P2.out; rw [IntWalk.wrap64_in _ ⟨by omega, by omega⟩])
    clear hb4 CK hcl eb3 n0 LK p1 p2
    by_cases kv : k = v
    · have kI : ((k : Int) == (v : Int)) = true := by rw [beq_iff_eq]; omega
      clear kv
      have w1' := W1.out
      have w2' := W2.out
      go_wp2_with fail
      go_ret
      exact ⟨rfl, B4.out⟩
    · have kI : ((k : Int) == (v : Int)) = false := by rw [beq_eq_false_iff_ne]; omega
      have NV : v ≤ N := by rcases E3.out with h | h; exact absurd h kv; exact h
      have NVI : (v : Int) ≤ (N : Int) := by omega
      clear kv NV
      have w1' := W1.out
      have w2' := W2.out
      go_wp2_with fail
      go_ret
      exact ⟨rfl, B4.out⟩
theorem ballaw_walk (n u : Nat) (w : World) (hK : Kd w) (hP : Pd w) (hn : n < 256) (hu : u < 256) : Calls Tryd.prog 6 #[.int .u8 (n : Int), .int .u8 (u : Int)] w (lawPost w) := by
  by_cases h : n < 200
  · exact ballaw_lo n u w hK hP h hn hu
  · exact ballaw_hi n u w hK hP h hn hu
end Go.Proofs.YtnnacofjogfkeaaDoor
