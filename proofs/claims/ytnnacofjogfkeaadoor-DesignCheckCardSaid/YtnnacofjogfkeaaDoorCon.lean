/- Contract: the reference's Check. -/
import Derived.Test.YtnnacofjogfkeaaDoorGQ
namespace Go.Proofs.YtnnacofjogfkeaaDoor
open Go Go.RowKit Pl Co
set_option linter.unusedVariables false
set_option linter.unusedSimpArgs false

def chkPost (d : Int) (m : List (List Int)) (w : World) (e : Ending) (w' : World) : Prop := Below w.heap.size w w' ∧ ∃ (r k : Nat) (b : Bool), e = .returned (.tuple #[.int .i64 (r : Int), .int .i64 (k : Int), .bool b]) ∧ (b = true → BalZ d m r k) ∧ (b = false → ∀ r k, ¬ BalZ d m r k)
theorem chk_no {d : Int} {m : List (List Int)} {w w' : World} (h : ∀ r k, ¬ BalZ d m r k) (hb : Below w.heap.size w w') : chkPost d m w (.returned (.tuple #[.int .i64 0, .int .i64 0, .bool false])) w' :=
  ⟨hb, 0, 0, false, rfl, fun h => by (cases h), fun _ => h⟩
theorem not_row {d : Int} {m : List (List Int)} {g : Nat} (hg : g < m.length) (h : ¬ VR d (m.getD 0 []).length (m.getD g [])) : ∀ r k, ¬ BalZ d m r k := fun r k hz => h (hz.rows.2 g hg)

set_option maxHeartbeats 4000000 in
set_option maxRecDepth 100000 in
theorem rchk_bad (d : Int) (m : List (List Int)) (v : Value) (w : World) (h : Gi w v m) (hb : d < 2 ∨ 60 < d ∨ m.length < 1 ∨ 4096 < m.length) : Calls Tryd.prog 17 #[.agg #[.int .i64 d, v]] w (chkPost d m w) := by
  have NO := Lib.hid (show ∀ r k, ¬ BalZ d m r k from fun r k hz => by have := hz.disks; omega)
  obtain ⟨A1, c1, rfl⟩ := slform h
  obtain ⟨N, hN⟩ : ∃ N, m.length = N := ⟨_, rfl⟩
  rw [hN] at h hb ⊢
  have l1 := h.cells.2.1
  have l2 := h.cells.2.2.1
  unfold maxLen at l2
  obtain ⟨B, hB⟩ : ∃ B, w.heap.size = B := ⟨_, rfl⟩
  obtain ⟨W1, hW⟩ : ∃ W, w.alloc (.cells #[.int .i64 d, .slice A1 N c1] 25) = W := ⟨_, rfl⟩
  have hbw : Below w.heap.size w W1 := by rw [← hW]; exact (Below.refl _ _).alloc (Nat.le_refl _) _
  have r1 : Row W1 B 25 #[.int .i64 d, .slice A1 N c1] := by
    rw [← hW, ← hB]; exact row_new' w _ _
  have e0 := r1.cell 0
  have e1 := r1.cell 1
  have RB := Lib.hid r1
  have BW1 := Lib.hid hbw
  have HE := Lib.hid hB
  have HW := Lib.hid hW
  by_cases h1 : d < 2
  · clear h hb hN r1 hbw hB hW
    go_enter Tryd.func17, Tryd.ntmps17
    go_wp2_with fail
    rw [HE.out, HW.out]
    go_wp2_with fail
    go_ret3
    exact chk_no NO.out BW1.out
  by_cases h2 : 60 < d
  · clear h hb hN r1 hbw hB hW
    go_enter Tryd.func17, Tryd.ntmps17
    go_wp2_with fail
    rw [HE.out, HW.out]
    go_wp2_with fail
    go_ret3
    exact chk_no NO.out BW1.out
  by_cases h3 : N < 1
  · have h3I : (N : Int) < 1 := by omega
    clear h hb hN r1 hbw hB hW
    go_enter Tryd.func17, Tryd.ntmps17
    go_wp2_with fail
    rw [HE.out, HW.out]
    go_wp2_with fail
    go_ret3
    exact chk_no NO.out BW1.out
  · have h3I : ¬ (N : Int) < 1 := by omega
    have h4I : (4096 : Int) < (N : Int) := by omega
    clear h hb hN r1 hbw hB hW
    go_enter Tryd.func17, Tryd.ntmps17
    go_wp2_with fail
    rw [HE.out, HW.out]
    go_wp2_with fail
    go_ret3
    exact chk_no NO.out BW1.out
set_option maxHeartbeats 4000000 in
set_option maxRecDepth 100000 in
theorem rchk_ok (d : Int) (m : List (List Int)) (v : Value) (w : World) (h : Gi w v m) (h1 : ¬ d < 2) (h2 : ¬ 60 < d) (h3 : ¬ m.length < 1) (h4 : ¬ 4096 < m.length) : Calls Tryd.prog 17 #[.agg #[.int .i64 d, v]] w (chkPost d m w) := by
  obtain ⟨G, hG⟩ : ∃ G, m.map toN = G := ⟨_, rfl⟩
  have LG := Lib.hid (show G.length = m.length by rw [← hG, List.length_map])
  have GA := Lib.hid (show ∀ g (hg : g < G.length), G[g] = toN (m.getD g []) from fun g hg => by
    have hg' : g < m.length := by rw [LG.out] at hg; exact hg
    subst hG
    rw [List.getElem_map, getD_in hg'])
  have HG2 := Lib.hid hG
  clear hG
  obtain ⟨A1, c1, rfl⟩ := slform h
  obtain ⟨N, hN⟩ : ∃ N, m.length = N := ⟨_, rfl⟩
  rw [hN] at h h3 h4 LG ⊢
  have l1 := h.cells.2.1
  have l2 := h.cells.2.2.1
  unfold maxLen at l2
  obtain ⟨B, hB⟩ : ∃ B, w.heap.size = B := ⟨_, rfl⟩
  obtain ⟨W1, hW⟩ : ∃ W, w.alloc (.cells #[.int .i64 d, .slice A1 N c1] 25) = W := ⟨_, rfl⟩
  have hbw : Below w.heap.size w W1 := by rw [← hW]; exact (Below.refl _ _).alloc (Nat.le_refl _) _
  have r1 : Row W1 B 25 #[.int .i64 d, .slice A1 N c1] := by
    rw [← hW, ← hB]; exact row_new' w _ _
  have e0 := r1.cell 0
  have e1 := r1.cell 1
  have RB := Lib.hid r1
  have BW1 := Lib.hid hbw
  have HE := Lib.hid hB
  have HW := Lib.hid hW
  have h3I : ¬ (N : Int) < 1 := by omega
  have h4I : ¬ (4096 : Int) < (N : Int) := by omega
  have HM := Lib.hid hN
  have HG := Lib.hid h
  obtain ⟨zs, hz⟩ : ∃ zs, zc60 = zs := ⟨_, rfl⟩
  have ZV : ∀ w : World, (zeroValue 55).run Tryd.prog w = .ok (.agg zs) w := by rw [← hz]; exact zv60
  have ZN : ¬ zs = #[] := by rw [← hz]; exact zc_ne
  obtain ⟨P, hQ⟩ : ∃ P, B + 1 = P := ⟨_, rfl⟩
  have hP : W1.heap.size = P := by rw [← hW, World.size_alloc, hB, hQ]
  obtain ⟨W, hW2⟩ : ∃ W, W1.alloc (.cells zs 55) = W := ⟨_, rfl⟩
  have NR0 : Hid (Nr W P 3600 (tab (G.take 0))) := Lib.hid ⟨zs, 55, by rw [← hW2, ← hP]; exact row_new' W1 _ _, by rw [← hz, zc_size]; exact Nat.le_refl _, fun i hi => by rw [← hz]; exact zc_get hi⟩
  have b1 : Below W1.heap.size W1 W := by rw [← hW2]; exact (Below.refl _ _).alloc (Nat.le_refl _) _
  have BW := Lib.hid (BW1.out.trans (b1.mono BW1.out.size))
  have BP : Hid (B < P) := Lib.hid (by rw [← hP]; exact RB.out.lt)
  have BWP : Hid (w.heap.size ≤ P) := Lib.hid (by rw [HE.out]; exact Nat.le_of_lt BP.out)
  have RW := Lib.hid (RB.out.go b1)
  have HP := Lib.hid hQ
  have HW2 := Lib.hid hW2
  obtain ⟨n0, hn0⟩ : ∃ n, (m.getD 0 []).length = n := ⟨_, rfl⟩
  have N0 := Lib.hid hn0
  clear h h3 h4 hN hn0 r1 hbw hB hW hz hP hQ hW2 b1
  go_enter Tryd.func17, Tryd.ntmps17
  go_wp2_with fail
  rw [HE.out, HW.out]
  go_wp2_with fail
  rw [HP.out, HW2.out]
  clear ZV ZN e0 e1
  go_loopw [6, 7, 8, 9, 10] (fun i _ _ _ _ wr => ∃ g : Nat, g ≤ N ∧ i = .int .i64 (g : Int) ∧ Hid (Below P W wr ∧ Nr wr P 3600 (tab (G.take g)) ∧ ∀ j, j < g → VR d n0 (m.getD j []) ∧ 2 ≤ n0)) (fun i _ _ _ _ _ => N - (intOf i).toNat)
  case atStart => exact ⟨0, Nat.zero_le _, rfl, Lib.hid ⟨Below.refl _ _, NR0.out, fun j hj => absurd hj (Nat.not_lt_zero j)⟩⟩
  case round =>
    obtain ⟨g, hg, rfl, H⟩ := hrel
    have RX := Lib.hid (RW.out.below H.out.1 BP.out)
    have e0 := RX.out.cell 0
    have e1 := RX.out.cell 1
    have BX := Lib.hid (BW.out.trans (H.out.1.mono BWP.out))
    by_cases hlt : g < N
    · have gI : (g : Int) < (N : Int) := by omega
      obtain ⟨b1, o1, hA1, f1⟩ := HG.out.cells.2.2.2 (by omega)
      subst hA1
      obtain ⟨u, y1, n1⟩ := f1 g hlt
      obtain ⟨u0, y0, m0⟩ := f1 0 (by omega)
      rw [Nat.add_zero] at y0
      have x1 := cell7 y1 BX.out
      have x0 := cell7 y0 BX.out
      obtain ⟨l, hl⟩ : ∃ l, m.getD g [] = l := ⟨_, rfl⟩
      rw [hl] at n1
      obtain ⟨A4, c4, rfl⟩ := slform m0
      rw [N0.out] at x0 y0 m0
      obtain ⟨A3, c3, rfl⟩ := slform n1
      obtain ⟨k, hk⟩ : ∃ k, l.length = k := ⟨_, rfl⟩
      rw [hk] at x1 n1 y1
      have q1 := m0.row.2.1
      have q2 := m0.row.2.2.1
      have q3 := n1.row.2.1
      have q4 := n1.row.2.2.1
      unfold maxLen at q2 q4
      have HL := Lib.hid hl
      have HK := Lib.hid hk
      have NROW := Lib.hid (show ¬ VR d n0 l → ∀ r k, ¬ BalZ d m r k from fun hv => not_row (g := g) (by rw [HM.out]; exact hlt) (by rw [N0.out, hl]; exact hv))
      have NI := Lib.hid n1
      have C0 := Lib.hid y0
      have C1 := Lib.hid y1
      clear f1 hl hk m0 y0 y1 n1
      by_cases k2 : k < 2
      · have k2I : (k : Int) < 2 := by omega
        have NO := Lib.hid (show ∀ r k, ¬ BalZ d m r k from fun r k hz => by
          have a1 := hz.rows.1
          have a2 := (hz.rows.2 g (by rw [HM.out]; exact hlt)).len
          rw [HL.out, HK.out, N0.out] at a2
          rw [N0.out] at a1
          omega)
        clear NROW
        go_wp2_with fail
        go_ret3
        exact chk_no NO.out BX.out
      have k2I : ¬ (k : Int) < 2 := by omega
      by_cases kn : k = n0
      case neg =>
        have knI : ((k : Int) != (n0 : Int)) = true := by simp; omega
        have NO := Lib.hid (NROW.out fun hv => kn (by rw [← HK.out]; exact hv.len))
        clear NROW kn
        go_wp2_with fail
        go_ret3
        exact chk_no NO.out BX.out
      subst kn
      have knI : ((k : Int) != (k : Int)) = false := by simp
      obtain ⟨b3, o3, hA3, hc3⟩ := NI.out.row.2.2.2 (by omega)
      subst hA3
      have CL := Lib.hid (show ∀ wq, Below w.heap.size w wq → ∀ i, i < k → wq.cell? ⟨b3, o3 + i, none⟩ = some (.int .i64 (l.getD i 0)) from fun wq hq i hi => cell7 (hc3 i hi) hq)
      clear hc3 NI
      go_wp2_with fail
      clear x0 x1 e0 e1
      obtain ⟨wo, hwo⟩ : ∃ wo, wo = wr := ⟨_, rfl⟩
      subst hwo
      go_loopw [8] (fun i wr => ∃ s : Nat, s ≤ k ∧ i = .int .i64 (s : Int) ∧ Hid (Below P W wr ∧ Nr wr P 3600 (tab (G.take g)) ∧ ∀ j, j < s → (0 ≤ l.getD j 0 ∧ l.getD j 0 < d) ∧ (0 < j → l.getD (j - 1) 0 < l.getD j 0))) (fun i _ => k - (intOf i).toNat)
      case atStart => exact ⟨0, Nat.zero_le _, rfl, Lib.hid ⟨H.out.1, H.out.2.1, fun j hj => absurd hj (Nat.not_lt_zero j)⟩⟩
      case round =>
        obtain ⟨s, hs, rfl, I⟩ := hrel
        have RY := Lib.hid (RW.out.below I.out.1 BP.out)
        have e0 : wr.cell? ⟨B, 0, none⟩ = some (.int .i64 d) := RY.out.cell 0
        have BY := Lib.hid (BW.out.trans (I.out.1.mono BWP.out))
        by_cases slt : s < k
        · have sI : (s : Int) < (k : Int) := by omega
          have p1 := CL.out wr BY.out s slt
          obtain ⟨x, hx⟩ : ∃ x, l.getD s 0 = x := ⟨_, rfl⟩
          have BAD := Lib.hid (show ¬ ((0 ≤ x ∧ x < d) ∧ (0 < s → l.getD (s - 1) 0 < x)) → ∀ r k, ¬ BalZ d m r k from fun hn => NROW.out fun hv => hn ⟨by rw [← hx]; exact hv.pos s (by rw [HK.out]; exact slt), fun hp => by
            have := hv.up (s - 1) (by rw [HK.out]; omega)
            rw [show s - 1 + 1 = s by omega, hx] at this
            exact this⟩)
          have GOOD := Lib.hid (show (0 ≤ x ∧ x < d) ∧ (0 < s → l.getD (s - 1) 0 < x) → ∀ j, j < s + 1 → (0 ≤ l.getD j 0 ∧ l.getD j 0 < d) ∧ (0 < j → l.getD (j - 1) 0 < l.getD j 0) from fun hn j hj => by
            rcases Nat.lt_or_eq_of_le (Nat.le_of_lt_succ hj) with h | h
            · exact I.out.2.2 j h
            · rw [h, hx]; exact hn)
          rw [hx] at p1
          clear hx
          by_cases xn : x < 0
          · have NO := Lib.hid (BAD.out fun h => by omega)
            have xnB : decide (x < 0) = true := by simpa using xn
            clear xn
            clear BAD GOOD NROW
            go_wp2_with fail
            go_quiet (fail)
            go_wp2_with fail
            go_ret3
            exact chk_no NO.out (below_drewN BY.out _)
          have xnB : decide (x < 0) = false := by simpa using xn
          by_cases xd : d ≤ x
          · have NO := Lib.hid (BAD.out fun h => by omega)
            have xdB : decide (d ≤ x) = true := by simpa using xd
            clear xd xn
            clear BAD GOOD NROW
            go_wp2_with fail
            go_quiet (fail)
            go_wp2_with fail
            go_ret3
            exact chk_no NO.out (below_drewN BY.out _)
          have xdB : decide (d ≤ x) = false := by simpa using xd
          by_cases s0 : s = 0
          · have NX := Lib.hid (GOOD.out ⟨by omega, fun h => absurd h (by omega)⟩)
            subst s0
            rw [Nat.add_zero] at p1
            have kI0 : (0 : Int) < (k : Int) := by omega
            have kN0 : 0 < k := by omega
            clear BAD GOOD xn xd
            go_wp2_with fail
            go_quiet (fail)
            go_wp2_with fail
            go_roundw
            case rel => exact ⟨1, by omega, by go_num, Lib.hid ⟨below_drewN I.out.1 _, I.out.2.1, NX.out⟩⟩
            case measure => simp [intOf]; omega
          obtain ⟨t, rfl⟩ : ∃ t, s = t + 1 := ⟨s - 1, by omega⟩
          have s0I : (0 : Int) < ((t + 1 : Nat) : Int) := by omega
          have eT : ((t + 1 : Nat) : Int) - 1 = (t : Int) := by omega
          have tI : (t : Int) < (k : Int) := by omega
          have p2 := CL.out wr BY.out t (by omega)
          rw [Nat.add_sub_cancel] at BAD GOOD
          obtain ⟨y, hy⟩ : ∃ y, l.getD t 0 = y := ⟨_, rfl⟩
          rw [hy] at p2 BAD GOOD
          clear hy s0
          by_cases xy : x ≤ y
          · have NO := Lib.hid (BAD.out fun h => by have := h.2 (by omega); omega)
            have xyB : decide (x ≤ y) = true := by simpa using xy
            clear BAD GOOD NROW xy xn xd
            go_wp2_with fail
            go_quiet (fail)
            go_wp2_with fail
            go_ret3
            exact chk_no NO.out (below_drewN BY.out _)
          · have NX := Lib.hid (GOOD.out ⟨by omega, fun _ => by omega⟩)
            have xyB : decide (x ≤ y) = false := by simpa using xy
            clear BAD GOOD xy xn xd
            go_wp2_with fail
            go_quiet (fail)
            go_wp2_with fail
            go_roundw
            case rel => exact ⟨t + 1 + 1, by omega, by go_num, Lib.hid ⟨below_drewN I.out.1 _, I.out.2.1, NX.out⟩⟩
            case measure => simp [intOf]; omega
        · obtain rfl : s = k := by omega
          have sI : ¬ (s : Int) < (s : Int) := by omega
          have VRg := Lib.hid (show VR d s l from ⟨HK.out, fun i hi => (I.out.2.2 i (by rw [← HK.out]; exact hi)).1, fun i hi => (I.out.2.2 (i + 1) (by rw [← HK.out]; exact hi)).2 (Nat.succ_pos i)⟩)
          clear NROW
          have AT : Hid (∀ j, j < s → ∃ x : Nat, (toN l).getD j 0 = x ∧ l.getD j 0 = (x : Int) ∧ x < 60) := Lib.hid fun j hj => by
            have := VRg.out.pos j (by rw [HK.out]; exact hj)
            exact ⟨_, rfl, toN_ge this.1, by rw [toN_at]; omega⟩
          have INC := Lib.hid VRg.out.inc
          have LN : Hid ((toN l).length = s) := Lib.hid (by rw [toN_len, HK.out])
          have GLE : Hid ((G.take g).length ≤ 4096) := Lib.hid (by rw [List.length_take, LG.out]; omega)
          have TK : Hid (G.take (g + 1) = G.take g ++ [toN l]) := Lib.hid (by
            have hg' : g < G.length := by rw [LG.out]; exact hlt
            rw [List.take_succ_eq_append_getElem hg', GA.out g hg', HL.out])
          have I1 := Lib.hid I.out.1
          have I2 := Lib.hid (I.out.2.1.congr fun j _ => (mid_start (G.take g) (toN l) j).symm)
          have VV := Lib.hid (show ∀ j, j < g + 1 → VR d s (m.getD j []) ∧ 2 ≤ s from fun j hj => by
            rcases Nat.lt_or_eq_of_le (Nat.le_of_lt_succ hj) with h | h
            · exact H.out.2.2 j h
            · rw [h, HL.out]; exact ⟨VRg.out, by omega⟩)
          obtain ⟨L, hL⟩ : ∃ L, toN l = L := ⟨_, rfl⟩
          obtain ⟨GT, hGT⟩ : ∃ GT, G.take g = GT := ⟨_, rfl⟩
          rw [hL] at AT INC LN TK I2
          rw [hGT] at GLE TK I2
          clear hL hGT I e0
          go_wp2_with fail
          go_loopw [9, 10] (fun i _ wq => ∃ a : Nat, a ≤ s ∧ i = .int .i64 (a : Int) ∧ Hid (Below P W wq ∧ Nr wq P 3600 (mid GT L a 0))) (fun i _ _ => s - (intOf i).toNat)
          case atStart => exact ⟨0, Nat.zero_le _, rfl, Lib.hid ⟨I1.out, I2.out⟩⟩
          case round =>
            obtain ⟨a, ha, rfl, J⟩ := hrel
            by_cases alt : a < s
            · have aI : (a : Int) < (s : Int) := by omega
              go_wp2_with fail
              obtain ⟨wj, hwj⟩ : ∃ wj, wj = wr := ⟨_, rfl⟩
              subst hwj
              go_loopw [10] (fun i wq => ∃ b : Nat, b ≤ s ∧ i = .int .i64 (b : Int) ∧ Hid (Below P W wq ∧ Nr wq P 3600 (mid GT L a b))) (fun i _ => s - (intOf i).toNat)
              case atStart => exact ⟨0, Nat.zero_le _, rfl, J⟩
              case round =>
                obtain ⟨b, hb, rfl, T⟩ := hrel
                by_cases blt : b < s
                · have bI : (b : Int) < (s : Int) := by omega
                  have BT := BW.out.trans (T.out.1.mono BWP.out)
                  obtain ⟨x, x1, x2, x3⟩ := AT.out a alt
                  obtain ⟨y, y1, y2, y3⟩ := AT.out b blt
                  have c1 := CL.out wr BT a alt
                  have c2 := CL.out wr BT b blt
                  rw [x2] at c1
                  rw [y2] at c2
                  have T1 := Lib.hid T.out.1
                  have T2 := Lib.hid T.out.2
                  have d1 := T2.out.cell (show x * 60 + y < 3600 by omega)
                  have ff := T2.out.frozen (x * 60 + y)
                  have LE := mid_le GT L a b (x * 60 + y)
                  have GL' := GLE.out
                  have ST := Lib.hid fun j => mid_step (G := GT) INC.out (show a < L.length by rw [LN.out]; exact alt) (by rw [LN.out]; exact blt) (by rw [y1]; exact y3) j
                  rw [x1, y1] at ST
                  obtain ⟨z, hz⟩ : ∃ z, mid GT L a b (x * 60 + y) = z := ⟨_, rfl⟩
                  rw [hz] at d1 LE ST
                  have z5 : z ≤ 5000 := by omega
                  have xI : (x : Int) < 60 := by omega
                  have yI : (y : Int) < 60 := by omega
                  clear BT x1 x2 y1 y2 hz LE GL' T
                  go_wp2_with fail
                  refine wp_region_still_tail 13 (by kernel_rfl) (by kernel_rfl) ?_
                  simp only [List.take_succ_cons, List.take_zero, List.drop_succ_cons, List.drop_zero]
                  repeat (first | still_step)
                  refine wpStill_nil ?_
                  change wpList _ _ _ _ _ wr.drew
                  go_wp2
                  go_roundw
                  case rel =>
                    refine ⟨b + 1, by omega, by go_num, Lib.hid ⟨(T1.out.drew).setCell (p := ⟨P, x * 60 + y, none⟩) (Nat.le_refl _) _, ((T2.out.drew).set (x * 60 + y) (z + 1)).congr fun j _ => ST.out j⟩⟩
                  case measure => simp [intOf]; omega
                · obtain rfl : b = s := by omega
                  have bI : ¬ (b : Int) < (b : Int) := by omega
                  have T1 := Lib.hid T.out.1
                  have T2 := Lib.hid (show Nr wr P 3600 (mid GT L (a + 1) 0) from T.out.2.congr fun j _ => by rw [← LN.out]; exact mid_next INC.out (by rw [LN.out]; exact alt) j)
                  clear T
                  go_wp2_with fail
                  go_roundw
                  case rel => exact ⟨a + 1, by omega, by go_num, Lib.hid ⟨T1.out, T2.out⟩⟩
                  case measure => simp [intOf]; omega
            · obtain rfl : a = s := by omega
              have aI : ¬ (a : Int) < (a : Int) := by omega
              have J1 := Lib.hid J.out.1
              have J2 := Lib.hid (show Nr wr P 3600 (tab (G.take (g + 1))) by
                have h := J.out.2
                refine h.congr fun j _ => ?_
                rw [TK.out, ← LN.out]; exact mid_end j)
              clear J
              go_wp2_with fail
              go_roundw
              case rel => exact ⟨g + 1, by omega, by go_num, Lib.hid ⟨J1.out, J2.out, VV.out⟩⟩
              case measure => simp [intOf]; omega
    · obtain rfl : g = N := by omega
      have gI : ¬ (g : Int) < (g : Int) := by omega
      have NF := Lib.hid (show Nr wr P 3600 (tab G) by have h := H.out.2.1; rwa [List.take_of_length_le (by rw [LG.out]; exact Nat.le_refl _)] at h)
      have VS := Lib.hid H.out.2.2
      obtain ⟨D, rfl⟩ : ∃ D : Nat, d = (D : Int) := ⟨d.toNat, by omega⟩
      have D60 : D ≤ 60 := by omega
      have D2 : 2 ≤ D := by omega
      have TA := Lib.hid (show ∀ a b, b < 60 → tab G (a * 60 + b) = prs G a b from fun a b hb => by unfold tab; rw [show (a * 60 + b) / 60 = a by omega, show (a * 60 + b) % 60 = b by omega])
      have EQS := Lib.hid (show ∀ r k, BalZ (D : Int) m r k → (∀ a, a < D → prs G a a = r) ∧ (∀ a b, a < D → b < D → a ≠ b → prs G a b = k) ∧ 1 ≤ k from fun r k hz => by
        obtain ⟨a1, a2, a3⟩ := hz.eqs
        rw [HG2.out] at a1 a2
        exact ⟨fun a ha => a1 a (by omega), fun a b ha hb hne => a2 a b (by omega) (by omega) hne, a3⟩)
      have MK := Lib.hid (show ∀ r k, (∀ a, a < D → ∀ b, b < D → (a = b → prs G a a = r) ∧ (a ≠ b → prs G a b = k)) → 1 ≤ k → BalZ (D : Int) m r k from fun r k hu hk => by
        refine BalZ.of (by omega) (by rw [HM.out]; omega) (by rw [N0.out]; exact (VS.out 0 (by omega)).2) (fun j hj => by rw [N0.out]; exact (VS.out j (by rw [← HM.out]; exact hj)).1) (fun a ha => ?_) (fun a b ha hb hne => ?_) hk
        · rw [HG2.out]; exact (hu a (by omega) a (by omega)).1 rfl
        · rw [HG2.out]; exact (hu a (by omega) b (by omega)).2 hne)
      obtain ⟨r, hr⟩ : ∃ r, prs G 0 0 = r := ⟨_, rfl⟩
      obtain ⟨k, hk⟩ : ∃ k, prs G 0 1 = k := ⟨_, rfl⟩
      have R0 := Lib.hid (show tab G 0 = r by rw [← hr]; exact TA.out 0 0 (by omega))
      have K0 := Lib.hid (show tab G 1 = k by rw [← hk]; exact TA.out 0 1 (by omega))
      have RR := Lib.hid hr
      have KK := Lib.hid hk
      have H1 := Lib.hid H.out.1
      clear hr hk H h1 h2
      go_wp2_with fail
      clear e0 e1
      go_loopw [11, 12] (fun i _ wq => ∃ a : Nat, a ≤ D ∧ i = .int .i64 (a : Int) ∧ Hid (Below P W wq ∧ Nr wq P 3600 (tab G) ∧ ∀ x, x < a → ∀ b, b < D → (x = b → prs G x x = r) ∧ (x ≠ b → prs G x b = k))) (fun i _ _ => D - (intOf i).toNat)
      case atStart => exact ⟨0, Nat.zero_le _, rfl, Lib.hid ⟨H1.out, NF.out, fun x hx => absurd hx (Nat.not_lt_zero x)⟩⟩
      case round =>
        obtain ⟨a, ha, rfl, J⟩ := hrel
        have RJ := Lib.hid (RW.out.below J.out.1 BP.out)
        have e0 : wr.cell? ⟨B, 0, none⟩ = some (.int .i64 (D : Int)) := RJ.out.cell 0
        by_cases alt : a < D
        · have aI : (a : Int) < (D : Int) := by omega
          have a6 : (a : Int) < 60 := by omega
          go_wp2_with fail
          obtain ⟨wj, hwj⟩ : ∃ wj, wj = wr := ⟨_, rfl⟩
          subst hwj
          clear e0
          go_loopw [12] (fun i wq => ∃ b : Nat, b ≤ D ∧ i = .int .i64 (b : Int) ∧ Hid (Below P W wq ∧ Nr wq P 3600 (tab G) ∧ ∀ y, y < b → (a = y → prs G a a = r) ∧ (a ≠ y → prs G a y = k))) (fun i _ => D - (intOf i).toNat)
          case atStart => exact ⟨0, Nat.zero_le _, rfl, Lib.hid ⟨J.out.1, J.out.2.1, fun y hy => absurd hy (Nat.not_lt_zero y)⟩⟩
          case round =>
            obtain ⟨b, hb, rfl, T⟩ := hrel
            have RT := Lib.hid (RW.out.below T.out.1 BP.out)
            have e0 : wr.cell? ⟨B, 0, none⟩ = some (.int .i64 (D : Int)) := RT.out.cell 0
            have BT := Lib.hid (BW.out.trans (T.out.1.mono BWP.out))
            by_cases blt : b < D
            · have bI : (b : Int) < (D : Int) := by omega
              have b6 : (b : Int) < 60 := by omega
              have T1 := Lib.hid T.out.1
              have T2 := Lib.hid T.out.2.1
              have c0 : wr.cell? ⟨P, 0, none⟩ = some (.int .i64 (r : Int)) := by rw [T2.out.cell (show 0 < 3600 by omega), R0.out]
              have c1 : wr.cell? ⟨P, 1, none⟩ = some (.int .i64 (k : Int)) := by rw [T2.out.cell (show 1 < 3600 by omega), K0.out]
              have cx : wr.cell? ⟨P, a * 60 + b, none⟩ = some (.int .i64 ((prs G a b : Nat) : Int)) := by rw [T2.out.cell (show a * 60 + b < 3600 by omega), TA.out a b (by omega)]
              have NXT := Lib.hid (show ((a = b → prs G a a = r) ∧ (a ≠ b → prs G a b = k)) → ∀ y, y < b + 1 → (a = y → prs G a a = r) ∧ (a ≠ y → prs G a y = k) from fun hn y hy => by
                rcases Nat.lt_or_eq_of_le (Nat.le_of_lt_succ hy) with h | h
                · exact T.out.2.2 y h
                · rw [h]; exact hn)
              by_cases ab : a = b
              · subst ab
                have NO0 := Lib.hid (show prs G a a ≠ r → ∀ r k, ¬ BalZ (D : Int) m r k from fun hn r' k' hz => by
                  obtain ⟨f1, _, _⟩ := EQS.out r' k' hz
                  exact hn (by rw [f1 a alt, ← RR.out, f1 0 (by omega)]))
                obtain ⟨x, hx⟩ : ∃ x, prs G a a = x := ⟨_, rfl⟩
                rw [hx] at cx NXT NO0
                have eB : ((a : Int) == (a : Int)) = true := by simp
                have fB : ((a : Int) != (a : Int)) = false := by simp
                have HX := Lib.hid hx
                clear hx T
                by_cases e : x = r
                · have gB : ((x : Int) != (r : Int)) = false := by simp; omega
                  have E := Lib.hid (by have h := NXT.out ⟨fun _ => e, fun h => absurd rfl h⟩; rw [← HX.out] at h; exact h)
                  clear e NXT NO0 c1
                  go_wp2_with fail
                  go_quiet (fail)
                  go_wp2_with fail
                  go_roundw
                  case rel => exact ⟨a + 1, by omega, by go_num, Lib.hid ⟨below_drewN T1.out _, T2.out.below (below_drewN (Below.refl wr.heap.size wr) _) (Nat.le_refl _), E.out⟩⟩
                  case measure => simp [intOf]; omega
                · have gB : ((x : Int) != (r : Int)) = true := by simp; omega
                  have E := Lib.hid (NO0.out e)
                  clear e NXT NO0 c1
                  go_wp2_with fail
                  go_quiet (fail)
                  go_wp2_with fail
                  go_ret3
                  exact chk_no E.out (below_drewN BT.out _)
              · have NO0 := Lib.hid (show prs G a b ≠ k → ∀ r k, ¬ BalZ (D : Int) m r k from fun hn r' k' hz => by
                  obtain ⟨_, f1, _⟩ := EQS.out r' k' hz
                  exact hn (by rw [f1 a b alt blt ab, ← KK.out, f1 0 1 (by omega) (by omega) (by omega)]))
                obtain ⟨x, hx⟩ : ∃ x, prs G a b = x := ⟨_, rfl⟩
                rw [hx] at cx NXT NO0
                have eB : ((a : Int) == (b : Int)) = false := by rw [beq_eq_false_iff_ne]; omega
                have fB : ((a : Int) != (b : Int)) = true := by simp; omega
                clear hx T
                by_cases e : x = k
                · have gB : ((x : Int) != (k : Int)) = false := by simp; omega
                  have E := Lib.hid (NXT.out ⟨fun h => absurd h ab, fun _ => e⟩)
                  clear e NXT NO0 c0 ab
                  go_wp2_with fail
                  go_quiet (fail)
                  go_wp2_with fail
                  go_roundw
                  case rel => exact ⟨b + 1, by omega, by go_num, Lib.hid ⟨below_drewN T1.out _, T2.out.below (below_drewN (Below.refl wr.heap.size wr) _) (Nat.le_refl _), E.out⟩⟩
                  case measure => simp [intOf]; omega
                · have gB : ((x : Int) != (k : Int)) = true := by simp; omega
                  have E := Lib.hid (NO0.out e)
                  clear e NXT NO0 c0 ab
                  go_wp2_with fail
                  go_quiet (fail)
                  go_wp2_with fail
                  go_ret3
                  exact chk_no E.out (below_drewN BT.out _)
            · obtain rfl : b = D := by omega
              have bI : ¬ (b : Int) < (b : Int) := by omega
              have E := Lib.hid (show ∀ x, x < a + 1 → ∀ y, y < b → (x = y → prs G x x = r) ∧ (x ≠ y → prs G x y = k) from fun x hx => by
                rcases Nat.lt_or_eq_of_le (Nat.le_of_lt_succ hx) with h | h
                · exact J.out.2.2 x h
                · rw [h]; exact T.out.2.2)
              have T1 := Lib.hid T.out.1
              have T2 := Lib.hid T.out.2.1
              clear T
              go_wp2_with fail
              go_roundw
              case rel => exact ⟨a + 1, by omega, by go_num, Lib.hid ⟨T1.out, T2.out, E.out⟩⟩
              case measure => simp [intOf]; omega
        · obtain rfl : a = D := by omega
          have aI : ¬ (a : Int) < (a : Int) := by omega
          have BT := Lib.hid (BW.out.trans (J.out.1.mono BWP.out))
          have c0 : wr.cell? ⟨P, 0, none⟩ = some (.int .i64 (r : Int)) := by rw [J.out.2.1.cell (show 0 < 3600 by omega), R0.out]
          have c1 : wr.cell? ⟨P, 1, none⟩ = some (.int .i64 (k : Int)) := by rw [J.out.2.1.cell (show 1 < 3600 by omega), K0.out]
          have FIN := Lib.hid (show 1 ≤ k → BalZ (a : Int) m r k from fun hk => MK.out r k J.out.2.2 hk)
          have NO := Lib.hid (show ¬ 1 ≤ k → ∀ r k, ¬ BalZ (a : Int) m r k from fun hn r' k' hz => by
            obtain ⟨_, f1, f2⟩ := EQS.out r' k' hz
            exact hn (by rw [← KK.out, f1 0 1 (by omega) (by omega) (by omega)]; exact f2))
          clear J
          go_wp2_with fail
          go_quiet (fail)
          go_wp2_with fail
          go_ret3
          refine ⟨below_drewN BT.out _, r, k, decide (0 < k), rfl, fun h => FIN.out (of_decide_eq_true h), fun h => NO.out (of_decide_eq_false h)⟩

end Go.Proofs.YtnnacofjogfkeaaDoor
