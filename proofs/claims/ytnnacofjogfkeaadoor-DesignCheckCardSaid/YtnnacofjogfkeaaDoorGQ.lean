/- Joined: Coh Yb Yc Yd Ye Yf Yg Yh Ym. -/
import Derived.Test.YtnnacofjogfkeaaDoorUh
import Derived.Test.YtnnacofjogfkeaaDoorCol
namespace Go.Proofs.YtnnacofjogfkeaaDoor
open Go Go.RowKit Pl
set_option linter.unusedVariables false
set_option linter.unusedSimpArgs false

/-- A slice of slices of ints. -/
abbrev Gi := Sl Is
theorem Is.keeps : Keeps Is := Sl.keeps Iv.keeps
theorem Gi.to {w w' : World} {v : Value} {L : List (List Int)} (h : Gi w v L) (hb : Below w.heap.size w w') : Gi w' v L := Sl.keeps Is.keeps _ _ _ _ h (Below.toSame hb)
theorem Gi.cells {w : World} {A : Option Addr} {n c : Nat} {L : List (List Int)} (h : Gi w (.slice A n c) L) : L.length = n ∧ n ≤ c ∧ c ≤ maxLen ∧ (0 < n → ∃ b off, A = some ⟨b, off, none⟩ ∧ ∀ k, k < n → ∃ u, w.cell? ⟨b, off + k, none⟩ = some u ∧ Is w u (L.getD k [])) := by
  obtain ⟨A', c', he, hm, hz, hc⟩ := h
  injection he with h1 h2 h3
  subst h1 h3
  refine ⟨h2.symm, by omega, hm.2, fun hn => ?_⟩
  obtain ⟨b, off, hb, hcell⟩ := hc (by omega)
  refine ⟨b, off, hb, fun k hk => ?_⟩
  obtain ⟨u, hu, hr⟩ := hcell k (by omega)
  exact ⟨u, hu, by rw [getD_in (show k < L.length by omega)]; exact hr⟩
def fewB (L : List (List Int)) : Bool := decide (L.length ≤ 200) && L.all fun l => decide (l.length ≤ 70)
theorem few_yes {L : List (List Int)} (h : L.length ≤ 200) (hl : ∀ k, k < L.length → (L.getD k []).length ≤ 70) : fewB L = true := by
  unfold fewB
  rw [Bool.and_eq_true, List.all_eq_true]
  refine ⟨by simpa using h, fun l hm => ?_⟩
  obtain ⟨k, hk, rfl⟩ := List.getElem_of_mem hm
  have := hl k hk
  rw [getD_in hk] at this
  simpa using this
theorem few_no {L : List (List Int)} {k : Nat} (hk : k < L.length) (hl : 70 < (L.getD k []).length) : fewB L = false := by
  unfold fewB
  rw [Bool.and_eq_false_iff]
  refine .inr ?_
  rw [List.all_eq_false]
  rw [getD_in hk] at hl
  exact ⟨_, List.getElem_mem hk, by simp; omega⟩
set_option maxHeartbeats 2000000 in
set_option maxRecDepth 100000 in
theorem few_any (d : Int) (L : List (List Int)) (v : Value) (w : World) (h : Gi w v L) : Calls Tryd.prog 15 #[.agg #[.int .i64 d, v]] w (bel (.bool (fewB L)) w) := by
  obtain ⟨A1, c1, rfl⟩ := slform h
  obtain ⟨N, hN⟩ : ∃ N, L.length = N := ⟨_, rfl⟩
  rw [hN] at h ⊢
  have l1 := h.cells.2.1
  have l2 := h.cells.2.2.1
  unfold maxLen at l2
  obtain ⟨B1, hB1⟩ : ∃ B, w.heap.size = B := ⟨_, rfl⟩
  obtain ⟨W, hW⟩ : ∃ W, w.alloc (.cells #[.int .i64 d, .slice A1 N c1] 25) = W := ⟨_, rfl⟩
  have hbw : Below w.heap.size w W := by rw [← hW]; exact (Below.refl _ _).alloc (Nat.le_refl _) _
  have r1 : Row W B1 25 #[.int .i64 d, .slice A1 N c1] := by
    rw [← hW, ← hB1]; exact row_new' w _ _
  have e1 := r1.cell 1
  have HG := Lib.hid (h.to hbw)
  have BW := Lib.hid hbw
  have HE := Lib.hid hB1
  have HW := Lib.hid hW
  have BIG := Lib.hid (show 200 < N → fewB L = false from fun hb => by unfold fewB; rw [hN, decide_eq_false (by omega)]; rfl)
  have YES := Lib.hid (show N ≤ 200 → (∀ k, k < N → (L.getD k []).length ≤ 70) → fewB L = true from fun h1 h2 => few_yes (by rw [hN]; exact h1) fun k hk => h2 k (by omega))
  have NO := Lib.hid (show ∀ k, k < N → 70 < (L.getD k []).length → fewB L = false from fun k hk h2 => few_no (by rw [hN]; exact hk) h2)
  obtain ⟨f, hf⟩ : ∃ f, fewB L = f := ⟨_, rfl⟩
  rw [hf] at BIG YES NO ⊢
  clear h hN r1 hbw hB1 hW hf
  by_cases big : 200 < N
  · have bI : (200 : Int) < (N : Int) := by omega
    have E := Lib.hid (BIG.out big)
    go_enter Tryd.func15, Tryd.ntmps15
    go_wp2_with fail
    rw [HE.out, HW.out]
    go_wp2_with fail
    go_ret
    exact ⟨by rw [E.out]; rfl, BW.out⟩
  · have bI : ¬ (200 : Int) < (N : Int) := by omega
    go_enter Tryd.func15, Tryd.ntmps15
    go_wp2_with fail
    rw [HE.out, HW.out]
    go_wp2_with fail
    go_loopw [3] (fun i wr => wr = W ∧ ∃ k : Nat, k ≤ N ∧ i = .int .i64 (k : Int) ∧ Hid (∀ j, j < k → (L.getD j []).length ≤ 70)) (fun i _ => N - (intOf i).toNat)
    case atStart => exact ⟨rfl, 0, Nat.zero_le _, rfl, Lib.hid fun j hj => absurd hj (Nat.not_lt_zero j)⟩
    case round =>
      obtain ⟨rfl, k, hk, rfl, T⟩ := hrel
      by_cases hlt : k < N
      · have kI : (k : Int) < (N : Int) := by omega
        obtain ⟨b1, o1, rfl, f1⟩ := HG.out.cells.2.2.2 (by omega)
        obtain ⟨u, x1, n1⟩ := f1 k hlt
        have NO1 := Lib.hid (NO.out k hlt)
        have TT := Lib.hid (show (L.getD k []).length ≤ 70 → ∀ j, j < k + 1 → (L.getD j []).length ≤ 70 from fun hx j hj => by
          rcases Nat.lt_or_eq_of_le (Nat.le_of_lt_succ hj) with h | h
          · exact T.out j h
          · rw [h]; exact hx)
        obtain ⟨l, hl⟩ : ∃ l, L.getD k [] = l := ⟨_, rfl⟩
        rw [hl] at n1 NO1 TT
        obtain ⟨A3, c3, rfl⟩ := slform n1
        obtain ⟨m, hm⟩ : ∃ m, l.length = m := ⟨_, rfl⟩
        rw [hm] at x1 NO1 TT
        have m1 : m ≤ maxLen := by rw [← hm]; exact Sl.len n1
        unfold maxLen at m1
        clear f1 hl hm n1 T
        by_cases b70 : 70 < m
        · have b7I : (70 : Int) < (m : Int) := by omega
          have E := Lib.hid (NO1.out b70)
          clear NO1 TT
          go_wp2_with fail
          go_ret
          exact ⟨by rw [E.out]; rfl, BW.out⟩
        · have b7I : ¬ (70 : Int) < (m : Int) := by omega
          have E := Lib.hid (TT.out (by omega))
          clear NO1 TT
          go_wp2_with fail
          go_roundw
          case rel => exact ⟨trivial, k + 1, by omega, by go_num, E⟩
          case measure => simp [intOf]; omega
      · have kI : ¬ (k : Int) < (N : Int) := by omega
        have E := Lib.hid (YES.out (by omega) fun j hj => T.out j (by omega))
        clear T
        go_wp2_with fail
        go_ret
        exact ⟨by rw [E.out]; rfl, BW.out⟩
end Go.Proofs.YtnnacofjogfkeaaDoor
namespace Go.Proofs.YtnnacofjogfkeaaDoor
open Go Go.RowKit Pl Co
set_option linter.unusedVariables false
set_option linter.unusedSimpArgs false

theorem cell7 {w w' : World} {p : Addr} {u : Value} (h : w.cell? p = some u) (hb : Below w.heap.size w w') : w'.cell? p = some u := (hb.cell (World.block_lt_of_cell? w _ h)).trans h
theorem Is.row {w : World} {A : Option Addr} {n c : Nat} {l : List Int} (h : Is w (.slice A n c) l) : l.length = n ∧ n ≤ c ∧ c ≤ maxLen ∧ (0 < n → ∃ b off, A = some ⟨b, off, none⟩ ∧ ∀ k, k < n → w.cell? ⟨b, off + k, none⟩ = some (.int .i64 (l.getD k 0))) := by
  obtain ⟨A', c', he, hm, hz, hc⟩ := h
  injection he with h1 h2 h3
  subst h1 h3
  refine ⟨h2.symm, by omega, hm.2, fun hn => ?_⟩
  obtain ⟨b, off, hb, hcell⟩ := hc (by omega)
  refine ⟨b, off, hb, fun k hk => ?_⟩
  obtain ⟨u, hu, rfl⟩ := hcell k (by omega)
  rw [hu, getD_in (show k < l.length by omega)]
set_option maxHeartbeats 1000000 in
set_option maxRecDepth 100000 in
theorem dhas_any (d n : Int) (A : Option Addr) (N c : Nat) (w : World) : Calls Tryd.prog 33 #[.agg #[.int .i64 d, .slice A N c], .int .i64 n] w (bel (.bool (decide (0 ≤ n) && decide (n < d))) w) := by
  obtain ⟨W, hW⟩ : ∃ W, w.alloc (.cells #[.int .i64 d, .slice A N c] 25) = W := ⟨_, rfl⟩
  obtain ⟨B, hB⟩ : ∃ B, w.heap.size = B := ⟨_, rfl⟩
  have hbw : Below w.heap.size w W := by rw [← hW]; exact (Below.refl _ _).alloc (Nat.le_refl _) _
  have r1 : Row W B 25 #[.int .i64 d, .slice A N c] := by rw [← hW, ← hB]; exact row_new' w _ _
  have e0 := r1.cell 0
  have BW := Lib.hid hbw
  have HE := Lib.hid hB
  have HW := Lib.hid hW
  clear r1 hbw hB hW
  by_cases h0 : 0 ≤ n
  · by_cases h1 : n < d
    · go_enter Tryd.func33, Tryd.ntmps33
      go_wp2_with fail
      rw [HE.out, HW.out]
      go_wp2_with fail
      go_ret
      exact ⟨by simp [h0, h1], BW.out⟩
    · go_enter Tryd.func33, Tryd.ntmps33
      go_wp2_with fail
      rw [HE.out, HW.out]
      go_wp2_with fail
      go_ret
      exact ⟨by simp [h0, h1], BW.out⟩
  · go_enter Tryd.func33, Tryd.ntmps33
    go_wp2_with fail
    rw [HE.out, HW.out]
    go_wp2_with fail
    go_ret
    exact ⟨by rw [decide_eq_false (show ¬ 0 ≤ n by omega)]; rfl, BW.out⟩
def vrPost (d : Int) (l : List Int) (w : World) (e : Ending) (w' : World) : Prop := Below w.heap.size w w' ∧ ∃ b, e = .returned (.bool b) ∧ (b = true → VR d l.length l) ∧ (b = false → ¬ VR d l.length l)
theorem vr_no {d : Int} {l : List Int} {w w' : World} (h : ¬ VR d l.length l) (hb : Below w.heap.size w w') : vrPost d l w (.returned (.bool false)) w' := ⟨hb, false, rfl, fun h => by (cases h), fun _ => h⟩
theorem vr_yes {d : Int} {l : List Int} {w w' : World} (h : VR d l.length l) (hb : Below w.heap.size w w') : vrPost d l w (.returned (.bool true)) w' := ⟨hb, true, rfl, fun _ => h, fun h => by (cases h)⟩
set_option maxHeartbeats 4000000 in
set_option maxRecDepth 100000 in
theorem incr_any (d : Int) (A : Option Addr) (N c : Nat) (l : List Int) (v : Value) (w : World) (h : Is w v l) : Calls Tryd.prog 38 #[.agg #[.int .i64 d, .slice A N c], v] w (vrPost d l w) := by
  obtain ⟨A3, c3, rfl⟩ := slform h
  obtain ⟨k, hk⟩ : ∃ k, l.length = k := ⟨_, rfl⟩
  rw [hk] at h ⊢
  have q1 := h.row.2.1
  have q2 := h.row.2.2.1
  have HI := Lib.hid h.row.2.2.2
  unfold maxLen at q2
  obtain ⟨W, hW⟩ : ∃ W, w.alloc (.cells #[.int .i64 d, .slice A N c] 25) = W := ⟨_, rfl⟩
  obtain ⟨B, hB⟩ : ∃ B, w.heap.size = B := ⟨_, rfl⟩
  have hbw : Below w.heap.size w W := by rw [← hW]; exact (Below.refl _ _).alloc (Nat.le_refl _) _
  have r1 : Row W B 25 #[.int .i64 d, .slice A N c] := by rw [← hW, ← hB]; exact row_new' w _ _
  have RW := Lib.hid r1
  have BW := Lib.hid hbw
  have HE := Lib.hid hB
  have HW := Lib.hid hW
  have HK := Lib.hid hk
  clear r1 hbw hB hW h hk
  go_enter Tryd.func38, Tryd.ntmps38
  go_wp2_with fail
  rw [HE.out, HW.out]
  go_wp2_with fail
  go_loopw [9] (fun i wr => ∃ s : Nat, s ≤ k ∧ i = .int .i64 (s : Int) ∧ Hid (Below W.heap.size W wr ∧ ∀ j, j < s → (0 ≤ l.getD j 0 ∧ l.getD j 0 < d) ∧ (0 < j → l.getD (j - 1) 0 < l.getD j 0))) (fun i _ => k - (intOf i).toNat)
  case atStart => exact ⟨0, Nat.zero_le _, rfl, Lib.hid ⟨Below.refl _ _, fun j hj => absurd hj (Nat.not_lt_zero j)⟩⟩
  case round =>
    obtain ⟨s, hs, rfl, I⟩ := hrel
    have RY := Lib.hid (RW.out.go I.out.1)
    have BY := Lib.hid (BW.out.trans (I.out.1.mono BW.out.size))
    by_cases slt : s < k
    · have sI : (s : Int) < (k : Int) := by omega
      obtain ⟨b3, o3, rfl, hc⟩ := HI.out (by omega)
      have CL := Lib.hid hc
      clear hc
      have p1 := cell7 (CL.out s slt) BY.out
      obtain ⟨x, hx⟩ : ∃ x, l.getD s 0 = x := ⟨_, rfl⟩
      have BAD := Lib.hid (show ¬ ((0 ≤ x ∧ x < d) ∧ (0 < s → l.getD (s - 1) 0 < x)) → ¬ VR d l.length l from fun hn hv => hn ⟨by rw [← hx]; exact hv.pos s (by rw [HK.out]; exact slt), fun hp => by
        have := hv.up (s - 1) (by rw [HK.out]; omega)
        rw [show s - 1 + 1 = s by omega, hx] at this
        exact this⟩)
      have GOOD := Lib.hid (show (0 ≤ x ∧ x < d) ∧ (0 < s → l.getD (s - 1) 0 < x) → ∀ j, j < s + 1 → (0 ≤ l.getD j 0 ∧ l.getD j 0 < d) ∧ (0 < j → l.getD (j - 1) 0 < l.getD j 0) from fun hn j hj => by
        rcases Nat.lt_or_eq_of_le (Nat.le_of_lt_succ hj) with h | h
        · exact I.out.2 j h
        · rw [h, hx]; exact hn)
      rw [hx] at p1
      have e0 : wr.cell? ⟨B, 0, none⟩ = some (.int .i64 d) := RY.out.cell 0
      have e1 : wr.cell? ⟨B, 1, none⟩ = some (.slice A N c) := RY.out.cell 1
      clear hx
      go_wp2_with fail
      refine (dhas_any d x A N c wr).mono ?_
      rintro e x1 ⟨rfl, hb⟩
      have I1 := Lib.hid (I.out.1.trans (hb.mono I.out.1.size))
      have BX := Lib.hid (BY.out.trans (hb.mono BY.out.size))
      clear e0 e1 p1 I RY BY hb
      by_cases hx : 0 ≤ x ∧ x < d
      case neg =>
        have xB : (decide (0 ≤ x) && decide (x < d)) = false := by
          rw [Bool.and_eq_false_iff, decide_eq_false_iff_not, decide_eq_false_iff_not]; omega
        have NO := Lib.hid (BAD.out fun h => hx h.1)
        rw [xB]
        clear xB hx BAD GOOD
        go_wp2_with fail
        go_ret
        exact vr_no NO.out BX.out
      have xB : (decide (0 ≤ x) && decide (x < d)) = true := by
        rw [Bool.and_eq_true, decide_eq_true_eq, decide_eq_true_eq]; exact hx
      rw [xB]
      have XX := Lib.hid hx
      clear xB hx
      by_cases s0 : s = 0
      · have NX := Lib.hid (GOOD.out ⟨XX.out, fun h => absurd h (by omega)⟩)
        subst s0
        clear BAD GOOD
        go_wp2_with fail
        go_roundw
        case rel => exact ⟨1, by omega, by go_num, Lib.hid ⟨I1.out, NX.out⟩⟩
        case measure => simp [intOf]; omega
      obtain ⟨t, rfl⟩ : ∃ t, s = t + 1 := ⟨s - 1, by omega⟩
      have s0I : (0 : Int) < ((t + 1 : Nat) : Int) := by omega
      have eT : ((t + 1 : Nat) : Int) - 1 = (t : Int) := by omega
      have tI : (t : Int) < (k : Int) := by omega
      have p2 := cell7 (CL.out t (by omega)) BX.out
      rw [Nat.add_sub_cancel] at BAD GOOD
      obtain ⟨y, hy⟩ : ∃ y, l.getD t 0 = y := ⟨_, rfl⟩
      rw [hy] at p2 BAD GOOD
      clear hy s0
      by_cases xy : x ≤ y
      · have NO := Lib.hid (BAD.out fun h => by have := h.2 (by omega); omega)
        clear BAD GOOD
        go_wp2_with fail
        go_ret
        exact vr_no NO.out BX.out
      · have NX := Lib.hid (GOOD.out ⟨XX.out, fun _ => by omega⟩)
        clear BAD GOOD
        go_wp2_with fail
        go_roundw
        case rel => exact ⟨t + 1 + 1, by omega, by go_num, Lib.hid ⟨I1.out, NX.out⟩⟩
        case measure => simp [intOf]; omega
    · obtain rfl : s = k := by omega
      have sI : ¬ (s : Int) < (s : Int) := by omega
      have VRg := Lib.hid (show VR d l.length l from ⟨rfl, fun i hi => (I.out.2 i (by rw [← HK.out]; exact hi)).1, fun i hi => (I.out.2 (i + 1) (by rw [← HK.out]; exact hi)).2 (Nat.succ_pos i)⟩)
      go_wp2_with fail
      go_ret
      exact vr_yes VRg.out BY.out
end Go.Proofs.YtnnacofjogfkeaaDoor
namespace Go.Proofs.YtnnacofjogfkeaaDoor
open Go Go.RowKit Pl Co
set_option linter.unusedVariables false

def upt (G : List (List Nat)) (j : Nat) : Nat := if j / 60 ≤ j % 60 then tab G j else 0
def midU (G : List (List Nat)) (L : List Nat) (i k j : Nat) : Nat := if j / 60 ≤ j % 60 then mid G L i k j else 0
theorem upt_nil (j : Nat) : upt [] j = 0 := by unfold upt tab prs; split <;> rfl
theorem midU_start (G : List (List Nat)) (L : List Nat) (j : Nat) : midU G L 0 0 j = upt G j := by unfold midU upt; rw [mid_start]
theorem midU_le (G : List (List Nat)) (L : List Nat) (i k j : Nat) : midU G L i k j ≤ G.length + 2 := by
  unfold midU
  split
  · exact mid_le G L i k j
  · omega
theorem has_take_ge : ∀ {L : List Nat} {x i y : Nat}, inc x L → i < L.length → L.getD i 0 ≤ y → has (L.take i) y = false
  | a :: t, x, 0, y, _, _, _ => rfl
  | a :: t, x, i + 1, y, ⟨_, h⟩, hi, hy => by
    have hi' : i < t.length := by simpa using hi
    have hy' : t.getD i 0 ≤ y := hy
    show (a == y || has (t.take i) y) = false
    rw [has_take_ge h hi' hy', Bool.or_false, beq_eq_false_iff_ne]
    have := inc_mem h (show t.getD i 0 ∈ t by rw [getD_in hi']; exact List.getElem_mem hi')
    omega
theorem inc_le : ∀ {L : List Nat} {x i k : Nat}, inc x L → i ≤ k → k < L.length → L.getD i 0 ≤ L.getD k 0
  | a :: t, x, 0, 0, _, _, _ => Nat.le_refl _
  | a :: t, x, 0, k + 1, ⟨_, h⟩, _, hk => by
    have hk' : k < t.length := by simpa using hk
    show a ≤ t.getD k 0
    have := inc_mem h (show t.getD k 0 ∈ t by rw [getD_in hk']; exact List.getElem_mem hk')
    omega
  | a :: t, x, i + 1, 0, _, h, _ => by omega
  | a :: t, x, i + 1, k + 1, ⟨_, h⟩, hik, hk => inc_le (L := t) h (by omega) (by simpa using hk)
theorem midU_in {G : List (List Nat)} {L : List Nat} {x i : Nat} (h : inc x L) (hi : i < L.length) (j : Nat) : midU G L i i j = midU G L i 0 j := by
  unfold midU
  by_cases hj : j / 60 ≤ j % 60
  · rw [if_pos hj, if_pos hj]
    unfold mid
    congr 2
    cases e : (L.getD i 0 == j / 60)
    · rw [Bool.false_and, Bool.false_and]
    · rw [beq_iff_eq] at e
      rw [has_take_ge h hi (y := j % 60) (by omega)]
      rfl
  · rw [if_neg hj, if_neg hj]
theorem midU_step {G : List (List Nat)} {L : List Nat} {x i k : Nat} (h : inc x L) (hik : i ≤ k) (hk : k < L.length) (h60 : L.getD k 0 < 60) (j : Nat) : up (midU G L i k) (L.getD i 0 * 60 + L.getD k 0) (midU G L i k (L.getD i 0 * 60 + L.getD k 0) + 1) j = midU G L i (k + 1) j := by
  have hd : (L.getD i 0 * 60 + L.getD k 0) / 60 ≤ (L.getD i 0 * 60 + L.getD k 0) % 60 := by
    have := inc_le h hik hk
    omega
  have hs := mid_step (G := G) h (show i < L.length by omega) hk h60 j
  unfold midU up at *
  rw [if_pos hd]
  by_cases e : j = L.getD i 0 * 60 + L.getD k 0
  · rw [if_pos e] at hs ⊢
    rw [if_pos (by rw [e]; exact hd)]; exact hs
  · rw [if_neg e] at hs ⊢
    dsimp only
    rw [hs]
theorem midU_next {G : List (List Nat)} {L : List Nat} {x i : Nat} (h : inc x L) (hi : i < L.length) (j : Nat) : midU G L i L.length j = midU G L (i + 1) 0 j := by
  unfold midU
  rw [mid_next h hi]
theorem midU_end {G : List (List Nat)} {L : List Nat} (j : Nat) : midU G L L.length 0 j = upt (G ++ [L]) j := by unfold midU upt; rw [mid_end]
/-- What the table's upper half tells. -/
theorem upt_at (G : List (List Nat)) {a b : Nat} (hab : a ≤ b) (hb : b < 60) : upt G (a * 60 + b) = prs G a b := by
  unfold upt tab
  rw [show (a * 60 + b) / 60 = a by omega, show (a * 60 + b) % 60 = b by omega, if_pos hab]
theorem toN_ge {l : List Int} {i : Nat} (h : 0 ≤ l.getD i 0) : l.getD i 0 = (((toN l).getD i 0 : Nat) : Int) := by rw [toN_at]; omega
end Go.Proofs.YtnnacofjogfkeaaDoor
namespace Go.Proofs.YtnnacofjogfkeaaDoor
open Go Go.RowKit Pl Co
set_option linter.unusedVariables false
set_option linter.unusedSimpArgs false

def addPost (P : Nat) (G : List (List Nat)) (w : World) (e : Ending) (w' : World) : Prop := (∃ u, e = .returned u) ∧ Below P w w' ∧ Nr w' P 3600 (upt G)
set_option maxHeartbeats 4000000 in
set_option maxRecDepth 100000 in
theorem dadd_any (d : Int) (P : Nat) (G : List (List Nat)) (l : List Int) (v : Value) (w : World) (hI : ∀ wq, Below P w wq → Is wq v l) (hv : VR d l.length l) (hd : d ≤ 60) (hG : G.length ≤ 4096) (hN : Nr w P 3600 (upt G)) :
    Calls Tryd.prog 27 #[.pointer (some ⟨P, 0, none⟩), v] w (addPost P (G ++ [toN l]) w) := by
  have h := hI w (Below.refl _ _)
  obtain ⟨A3, c3, rfl⟩ := slform h
  obtain ⟨n, hn⟩ : ∃ n, l.length = n := ⟨_, rfl⟩
  have LN : Hid ((toN l).length = n) := Lib.hid (by rw [toN_len, hn])
  have AT : Hid (∀ j, j < n → ∃ x : Nat, (toN l).getD j 0 = x ∧ l.getD j 0 = (x : Int) ∧ x < 60) := Lib.hid fun j hj => by
    have := hv.pos j (by omega)
    exact ⟨_, rfl, toN_ge this.1, by rw [toN_at]; omega⟩
  have INC := Lib.hid hv.inc
  rw [hn] at h hI ⊢
  have q1 := h.row.2.1
  have q2 := h.row.2.2.1
  unfold maxLen at q2
  have HC := Lib.hid fun wq (hq : Below P w wq) => (hI wq hq).row.2.2.2
  have NR0 := Lib.hid hN
  have GL := Lib.hid hG
  obtain ⟨L, hL⟩ : ∃ L, toN l = L := ⟨_, rfl⟩
  rw [hL] at LN AT INC ⊢
  clear h hI hn hN hv hL hG
  go_enter Tryd.func27, Tryd.ntmps27
  go_wp2_with fail
  go_loopw [4, 5, 7, 10] (fun _ _ _ i wr => ∃ s : Nat, s ≤ n ∧ i = .int .i64 (s : Int) ∧ Hid (Below P w wr ∧ Nr wr P 3600 (midU G L s 0))) (fun _ _ _ i _ => n - (intOf i).toNat)
  case atStart => exact ⟨0, Nat.zero_le _, rfl, Lib.hid ⟨Below.refl _ _, NR0.out.congr fun j _ => (midU_start G L j).symm⟩⟩
  case round =>
    obtain ⟨s, hs, rfl, I⟩ := hrel
    by_cases slt : s < n
    · have sI : (s : Int) < (n : Int) := by omega
      have sJ : (s : Int) ≤ (n : Int) := by omega
      obtain ⟨b, o, rfl, hc⟩ := HC.out wr I.out.1 (by omega)
      obtain ⟨x, x1, x2, x3⟩ := AT.out s slt
      have c1 := hc s slt
      rw [x2] at c1
      have X1 := Lib.hid x1
      have I1 := Lib.hid I.out.1
      have I2 := Lib.hid (I.out.2.congr fun j _ => (midU_in INC.out (by rw [LN.out]; exact slt) j).symm)
      clear hc x1 x2 I
      go_wp2_with fail
      obtain ⟨r, hr⟩ : ∃ r, n - s = r := ⟨_, rfl⟩
      rw [hr]
      have rs : s + r = n := by omega
      clear hr c1
      go_loopw [7, 19] (fun _ i wq => ∃ t : Nat, t ≤ r ∧ i = .int .i64 (t : Int) ∧ Hid (Below P w wq ∧ Nr wq P 3600 (midU G L s (s + t)))) (fun _ i _ => r - (intOf i).toNat)
      case atStart => exact ⟨0, Nat.zero_le _, rfl, Lib.hid ⟨I1.out, I2.out⟩⟩
      case round =>
        obtain ⟨t, ht, rfl, J⟩ := hrel
        by_cases tlt : t < r
        · have tI : (t : Int) < (r : Int) := by omega
          obtain ⟨b', o', eb, hc⟩ := HC.out wr J.out.1 (by omega)
          injection eb with eb
          injection eb with eb1 eb2 eb3
          subst eb1 eb2
          obtain ⟨y, y1, y2, y3⟩ := AT.out (s + t) (by omega)
          have c2 := hc (s + t) (by omega)
          rw [y2, ← Nat.add_assoc] at c2
          have Y1 := Lib.hid y1
          have J1 := Lib.hid J.out.1
          have J2 := Lib.hid J.out.2
          have d1 := J2.out.cell (show x * 60 + y < 3600 by omega)
          have ff := J2.out.frozen (x * 60 + y)
          have LE := midU_le G L s (s + t) (x * 60 + y)
          have GL' := GL.out
          have ST := Lib.hid fun j => midU_step (G := G) INC.out (show s ≤ s + t by omega) (by rw [LN.out]; omega) (by rw [y1]; exact y3) j
          rw [X1.out, Y1.out] at ST
          obtain ⟨z, hz⟩ : ∃ z, midU G L s (s + t) (x * 60 + y) = z := ⟨_, rfl⟩
          rw [hz] at d1 LE ST
          have z5 : z ≤ 5000 := by omega
          have xI : (x : Int) < 60 := by omega
          have yI : (y : Int) < 60 := by omega
          have ro : (o + s + t : Nat) = o + s + t := rfl
          clear hc y1 y2 hz LE GL' J eb3 ro
          go_wp2_with fail
          refine wp_region_still_tail 10 (by kernel_rfl) (by kernel_rfl) ?_
          simp only [List.take_succ_cons, List.take_zero, List.drop_succ_cons, List.drop_zero]
          repeat (first | still_step)
          refine wpStill_nil ?_
          change wpList _ _ _ _ _ wr.drew
          go_wp2
          go_roundw
          case rel =>
            refine ⟨t + 1, by omega, by go_num, Lib.hid ⟨(J1.out.drew).setCell (p := ⟨P, x * 60 + y, none⟩) (Nat.le_refl _) _, ((J2.out.drew).set (x * 60 + y) (z + 1)).congr fun j _ => ST.out j⟩⟩
          case measure => simp [intOf]; omega
        · obtain rfl : t = r := by omega
          have tI : ¬ (t : Int) < (t : Int) := by omega
          have J1 := Lib.hid J.out.1
          have J2 := Lib.hid (show Nr wr P 3600 (midU G L (s + 1) 0) from J.out.2.congr fun j _ => by rw [rs, ← LN.out]; exact midU_next INC.out (by rw [LN.out]; exact slt) j)
          clear J
          go_wp2_with fail
          go_roundw
          case rel => exact ⟨s + 1, by omega, by go_num, Lib.hid ⟨J1.out, J2.out⟩⟩
          case measure => simp [intOf]; omega
    · obtain rfl : s = n := by omega
      have sI : ¬ (s : Int) < (s : Int) := by omega
      have FIN := Lib.hid (show Nr wr P 3600 (upt (G ++ [L])) from I.out.2.congr fun j _ => by rw [← LN.out]; exact midU_end j)
      have I1 := Lib.hid I.out.1
      clear I
      go_wp2_with fail

      go_end0
      exact ⟨⟨_, rfl⟩, I1.out, FIN.out⟩
end Go.Proofs.YtnnacofjogfkeaaDoor
namespace Go.Proofs.YtnnacofjogfkeaaDoor
open Go Go.RowKit Pl Co
set_option linter.unusedVariables false
set_option linter.unusedSimpArgs false

def Uni (f : Nat → Nat) (D r k : Nat) : Prop := ∀ a, a < D → f (a * 60 + a) = r ∧ ∀ b, a < b → b < D → f (a * 60 + b) = k
def uniPost (f : Nat → Nat) (D r k : Nat) (w : World) (e : Ending) (w' : World) : Prop := w = w' ∧ ∃ b, e = .returned (.bool b) ∧ (b = true → Uni f D r k) ∧ (b = false → ¬ Uni f D r k)
theorem uni_no {f : Nat → Nat} {D r k : Nat} {w : World} (h : ¬ Uni f D r k) : uniPost f D r k w (.returned (.bool false)) w := ⟨rfl, false, rfl, fun h => by (cases h), fun _ => h⟩
theorem uni_yes {f : Nat → Nat} {D r k : Nat} {w : World} (h : Uni f D r k) : uniPost f D r k w (.returned (.bool true)) w := ⟨rfl, true, rfl, fun _ => h, fun h => by (cases h)⟩
/-- The part of a row beyond the diagonal. -/
theorem run_part (P a D : Nat) (hd : D ≤ 60) (ha : a < D) : ∃ o c : Nat, (∀ w, (Instr.sliceAt 54 (.pointer (some ⟨P, a * 60, none⟩)) (some (.int .i64 ((a : Int) + 1))) (some (.int .i64 (D : Int))) none).run Tryd.prog w = .ok (.slice (some ⟨P, o, none⟩) (D - (a + 1)) c) w) ∧ (D - (a + 1) ≤ c ∧ c ≤ 60) ∧ (a + 1 < D → o = a * 60 + (a + 1)) := by
  have hl : Tryd.prog.arrayLen 54 = 60 := by kernel_rfl
  obtain ⟨i, hi, hzz⟩ := Option.map_eq_some_iff.1 info_int
  simp only [Prod.mk.injEq] at hzz
  have hel : Tryd.prog.elem 54 = 3 := by kernel_rfl
  have key : ∀ w, (Instr.sliceAt 54 (.pointer (some ⟨P, a * 60, none⟩)) (some (.int .i64 ((a : Int) + 1))) (some (.int .i64 (D : Int))) none).run Tryd.prog w = .ok (slicedAt ⟨P, a * 60, none⟩ (a + 1) D 60 1) w := fun w => by
    rw [run_sliceAt_array_lh w 54 ⟨P, a * 60, none⟩ (by rw [hl, hel]; exact Tryd.underlying54) .i64 .i64 ((a : Int) + 1) (D : Int) (by omega) (by omega) (by rw [hl]; omega), hel, hl]
    simp [sizeOf, typeInfo, hi, hzz.2.1, Result.andThen]
  by_cases h : 60 = a + 1
  · refine ⟨a * 60, 60 - (a + 1), fun w => ?_, by omega, fun h2 => by omega⟩
    rw [key w]
    unfold slicedAt
    rw [if_pos h]
  · refine ⟨a * 60 + (a + 1), 60 - (a + 1), fun w => ?_, by omega, fun h2 => rfl⟩
    rw [key w]
    unfold slicedAt
    rw [if_neg h, Nat.mul_one]
    rfl
set_option maxHeartbeats 4000000 in
set_option maxRecDepth 100000 in
theorem uni_any (P D r k : Nat) (f : Nat → Nat) (w : World) (hN : Nr w P 3600 f) (hD : D ≤ 60) : Calls Tryd.prog 28 #[.pointer (some ⟨P, 0, none⟩), .int .i64 (D : Int), .int .i64 (r : Int), .int .i64 (k : Int)] w (uniPost f D r k w) := by
  have NR := Lib.hid hN
  clear hN
  go_enter Tryd.func28, Tryd.ntmps28
  go_wp2
  go_loop [9, 11, 13] (fun _ _ i => ∃ a : Nat, a ≤ D ∧ i = .int .i64 (a : Int) ∧ Hid (∀ j, j < a → f (j * 60 + j) = r ∧ ∀ b, j < b → b < D → f (j * 60 + b) = k)) (fun _ _ i => D - (intOf i).toNat)
  case atStart => exact ⟨0, Nat.zero_le _, rfl, Lib.hid fun j hj => absurd hj (Nat.not_lt_zero j)⟩
  case round =>
    obtain ⟨a, ha, rfl, I⟩ := hrel
    by_cases hlt : a < D
    · have aI : (a : Int) < (D : Int) := by omega
      have aJ : (a : Int) + 1 ≤ (D : Int) := by omega
      have a6 : (a : Int) < 60 := by omega
      have c1 := NR.out.cell (show a * 60 + a < 3600 by omega)
      have NO := Lib.hid (show f (a * 60 + a) ≠ r → ¬ Uni f D r k from fun hn hu => hn (hu a hlt).1)
      have NP := Lib.hid (show ∀ b, a < b → b < D → f (a * 60 + b) ≠ k → ¬ Uni f D r k from fun b h1 h2 hn hu => hn ((hu a hlt).2 b h1 h2))
      have SU := Lib.hid (show f (a * 60 + a) = r → (∀ b, a < b → b < D → f (a * 60 + b) = k) → ∀ j, j < a + 1 → f (j * 60 + j) = r ∧ ∀ b, j < b → b < D → f (j * 60 + b) = k from fun h1 h2 j hj => by
        rcases Nat.lt_or_eq_of_le (Nat.le_of_lt_succ hj) with h | h
        · exact I.out j h
        · rw [h]; exact ⟨h1, h2⟩)
      obtain ⟨x, hx⟩ : ∃ x, f (a * 60 + a) = x := ⟨_, rfl⟩
      rw [hx] at c1 NO SU
      clear hx I
      by_cases e : x = r
      · subst e
        have eB : ((x : Int) != (x : Int)) = false := by simp
        obtain ⟨o, c, SA, hcc, ho⟩ := run_part P a D hD hlt
        obtain ⟨m, hm⟩ : ∃ m, D - (a + 1) = m := ⟨_, rfl⟩
        rw [hm] at SA hcc
        have OO := Lib.hid ho
        have SE := Lib.hid (show m = 0 ∨ a + 1 + m = D by omega)
        have m6 : m ≤ 60 := by omega
        have SU1 := Lib.hid (SU.out rfl)
        have ME := Lib.hid hm
        clear hm ho SU NO aJ
        go_wp2
        clear SA c1
        go_loop [11, 34] (fun _ i => ∃ t : Nat, t ≤ m ∧ i = .int .i64 (t : Int) ∧ Hid (∀ j, j < t → f (a * 60 + (a + 1 + j)) = k)) (fun _ i => m - (intOf i).toNat)
        case atStart => exact ⟨0, Nat.zero_le _, rfl, Lib.hid fun j hj => absurd hj (Nat.not_lt_zero j)⟩
        case round =>
          obtain ⟨t, ht, rfl, J⟩ := hrel
          by_cases tlt : t < m
          · have tI : (t : Int) < (m : Int) := by omega
            have ho := OO.out (by have := ME.out; omega)
            have c2 := NR.out.cell (show a * 60 + (a + 1 + t) < 3600 by have := ME.out; omega)
            rw [← Nat.add_assoc, ← ho] at c2
            have NP1 := Lib.hid (NP.out (a + 1 + t) (by omega) (by have := ME.out; omega))
            have SJ := Lib.hid (show f (a * 60 + (a + 1 + t)) = k → ∀ j, j < t + 1 → f (a * 60 + (a + 1 + j)) = k from fun h j hj => by
              rcases Nat.lt_or_eq_of_le (Nat.le_of_lt_succ hj) with h2 | h2
              · exact J.out j h2
              · rw [h2]; exact h)
            have ea : o + t = a * 60 + (a + 1 + t) := by omega
            obtain ⟨y, hy⟩ : ∃ y, f (a * 60 + (a + 1 + t)) = y := ⟨_, rfl⟩
            rw [ea, hy] at c2
            rw [← ea] at c2
            rw [hy] at NP1 SJ
            clear ho ea hy J
            by_cases e : y = k
            · subst e
              have eB : ((y : Int) != (y : Int)) = false := by simp
              have E := Lib.hid (SJ.out rfl)
              clear NP1 SJ
              go_wp2
              go_round
              case rel => exact ⟨t + 1, by omega, by go_num, E⟩
              case measure => simp [intOf]; omega
            · have eB : ((y : Int) != (k : Int)) = true := by simp; omega
              have E := Lib.hid (NP1.out e)
              clear NP1 SJ
              go_wp2
              go_ret
              exact uni_no E.out
          · obtain rfl : t = m := by omega
            have tI : ¬ (t : Int) < (t : Int) := by omega
            have E := Lib.hid (SU1.out fun b h1 h2 => by have := ME.out; have h := J.out (b - (a + 1)) (by omega); rwa [show a + 1 + (b - (a + 1)) = b by omega] at h)
            clear J NP SU1
            go_wp2
            go_round
            case rel => exact ⟨a + 1, by omega, by go_num, E⟩
            case measure => simp [intOf]; omega
      · have eB : ((x : Int) != (r : Int)) = true := by simp; omega
        have E := Lib.hid (NO.out e)
        clear NO NP SU
        go_wp2
        go_ret
        exact uni_no E.out
    · obtain rfl : a = D := by omega
      have aI : ¬ (a : Int) < (a : Int) := by omega
      have E := Lib.hid (show Uni f a r k from I.out)
      clear I
      go_wp2
      go_ret
      exact uni_yes E.out
end Go.Proofs.YtnnacofjogfkeaaDoor
namespace Go.Proofs.YtnnacofjogfkeaaDoor
open Go Go.RowKit Pl Co
set_option linter.unusedVariables false
set_option linter.unusedSimpArgs false

/-- The form that Check asks for. -/
def Fm (d : Int) (m : List (List Int)) : Prop := (2 ≤ d ∧ d ≤ 60) ∧ (1 ≤ m.length ∧ m.length ≤ 4096) ∧ 2 ≤ (m.getD 0 []).length ∧ ∀ g, g < m.length → VR d (m.getD 0 []).length (m.getD g [])
def fmPost (d : Int) (m : List (List Int)) (w : World) (e : Ending) (w' : World) : Prop := Below w.heap.size w w' ∧ ∃ b, e = .returned (.bool b) ∧ (b = true → Fm d m) ∧ (b = false → ¬ Fm d m)
theorem fm_no {d : Int} {m : List (List Int)} {w w' : World} (h : ¬ Fm d m) (hb : Below w.heap.size w w') : fmPost d m w (.returned (.bool false)) w' := ⟨hb, false, rfl, fun h => by (cases h), fun _ => h⟩
theorem fm_yes {d : Int} {m : List (List Int)} {w w' : World} (h : Fm d m) (hb : Below w.heap.size w w') : fmPost d m w (.returned (.bool true)) w' := ⟨hb, true, rfl, fun _ => h, fun h => by (cases h)⟩
set_option maxHeartbeats 4000000 in
set_option maxRecDepth 100000 in
theorem formed_any (d : Int) (m : List (List Int)) (v : Value) (w : World) (h : Gi w v m) : Calls Tryd.prog 26 #[.agg #[.int .i64 d, v]] w (fmPost d m w) := by
  have NO := Lib.hid (show (¬ ((2 ≤ d ∧ d ≤ 60) ∧ (1 ≤ m.length ∧ m.length ≤ 4096))) → ¬ Fm d m from fun hn hf => hn ⟨hf.1, hf.2.1⟩)
  obtain ⟨A1, c1, rfl⟩ := slform h
  obtain ⟨N, hN⟩ : ∃ N, m.length = N := ⟨_, rfl⟩
  rw [hN] at h NO ⊢
  have l1 := h.cells.2.1
  have l2 := h.cells.2.2.1
  unfold maxLen at l2
  obtain ⟨B, hB⟩ : ∃ B, w.heap.size = B := ⟨_, rfl⟩
  obtain ⟨W, hW⟩ : ∃ W, w.alloc (.cells #[.int .i64 d, .slice A1 N c1] 25) = W := ⟨_, rfl⟩
  have hbw : Below w.heap.size w W := by rw [← hW]; exact (Below.refl _ _).alloc (Nat.le_refl _) _
  have r1 : Row W B 25 #[.int .i64 d, .slice A1 N c1] := by
    rw [← hW, ← hB]; exact row_new' w _ _
  have e0 := r1.cell 0
  have e1 := r1.cell 1
  have RW := Lib.hid r1
  have BW := Lib.hid hbw
  have HE := Lib.hid hB
  have HW := Lib.hid hW
  have HM := Lib.hid hN
  have HG := Lib.hid h
  obtain ⟨n0, hn0⟩ : ∃ n, (m.getD 0 []).length = n := ⟨_, rfl⟩
  have N0 := Lib.hid hn0
  clear h hN r1 hbw hB hW hn0
  by_cases h1 : d < 2
  · have E := Lib.hid (NO.out (by omega))
    clear NO
    go_enter Tryd.func26, Tryd.ntmps26
    go_wp2_with fail
    rw [HE.out, HW.out]
    go_wp2_with fail
    go_ret
    exact fm_no E.out BW.out
  by_cases h2 : 60 < d
  · have E := Lib.hid (NO.out (by omega))
    clear NO
    go_enter Tryd.func26, Tryd.ntmps26
    go_wp2_with fail
    rw [HE.out, HW.out]
    go_wp2_with fail
    go_ret
    exact fm_no E.out BW.out
  by_cases h3 : N < 1
  · have h3I : (N : Int) < 1 := by omega
    have E := Lib.hid (NO.out (by omega))
    clear NO
    go_enter Tryd.func26, Tryd.ntmps26
    go_wp2_with fail
    rw [HE.out, HW.out]
    go_wp2_with fail
    go_ret
    exact fm_no E.out BW.out
  have h3I : ¬ (N : Int) < 1 := by omega
  by_cases h4 : 4096 < N
  · have h4I : (4096 : Int) < (N : Int) := by omega
    have E := Lib.hid (NO.out (by omega))
    clear NO
    go_enter Tryd.func26, Tryd.ntmps26
    go_wp2_with fail
    rw [HE.out, HW.out]
    go_wp2_with fail
    go_ret
    exact fm_no E.out BW.out
  have h4I : ¬ (4096 : Int) < (N : Int) := by omega
  have h0N : 0 < N := by omega
  have h0I : (0 : Int) < (N : Int) := by omega
  obtain ⟨b1, o1, rfl, hf⟩ := HG.out.cells.2.2.2 h0N
  have F1 := Lib.hid hf
  obtain ⟨u0, x0, m0⟩ := hf 0 h0N
  obtain ⟨A4, c4, rfl⟩ := slform m0
  rw [N0.out] at x0 m0
  have q1 := m0.row.2.1
  have q2 := m0.row.2.2.1
  unfold maxLen at q2
  have y0 := cell7 x0 BW.out
  rw [Nat.add_zero, ← HW.out] at y0
  clear hf m0 NO x0
  by_cases h5 : n0 < 2
  · have h5I : (n0 : Int) < 2 := by omega
    have E := Lib.hid (show ¬ Fm d m from fun hf => by have h := hf.2.2.1; rw [N0.out] at h; omega)
    go_enter Tryd.func26, Tryd.ntmps26
    go_wp2_with fail
    rw [HW.out]
    go_ret
    exact fm_no E.out BW.out
  have h5I : ¬ (n0 : Int) < 2 := by omega
  go_enter Tryd.func26, Tryd.ntmps26
  go_wp2_with fail
  rw [HE.out, HW.out]
  clear e0 e1 y0
  go_loopw [5, 36] (fun _ i wr => ∃ g : Nat, g ≤ N ∧ i = .int .i64 (g : Int) ∧ Hid (Below W.heap.size W wr ∧ ∀ j, j < g → VR d n0 (m.getD j []))) (fun _ i _ => N - (intOf i).toNat)
  case atStart => exact ⟨0, Nat.zero_le _, rfl, Lib.hid ⟨Below.refl _ _, fun j hj => absurd hj (Nat.not_lt_zero j)⟩⟩
  case round =>
    obtain ⟨g, hg, rfl, I⟩ := hrel
    have RY := Lib.hid (RW.out.go I.out.1)
    have BY := Lib.hid (BW.out.trans (I.out.1.mono BW.out.size))
    by_cases hlt : g < N
    · have gI : (g : Int) < (N : Int) := by omega
      obtain ⟨u, y1, n1⟩ := F1.out g hlt
      have x1 := cell7 y1 BY.out
      obtain ⟨l, hl⟩ : ∃ l, m.getD g [] = l := ⟨_, rfl⟩
      rw [hl] at n1
      obtain ⟨A3, c3, rfl⟩ := slform n1
      obtain ⟨k, hk⟩ : ∃ k, l.length = k := ⟨_, rfl⟩
      have NI : Hid (Is wr (.slice A3 l.length c3) l) := Lib.hid (Sl.keeps Iv.keeps _ _ _ _ n1 (Below.toSame BY.out))
      rw [hk] at x1 n1 y1 NI
      have q3 := n1.row.2.1
      have q4 := n1.row.2.2.1
      unfold maxLen at q4
      have BAD := Lib.hid (show ¬ VR d n0 l → ¬ Fm d m from fun hn hf => hn (by have h := hf.2.2.2 g (by rw [HM.out]; exact hlt); rw [N0.out, hl] at h; exact h))
      have GOOD := Lib.hid (show VR d n0 l → ∀ j, j < g + 1 → VR d n0 (m.getD j []) from fun hn j hj => by
        rcases Nat.lt_or_eq_of_le (Nat.le_of_lt_succ hj) with h | h
        · exact I.out.2 j h
        · rw [h, hl]; exact hn)
      have HK := Lib.hid hk
      clear hl hk y1 n1
      by_cases kn : k = n0
      case neg =>
        have knB : ((k : Int) != (n0 : Int)) = true := by simp; omega
        have E := Lib.hid (BAD.out fun hv => kn (by rw [← HK.out]; exact hv.len))
        clear BAD GOOD kn I
        go_wp2_with fail
        go_ret
        exact fm_no E.out BY.out
      subst kn
      have knB : ((k : Int) != (k : Int)) = false := by simp
      have e0 : wr.cell? ⟨B, 0, none⟩ = some (.int .i64 d) := RY.out.cell 0
      have e1 : wr.cell? ⟨B, 1, none⟩ = some (.slice (some ⟨b1, o1, none⟩) N c1) := RY.out.cell 1
      go_wp2_with fail
      refine (incr_any d (some ⟨b1, o1, none⟩) N c1 l _ wr NI.out).mono ?_
      rintro e z1 ⟨hb, b, rfl, hT, hF⟩
      have I1 := Lib.hid (I.out.1.trans (hb.mono I.out.1.size))
      have BX := Lib.hid (BY.out.trans (hb.mono BY.out.size))
      rw [HK.out] at hT hF
      clear e0 e1 x1 I RY BY hb NI
      cases b with
      | false =>
        have E := Lib.hid (BAD.out (hF rfl))
        clear BAD GOOD hT hF
        go_wp2_with fail
        go_ret
        exact fm_no E.out BX.out
      | true =>
        have E := Lib.hid (GOOD.out (hT rfl))
        clear BAD GOOD hT hF
        go_wp2_with fail
        go_roundw
        case rel => exact ⟨g + 1, by omega, by go_num, Lib.hid ⟨I1.out, E.out⟩⟩
        case measure => simp [intOf]; omega
    · obtain rfl : g = N := by omega
      have gI : ¬ (g : Int) < (g : Int) := by omega
      have E := Lib.hid (show Fm d m from ⟨by omega, by rw [HM.out]; omega, by rw [N0.out]; omega, fun j hj => by rw [N0.out]; exact I.out.2 j (by rw [← HM.out]; exact hj)⟩)
      go_wp2_with fail
      go_ret
      exact fm_yes E.out BY.out
end Go.Proofs.YtnnacofjogfkeaaDoor
namespace Go.Proofs.YtnnacofjogfkeaaDoor
open Go Go.RowKit Pl Co
set_option linter.unusedVariables false
set_option linter.unusedSimpArgs false

def dchkPost (d : Int) (m : List (List Int)) (w : World) (e : Ending) (w' : World) : Prop := Below w.heap.size w w' ∧ ((∃ r k : Nat, e = .returned (.tuple #[.int .i64 (r : Int), .int .i64 (k : Int), .int .i64 0]) ∧ BalZ d m r k) ∨ (e = .returned (.tuple #[.int .i64 0, .int .i64 0, .int .i64 5]) ∧ ∀ r k, ¬ BalZ d m r k))
theorem fm_of {d : Int} {m : List (List Int)} {r k : Nat} (h : BalZ d m r k) : Fm d m := by
  have h1 := h.disks
  have h2 := h.rows
  exact ⟨⟨h1.1, h1.2.1⟩, h1.2.2, h2.1, h2.2⟩
theorem bal_of_uni {D r k : Nat} {m : List (List Int)} (hf : Fm (D : Int) m) (hu : Uni (upt (m.map toN)) D r k) (hk : 1 ≤ k) : BalZ (D : Int) m r k := by
  have h60 := hf.1
  refine BalZ.of hf.1 hf.2.1 hf.2.2.1 hf.2.2.2 (fun a ha => ?_) (fun a b ha hb hne => ?_) hk
  · have := (hu a (by omega)).1
    rwa [upt_at _ (Nat.le_refl a) (by omega)] at this
  · rcases Nat.lt_or_gt_of_ne hne with h | h
    · have := (hu a (by omega)).2 b h (by omega)
      rwa [upt_at _ (Nat.le_of_lt h) (by omega)] at this
    · have := (hu b (by omega)).2 a h (by omega)
      rw [upt_at _ (Nat.le_of_lt h) (by omega)] at this
      rw [prs_comm]; exact this
theorem uni_of_bal {D r k : Nat} {m : List (List Int)} (h : BalZ (D : Int) m r k) : (upt (m.map toN) 0 = r ∧ upt (m.map toN) 1 = k) ∧ 1 ≤ k ∧ Uni (upt (m.map toN)) D r k := by
  have h60 := h.disks
  obtain ⟨e1, e2, e3⟩ := h.eqs
  refine ⟨⟨?_, ?_⟩, e3, fun a ha => ⟨?_, fun b hab hb => ?_⟩⟩
  · have := upt_at (m.map toN) (a := 0) (b := 0) (Nat.le_refl _) (by omega)
    rw [show 0 * 60 + 0 = 0 from rfl] at this
    rw [this]; exact e1 0 (by omega)
  · have := upt_at (m.map toN) (a := 0) (b := 1) (by omega) (by omega)
    rw [show 0 * 60 + 1 = 1 from rfl] at this
    rw [this]; exact e2 0 1 (by omega) (by omega) (by omega)
  · rw [upt_at _ (Nat.le_refl a) (by omega)]; exact e1 a (by omega)
  · rw [upt_at _ (Nat.le_of_lt hab) (by omega)]; exact e2 a b (by omega) (by omega) (by omega)
theorem BalZ.uniq {D : Nat} {m : List (List Int)} {r k r' k' : Nat} (h : BalZ (D : Int) m r k) (h' : BalZ (D : Int) m r' k') : r = r' ∧ k = k' := by
  obtain ⟨⟨a, b⟩, _⟩ := uni_of_bal h
  obtain ⟨⟨a', b'⟩, _⟩ := uni_of_bal h'
  exact ⟨a.symm.trans a', b.symm.trans b'⟩
theorem upt_le (G : List (List Nat)) (j : Nat) : upt G j ≤ G.length := by
  unfold upt
  split
  · exact List.length_filter_le _ _
  · omega
set_option maxRecDepth 100000 in
theorem zvP (w : World) : (zeroValue 56).run Tryd.prog w = .ok (.agg zc60) w := by kernel_rfl
set_option maxHeartbeats 4000000 in
set_option maxRecDepth 100000 in
theorem dcheck_any (d : Int) (m : List (List Int)) (v : Value) (w : World) (h : Gi w v m) : Calls Tryd.prog 16 #[.agg #[.int .i64 d, v]] w (dchkPost d m w) := by
  have FO := Lib.hid fun W (hb : Below w.heap.size w W) => formed_any d m v W (h.to hb)
  obtain ⟨A1, c1, rfl⟩ := slform h
  obtain ⟨N, hN⟩ : ∃ N, m.length = N := ⟨_, rfl⟩
  rw [hN] at h FO ⊢
  have l1 := h.cells.2.1
  have l2 := h.cells.2.2.1
  unfold maxLen at l2
  obtain ⟨B, hB⟩ : ∃ B, w.heap.size = B := ⟨_, rfl⟩
  obtain ⟨W, hW⟩ : ∃ W, w.alloc (.cells #[.int .i64 d, .slice A1 N c1] 25) = W := ⟨_, rfl⟩
  have hbw : Below w.heap.size w W := by rw [← hW]; exact (Below.refl _ _).alloc (Nat.le_refl _) _
  have r1 : Row W B 25 #[.int .i64 d, .slice A1 N c1] := by
    rw [← hW, ← hB]; exact row_new' w _ _
  have e0 : W.cell? ⟨B, 0, none⟩ = some (.int .i64 d) := r1.cell 0
  have e1 : W.cell? ⟨B, 1, none⟩ = some (.slice A1 N c1) := r1.cell 1
  have RW := Lib.hid r1
  have BW := Lib.hid hbw
  have HE := Lib.hid hB
  have HW := Lib.hid hW
  have HM := Lib.hid hN
  have HG := Lib.hid h
  clear h hN r1 hbw hB hW
  go_enter Tryd.func16, Tryd.ntmps16
  go_wp2_with fail
  rw [HE.out, HW.out]
  go_wp2_with fail
  refine (FO.out W BW.out).mono ?_
  rintro e z1 ⟨hb, b, rfl, hT, hF⟩
  have BZ := Lib.hid (BW.out.trans (hb.mono BW.out.size))
  have RZ := Lib.hid (RW.out.go hb)
  clear e0 e1 hb FO
  cases b with
  | false =>
    have E := Lib.hid (show ∀ r k, ¬ BalZ d m r k from fun r k hz => hF rfl (fm_of hz))
    clear hT hF
    go_wp2_with fail
    go_ret3
    exact ⟨BZ.out, .inr ⟨rfl, E.out⟩⟩
  | true =>
    have FM := Lib.hid (hT rfl)
    obtain ⟨D, rfl⟩ : ∃ D : Nat, d = (D : Int) := ⟨d.toNat, by have := FM.out.1; omega⟩
    have D60 : D ≤ 60 := by have := FM.out.1; omega
    have D2 : 2 ≤ D := by have := FM.out.1; omega
    have N1 : 1 ≤ N := by have := FM.out.2.1; rw [HM.out] at this; omega
    have N4 : N ≤ 4096 := by have := FM.out.2.1; rw [HM.out] at this; omega
    have VRS := Lib.hid FM.out.2.2.2
    clear hT hF
    obtain ⟨zs, hz⟩ : ∃ zs, zc60 = zs := ⟨_, rfl⟩
    have ZV : ∀ w : World, (zeroValue 56).run Tryd.prog w = .ok (.agg zs) w := by rw [← hz]; exact zvP
    have ZN : ¬ zs = #[] := by rw [← hz]; exact zc_ne
    obtain ⟨P, hP⟩ : ∃ P, z1.heap.size = P := ⟨_, rfl⟩
    obtain ⟨W2, hW2⟩ : ∃ W, z1.alloc (.cells zs 56) = W := ⟨_, rfl⟩
    have NR0 : Hid (Nr W2 P 3600 (upt ((m.map toN).take 0))) := Lib.hid ⟨zs, 56, by rw [← hW2, ← hP]; exact row_new' z1 _ _, by rw [← hz, zc_size]; exact Nat.le_refl _, fun i hi => by rw [← hz, zc_get hi, List.take_zero, upt_nil]; rfl⟩
    have b1 : Below z1.heap.size z1 W2 := by rw [← hW2]; exact (Below.refl _ _).alloc (Nat.le_refl _) _
    have B2 := Lib.hid (BZ.out.trans (b1.mono BZ.out.size))
    have R2 := Lib.hid (RZ.out.go b1)
    have PL : Hid (B < P) := Lib.hid (by rw [← hP]; exact RZ.out.lt)
    have PW : Hid (w.heap.size ≤ P) := Lib.hid (by rw [← hP]; exact BZ.out.size)
    have HP := Lib.hid hP
    have HW2 := Lib.hid hW2
    have e1 : W2.cell? ⟨B, 1, none⟩ = some (.slice A1 N c1) := R2.out.cell 1
    rw [← hW2] at e1
    clear hP hW2 b1 hz
    go_wp2_with fail
    rw [HP.out, HW2.out]
    clear ZV ZN e1
    go_loopw [7, 14] (fun _ i wr => ∃ g : Nat, g ≤ N ∧ i = .int .i64 (g : Int) ∧ Hid (Below P W2 wr ∧ Nr wr P 3600 (upt ((m.map toN).take g)))) (fun _ i _ => N - (intOf i).toNat)
    case atStart => exact ⟨0, Nat.zero_le _, rfl, Lib.hid ⟨Below.refl _ _, NR0.out⟩⟩
    case round =>
      obtain ⟨g, hg, rfl, I⟩ := hrel
      have BX := Lib.hid (B2.out.trans (I.out.1.mono PW.out))
      by_cases hlt : g < N
      · have gI : (g : Int) < (N : Int) := by omega
        obtain ⟨b1, o1, rfl, hf⟩ := HG.out.cells.2.2.2 (by omega)
        obtain ⟨u, y1, n1⟩ := hf g hlt
        have x1 := cell7 y1 BX.out
        have VG := Lib.hid (VRS.out g (by rw [HM.out]; exact hlt))
        have TK := Lib.hid (show (m.map toN).take (g + 1) = (m.map toN).take g ++ [toN (m.getD g [])] by
          have hg' : g < m.length := by rw [HM.out]; exact hlt
          rw [List.take_succ_eq_append_getElem (by rw [List.length_map]; exact hg'), List.getElem_map, getD_in hg'])
        obtain ⟨l, hl⟩ : ∃ l, m.getD g [] = l := ⟨_, rfl⟩
        rw [hl] at n1 VG TK
        have GL : Hid (((m.map toN).take g).length ≤ 4096) := Lib.hid (by rw [List.length_take]; omega)
        have V2 := Lib.hid (show VR (D : Int) l.length l by have := VG.out; rwa [← this.len] at this)
        have AD := Lib.hid (dadd_any (D : Int) P ((m.map toN).take g) l u wr (fun wq hq => Sl.keeps Iv.keeps _ _ _ _ n1 (Below.toSame (BX.out.trans (hq.mono PW.out)))) V2.out (by omega) GL.out I.out.2)
        obtain ⟨A3, c3, rfl⟩ := slform n1
        clear hf y1 n1 hl
        go_wp2_with fail
        refine AD.out.mono ?_
        rintro e z2 ⟨⟨ur, rfl⟩, hb, hn⟩
        have I1 := Lib.hid (I.out.1.trans hb)
        have I2 := Lib.hid (show Nr z2 P 3600 (upt ((m.map toN).take (g + 1))) by rw [TK.out]; exact hn)
        clear hb hn I AD x1 BX
        go_wp2_with fail
        go_roundw
        case rel => exact ⟨g + 1, by omega, by go_num, Lib.hid ⟨I1.out, I2.out⟩⟩
        case measure => simp [intOf]; omega
      · obtain rfl : g = N := by omega
        have gI : ¬ (g : Int) < (g : Int) := by omega
        have NF := Lib.hid (show Nr wr P 3600 (upt (m.map toN)) by have h := I.out.2; rwa [List.take_of_length_le (by rw [List.length_map, HM.out]; exact Nat.le_refl _)] at h)
        have p0 : wr.cell? ⟨P, 0, none⟩ = some (.int .i64 ((upt (m.map toN) 0 : Nat) : Int)) := NF.out.cell (by omega)
        have p1 : wr.cell? ⟨P, 1, none⟩ = some (.int .i64 ((upt (m.map toN) 1 : Nat) : Int)) := NF.out.cell (by omega)
        have UB := Lib.hid (show ∀ r k, BalZ (D : Int) m r k → (upt (m.map toN) 0 = r ∧ upt (m.map toN) 1 = k) ∧ 1 ≤ k ∧ Uni (upt (m.map toN)) D r k from fun r k hz => uni_of_bal hz)
        have BU := Lib.hid (show ∀ r k, Uni (upt (m.map toN)) D r k → 1 ≤ k → BalZ (D : Int) m r k from fun r k hu hk => bal_of_uni FM.out hu hk)
        have UN := Lib.hid fun q r k => uni_any P D r k (upt (m.map toN)) (wr.drewN q) (NF.out.below (below_drewN (Below.refl wr.heap.size wr) q) (Nat.le_refl _)) D60
        have RX : wr.cell? ⟨B, 0, none⟩ = some (.int .i64 (D : Int)) := (R2.out.below I.out.1 PL.out).cell 0
        have L0 := upt_le (m.map toN) 0
        have L1 := upt_le (m.map toN) 1
        rw [List.length_map, HM.out] at L0 L1
        obtain ⟨f, hf⟩ : ∃ f, upt (m.map toN) = f := ⟨_, rfl⟩
        rw [hf] at p0 p1 UB BU UN L0 L1 NF
        obtain ⟨r, hr⟩ : ∃ r, f 0 = r := ⟨_, rfl⟩
        obtain ⟨k, hk⟩ : ∃ k, f 1 = k := ⟨_, rfl⟩
        rw [hr] at p0 UB L0
        rw [hk] at p1 UB L1
        clear hf hr hk I
        by_cases k1 : k < 1
        · have kI : (k : Int) < 1 := by omega
          have E := Lib.hid (show ∀ r k, ¬ BalZ (D : Int) m r k from fun r' k' hz => by have h := UB.out r' k' hz; omega)
          clear UB BU UN
          go_wp2_with fail
          go_quiet (fail)
          go_wp2_with fail
          go_ret3
          exact ⟨below_drewN BX.out _, .inr ⟨rfl, E.out⟩⟩
        · have kI : ¬ (k : Int) < 1 := by omega
          go_wp2_with fail
          go_quiet (fail)
          go_wp2_with fail
          refine (UN.out nq r k).mono ?_
          rintro e z2 ⟨rfl, b, rfl, hT, hF⟩
          clear UN
          cases b with
          | false =>
            have E := Lib.hid (show ∀ r k, ¬ BalZ (D : Int) m r k from fun r' k' hz => by
              obtain ⟨⟨h1, h2⟩, h3, h4⟩ := UB.out r' k' hz
              subst h1 h2
              exact hF rfl h4)
            clear UB BU hT hF
            go_wp2_with fail
            go_ret3
            exact ⟨below_drewN BX.out _, .inr ⟨rfl, E.out⟩⟩
          | true =>
            have E := Lib.hid (BU.out r k (hT rfl) (by omega))
            clear UB BU hT hF
            go_wp2_with fail
            go_ret3
            exact ⟨below_drewN BX.out _, .inl ⟨_, _, rfl, E.out⟩⟩
end Go.Proofs.YtnnacofjogfkeaaDoor
namespace Go.Proofs.YtnnacofjogfkeaaDoor
open Go Go.RowKit Pl Co
set_option linter.unusedVariables false
set_option linter.unusedSimpArgs false

def hasI (l : List Int) (x : Int) : Bool := l.any fun y => y == x
theorem hasI_no {l : List Int} {x : Int} (h : ∀ j, j < l.length → l.getD j 0 ≠ x) : hasI l x = false := by
  unfold hasI
  rw [List.any_eq_false]
  intro y hy
  obtain ⟨j, hj, rfl⟩ := List.getElem_of_mem hy
  have := h j hj
  rw [getD_in hj] at this
  simpa using this
theorem hasI_yes {l : List Int} {x : Int} {k : Nat} (hk : k < l.length) (h : l.getD k 0 = x) : hasI l x = true := by
  unfold hasI
  rw [List.any_eq_true]
  exact ⟨_, List.getElem_mem hk, by rw [getD_in hk] at h; simpa using h⟩
def idxPost (b : Bool) (w : World) (e : Ending) (w' : World) : Prop := w = w' ∧ ∃ k : Int, e = .returned (.int .i64 k) ∧ decide (0 ≤ k) = b
set_option maxHeartbeats 1000000 in
set_option maxRecDepth 100000 in
theorem index_any (l : List Int) (x : Int) (v : Value) (w : World) (h : Is w v l) : Calls Tryd.prog 50 #[v, .int .i64 x] w (idxPost (hasI l x) w) := by
  obtain ⟨A, c, rfl⟩ := slform h
  obtain ⟨n, hn⟩ : ∃ n, l.length = n := ⟨_, rfl⟩
  rw [hn] at h ⊢
  obtain ⟨-, h1, h2, h3⟩ := h.row
  unfold maxLen at h2
  have HC := Lib.hid h3
  have YES := Lib.hid fun k (hk : k < n) => hasI_yes (l := l) (x := x) (by rw [hn]; exact hk)
  have NO := Lib.hid (show (∀ j, j < n → l.getD j 0 ≠ x) → hasI l x = false from fun h => hasI_no (by rw [hn]; exact h))
  obtain ⟨b, hb⟩ : ∃ b, hasI l x = b := ⟨_, rfl⟩
  rw [hb] at YES NO ⊢
  clear h h3 hn hb
  go_enter Tryd.func50, Tryd.ntmps50
  go_wp2
  go_loop [5, 8] (fun _ i => ∃ k : Nat, k ≤ n ∧ i = .int .i64 (k : Int) ∧ Hid (∀ j, j < k → l.getD j 0 ≠ x)) (fun _ i => n - (intOf i).toNat)
  case atStart => exact ⟨0, Nat.zero_le _, rfl, Lib.hid fun j hj => absurd hj (Nat.not_lt_zero j)⟩
  case round =>
    obtain ⟨k, hk, rfl, H⟩ := hrel
    by_cases hlt : k < n
    · have hkI : (k : Int) < (n : Int) := by omega
      obtain ⟨b0, off, rfl, hcell⟩ := HC.out (by omega)
      have c1 := hcell k hlt
      clear hcell
      have Y := Lib.hid (YES.out k hlt)
      have HX : Hid (l.getD k 0 ≠ x → ∀ j, j < k + 1 → l.getD j 0 ≠ x) := Lib.hid fun hx j hj => by
        rcases Nat.lt_or_eq_of_le (Nat.le_of_lt_succ hj) with h | h
        · exact H.out j h
        · rw [h]; exact hx
      obtain ⟨y, hy⟩ : ∃ y, l.getD k 0 = y := ⟨_, rfl⟩
      rw [hy] at c1 Y HX
      clear hy
      by_cases e : y = x
      · have E := Lib.hid (Y.out e)
        subst e
        have eB : ((y : Int) == y) = true := by simp
        clear HX Y H
        go_wp2
        go_ret
        exact ⟨rfl, (k : Int), rfl, by rw [E.out]; simp⟩
      · have eI : ¬ x = y := fun h => e h.symm
        have eB : (x == y) = false := by simpa using eI
        have E := Lib.hid (HX.out e)
        clear HX Y H e
        go_wp2
        go_round
        case rel => exact ⟨k + 1, by omega, by go_num, E⟩
        case measure => simp [intOf]; omega
    · obtain rfl : k = n := by omega
      have E := Lib.hid (NO.out H.out)
      clear H
      go_wp2
      go_ret
      exact ⟨rfl, -1, rfl, by rw [E.out]; rfl⟩
set_option maxHeartbeats 1000000 in
set_option maxRecDepth 100000 in
theorem contains_any (l : List Int) (x : Int) (v : Value) (w : World) (h : Is w v l) : Calls Tryd.prog 34 #[v, .int .i64 x] w (still (.bool (hasI l x)) w) := by
  have IX := index_any l x v w h
  obtain ⟨A, c, rfl⟩ := slform h
  go_enter Tryd.func34, Tryd.ntmps34
  go_wp2_with fail
  refine IX.mono ?_
  rintro e z ⟨rfl, k, rfl, hk⟩
  have HK := Lib.hid hk
  clear IX hk
  go_wp2_with fail
  go_ret
  exact ⟨by rw [← HK.out]; rfl, rfl⟩
set_option maxHeartbeats 1000000 in
set_option maxRecDepth 100000 in
theorem hasi_any (l : List Int) (x : Int) (v : Value) (w : World) (h : Is w v l) : Calls Tryd.prog 20 #[v, .int .i64 x] w (still (.bool (hasI l x)) w) := by
  obtain ⟨A, c, rfl⟩ := slform h
  obtain ⟨n, hn⟩ : ∃ n, l.length = n := ⟨_, rfl⟩
  rw [hn] at h ⊢
  obtain ⟨-, h1, h2, h3⟩ := h.row
  unfold maxLen at h2
  have HC := Lib.hid h3
  have YES := Lib.hid fun k (hk : k < n) => hasI_yes (l := l) (x := x) (by rw [hn]; exact hk)
  have NO := Lib.hid (show (∀ j, j < n → l.getD j 0 ≠ x) → hasI l x = false from fun h => hasI_no (by rw [hn]; exact h))
  obtain ⟨b, hb⟩ : ∃ b, hasI l x = b := ⟨_, rfl⟩
  rw [hb] at YES NO ⊢
  clear h h3 hn hb
  go_enter Tryd.func20, Tryd.ntmps20
  go_wp2
  go_loop [5] (fun i => ∃ k : Nat, k ≤ n ∧ i = .int .i64 (k : Int) ∧ Hid (∀ j, j < k → l.getD j 0 ≠ x)) (fun i => n - (intOf i).toNat)
  case atStart => exact ⟨0, Nat.zero_le _, rfl, Lib.hid fun j hj => absurd hj (Nat.not_lt_zero j)⟩
  case round =>
    obtain ⟨k, hk, rfl, H⟩ := hrel
    by_cases hlt : k < n
    · have hkI : (k : Int) < (n : Int) := by omega
      obtain ⟨b0, off, rfl, hcell⟩ := HC.out (by omega)
      have c1 := hcell k hlt
      clear hcell
      have Y := Lib.hid (YES.out k hlt)
      have HX : Hid (l.getD k 0 ≠ x → ∀ j, j < k + 1 → l.getD j 0 ≠ x) := Lib.hid fun hx j hj => by
        rcases Nat.lt_or_eq_of_le (Nat.le_of_lt_succ hj) with h | h
        · exact H.out j h
        · rw [h]; exact hx
      obtain ⟨y, hy⟩ : ∃ y, l.getD k 0 = y := ⟨_, rfl⟩
      rw [hy] at c1 Y HX
      clear hy
      by_cases e : y = x
      · have E := Lib.hid (Y.out e)
        subst e
        have eB : ((y : Int) == y) = true := by simp
        clear HX Y H
        go_wp2
        go_ret
        exact ⟨by rw [E.out]; rfl, rfl⟩
      · have eB : (y == x) = false := by simpa using e
        have E := Lib.hid (HX.out e)
        clear HX Y H
        go_wp2
        go_round
        case rel => exact ⟨k + 1, by omega, by go_num, E⟩
        case measure => simp [intOf]; omega
    · obtain rfl : k = n := by omega
      have E := Lib.hid (NO.out H.out)
      clear H
      go_wp2
      go_ret
      exact ⟨by rw [E.out]; rfl, rfl⟩
/-- In how many rows both lie. -/
def shI (m : List (List Int)) (a b : Int) : Nat := (m.filter fun l => hasI l a && hasI l b).length
theorem shI_le (m : List (List Int)) (a b : Int) : shI m a b ≤ m.length := List.length_filter_le _ _
theorem shI_succ {m : List (List Int)} {g : Nat} (hg : g < m.length) (a b : Int) : shI (m.take (g + 1)) a b = if (hasI (m.getD g []) a && hasI (m.getD g []) b) = true then shI (m.take g) a b + 1 else shI (m.take g) a b := by
  unfold shI
  rw [List.take_succ_eq_append_getElem hg, getD_in hg, List.filter_append, List.length_append]
  cases e : (hasI m[g] a && hasI m[g] b)
  · simp [e]
  · simp [e]
def shD (d : Int) (m : List (List Int)) (a b : Int) : Nat := if (0 ≤ a ∧ a < d) ∧ (0 ≤ b ∧ b < d) then shI m a b else 0
set_option maxHeartbeats 4000000 in
set_option maxRecDepth 100000 in
theorem shared_any (d a b : Int) (m : List (List Int)) (v : Value) (w : World) (h : Gi w v m) : Calls Tryd.prog 21 #[.agg #[.int .i64 d, v], .int .i64 a, .int .i64 b] w (bel (.int .i64 (shD d m a b : Nat)) w) := by
  have OUT := Lib.hid (show ¬ ((0 ≤ a ∧ a < d) ∧ (0 ≤ b ∧ b < d)) → shD d m a b = 0 from fun h => if_neg h)
  have INN := Lib.hid (show ((0 ≤ a ∧ a < d) ∧ (0 ≤ b ∧ b < d)) → shD d m a b = shI m a b from fun h => if_pos h)
  obtain ⟨S, hS⟩ : ∃ S, shD d m a b = S := ⟨_, rfl⟩
  rw [hS] at OUT INN ⊢
  obtain ⟨A1, c1, rfl⟩ := slform h
  obtain ⟨N, hN⟩ : ∃ N, m.length = N := ⟨_, rfl⟩
  rw [hN] at h ⊢
  have l1 := h.cells.2.1
  have l2 := h.cells.2.2.1
  unfold maxLen at l2
  obtain ⟨B, hB⟩ : ∃ B, w.heap.size = B := ⟨_, rfl⟩
  obtain ⟨W, hW⟩ : ∃ W, w.alloc (.cells #[.int .i64 d, .slice A1 N c1] 25) = W := ⟨_, rfl⟩
  have hbw : Below w.heap.size w W := by rw [← hW]; exact (Below.refl _ _).alloc (Nat.le_refl _) _
  have r1 : Row W B 25 #[.int .i64 d, .slice A1 N c1] := by
    rw [← hW, ← hB]; exact row_new' w _ _
  have e0 : W.cell? ⟨B, 0, none⟩ = some (.int .i64 d) := r1.cell 0
  have e1 : W.cell? ⟨B, 1, none⟩ = some (.slice A1 N c1) := r1.cell 1
  have RW := Lib.hid r1
  have BW := Lib.hid hbw
  have HE := Lib.hid hB
  have HW := Lib.hid hW
  have HM := Lib.hid hN
  have HG := Lib.hid h
  clear h hN r1 hbw hB hW hS
  go_enter Tryd.func21, Tryd.ntmps21
  go_wp2_with fail
  rw [HE.out, HW.out]
  go_wp2_with fail
  refine (dhas_any d a A1 N c1 W).mono ?_
  rintro e z1 ⟨rfl, hb⟩
  have BZ := Lib.hid (BW.out.trans (hb.mono BW.out.size))
  have RZ := Lib.hid (RW.out.go hb)
  clear e0 e1 hb
  by_cases ha : 0 ≤ a ∧ a < d
  case neg =>
    have aB : (decide (0 ≤ a) && decide (a < d)) = false := by
      rw [Bool.and_eq_false_iff, decide_eq_false_iff_not, decide_eq_false_iff_not]; omega
    have E := Lib.hid (OUT.out fun h => ha h.1)
    rw [aB]
    clear aB ha OUT INN
    go_wp2_with fail
    go_ret
    exact ⟨by rw [E.out]; rfl, BZ.out⟩
  have aB : (decide (0 ≤ a) && decide (a < d)) = true := by rw [Bool.and_eq_true, decide_eq_true_eq, decide_eq_true_eq]; exact ha
  rw [aB]
  have e0 : z1.cell? ⟨B, 0, none⟩ = some (.int .i64 d) := RZ.out.cell 0
  have e1 : z1.cell? ⟨B, 1, none⟩ = some (.slice A1 N c1) := RZ.out.cell 1
  have HA := Lib.hid ha
  clear aB ha
  go_wp2_with fail
  refine (dhas_any d b A1 N c1 z1).mono ?_
  rintro e z2 ⟨rfl, hb⟩
  have BY := Lib.hid (BZ.out.trans (hb.mono BZ.out.size))
  have RY := Lib.hid (RZ.out.go hb)
  clear e0 e1 hb
  by_cases hb : 0 ≤ b ∧ b < d
  case neg =>
    have aB : (decide (0 ≤ b) && decide (b < d)) = false := by
      rw [Bool.and_eq_false_iff, decide_eq_false_iff_not, decide_eq_false_iff_not]; omega
    have E := Lib.hid (OUT.out fun h => hb h.2)
    rw [aB]
    clear aB hb OUT INN
    go_wp2_with fail
    go_ret
    exact ⟨by rw [E.out]; rfl, BY.out⟩
  have aB : (decide (0 ≤ b) && decide (b < d)) = true := by rw [Bool.and_eq_true, decide_eq_true_eq, decide_eq_true_eq]; exact hb
  rw [aB]
  have E := Lib.hid (INN.out ⟨HA.out, hb⟩)
  have e1 : z2.cell? ⟨B, 1, none⟩ = some (.slice A1 N c1) := RY.out.cell 1
  clear aB hb OUT INN
  go_wp2_with fail
  clear e1
  go_loopw [7, 9, 23] (fun s _ i wr => wr = z2 ∧ ∃ g q : Nat, (g ≤ N ∧ q ≤ g) ∧ i = .int .i64 (g : Int) ∧ s = .int .i64 (q : Int) ∧ Hid (shI (m.take g) a b = q)) (fun _ _ i _ => N - (intOf i).toNat)
  case atStart => exact ⟨rfl, 0, 0, ⟨Nat.zero_le _, Nat.le_refl _⟩, rfl, rfl, Lib.hid rfl⟩
  case round =>
    obtain ⟨rfl, g, q, ⟨hg, hq⟩, rfl, rfl, I⟩ := hrel
    by_cases hlt : g < N
    · have gI : (g : Int) < (N : Int) := by omega
      obtain ⟨b1, o1, rfl, hf⟩ := HG.out.cells.2.2.2 (by omega)
      obtain ⟨u, y1, n1⟩ := hf g hlt
      have x1 := cell7 y1 BY.out
      have SU := Lib.hid (shI_succ (m := m) (by rw [HM.out]; exact hlt) a b)
      rw [I.out] at SU
      obtain ⟨l, hl⟩ : ∃ l, m.getD g [] = l := ⟨_, rfl⟩
      rw [hl] at n1 SU
      have NI : Is wr u l := Sl.keeps Iv.keeps _ _ _ _ n1 (Below.toSame BY.out)
      have CA := Lib.hid (contains_any l a u wr NI)
      have CB := Lib.hid (contains_any l b u wr NI)
      obtain ⟨A3, c3, rfl⟩ := slform n1
      obtain ⟨ba, hba⟩ : ∃ x, hasI l a = x := ⟨_, rfl⟩
      obtain ⟨bb, hbb⟩ : ∃ x, hasI l b = x := ⟨_, rfl⟩
      rw [hba] at CA SU
      rw [hbb] at CB SU
      clear hf y1 n1 hl NI hba hbb I
      go_wp2_with fail
      refine CA.out.mono ?_
      rintro e z3 ⟨rfl, rfl⟩
      clear CA
      cases ba with
      | false =>
        have E2 := Lib.hid (SU.out.trans (if_neg (by simp)))
        clear SU CB
        go_wp2_with fail
        go_roundw
        case rel => exact ⟨trivial, g + 1, q, by omega, by go_num, rfl, E2⟩
        case measure => simp [intOf]; omega
      | true =>
        go_wp2_with fail
        refine CB.out.mono ?_
        rintro e z3 ⟨rfl, rfl⟩
        clear CB
        cases bb with
        | false =>
          have E2 := Lib.hid (SU.out.trans (if_neg (by simp)))
          clear SU
          go_wp2_with fail
          go_roundw
          case rel => exact ⟨trivial, g + 1, q, by omega, by go_num, rfl, E2⟩
          case measure => simp [intOf]; omega
        | true =>
          have E2 := Lib.hid (SU.out.trans (if_pos (by simp)))
          clear SU
          go_wp2_with fail
          go_roundw
          case rel => exact ⟨trivial, g + 1, q + 1, by omega, by go_num, by go_num, E2⟩
          case measure => simp [intOf]; omega
    · obtain rfl : g = N := by omega
      have gI : ¬ (g : Int) < (g : Int) := by omega
      have E2 := Lib.hid (show shI m a b = q by have h := I.out; rwa [List.take_of_length_le (by rw [HM.out]; exact Nat.le_refl _)] at h)
      go_wp2_with fail
      go_ret
      exact ⟨by rw [E.out, E2.out]; rfl, BY.out⟩
end Go.Proofs.YtnnacofjogfkeaaDoor
namespace Go.Proofs.YtnnacofjogfkeaaDoor
open Go Go.RowKit Pl Co
set_option linter.unusedVariables false
set_option linter.unusedSimpArgs false

def toZ (l : List Nat) : List Int := l.map fun n : Nat => (n : Int)
theorem toZ_at (l : List Nat) (j : Nat) : (toZ l).getD j 0 = ((l.getD j 0 : Nat) : Int) := by
  unfold toZ
  rw [List.getD_eq_getElem?_getD, List.getD_eq_getElem?_getD, List.getElem?_map]
  cases l[j]? <;> rfl
theorem toN_toZ (l : List Nat) : toN (toZ l) = l := by
  unfold toN toZ
  rw [List.map_map]
  exact (List.map_congr_left fun a _ => Int.toNat_natCast a).trans (List.map_id _)
theorem map_toN_toZ (L : List (List Nat)) : (L.map toZ).map toN = L := by
  rw [List.map_map]
  exact (List.map_congr_left fun a _ => toN_toZ a).trans (List.map_id _)
theorem Ns.is {w : World} {v : Value} {l : List Nat} (h : Ns w v l) : Is w v (toZ l) := by
  obtain ⟨A, c, rfl, hm, hz, hc⟩ := h
  have hl : (toZ l).length = l.length := List.length_map ..
  refine ⟨A, c, by rw [hl], by rw [hl]; exact hm, hz, fun hn => ?_⟩
  rw [hl] at hn
  obtain ⟨b, off, rfl, hcell⟩ := hc hn
  refine ⟨b, off, rfl, fun k hk => ?_⟩
  obtain ⟨u, hu, hr⟩ := hcell k (by rw [← hl]; exact hk)
  refine ⟨u, hu, ?_⟩
  have hx : (toZ l)[k] = ((l[k]'(by rw [← hl]; exact hk) : Nat) : Int) := List.getElem_map ..
  rw [hx]
  exact hr
theorem Gs.gi {w : World} {v : Value} {L : List (List Nat)} (h : Gs w v L) : Gi w v (L.map toZ) := by
  obtain ⟨A, c, rfl, hm, hz, hc⟩ := h
  have hl : (L.map toZ).length = L.length := List.length_map ..
  refine ⟨A, c, by rw [hl], by rw [hl]; exact hm, hz, fun hn => ?_⟩
  rw [hl] at hn
  obtain ⟨b, off, rfl, hcell⟩ := hc hn
  refine ⟨b, off, rfl, fun k hk => ?_⟩
  obtain ⟨u, hu, hr⟩ := hcell k (by rw [← hl]; exact hk)
  refine ⟨u, hu, ?_⟩
  rw [List.getElem_map]
  exact hr.is
theorem balz_of {D n r k : Nat} {L : List (List Nat)} (h : Bal D L n r k) : BalZ (D : Int) (L.map toZ) r k := by
  refine ⟨by omega, fun l hl x hx => ?_, n, ?_⟩
  · obtain ⟨l', _, rfl⟩ := List.mem_map.1 hl
    obtain ⟨a, _, rfl⟩ := List.mem_map.1 hx
    exact Int.natCast_nonneg a
  · rw [map_toN_toZ, Int.toNat_natCast]; exact h
theorem of_balz {D r k : Nat} {L : List (List Nat)} (h : BalZ (D : Int) (L.map toZ) r k) : ∃ n, Bal D L n r k := by
  obtain ⟨_, _, n, hb⟩ := h
  rw [map_toN_toZ, Int.toNat_natCast] at hb
  exact ⟨n, hb⟩
theorem check_bal {D n r k : Nat} {L : List (List Nat)} (h : Bal D L n r k) (v : Value) (w : World) (hg : Gs w v L) : Calls Tryd.prog 16 #[dv D v] w (bel (.tuple #[.int .i64 (r : Int), .int .i64 (k : Int), .int .i64 0]) w) :=
  (dcheck_any (D : Int) (L.map toZ) v w hg.gi).mono fun e w' hp => by
    obtain ⟨hb, ⟨r', k', rfl, hz⟩ | ⟨_, hn⟩⟩ := hp
    · obtain ⟨e1, e2⟩ := hz.uniq (balz_of h)
      rw [e1, e2]
      exact ⟨rfl, hb⟩
    · exact absurd (balz_of h) (hn r k)
theorem check_nobal {D : Nat} {L : List (List Nat)} (h : ∀ n r k, ¬ Bal D L n r k) (v : Value) (w : World) (hg : Gs w v L) : Calls Tryd.prog 16 #[dv D v] w (bel (.tuple #[.int .i64 0, .int .i64 0, .int .i64 5]) w) :=
  (dcheck_any (D : Int) (L.map toZ) v w hg.gi).mono fun e w' hp => by
    obtain ⟨hb, ⟨r', k', rfl, hz⟩ | ⟨rfl, hn⟩⟩ := hp
    · obtain ⟨n, hz⟩ := of_balz hz
      exact absurd hz (h n r' k')
    · exact ⟨rfl, hb⟩
theorem hasI_toZ (l : List Nat) (a : Nat) : hasI (toZ l) (a : Int) = has l a := by
  unfold hasI toZ has
  rw [List.any_map]
  congr 1
  funext x
  show ((x : Int) == (a : Int)) = (x == a)
  cases e : (x == a)
  · rw [beq_eq_false_iff_ne] at e ⊢; omega
  · rw [beq_iff_eq] at e ⊢; omega
theorem shI_toZ (L : List (List Nat)) (a b : Nat) : shI (L.map toZ) a b = prs L a b := by
  unfold shI prs
  rw [filter_map_len]
  congr 2
  funext l
  rw [hasI_toZ, hasI_toZ]
theorem shared_in {D a b : Nat} {L : List (List Nat)} (ha : a < D) (hb : b < D) (v : Value) (w : World) (hg : Gs w v L) : Calls Tryd.prog 21 #[dv D v, .int .i64 (a : Int), .int .i64 (b : Int)] w (bel (.int .i64 (prs L a b : Nat)) w) := by
  have h := shared_any (D : Int) (a : Int) (b : Int) (L.map toZ) v w hg.gi
  have e : shD (D : Int) (L.map toZ) (a : Int) (b : Int) = prs L a b := by
    unfold shD
    rw [if_pos (by omega), shI_toZ]
  rw [e] at h
  exact h
end Go.Proofs.YtnnacofjogfkeaaDoor
