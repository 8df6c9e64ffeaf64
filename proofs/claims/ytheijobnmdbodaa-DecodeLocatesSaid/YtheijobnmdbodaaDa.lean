/- Contracts: decode's plus, multiple, isWidth, isChoice. -/
import Derived.Test.YtheijobnmdbodaaDm
import Derived.Test.YtheijobnmdbodaaGC
namespace Go.Proofs.Ytheijobnmdbodaa
open Go Go.RowKit
set_option linter.unusedVariables false

set_option maxHeartbeats 1000000 in
set_option maxRecDepth 100000 in
theorem plus_any (a b : List Nat) (w : World) (ha : B8 a) (hb : B8 b) :
    Calls Try.prog 36 #[.agg (bcs a), .agg (bcs b)] w (blkPost (xorB a b) w) := by
  go_enter Try.func36, Try.ntmps36
  go_wp2_with fail
  go_loopw [5, 6] (fun _ q wr => ∃ k : Nat, k ≤ 8 ∧ q = .int .i64 (k : Int) ∧ Hid (Below w.heap.size w wr ∧ Row wr w.heap.size 33 (bcs (blk fun j => if j < k then (xorB a b).getD j 0 else a.getD j 0)) ∧ Row wr (w.heap.size + 1) 33 (bcs b) ∧ ∃ cs, Row wr (w.heap.size + 2) 33 cs ∧ cs.size = 8)) (fun _ q _ => 8 - (intOf q).toNat)
  case atStart =>
    have e : (blk fun j => if j < 0 then (xorB a b).getD j 0 else a.getD j 0) = a := by
      refine Eq.trans ?_ ha.eq.symm
      exact blk_congr fun k _ => if_neg (Nat.not_lt_zero k)
    refine ⟨0, Nat.zero_le _, rfl, Lib.hid ⟨(((Below.refl w.heap.size w).alloc (Nat.le_refl _) _).alloc (by simp) _).alloc (by simp; omega) _, ?_, ?_, _, row_at (by simp) _ _, by rfl⟩⟩
    · rw [e]; exact ((row_new _ _ _).alloc _).alloc _
    · have := (row_new (w.alloc (.cells (bcs a) 33)) (bcs b) 33).alloc (.cells (Array.replicate 8 (.int .u8 0)) 33)
      rw [World.size_alloc] at this
      exact this
  case round =>
    obtain ⟨k, hk, rfl, H⟩ := hrel
    by_cases hlt : k < 8
    · have hkI : (k : Int) < 8 := by omega
      obtain ⟨hbel, r1, r2, r3⟩ := H.out
      obtain ⟨x, hx⟩ : ∃ x, a.getD k 0 = x := ⟨_, rfl⟩
      obtain ⟨y, hy⟩ : ∃ y, b.getD k 0 = y := ⟨_, rfl⟩
      have hx2 : x < 256 := hx ▸ ha.lt k
      have hy2 : y < 256 := hy ▸ hb.lt k
      have c1 := r1.cell k
      rw [bcs_at (by rw [blk_len]; exact hlt), blk_at _ hlt, if_neg (Nat.lt_irrefl k), hx] at c1
      have c2 := r2.cell k
      rw [bcs_at (by rw [hb.1]; exact hlt), hy] at c2
      have f1 := r1.frozen k
      have hf : (xorB a b).getD k 0 = x ^^^ y := by rw [xorB, blk_at _ hlt, hx, hy]
      have HF := Lib.hid hf
      clear hbel r1 r2 r3 hx hy hf
      go_wp2
      refine wp_region_still_tail 9 (by kernel_rfl) (by kernel_rfl) ?_
      simp only [List.take_succ_cons, List.take_zero, List.drop_succ_cons, List.drop_zero]
      repeat (first | still_step | still_call ((add_any x y hx2 hy2 _).mono fun _ _ h => ⟨h.1, h.2.symm⟩))
      refine wpStill_nil ?_
      change wpList _ _ _ _ _ wr.drew
      go_wp2
      go_roundw
      case rel =>
        obtain ⟨hbel, r1, r2, cs, r3, r4⟩ := H.out
        refine ⟨k + 1, by omega, by go_num, Lib.hid ⟨(hbel.setCell (p := ⟨w.heap.size, k, none⟩) (Nat.le_refl _) _).drew, ?_, r2.other (by omega) _ _, cs, r3.other (by omega) _ _, r4⟩⟩
        have := r1.store k (.int .u8 ((x ^^^ y : Nat) : Int))
        rw [bcs_set, blk_set] at this
        rw [blk_congr (g := fun j => if j = k then x ^^^ y else if j < k then (xorB a b).getD j 0 else a.getD j 0) ?_]
        · exact this
        · intro j _
          by_cases e : j = k
          · rw [if_pos (by omega), if_pos e, e, HF.out]
          · rw [if_neg e]; (repeat' split) <;> first | rfl | omega
      case measure => simp [intOf]; omega
    · obtain rfl : k = 8 := by omega
      obtain ⟨hbel, r1, r2, cs, r3, r4⟩ := H.out
      have e : (blk fun j => if j < 8 then (xorB a b).getD j 0 else a.getD j 0) = xorB a b := by
        rw [(xorB_ok ha hb).eq]
        exact blk_congr fun j hj => by rw [if_pos (by omega), blk_at _ hj]
      rw [e] at r1
      have l8 := xorB_ok ha hb
      obtain ⟨l, hl⟩ : ∃ l, xorB a b = l := ⟨_, rfl⟩
      rw [hl] at r1 l8 ⊢
      have r5 := r3.put r4 l8.1
      have hb5 := below_setCells hbel (l.map bv) (w.heap.size + 2) 0 (by omega)
      have th := r3.there (n := (bcs l).size) (by rw [bcs_size, l8.1, r4]; exact Nat.le_refl _)
      have si : (Try.prog.info? 33).map (·.size) = some (bcs l).size := by rw [bcs_size, l8.1]; kernel_rfl
      have HL := Lib.hid hl
      have R5 := Lib.hid r5
      have B5 := Lib.hid hb5
      have R1 := Lib.hid r1
      have TH := Lib.hid th
      have SI := Lib.hid si
      clear hbel r1 r3 r4 r5 hb5 e H th si hl l8
      go_wp2_with (first | (refine wpList_load_row rfl _ _ rfl _ rfl _ _ (0, 0) _ R1.out Try.underlying33 rfl SI.out ?_) | (refine wpList_store_mid rfl _ _ _ rfl _ 0 _ rfl rfl TH.out SI.out (bcs_one _) ?_))
      refine bodyPost_ret (results_cell_row (g := w.heap.size + 2) (t := 33) (fr := (0, 0)) rfl _ _ _ _ rfl R5.out Try.underlying33 rfl SI.out) rfl ?_
      exact ⟨by rw [HL.out]; rfl, B5.out⟩
set_option maxHeartbeats 1000000 in
set_option maxRecDepth 100000 in
theorem mulb_any (a : List Nat) (c : Nat) (w : World) (ha : B8 a) (hc : c < 256) :
    Calls Try.prog 37 #[.agg (bcs a), .int .u8 (c : Int)] w (blkPost (sclB c a) w) := by
  go_enter Try.func37, Try.ntmps37
  go_wp2_with fail
  go_loopw [5, 6] (fun _ q wr => ∃ k : Nat, k ≤ 8 ∧ q = .int .i64 (k : Int) ∧ Hid (Below w.heap.size w wr ∧ Row wr w.heap.size 33 (bcs (blk fun j => if j < k then (sclB c a).getD j 0 else a.getD j 0)) ∧ ∃ cs, Row wr (w.heap.size + 1) 33 cs ∧ cs.size = 8)) (fun _ q _ => 8 - (intOf q).toNat)
  case atStart =>
    have e : (blk fun j => if j < 0 then (sclB c a).getD j 0 else a.getD j 0) = a := by
      refine Eq.trans ?_ ha.eq.symm
      exact blk_congr fun k _ => if_neg (Nat.not_lt_zero k)
    refine ⟨0, Nat.zero_le _, rfl, Lib.hid ⟨((Below.refl w.heap.size w).alloc (Nat.le_refl _) _).alloc (by simp) _, ?_, _, row_at (by simp) _ _, by rfl⟩⟩
    rw [e]; exact (row_new _ _ _).alloc _
  case round =>
    obtain ⟨k, hk, rfl, H⟩ := hrel
    by_cases hlt : k < 8
    · have hkI : (k : Int) < 8 := by omega
      obtain ⟨hbel, r1, r3⟩ := H.out
      obtain ⟨x, hx⟩ : ∃ x, a.getD k 0 = x := ⟨_, rfl⟩
      have hx2 : x < 256 := hx ▸ ha.lt k
      have c1 := r1.cell k
      rw [bcs_at (by rw [blk_len]; exact hlt), blk_at _ hlt, if_neg (Nat.lt_irrefl k), hx] at c1
      have f1 := r1.frozen k
      have hmul := Gf.mul_lt x c hx2
      have hf : (sclB c a).getD k 0 = Gf.mul x c := by rw [sclB, blk_at _ hlt, hx, Gf.mul_comm _ _ hc hx2]
      have HF := Lib.hid hf
      clear hbel r1 r3 hx hf
      go_wp2_with fail
      refine (mul_any x c hx2 hc _).mono ?_
      rintro e w' ⟨rfl, rfl⟩
      go_wp2_with fail
      go_roundw
      case rel =>
        obtain ⟨hbel, r1, cs, r3, r4⟩ := H.out
        refine ⟨k + 1, by omega, by go_num, Lib.hid ⟨(hbel.setCell (p := ⟨w.heap.size, k, none⟩) (Nat.le_refl _) _), ?_, cs, r3.other (by omega) _ _, r4⟩⟩
        have := r1.store k (.int .u8 ((Gf.mul x c : Nat) : Int))
        rw [bcs_set, blk_set] at this
        rw [blk_congr (g := fun j => if j = k then Gf.mul x c else if j < k then (sclB c a).getD j 0 else a.getD j 0) ?_]
        · exact this
        · intro j _
          by_cases e : j = k
          · rw [if_pos (by omega), if_pos e, e, HF.out]
          · rw [if_neg e]; (repeat' split) <;> first | rfl | omega
      case measure => simp [intOf]; omega
    · obtain rfl : k = 8 := by omega
      obtain ⟨hbel, r1, cs, r3, r4⟩ := H.out
      have e : (blk fun j => if j < 8 then (sclB c a).getD j 0 else a.getD j 0) = sclB c a := by
        rw [(sclB_ok hc ha).eq]
        exact blk_congr fun j hj => by rw [if_pos (by omega), blk_at _ hj]
      rw [e] at r1
      have l8 := sclB_ok hc ha
      obtain ⟨l, hl⟩ : ∃ l, sclB c a = l := ⟨_, rfl⟩
      rw [hl] at r1 l8 ⊢
      have r5 := r3.put r4 l8.1
      have hb5 := below_setCells hbel (l.map bv) (w.heap.size + 1) 0 (by omega)
      have th := r3.there (n := (bcs l).size) (by rw [bcs_size, l8.1, r4]; exact Nat.le_refl _)
      have si : (Try.prog.info? 33).map (·.size) = some (bcs l).size := by rw [bcs_size, l8.1]; kernel_rfl
      have HL := Lib.hid hl
      have R5 := Lib.hid r5
      have B5 := Lib.hid hb5
      have R1 := Lib.hid r1
      have TH := Lib.hid th
      have SI := Lib.hid si
      clear hbel r1 r3 r4 r5 hb5 e H th si hl l8
      go_wp2_with (first | (refine wpList_load_row rfl _ _ rfl _ rfl _ _ (0, 0) _ R1.out Try.underlying33 rfl SI.out ?_) | (refine wpList_store_mid rfl _ _ _ rfl _ 0 _ rfl rfl TH.out SI.out (bcs_one _) ?_))
      refine bodyPost_ret (results_cell_row (g := w.heap.size + 1) (t := 33) (fr := (0, 0)) rfl _ _ _ _ rfl R5.out Try.underlying33 rfl SI.out) rfl ?_
      exact ⟨by rw [HL.out]; rfl, B5.out⟩

theorem width_t (n : Int) (w : World) (h1 : 4 ≤ n) (h2 : n ≤ 16) : Calls Try.prog 28 #[.int .i64 n] w fun e w' => e = .returned (.bool true) ∧ w = w' := by
  have g : decide (3 < n) = true := by simp; omega
  go_enter Try.func28, Try.ntmps28
  go_wp2
  go_ret
  exact ⟨rfl, rfl⟩
theorem width_f (n : Int) (w : World) (h : n < 4 ∨ 16 < n) : Calls Try.prog 28 #[.int .i64 n] w fun e w' => e = .returned (.bool false) ∧ w = w' := by
  rcases h with h | h
  · have g : decide (3 < n) = false := by simp; omega
    go_enter Try.func28, Try.ntmps28
    go_wp2
    go_ret
    exact ⟨rfl, rfl⟩
  · have g : decide (3 < n) = true := by simp; omega
    have g2 : decide (n ≤ 16) = false := by simp; omega
    go_enter Try.func28, Try.ntmps28
    go_wp2
    go_ret
    exact ⟨rfl, rfl⟩
/-- What isChoice says of the pieces. -/
def choB (l : List Int) (N : Int) : Prop := ∀ k, k < l.length → (if k = 0 then -1 else l.getD (k - 1) 0) < l.getD k 0 ∧ l.getD k 0 < N
set_option maxHeartbeats 2000000 in
set_option maxRecDepth 100000 in
theorem choice_len (v : Value) (l : List Int) (N : Nat) (w : World) (h : Is w v l) (hN : N ≤ 16) (hl : l.length + 3 ≠ N) : Calls Try.prog 29 #[.int .i64 (N : Int), v] w fun e w' => e = .returned (.bool false) ∧ w = w' := by
  have hml := h.len
  obtain ⟨A, c, rfl⟩ := Sl.form h
  obtain ⟨n, hn⟩ : ∃ n, l.length = n := ⟨_, rfl⟩
  rw [hn] at hml hl ⊢
  have hm' : (n : Int) ≤ 9223372036854775807 := by unfold maxLen at hml; omega
  have g : ((n : Int) != (N : Int) - 3) = true := by simp; omega
  clear h hn hml
  go_enter Try.func29, Try.ntmps29
  go_wp2
  go_ret
  exact ⟨rfl, rfl⟩
set_option maxHeartbeats 2000000 in
set_option maxRecDepth 100000 in
theorem choice_any (v : Value) (l : List Int) (N : Nat) (b : Bool) (w : World) (h : Is w v l) (hN : N ≤ 16) (hl : l.length + 3 = N) (hb : b = true ↔ choB l N) : Calls Try.prog 29 #[.int .i64 (N : Int), v] w fun e w' => e = .returned (.bool b) ∧ w = w' := by
  have V := Lib.hid hb
  have hc := fun hn => Is.at_ h hn
  have hml := h.len
  obtain ⟨A, c, rfl⟩ := Sl.form h
  have HC := Lib.hid hc
  obtain ⟨n, hn⟩ : ∃ n, l.length = n := ⟨_, rfl⟩
  rw [hn] at hml hl ⊢
  have NN := Lib.hid hn
  have hm' : (n : Int) ≤ 9223372036854775807 := by unfold maxLen at hml; omega
  have g : ((n : Int) != (N : Int) - 3) = false := by simp; omega
  clear h hn hc hml hb
  go_enter Try.func29, Try.ntmps29
  go_wp2
  go_loop [5, 7, 15] (fun p _ i => ∃ k : Nat, k ≤ n ∧ i = .int .i64 (k : Int) ∧ ∃ p' : Int, p = .int .i64 p' ∧ Hid (p' = (if k = 0 then -1 else l.getD (k - 1) 0)) ∧ Hid (∀ j, j < k → (if j = 0 then -1 else l.getD (j - 1) 0) < l.getD j 0 ∧ l.getD j 0 < N)) (fun _ _ i => n - (intOf i).toNat)
  case atStart => exact ⟨0, Nat.zero_le _, rfl, -1, rfl, Lib.hid rfl, Lib.hid fun j hj => absurd hj (Nat.not_lt_zero j)⟩
  case round =>
    obtain ⟨k, hk, rfl, p, rfl, HP, H⟩ := hrel
    by_cases hlt : k < n
    · obtain ⟨b', off, c', hv, -, hcell⟩ := HC.out (by rw [NN.out]; omega)
      injection hv with hv1 hv2 hv3
      subst hv1
      have p1 := hcell k (by rw [NN.out]; exact hlt)
      obtain ⟨x, ex⟩ : ∃ x, l.getD k 0 = x := ⟨_, rfl⟩
      rw [ex] at p1
      have EX := Lib.hid ex
      clear hcell hv2 hv3 ex
      by_cases h0 : x ≤ p
      · have g0 : decide (x ≤ p) = true := by simpa using h0
        go_wp2
        go_ret
        refine ⟨ret_bool (Bool.eq_false_iff.2 fun hb => ?_).symm, rfl⟩
        have := ((V.out.1 hb) k (by rw [NN.out]; exact hlt)).1
        rw [EX.out, ← HP.out] at this
        omega
      · have g0 : decide (x ≤ p) = false := by simp; omega
        by_cases h1 : x < (N : Int)
        · have g1 : decide ((N : Int) ≤ x) = false := by simp; omega
          go_wp2
          go_round
          case rel =>
            refine ⟨k + 1, by omega, by go_num, x, rfl, Lib.hid (by rw [if_neg (by omega), Nat.add_sub_cancel, EX.out]), Lib.hid fun j hj => ?_⟩
            rcases Nat.lt_or_ge j k with h | h
            · exact H.out j h
            · obtain rfl : j = k := by omega
              rw [EX.out, ← HP.out]; exact ⟨by omega, h1⟩
          case measure => simp [intOf]; omega
        · have g1 : decide ((N : Int) ≤ x) = true := by simp; omega
          go_wp2
          go_ret
          refine ⟨ret_bool (Bool.eq_false_iff.2 fun hb => ?_).symm, rfl⟩
          have := ((V.out.1 hb) k (by rw [NN.out]; exact hlt)).2
          rw [EX.out] at this
          omega
    · go_wp2
      go_ret
      refine ⟨ret_bool (V.out.2 fun j hj => H.out j (by rw [NN.out] at hj; omega)).symm, rfl⟩
end Go.Proofs.Ytheijobnmdbodaa
