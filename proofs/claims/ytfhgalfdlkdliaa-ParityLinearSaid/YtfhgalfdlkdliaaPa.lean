/- Contracts: parity's isDataCount, coefficient, plusMultiple; the reference's Xor and Scale. -/
import Derived.Test.YtfhgalfdlkdliaaBk
namespace Go.Proofs.Ytfhgalfdlkdliaa
open Go Go.RowKit
set_option linter.unusedVariables false

theorem dcount_t (n : Int) (w : World) (h1 : 1 ≤ n) (h2 : n ≤ 13) : Calls Try.prog 37 #[.int .i64 n] w fun e w' => e = .returned (.bool true) ∧ w = w' := by
  go_enter Try.func37, Try.ntmps37
  go_wp2
  go_ret
  exact ⟨rfl, rfl⟩
theorem dcount_f (n : Int) (w : World) (h : n < 1 ∨ 13 < n) : Calls Try.prog 37 #[.int .i64 n] w fun e w' => e = .returned (.bool false) ∧ w = w' := by
  rcases h with h | h
  · have g : decide (1 ≤ n) = false := by simp; omega
    go_enter Try.func37, Try.ntmps37
    go_wp2
    go_ret
    exact ⟨rfl, rfl⟩
  · have g : decide (n ≤ 13) = false := by simp; omega
    go_enter Try.func37, Try.ntmps37
    go_wp2
    go_ret
    exact ⟨rfl, rfl⟩
theorem coef_any (j i : Nat) (hj : j < 256) (hi : i < 256) (w : World) : Calls Try.prog 38 #[.int .i64 (j : Int), .int .i64 (i : Int)] w fun e w' => e = .returned (.int .u8 (Gf.gpow 2 (red ((j * i : Nat) : Int)) : Nat)) ∧ w = w' := by
  have h1 : wrap64 ((j : Int) * (i : Int)) = ((j * i : Nat) : Int) := by
    have := Nat.mul_lt_mul'' hj hi
    rw [← Int.natCast_mul]
    exact IntWalk.wrap64_in _ ⟨by omega, by omega⟩
  have X := Lib.hid h1
  go_enter Try.func38, Try.ntmps38
  go_wp2_with fail
  rw [X.out]
  refine (exp_any _ _).mono ?_
  rintro e w' ⟨rfl, rfl⟩
  go_wp2_with fail
  go_ret
  exact ⟨rfl, rfl⟩

def blkPost (l : List Nat) (w : World) (e : Ending) (w' : World) : Prop := e = .returned (bk l) ∧ Below w.heap.size w w'

set_option maxHeartbeats 1000000 in
set_option maxRecDepth 100000 in
theorem pm_any (a b : List Nat) (c : Nat) (w : World) (ha : B8 a) (hb : B8 b) (hc : c < 256) :
    Calls Try.prog 41 #[.agg (bcs a), .agg (bcs b), .int .u8 (c : Int)] w (blkPost (pmB a b c) w) := by
  go_enter Try.func41, Try.ntmps41
  go_wp2_with fail
  go_loopw [7, 8] (fun _ q wr => ∃ k : Nat, k ≤ 8 ∧ q = .int .i64 (k : Int) ∧ Hid (Below w.heap.size w wr ∧ Row wr w.heap.size 44 (bcs (blk fun j => if j < k then (pmB a b c).getD j 0 else a.getD j 0)) ∧ Row wr (w.heap.size + 1) 44 (bcs b) ∧ ∃ cs, Row wr (w.heap.size + 2) 44 cs ∧ cs.size = 8)) (fun _ q _ => 8 - (intOf q).toNat)
  case atStart =>
    have e : (blk fun j => if j < 0 then (pmB a b c).getD j 0 else a.getD j 0) = a := by
      refine Eq.trans ?_ ha.eq.symm
      exact blk_congr fun k _ => if_neg (Nat.not_lt_zero k)
    refine ⟨0, Nat.zero_le _, rfl, Lib.hid ⟨(((Below.refl w.heap.size w).alloc (Nat.le_refl _) _).alloc (by simp) _).alloc (by simp; omega) _, ?_, ?_, _, row_at (by simp) _ _, by rfl⟩⟩
    · rw [e]; exact ((row_new _ _ _).alloc _).alloc _
    · have := (row_new (w.alloc (.cells (bcs a) 44)) (bcs b) 44).alloc (.cells (Array.replicate 8 (.int .u8 0)) 44)
      rw [World.size_alloc] at this
      exact this
  case round =>
    obtain ⟨k, hk, rfl, H⟩ := hrel
    by_cases hlt : k < 8
    · have hkI : (k : Int) < 8 := by omega
      obtain ⟨hbel, r1, r2, r3⟩ := H.out
      obtain ⟨x, hx⟩ : ∃ x, a.getD k 0 = x := ⟨_, rfl⟩
      obtain ⟨y, hy⟩ : ∃ y, b.getD k 0 = y := ⟨_, rfl⟩
      have hx2 : x < 256 := hx ▸ ha.lt k
      have hy2 : y < 256 := hy ▸ hb.lt k
      have c1 := r1.cell k
      rw [bcs_at (by rw [blk_len]; exact hlt), blk_at _ hlt, if_neg (Nat.lt_irrefl k), hx] at c1
      have c2 := r2.cell k
      rw [bcs_at (by rw [hb.1]; exact hlt), hy] at c2
      have f1 := r1.frozen k
      have hmul := Gf.mul_lt y c hy2
      have hf : (pmB a b c).getD k 0 = x ^^^ Gf.mul y c := by rw [pmB, blk_at _ hlt, hx, hy]
      have HF := Lib.hid hf
      clear hbel r1 r2 r3 hx hy hf
      go_wp2
      refine wp_region_still_tail 11 (by kernel_rfl) (by kernel_rfl) ?_
      simp only [List.take_succ_cons, List.take_zero, List.drop_succ_cons, List.drop_zero]
      repeat (first | still_step | still_call ((mul_any y c hy2 hc _).mono fun _ _ h => ⟨h.1, h.2.symm⟩) | still_call ((add_any x (Gf.mul y c) hx2 hmul _).mono fun _ _ h => ⟨h.1, h.2.symm⟩))
      refine wpStill_nil ?_
      change wpList _ _ _ _ _ wr.drew
      go_wp2
      go_roundw
      case rel =>
        obtain ⟨hbel, r1, r2, cs, r3, r4⟩ := H.out
        refine ⟨k + 1, by omega, by go_num, Lib.hid ⟨(hbel.setCell (p := ⟨w.heap.size, k, none⟩) (Nat.le_refl _) _).drew, ?_, r2.other (by omega) _ _, cs, r3.other (by omega) _ _, r4⟩⟩
        have := r1.store k (.int .u8 ((x ^^^ Gf.mul y c : Nat) : Int))
        rw [bcs_set, blk_set] at this
        rw [blk_congr (g := fun j => if j = k then x ^^^ Gf.mul y c else if j < k then (pmB a b c).getD j 0 else a.getD j 0) ?_]
        · exact this
        · intro j _
          by_cases e : j = k
          · rw [if_pos (by omega), if_pos e, e, HF.out]
          · rw [if_neg e]; (repeat' split) <;> first | rfl | omega
      case measure => simp [intOf]; omega
    · obtain rfl : k = 8 := by omega
      obtain ⟨hbel, r1, r2, cs, r3, r4⟩ := H.out
      have e : (blk fun j => if j < 8 then (pmB a b c).getD j 0 else a.getD j 0) = pmB a b c := by
        rw [(pmB_ok ha hb hc).eq]
        exact blk_congr fun j hj => by rw [if_pos (by omega), blk_at _ hj]
      rw [e] at r1
      have l8 := pmB_ok ha hb hc
      obtain ⟨l, hl⟩ : ∃ l, pmB a b c = l := ⟨_, rfl⟩
      rw [hl] at r1 l8 ⊢
      have r5 := r3.put r4 l8.1
      have hb5 := below_setCells hbel (l.map bv) (w.heap.size + 2) 0 (by omega)
      have th := r3.there (n := (bcs l).size) (by rw [bcs_size, l8.1, r4]; exact Nat.le_refl _)
      have si : (Try.prog.info? 44).map (·.size) = some (bcs l).size := by rw [bcs_size, l8.1]; kernel_rfl
      have HL := Lib.hid hl
      have R5 := Lib.hid r5
      have B5 := Lib.hid hb5
      have R1 := Lib.hid r1
      have TH := Lib.hid th
      have SI := Lib.hid si
      clear hbel r1 r3 r4 r5 hb5 e H th si hl l8
      go_wp2_with (first | (refine wpList_load_row rfl _ _ rfl _ rfl _ _ (0, 0) _ R1.out Try.underlying44 rfl SI.out ?_) | (refine wpList_store_mid rfl _ _ _ rfl _ 0 _ rfl rfl TH.out SI.out (bcs_one _) ?_))
      refine bodyPost_ret (results_cell_row (g := w.heap.size + 2) (t := 44) (fr := (0, 0)) rfl _ _ _ _ rfl R5.out Try.underlying44 rfl SI.out) rfl ?_
      exact ⟨by rw [HL.out]; rfl, B5.out⟩
set_option maxHeartbeats 1000000 in
set_option maxRecDepth 100000 in
theorem xor_blk (a b : List Nat) (w : World) (ha : B8 a) (hb : B8 b) :
    Calls Try.prog 26 #[.agg (bcs a), .agg (bcs b)] w (blkPost (xorB a b) w) := by
  go_enter Try.func26, Try.ntmps26
  go_wp2_with fail
  go_loopw [5] (fun q wr => ∃ k : Nat, k ≤ 8 ∧ q = .int .i64 (k : Int) ∧ Hid (Below w.heap.size w wr ∧ Row wr w.heap.size 44 (bcs (blk fun j => if j < k then (xorB a b).getD j 0 else a.getD j 0)) ∧ Row wr (w.heap.size + 1) 44 (bcs b) ∧ ∃ cs, Row wr (w.heap.size + 2) 44 cs ∧ cs.size = 8)) (fun q _ => 8 - (intOf q).toNat)
  case atStart =>
    have e : (blk fun j => if j < 0 then (xorB a b).getD j 0 else a.getD j 0) = a := by
      refine Eq.trans ?_ ha.eq.symm
      exact blk_congr fun k _ => if_neg (Nat.not_lt_zero k)
    refine ⟨0, Nat.zero_le _, rfl, Lib.hid ⟨(((Below.refl w.heap.size w).alloc (Nat.le_refl _) _).alloc (by simp) _).alloc (by simp; omega) _, ?_, ?_, _, row_at (by simp) _ _, by rfl⟩⟩
    · rw [e]; exact ((row_new _ _ _).alloc _).alloc _
    · have := (row_new (w.alloc (.cells (bcs a) 44)) (bcs b) 44).alloc (.cells (Array.replicate 8 (.int .u8 0)) 44)
      rw [World.size_alloc] at this
      exact this
  case round =>
    obtain ⟨k, hk, rfl, H⟩ := hrel
    by_cases hlt : k < 8
    · have hkI : (k : Int) < 8 := by omega
      obtain ⟨hbel, r1, r2, r3⟩ := H.out
      obtain ⟨x, hx⟩ : ∃ x, a.getD k 0 = x := ⟨_, rfl⟩
      obtain ⟨y, hy⟩ : ∃ y, b.getD k 0 = y := ⟨_, rfl⟩
      have hx2 : x < 256 := hx ▸ ha.lt k
      have hy2 : y < 256 := hy ▸ hb.lt k
      have c1 := r1.cell k
      rw [bcs_at (by rw [blk_len]; exact hlt), blk_at _ hlt, if_neg (Nat.lt_irrefl k), hx] at c1
      have c2 := r2.cell k
      rw [bcs_at (by rw [hb.1]; exact hlt), hy] at c2
      have f1 := r1.frozen k
      have XX := u8_xor_nat x y hx2 hy2
      have hf : (xorB a b).getD k 0 = x ^^^ y := by rw [xorB, blk_at _ hlt, hx, hy]
      have HF := Lib.hid hf
      clear hbel r1 r2 r3 hx hy hf
      go_wp2
      refine wp_region_still_tail 7 (by kernel_rfl) (by kernel_rfl) ?_
      simp only [List.take_succ_cons, List.take_zero, List.drop_succ_cons, List.drop_zero]
      repeat still_step
      refine wpStill_nil ?_
      change wpList _ _ _ _ _ wr.drew
      go_wp2
      go_roundw
      case rel =>
        obtain ⟨hbel, r1, r2, cs, r3, r4⟩ := H.out
        refine ⟨k + 1, by omega, by go_num, Lib.hid ⟨(hbel.setCell (p := ⟨w.heap.size, k, none⟩) (Nat.le_refl _) _).drew, ?_, r2.other (by omega) _ _, cs, r3.other (by omega) _ _, r4⟩⟩
        have := r1.store k (.int .u8 ((x ^^^ y : Nat) : Int))
        rw [bcs_set, blk_set] at this
        rw [blk_congr (g := fun j => if j = k then x ^^^ y else if j < k then (xorB a b).getD j 0 else a.getD j 0) ?_]
        · exact this
        · intro j _
          by_cases e : j = k
          · rw [if_pos (by omega), if_pos e, e, HF.out]
          · rw [if_neg e]; (repeat' split) <;> first | rfl | omega
      case measure => simp [intOf]; omega
    · obtain rfl : k = 8 := by omega
      obtain ⟨hbel, r1, r2, cs, r3, r4⟩ := H.out
      have e : (blk fun j => if j < 8 then (xorB a b).getD j 0 else a.getD j 0) = xorB a b := by
        rw [(xorB_ok ha hb).eq]
        exact blk_congr fun j hj => by rw [if_pos (by omega), blk_at _ hj]
      rw [e] at r1
      have l8 := xorB_ok ha hb
      obtain ⟨l, hl⟩ : ∃ l, xorB a b = l := ⟨_, rfl⟩
      rw [hl] at r1 l8 ⊢
      have r5 := r3.put r4 l8.1
      have hb5 := below_setCells hbel (l.map bv) (w.heap.size + 2) 0 (by omega)
      have th := r3.there (n := (bcs l).size) (by rw [bcs_size, l8.1, r4]; exact Nat.le_refl _)
      have si : (Try.prog.info? 44).map (·.size) = some (bcs l).size := by rw [bcs_size, l8.1]; kernel_rfl
      have HL := Lib.hid hl
      have R5 := Lib.hid r5
      have B5 := Lib.hid hb5
      have R1 := Lib.hid r1
      have TH := Lib.hid th
      have SI := Lib.hid si
      clear hbel r1 r3 r4 r5 hb5 e H th si hl l8
      go_wp2_with (first | (refine wpList_load_row rfl _ _ rfl _ rfl _ _ (0, 0) _ R1.out Try.underlying44 rfl SI.out ?_) | (refine wpList_store_mid rfl _ _ _ rfl _ 0 _ rfl rfl TH.out SI.out (bcs_one _) ?_))
      refine bodyPost_ret (results_cell_row (g := w.heap.size + 2) (t := 44) (fr := (0, 0)) rfl _ _ _ _ rfl R5.out Try.underlying44 rfl SI.out) rfl ?_
      exact ⟨by rw [HL.out]; rfl, B5.out⟩
set_option maxHeartbeats 1000000 in
set_option maxRecDepth 100000 in
theorem scl_blk (c : Nat) (a : List Nat) (w : World) (hc : c < 256) (ha : B8 a) :
    Calls Try.prog 27 #[.int .u8 (c : Int), .agg (bcs a)] w (blkPost (sclB c a) w) := by
  go_enter Try.func27, Try.ntmps27
  go_wp2_with fail
  go_loopw [5] (fun q wr => ∃ k : Nat, k ≤ 8 ∧ q = .int .i64 (k : Int) ∧ Hid (Below w.heap.size w wr ∧ Row wr w.heap.size 44 (bcs (blk fun j => if j < k then (sclB c a).getD j 0 else a.getD j 0)) ∧ ∃ cs, Row wr (w.heap.size + 1) 44 cs ∧ cs.size = 8)) (fun q _ => 8 - (intOf q).toNat)
  case atStart =>
    have e : (blk fun j => if j < 0 then (sclB c a).getD j 0 else a.getD j 0) = a := by
      refine Eq.trans ?_ ha.eq.symm
      exact blk_congr fun k _ => if_neg (Nat.not_lt_zero k)
    refine ⟨0, Nat.zero_le _, rfl, Lib.hid ⟨((Below.refl w.heap.size w).alloc (Nat.le_refl _) _).alloc (by simp) _, ?_, _, row_at (by simp) _ _, by rfl⟩⟩
    rw [e]; exact (row_new _ _ _).alloc _
  case round =>
    obtain ⟨k, hk, rfl, H⟩ := hrel
    by_cases hlt : k < 8
    · have hkI : (k : Int) < 8 := by omega
      obtain ⟨hbel, r1, r3⟩ := H.out
      obtain ⟨x, hx⟩ : ∃ x, a.getD k 0 = x := ⟨_, rfl⟩
      have hx2 : x < 256 := hx ▸ ha.lt k
      have c1 := r1.cell k
      rw [bcs_at (by rw [blk_len]; exact hlt), blk_at _ hlt, if_neg (Nat.lt_irrefl k), hx] at c1
      have f1 := r1.frozen k
      have hmul := Gf.mul_lt c x hc
      have hf : (sclB c a).getD k 0 = Gf.mul c x := by rw [sclB, blk_at _ hlt, hx]
      have HF := Lib.hid hf
      clear hbel r1 r3 hx hf
      go_wp2_with fail
      refine (rmul_any c x hc hx2 _).mono ?_
      rintro e w' ⟨rfl, rfl⟩
      go_wp2_with fail
      go_roundw
      case rel =>
        obtain ⟨hbel, r1, cs, r3, r4⟩ := H.out
        refine ⟨k + 1, by omega, by go_num, Lib.hid ⟨(hbel.setCell (p := ⟨w.heap.size, k, none⟩) (Nat.le_refl _) _), ?_, cs, r3.other (by omega) _ _, r4⟩⟩
        have := r1.store k (.int .u8 ((Gf.mul c x : Nat) : Int))
        rw [bcs_set, blk_set] at this
        rw [blk_congr (g := fun j => if j = k then Gf.mul c x else if j < k then (sclB c a).getD j 0 else a.getD j 0) ?_]
        · exact this
        · intro j _
          by_cases e : j = k
          · rw [if_pos (by omega), if_pos e, e, HF.out]
          · rw [if_neg e]; (repeat' split) <;> first | rfl | omega
      case measure => simp [intOf]; omega
    · obtain rfl : k = 8 := by omega
      obtain ⟨hbel, r1, cs, r3, r4⟩ := H.out
      have e : (blk fun j => if j < 8 then (sclB c a).getD j 0 else a.getD j 0) = sclB c a := by
        rw [(sclB_ok hc ha).eq]
        exact blk_congr fun j hj => by rw [if_pos (by omega), blk_at _ hj]
      rw [e] at r1
      have l8 := sclB_ok hc ha
      obtain ⟨l, hl⟩ : ∃ l, sclB c a = l := ⟨_, rfl⟩
      rw [hl] at r1 l8 ⊢
      have r5 := r3.put r4 l8.1
      have hb5 := below_setCells hbel (l.map bv) (w.heap.size + 1) 0 (by omega)
      have th := r3.there (n := (bcs l).size) (by rw [bcs_size, l8.1, r4]; exact Nat.le_refl _)
      have si : (Try.prog.info? 44).map (·.size) = some (bcs l).size := by rw [bcs_size, l8.1]; kernel_rfl
      have HL := Lib.hid hl
      have R5 := Lib.hid r5
      have B5 := Lib.hid hb5
      have R1 := Lib.hid r1
      have TH := Lib.hid th
      have SI := Lib.hid si
      clear hbel r1 r3 r4 r5 hb5 e H th si hl l8
      go_wp2_with (first | (refine wpList_load_row rfl _ _ rfl _ rfl _ _ (0, 0) _ R1.out Try.underlying44 rfl SI.out ?_) | (refine wpList_store_mid rfl _ _ _ rfl _ 0 _ rfl rfl TH.out SI.out (bcs_one _) ?_))
      refine bodyPost_ret (results_cell_row (g := w.heap.size + 1) (t := 44) (fr := (0, 0)) rfl _ _ _ _ rfl R5.out Try.underlying44 rfl SI.out) rfl ?_
      exact ⟨by rw [HL.out]; rfl, B5.out⟩
end Go.Proofs.Ytfhgalfdlkdliaa
