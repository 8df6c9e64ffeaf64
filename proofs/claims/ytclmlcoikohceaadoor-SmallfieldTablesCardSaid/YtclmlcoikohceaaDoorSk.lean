/- Contracts: the law's field, awake, power. -/
import Derived.Test.YtclmlcoikohceaaDoorSj
namespace Go.Proofs.YtclmlcoikohceaaDoor
open Go Go.RowKit
set_option linter.unusedVariables false

theorem sizes_lit (w : World) (t : TypeId) (m : Nat) (hm : m < 7) : (w.alloc (.cells #[.int .i64 2, .int .i64 3, .int .i64 4, .int .i64 5, .int .i64 7, .int .i64 8, .int .i64 9] t)).cell? ⟨w.heap.size, m, none⟩ = some (.int .i64 (kS m : Int)) := by
  rw [cell_of_row _ _ _ _ _ _ (heap_alloc_new w _)]
  rcases (by omega : m = 0 ∨ m = 1 ∨ m = 2 ∨ m = 3 ∨ m = 4 ∨ m = 5 ∨ m = 6) with rfl | rfl | rfl | rfl | rfl | rfl | rfl <;> rfl
def fieldPost (q : Nat) (w : World) (e : Ending) (w' : World) : Prop := ∃ u, e = .returned (.tuple #[u, .int .i64 (q : Int), .bool true]) ∧ Fd w' u q ∧ Below w.heap.size w w'
set_option maxHeartbeats 1000000 in
set_option maxRecDepth 100000 in
theorem field_any (n q : Nat) (w : World) (hK : Kd w) (hn : n < 256) (hq : kS (n % 7) = q) : Calls Tryd.prog 16 #[.int .u8 (n : Int)] w (fieldPost q w) := by
  have hm : n % 7 < 7 := Nat.mod_lt _ (by decide)
  have qs := (kS_ok _ hm).1
  rw [hq] at qs
  obtain ⟨m, hme⟩ : ∃ m, n % 7 = m := ⟨_, rfl⟩
  have e1 : (n : Int) % 7 = (m : Int) := by rw [← hme]; rfl
  rw [hme] at hm hq
  have c1 := sizes_lit w 3 m hm
  rw [hq] at c1
  have hmI : (m : Int) < 7 := by omega
  have CN := fun W hb => Lib.hid (new_ok q W (hK.below hb) qs)
  have CN' := Lib.hid CN
  have QS := Lib.hid qs
  have q9 := (Sf.prm_ok qs).2.2.1
  have hb0 := fun o => Lib.hid ((Below.refl w.heap.size w).alloc (Nat.le_refl _) o)
  have HB0 := Lib.hid hb0
  clear CN hb0 hme hq qs hK
  go_enter Tryd.func16, Tryd.ntmps16
  go_wp2_with fail
  refine ((CN'.out _ (HB0.out _).out).out).mono ?_
  rintro e w1 ⟨u, rfl, hf, hb⟩
  have HF := Lib.hid hf
  have HB := Lib.hid ((HB0.out _).out.trans (hb.mono (HB0.out _).out.size))
  clear hf hb
  go_wp2_with fail
  refine (size_ok q u w1 q9 HF.out).mono ?_
  rintro e w2 ⟨rfl, rfl⟩
  go_wp2_with fail
  go_ret3
  exact ⟨u, rfl, HF.out, HB.out⟩

/-- The law's power. -/
def powF (q a n : Nat) : Nat := Sf.rep (fun x => Sf.mulF q x a) (if n < 9 then n else 9) 1
theorem pow_lt {q a n : Nat} (hq : q ∈ Sf.sizes) (ha : a < q) : powF q a n < q := Sf.rep_lt (fun s hs => Sf.mul_lt hq hs ha) _ _ (by have := (Sf.prm_ok hq).2.2.2.1; omega)
set_option maxHeartbeats 1000000 in
set_option maxRecDepth 100000 in
theorem power_any (q a n : Nat) (v : Value) (w : World) (hq : q ∈ Sf.sizes) (h : Fd w v q) (ha : a < q) (hn : n ≤ 1000) :
    Calls Tryd.prog 25 #[v, .int .i64 (a : Int), .int .i64 (n : Int)] w (still (.int .i64 (powF q a n : Nat)) w) := by
  have HF := Lib.hid h
  have QS := Lib.hid hq
  have HA := Lib.hid ha
  have q2 := (Sf.prm_ok hq).2.2.2.1
  obtain ⟨r, hr⟩ : ∃ r, (if n < 9 then n else 9) = r := ⟨_, rfl⟩
  obtain ⟨R, hR⟩ : ∃ R, powF q a n = R := ⟨_, rfl⟩
  rw [hR]
  have RR : Hid (Sf.rep (fun x => Sf.mulF q x a) r 1 = R) := Lib.hid (by rw [← hr, ← hR]; rfl)
  have hr1 : r ≤ n ∧ r ≤ 9 ∧ (r = n ∨ r = 9) := by rw [← hr]; split <;> omega
  obtain ⟨hr1, hr2, hr3⟩ := hr1
  have HR3 := Lib.hid hr3
  clear hr hR h hq ha hr3
  go_enter Tryd.func25, Tryd.ntmps25
  go_wp2_with fail
  go_loopw [7, 8] (fun x i wr => wr = w ∧ ∃ k s : Nat, k ≤ r ∧ i = .int .i64 (k : Int) ∧ x = .int .i64 (s : Int) ∧ Hid (s < q ∧ s = Sf.rep (fun x => Sf.mulF q x a) k 1)) (fun _ i _ => r - (intOf i).toNat)
  case atStart => exact ⟨rfl, 0, 1, Nat.zero_le _, rfl, rfl, Lib.hid ⟨by omega, rfl⟩⟩
  case round =>
    obtain ⟨rfl, k, s, hk, rfl, rfl, H⟩ := hrel
    by_cases hlt : k < r
    · have hkI : (k : Int) < (n : Int) := by omega
      have hk9 : (k : Int) < 9 := by omega
      have cM := Lib.hid (mul_ok q s a v wr QS.out HF.out H.out.1 HA.out)
      have Y : Hid (Sf.mulF q s a < q ∧ Sf.mulF q s a = Sf.rep (fun x => Sf.mulF q x a) (k + 1) 1) := Lib.hid ⟨Sf.mul_lt QS.out H.out.1 HA.out, by rw [Sf.rep_succ, ← H.out.2]⟩
      generalize Sf.mulF q s a = y at cM Y
      clear H
      go_wp2_with (go_at_call 22; refine cM.out.mono ?_; rintro e w' ⟨rfl, rfl⟩)
      go_roundw
      case rel => exact ⟨trivial, k + 1, y, by omega, by go_num, rfl, Y⟩
      case measure => simp [intOf]; omega
    · obtain rfl : k = r := by omega
      have E : Hid (s = R) := Lib.hid (by rw [H.out.2]; exact RR.out)
      rcases HR3.out with h3 | h3
      · have hkI : ¬ (k : Int) < (n : Int) := by omega
        go_wp2
        go_ret
        exact ⟨by rw [← E.out]; rfl, rfl⟩
      · have hk9 : ¬ (k : Int) < 9 := by omega
        by_cases hkn : (k : Int) < (n : Int)
        · go_wp2
          go_ret
          exact ⟨by rw [← E.out]; rfl, rfl⟩
        · go_wp2
          go_ret
          exact ⟨by rw [← E.out]; rfl, rfl⟩
end Go.Proofs.YtclmlcoikohceaaDoor
