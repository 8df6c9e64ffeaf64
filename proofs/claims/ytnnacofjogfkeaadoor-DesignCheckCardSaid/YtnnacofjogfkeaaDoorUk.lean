/- Contracts: the reference's coordinates and Projective. WRITTEN BY gen_Uk.py. -/
import Derived.Test.YtnnacofjogfkeaaDoorOwr
import Derived.Test.YtnnacofjogfkeaaDoorGN
namespace Go.Proofs.YtnnacofjogfkeaaDoor
open Go Go.RowKit Pl
set_option linter.unusedVariables false
set_option linter.unusedSimpArgs false

theorem co_at {q x y z : Nat} (hx : x < q) (hy : y < q) (hz : z < q) : co q ((x * q + y) * q + z) = (x, y, z) := by
  have h0 : 0 < q := by omega
  have e1 : ((x * q + y) * q + z) / q = x * q + y := by rw [Nat.mul_comm, Nat.mul_add_div h0, Nat.div_eq_of_lt hz]; rfl
  have e2 : ((x * q + y) * q + z) % q = z := by rw [Nat.mul_comm, Nat.mul_add_mod, Nat.mod_eq_of_lt hz]
  have e3 : (x * q + y) / q = x := by rw [Nat.mul_comm, Nat.mul_add_div h0, Nat.div_eq_of_lt hy]; rfl
  have e4 : (x * q + y) % q = y := by rw [Nat.mul_comm, Nat.mul_add_mod, Nat.mod_eq_of_lt hy]
  unfold co
  rw [e1, e2, e3, e4]
theorem co_lt {q x y z : Nat} (hx : x < q) (hy : y < q) (hz : z < q) : (x * q + y) * q + z < q * q * q := by
  have h1 : x * q + y + 1 ≤ q * q := by
    have := Nat.mul_le_mul_right q (show x + 1 ≤ q from hx)
    rw [Nat.succ_mul] at this; omega
  have h2 := Nat.mul_le_mul_right q h1
  rw [Nat.succ_mul] at h2; omega
def crdPost (q : Nat) (w : World) (e : Ending) (w' : World) : Prop := ∃ v, e = .returned v ∧ OwnC 81 w' w.heap.size v (all q) ∧ Below w.heap.size w w'

set_option maxHeartbeats 4000000 in
set_option maxRecDepth 100000 in
theorem coordinates_any (q : Nat) (w : World) (hq : q ∈ szs) : Calls Tryd.prog 47 #[.int .i64 (q : Int)] w (crdPost q w) := by
  have q2 := (szs_ok hq).2.1
  have q7 := (szs_ok hq).2.2.1
  have QS := Lib.hid hq
  clear hq
  go_enter Tryd.func47, Tryd.ntmps47
  go_wp2
  go_loopw [3, 4, 5, 6] (fun v i _ _ wr => ∃ x : Nat, x ≤ q ∧ i = .int .i64 (x : Int) ∧ Hid (Below w.heap.size w wr ∧ OwnC 81 wr w.heap.size v (cF q (x * q * q)))) (fun _ i _ _ _ => q - (intOf i).toNat)
  case atStart => exact ⟨0, Nat.zero_le _, rfl, Lib.hid ⟨Below.refl _ _, by rw [Nat.zero_mul, Nat.zero_mul]; exact OwnC.nil_ _ _ _⟩⟩
  case round =>
    obtain ⟨x, hx, rfl, H⟩ := hrel
    by_cases hlx : x < q
    · have hxI : (x : Int) < (q : Int) := by omega
      go_wp2
      go_loopw [3, 5, 6] (fun v i _ wr => ∃ y : Nat, y ≤ q ∧ i = .int .i64 (y : Int) ∧ Hid (Below w.heap.size w wr ∧ OwnC 81 wr w.heap.size v (cF q ((x * q + y) * q)))) (fun _ i _ _ => q - (intOf i).toNat)
      case atStart => exact ⟨0, Nat.zero_le _, rfl, H⟩
      case round =>
        obtain ⟨y, hy, rfl, H⟩ := hrel
        by_cases hly : y < q
        · have hyI : (y : Int) < (q : Int) := by omega
          go_wp2
          go_loopw [3, 6] (fun v i wr => ∃ z : Nat, z ≤ q ∧ i = .int .i64 (z : Int) ∧ Hid (Below w.heap.size w wr ∧ OwnC 81 wr w.heap.size v (cF q ((x * q + y) * q + z)))) (fun _ i _ => q - (intOf i).toNat)
          case atStart => exact ⟨0, Nat.zero_le _, rfl, H⟩
          case round =>
            obtain ⟨z, hz, rfl, H⟩ := hrel
            by_cases hlz : z < q
            · have hzI : (z : Int) < (q : Int) := by omega
              have L57 := (cF_facts q QS.out _ (co_lt hlx hly hlz)).2
              have SUC := Lib.hid (cF_succ q ((x * q + y) * q + z))
              rw [co_at hlx hly hlz] at SUC
              have HB := Lib.hid H.out.1
              have HO := Lib.hid H.out.2
              clear H
              obtain ⟨L, hL⟩ : ∃ L, cF q ((x * q + y) * q + z) = L := ⟨_, rfl⟩
              rw [hL] at SUC HO L57
              clear hL
              obtain ⟨A, cp, rfl⟩ := HO.out.form
              obtain ⟨m, hm⟩ : ∃ m, L.length = m := ⟨_, rfl⟩
              rw [hm] at L57 HO ⊢
              have LM := Lib.hid hm
              clear hm
              have hbx : Below wr.heap.size wr (wr.alloc (.cells (ka (x, y, z)) 81)) := (Below.refl _ _).alloc (Nat.le_refl _) _
              have O2 := Lib.hid (HO.out.to hbx)
              have LIT := Lib.hid (row_new' wr (ka (x, y, z)) 81).at3
              have B2 := Lib.hid (HB.out.trans (hbx.mono HB.out.size))
              have NXT : Hid ((x * q + y) * q + z + 1 = (x * q + y) * q + (z + 1)) := Lib.hid rfl
              rw [NXT.out] at SUC
              clear hbx NXT
              have SY : Hid (ld (x, y, z) = 1 → cF q ((x * q + y) * q + (z + 1)) = L ++ [(x, y, z)]) := Lib.hid fun h => by rw [SUC.out, if_pos h]
              have SN : Hid (ld (x, y, z) ≠ 1 → cF q ((x * q + y) * q + (z + 1)) = L) := Lib.hid fun h => by rw [SUC.out, if_neg h]
              clear SUC
              by_cases x1 : x = 1
              · have E := Lib.hid (SY.out (by subst x1; rfl))
                have x1B : ((x : Int) == 1) = true := by rw [beq_iff_eq]; omega
                clear SY SN x1
                go_wp2_with (first | (refine wpList_build_t rfl (.tmp 48) rfl (x, y, z) rfl ?_) | (at_builtin; refine wpList_push_t rfl (.tmp 44) (.tmp 49) rfl w.heap.size (.slice A m cp) L m (x, y, z) wr.heap.size 1 rfl O2.out LM.out rfl LIT.out (by omega) B2.out.size ?_; intro gs cq x9 ho hg hat hlt2; have ZO := Lib.hid ho; have ZB := Lib.hid (B2.out.grown hg B2.out.size (fun k e => (O2.out.lt k e).1)); clear ho hg hat hlt2))
                go_roundw
                case rel => exact ⟨z + 1, by omega, by go_num, Lib.hid ⟨ZB.out, by rw [E.out]; exact ZO.out⟩⟩
                case measure => simp [intOf]; omega
              have x1B : ((x : Int) == 1) = false := by rw [beq_eq_false_iff_ne]; omega
              by_cases x0 : x = 0
              · have x0B : ((x : Int) == 0) = true := by rw [beq_iff_eq]; omega
                by_cases y1 : y = 1
                · have E := Lib.hid (SY.out (by subst y1 x0; rfl))
                  have y1B : ((y : Int) == 1) = true := by rw [beq_iff_eq]; omega
                  clear SY SN x0 y1 x1
                  go_wp2_with (first | (refine wpList_build_t rfl (.tmp 48) rfl (x, y, z) rfl ?_) | (at_builtin; refine wpList_push_t rfl (.tmp 44) (.tmp 49) rfl w.heap.size (.slice A m cp) L m (x, y, z) wr.heap.size 1 rfl O2.out LM.out rfl LIT.out (by omega) B2.out.size ?_; intro gs cq x9 ho hg hat hlt2; have ZO := Lib.hid ho; have ZB := Lib.hid (B2.out.grown hg B2.out.size (fun k e => (O2.out.lt k e).1)); clear ho hg hat hlt2))
                  go_roundw
                  case rel => exact ⟨z + 1, by omega, by go_num, Lib.hid ⟨ZB.out, by rw [E.out]; exact ZO.out⟩⟩
                  case measure => simp [intOf]; omega
                have y1B : ((y : Int) == 1) = false := by rw [beq_eq_false_iff_ne]; omega
                by_cases y0 : y = 0
                · have y0B : ((y : Int) == 0) = true := by rw [beq_iff_eq]; omega
                  by_cases z1 : z = 1
                  · have E := Lib.hid (SY.out (by subst z1 y0 x0; rfl))
                    have z1B : ((z : Int) == 1) = true := by rw [beq_iff_eq]; omega
                    clear SY SN x0 y0 z1 x1 y1
                    go_wp2_with (first | (refine wpList_build_t rfl (.tmp 48) rfl (x, y, z) rfl ?_) | (at_builtin; refine wpList_push_t rfl (.tmp 44) (.tmp 49) rfl w.heap.size (.slice A m cp) L m (x, y, z) wr.heap.size 1 rfl O2.out LM.out rfl LIT.out (by omega) B2.out.size ?_; intro gs cq x9 ho hg hat hlt2; have ZO := Lib.hid ho; have ZB := Lib.hid (B2.out.grown hg B2.out.size (fun k e => (O2.out.lt k e).1)); clear ho hg hat hlt2))
                    go_roundw
                    case rel => exact ⟨z + 1, by omega, by go_num, Lib.hid ⟨ZB.out, by rw [E.out]; exact ZO.out⟩⟩
                    case measure => simp [intOf]; omega
                  · have E := Lib.hid (SN.out (by subst y0 x0; exact z1))
                    have z1B : ((z : Int) == 1) = false := by rw [beq_eq_false_iff_ne]; omega
                    clear SY SN x0 y0 z1 x1 y1
                    go_wp2
                    go_roundw
                    case rel => exact ⟨z + 1, by omega, by go_num, Lib.hid ⟨HB.out, by rw [E.out]; exact HO.out⟩⟩
                    case measure => simp [intOf]; omega
                · have E := Lib.hid (SN.out (by subst x0; unfold ld; simp only [ne_eq, not_true_eq_false, if_false, y0, not_false_eq_true, if_true]; exact y1))
                  have y0B : ((y : Int) == 0) = false := by rw [beq_eq_false_iff_ne]; omega
                  clear SY SN x0 y0 x1 y1
                  go_wp2
                  go_roundw
                  case rel => exact ⟨z + 1, by omega, by go_num, Lib.hid ⟨HB.out, by rw [E.out]; exact HO.out⟩⟩
                  case measure => simp [intOf]; omega
              · have E := Lib.hid (SN.out (by unfold ld; simp only [ne_eq, x0, not_false_eq_true, if_true]; exact x1))
                have x0B : ((x : Int) == 0) = false := by rw [beq_eq_false_iff_ne]; omega
                clear SY SN x0 x1
                go_wp2
                go_roundw
                case rel => exact ⟨z + 1, by omega, by go_num, Lib.hid ⟨HB.out, by rw [E.out]; exact HO.out⟩⟩
                case measure => simp [intOf]; omega
            · obtain rfl : z = q := by omega
              have zI : ¬ (z : Int) < (z : Int) := by omega
              rw [show (x * z + y) * z + z = (x * z + (y + 1)) * z by rw [← Nat.add_assoc, Nat.succ_mul]] at H
              go_wp2
              go_roundw
              case rel => exact ⟨y + 1, by omega, by go_num, H⟩
              case measure => simp [intOf]; omega
        · obtain rfl : y = q := by omega
          have zI : ¬ (y : Int) < (y : Int) := by omega
          rw [show (x * y + y) * y = (x + 1) * y * y by rw [Nat.succ_mul]] at H
          go_wp2
          go_roundw
          case rel => exact ⟨x + 1, by omega, by go_num, H⟩
          case measure => simp [intOf]; omega
    · obtain rfl : x = q := by omega
      have zI : ¬ (x : Int) < (x : Int) := by omega
      have HB := Lib.hid H.out.1
      have HO := Lib.hid H.out.2
      clear H
      go_wp2
      go_ret
      exact ⟨_, rfl, HO.out, HB.out⟩
end Go.Proofs.YtnnacofjogfkeaaDoor
