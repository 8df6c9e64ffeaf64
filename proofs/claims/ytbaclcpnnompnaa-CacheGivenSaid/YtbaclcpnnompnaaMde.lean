/- Media: Erase, of the program and of the reference. WRITTEN BY gen_Mde.py. -/
import Derived.Test.YtbaclcpnnompnaaMdd
namespace Go.Proofs.Ytbaclcpnnompnaa
open Go Go.RowKit Med
set_option linter.unusedVariables false
set_option linter.unusedSimpArgs false
set_option maxHeartbeats 4000000 in
set_option maxRecDepth 100000 in
theorem per_any {w : World} {M X c R B T S O : Nat} {l : List Sec} (h : PMd w M X c R B T S O l) (x : Int) : Calls Try.prog 30 #[.pointer (some ⟨M, 0, none⟩), .int .i64 x] w (wrPost 84 81 M X c R B T S O (erE B x) (er R B T S l x) w) := by
  have HM := Lib.hid h
  have hg := Geo.gv_nat h.v
  have VV := Lib.hid h.v
  have LL := h.len
  obtain ⟨c0, c1, c2, c3, c4⟩ := h.geo
  have q2 := Geo.ts_le hg.2.2.2.2.1 hg.2.2.2.2.2.2.1
  have q1 := Geo.ts_pos hg.2.2.2.1 hg.2.2.2.2.2.1
  have AD := Lib.hid (paddr_any (R : Int) B T S O x 0 0 w)
  have BD := Lib.hid fun w => pband_any (R : Int) B T S O w
  rw [Geo.band_nat h.v] at BD
  by_cases hx : 0 ≤ x ∧ x < B
  · obtain ⟨x, rfl⟩ : ∃ n : Nat, x = n := ⟨x.toNat, by omega⟩
    unfold erE er
    rw [if_pos hx, if_pos hx, Int.toNat_natCast]
    have ea := Geo.addr_in h.v (x := x) (y := 0) (z := 0) (by omega) (by omega) (by omega)
    rw [show ((x * T + 0) * S + 0) = x * (T * S) by rw [Nat.add_zero, Nat.add_zero, Nat.mul_assoc]] at ea
    have ea' : Geo.addr R B T S O x 0 0 = (((R + x * (T * S) : Nat) : Int), 0) := ea
    rw [ea'] at AD
    clear ea ea'
    obtain ⟨q, hq⟩ : ∃ q, T * S = q := ⟨_, rfl⟩
    obtain ⟨f, hf⟩ : ∃ f, R + x * q = f := ⟨_, rfl⟩
    have QQ := Lib.hid hq
    have QF := Lib.hid hf
    rw [hq] at q1 q2 LL
    have xq := Nat.mul_le_mul_right q (show x + 1 ≤ B by omega)
    rw [Nat.add_mul, Nat.one_mul] at xq
    have FQ := Lib.hid (show f + q ≤ l.length by omega)
    have xb : x < 64 := by omega
    have fb : f ≤ 100000 := by have := h.small; omega
    rw [hq] at BD
    rw [hq, hf] at AD
    rw [hq, hf]
    clear h hq hf xq hg hx
    go_enter Try.func30, Try.ntmps30
    go_wp2_with fail
    refine AD.out.mono ?_
    rintro e w0 ⟨rfl, hb⟩
    have M0 := Lib.hid (HM.out.fw hb)
    replace c0 := ce_fw c0 hb
    replace c1 := ce_fw c1 hb
    replace c2 := ce_fw c2 hb
    replace c3 := ce_fw c3 hb
    replace c4 := ce_fw c4 hb
    have B0 := Lib.hid hb
    clear hb
    go_wp2_with fail
    refine (BD.out _).mono ?_
    rintro e w1 ⟨rfl, hb⟩
    have M1 := Lib.hid (M0.out.fw hb)
    have C1 := Lib.hid ((below_chg B0.out (fun j => j = X)).trans (below_chg hb _))
    clear hb c0 c1 c2 c3 c4 AD BD B0 M0 HM VV
    go_wp2_with fail
    go_loopw [7, 26] (fun x i wr => ∃ k : Nat, k ≤ q ∧ i = .int .i64 (k : Int) ∧ Hid (PMd wr M X c R B T S O (wipe l f k) ∧ Chg (fun j => j = X) w1 wr)) (fun x i _ => q - (intOf i).toNat)
    case atStart => exact ⟨0, Nat.zero_le _, rfl, Lib.hid ⟨M1.out, Chg.refl _ _⟩⟩
    case round =>
      obtain ⟨k, hk, rfl, V⟩ := hrel
      have CW := Lib.hid (C1.out.trans V.out.2)
      by_cases hlt : k < q
      · have kI : (k : Int) < (q : Int) := by omega
        obtain ⟨j, hj⟩ : ∃ j, f + k = j := ⟨_, rfl⟩
        have KT := Lib.hid (wipe_succ l f k)
        rw [hj] at KT
        have JF := Lib.hid (show (f : Int) + (k : Int) = (j : Int) by omega)
        have c5 := V.out.1.c5
        have c0 := V.out.1.geo.1
        have le : (wipe l f k).length = l.length := wipe_len _ _ _
        have jl : j < (wipe l f k).length := by rw [le]; have := FQ.out; omega
        have sm := V.out.1.small
        have k0 := V.out.1.sx.c0 jl
        have k1 := V.out.1.sx.c1 jl
        have f0 := V.out.1.sx.frz (j * 2)
        have f1 := V.out.1.sx.frz (j * 2 + 1)
        obtain ⟨w5, hw5⟩ : ∃ w5, ((wr.setCell ⟨X, j * 2, none⟩ (.int .i64 0)).setCell ⟨X, j * 2 + 1, none⟩ (.string ⟨#[]⟩)) = w5 := ⟨_, rfl⟩
        have H5 := Lib.hid hw5
        have M5 : Hid (PMd w5 M X c R B T S O (wipe l f (k + 1))) := Lib.hid (by rw [KT.out]; subst hw5; exact (V.out.1.set j Med.blank (Nat.zero_le _)))
        have C5 : Hid (Chg (fun j => j = X) w1 w5) := Lib.hid (by subst hw5; exact (V.out.2.trans (Md.setChg _ X j (.int .i64 0) (.string ByteArray.empty))).trans (Chg.refl _ _))
        generalize (wipe l f k)[j].1 = x1 at *
        generalize (wipe l f k)[j].2 = x2 at *
        generalize (wipe l f k).length = m at *
        clear hw5 KT le V CW
        go_wp2_with (first | rw [JF.out])
        rw [H5.out]
        go_roundw
        case rel => exact ⟨k + 1, by omega, by go_num, Lib.hid ⟨M5.out, C5.out⟩⟩
        case measure => simp [intOf]; omega
      · obtain rfl : k = q := by omega
        have kI : ¬ (k : Int) < (k : Int) := by omega
        have dk : decide ((k : Int) < (k : Int)) = false := decide_eq_false kI
        have ME := Lib.hid V.out.1
        clear V
        go_wp2_with fail
        go_ret
        exact ⟨rfl, ME.out, CW.out⟩
  · unfold erE er
    rw [if_neg hx, if_neg hx]
    rw [Geo.addr_out h.v (x := x) (y := 0) (z := 0) (fun h2 => hx ⟨h2.1, h2.2.1⟩)] at AD
    clear h hx hg
    go_enter Try.func30, Try.ntmps30
    go_wp2_with fail
    refine AD.out.mono ?_
    rintro e w0 ⟨rfl, hb⟩
    have M0 := Lib.hid (HM.out.fw hb)
    have C0 := Lib.hid (below_chg hb (fun j => j = X))
    clear hb
    go_wp2_with fail
    go_ret
    exact ⟨rfl, M0.out, C0.out⟩
set_option maxHeartbeats 4000000 in
set_option maxRecDepth 100000 in
theorem rer_any {w : World} {M X c R B T S O : Nat} {l : List Sec} (h : RMd w M X c R B T S O l) (x : Int) : Calls Try.prog 44 #[.pointer (some ⟨M, 0, none⟩), .int .i64 x] w (wrPost 73 92 M X c R B T S O (erE B x) (er R B T S l x) w) := by
  have HM := Lib.hid h
  have hg := Geo.gv_nat h.v
  have VV := Lib.hid h.v
  have LL := h.len
  obtain ⟨c0, c1, c2, c3, c4⟩ := h.geo
  have q2 := Geo.ts_le hg.2.2.2.2.1 hg.2.2.2.2.2.2.1
  have q1 := Geo.ts_pos hg.2.2.2.1 hg.2.2.2.2.2.1
  have BD := Lib.hid fun w => rband_any (R : Int) B T S O w
  rw [Geo.band_nat h.v] at BD
  by_cases h0 : 0 ≤ x
  · obtain ⟨x, rfl⟩ : ∃ n : Nat, x = n := ⟨x.toNat, by omega⟩
    by_cases h1 : x < B
    · have hx : 0 ≤ (x : Int) ∧ (x : Int) < B := ⟨by omega, by omega⟩
      unfold erE er
      rw [if_pos hx, if_pos hx, Int.toNat_natCast]
      obtain ⟨q, hq⟩ : ∃ q, T * S = q := ⟨_, rfl⟩
      obtain ⟨f, hf⟩ : ∃ f, R + x * q = f := ⟨_, rfl⟩
      have QQ := Lib.hid hq
      have QF := Lib.hid hf
      rw [hq] at q1 q2 LL
      have xq := Nat.mul_le_mul_right q (show x + 1 ≤ B by omega)
      rw [Nat.add_mul, Nat.one_mul] at xq
      have FQ := Lib.hid (show f + q ≤ l.length by omega)
      have xb : x < 64 := by omega
      have fb : f ≤ 100000 := by have := h.small; omega
      obtain ⟨p, hp⟩ : ∃ p, x * q = p := ⟨_, rfl⟩
      have PQ := Lib.hid (show (x : Int) * (q : Int) = (p : Int) by rw [← hp]; push_cast; rfl)
      have RP := Lib.hid (show (R : Int) + (p : Int) = (f : Int) by rw [← hf, ← hp]; push_cast; rfl)
      have pb : p ≤ 100000 ∧ R ≤ 100000 := by omega
      rw [hq] at BD
      rw [hq, hf]
      have dB : decide ((B : Int) ≤ (x : Int)) = false := decide_eq_false (by omega)
      have d0 : decide ((x : Int) < 0) = false := decide_eq_false (by omega)
      clear h hq hf xq hg hx hp
      go_enter Try.func44, Try.ntmps44
      go_wp2_with fail
      refine (BD.out _).mono ?_
      rintro e w1 ⟨rfl, hb⟩
      have M1 := Lib.hid (HM.out.fw hb)
      have C1 := Lib.hid (below_chg hb (fun j => j = X))
      clear hb c0 c1 c2 c3 c4 BD HM VV
      go_wp2_with fail
      go_loopw [6] (fun i wr => ∃ k : Nat, k ≤ q ∧ i = .int .i64 (k : Int) ∧ Hid (RMd wr M X c R B T S O (wipe l f k) ∧ Chg (fun j => j = X) w1 wr)) (fun i _ => q - (intOf i).toNat)
      case atStart => exact ⟨0, Nat.zero_le _, rfl, Lib.hid ⟨M1.out, Chg.refl _ _⟩⟩
      case round =>
        obtain ⟨k, hk, rfl, V⟩ := hrel
        have CW := Lib.hid (C1.out.trans V.out.2)
        by_cases hlt : k < q
        · have kI : (k : Int) < (q : Int) := by omega
          obtain ⟨j, hj⟩ : ∃ j, f + k = j := ⟨_, rfl⟩
          have KT := Lib.hid (wipe_succ l f k)
          rw [hj] at KT
          have JF := Lib.hid (show (f : Int) + (k : Int) = (j : Int) by omega)
          have c5 := V.out.1.c5
          have c0 := V.out.1.geo.1
          have le : (wipe l f k).length = l.length := wipe_len _ _ _
          have jl : j < (wipe l f k).length := by rw [le]; have := FQ.out; omega
          have sm := V.out.1.small
          have k0 := V.out.1.sx.c0 jl
          have k1 := V.out.1.sx.c1 jl
          have f0 := V.out.1.sx.frz (j * 2)
          have f1 := V.out.1.sx.frz (j * 2 + 1)
          obtain ⟨w5, hw5⟩ : ∃ w5, ((wr.setCell ⟨X, j * 2, none⟩ (.int .i64 0)).setCell ⟨X, j * 2 + 1, none⟩ (.string ⟨#[]⟩)).drew = w5 := ⟨_, rfl⟩
          have H5 := Lib.hid hw5
          have M5 : Hid (RMd w5 M X c R B T S O (wipe l f (k + 1))) := Lib.hid (by rw [KT.out]; subst hw5; exact (V.out.1.set j Med.blank (Nat.zero_le _)).fw ((Below.refl _ _).drew))
          have C5 : Hid (Chg (fun j => j = X) w1 w5) := Lib.hid (by subst hw5; exact (V.out.2.trans (Md.setChg _ X j (.int .i64 0) (.string ByteArray.empty))).trans (below_chg ((Below.refl _ _).drew) _))
          generalize (wipe l f k)[j].1 = x1 at *
          generalize (wipe l f k)[j].2 = x2 at *
          generalize (wipe l f k).length = m at *
          clear hw5 KT le V CW
          have pq : IntKind.i64.wrap ((x : Int) * (q : Int)) = (p : Int) := by rw [PQ.out, IntKind.wrap_i64]; omega
          have rp : IntKind.i64.wrap ((R : Int) + (p : Int)) = (f : Int) := by rw [RP.out, IntKind.wrap_i64]; omega
          have jf : IntKind.i64.wrap ((f : Int) + (k : Int)) = (j : Int) := by rw [JF.out, IntKind.wrap_i64]; omega
          go_wp2_with fail
          refine wp_region_still_tail 16 (by kernel_rfl) (by kernel_rfl) ?_
          simp only [List.take_succ_cons, List.take_zero, List.drop_succ_cons, List.drop_zero]
          repeat still_step
          refine wpStill_nil ?_
          change wpList _ _ _ _ _ wr.drew
          go_wp2_with fail
          rw [H5.out]
          go_roundw
          case rel => exact ⟨k + 1, by omega, by go_num, Lib.hid ⟨M5.out, C5.out⟩⟩
          case measure => simp [intOf]; omega
        · obtain rfl : k = q := by omega
          have kI : ¬ (k : Int) < (k : Int) := by omega
          have dk : decide ((k : Int) < (k : Int)) = false := decide_eq_false kI
          have ME := Lib.hid V.out.1
          clear V
          go_wp2_with fail
          go_ret
          exact ⟨rfl, ME.out, CW.out⟩
    · have hx : ¬ (0 ≤ (x : Int) ∧ (x : Int) < B) := by omega
      unfold erE er
      rw [if_neg hx, if_neg hx]
      have dB : decide ((B : Int) ≤ (x : Int)) = true := decide_eq_true (by omega)
      have d0 : decide ((x : Int) < 0) = false := decide_eq_false (by omega)
      clear h hx hg
      go_enter Try.func44, Try.ntmps44
      go_wp2_with fail
      go_ret
      exact ⟨rfl, HM.out, Chg.refl _ _⟩
  · have hx : ¬ (0 ≤ x ∧ x < B) := by omega
    unfold erE er
    rw [if_neg hx, if_neg hx]
    have d0 : decide (x < (0 : Int)) = true := decide_eq_true (by omega)
    clear h hx hg
    go_enter Try.func44, Try.ntmps44
    go_wp2_with fail
    go_ret
    exact ⟨rfl, HM.out, Chg.refl _ _⟩
end Go.Proofs.Ytbaclcpnnompnaa
