/- Media: Write, of the program and of the reference. WRITTEN BY gen_Mdd.py. -/
import Derived.Test.YtbaclcpnnompnaaMdc
import Derived.Test.YtbaclcpnnompnaaKp
import Derived.StillTailTactics
import Derived.StillTail
namespace Go.Proofs.Ytbaclcpnnompnaa
open Go Go.RowKit Med
set_option linter.unusedVariables false
set_option linter.unusedSimpArgs false
/-- What Write and Erase return. -/
def wrPost (tm ts : TypeId) (M X c R B T S O : Nat) (E : Int) (l : List Sec) (w : World) (e : Ending) (w' : World) : Prop := e = .returned (.int .i64 E) ∧ Md tm ts w' M X c R B T S O l ∧ Chg (fun j => j = X) w w'
set_option maxHeartbeats 4000000 in
set_option maxRecDepth 100000 in
theorem pwr_any {w : World} {M X c R B T S O : Nat} {l : List Sec} (h : PMd w M X c R B T S O l) (a : Int) (v : Value) (b : List Nat) (hb : Bs w v b) : Calls Try.prog 26 #[.pointer (some ⟨M, 0, none⟩), .int .i64 a, v] w (wrPost 84 81 M X c R B T S O (wrE l a b.length) (wr (Geo.shadow R B T S O a) l a b.length (strOf b)) w) := by
  have H := Lib.hid (phas_any h a)
  have c5 := h.c5
  have sm := h.small
  obtain ⟨A, cc, rfl⟩ := hb.form
  by_cases hc : 0 ≤ a ∧ a < l.length
  · rw [decide_eq_true hc] at H
    by_cases h64 : 64 < b.length
    · have e1 : wrE l a b.length = 7 := by unfold wrE; rw [if_pos hc, if_pos h64]
      have e2 : wr (Geo.shadow R B T S O a) l a b.length (strOf b) = l := by unfold wr; rw [if_neg (by rw [e1]; decide)]
      rw [e1, e2]
      have HM := Lib.hid h
      have d1 : decide ((64 : Int) < (b.length : Int)) = true := decide_eq_true (by omega)
      clear h hc e1 e2 hb
      generalize b.length = m at *
      go_enter Try.func26, Try.ntmps26
      go_wp2_with fail
      refine H.out.mono ?_
      rintro e w1 ⟨rfl, rfl⟩
      go_wp2_with fail
      go_ret
      exact ⟨rfl, HM.out, Chg.refl _ _⟩
    · obtain ⟨ad, rfl⟩ : ∃ ad : Nat, a = ad := ⟨a.toNat, by omega⟩
      have hk : ad < l.length := by omega
      have e1 : wrE l (ad : Int) b.length = 0 := by unfold wrE; rw [if_pos hc, if_neg h64]
      have e2 : wr (Geo.shadow R B T S O ad) l ad b.length (strOf b) = kill (l.set ad (1, strOf b)) (Geo.shadow R B T S O ad) := by unfold wr; rw [if_pos e1]; rfl
      rw [e1, e2]
      obtain ⟨w2, hw2⟩ : ∃ w2, (((w.setCell ⟨X, ad * 2, none⟩ (.int .i64 1)).setCell ⟨X, ad * 2 + 1, none⟩ (.string (strOf b))).drew) = w2 := ⟨_, rfl⟩
      have HW := Lib.hid hw2
      have HM : Hid (PMd w2 M X c R B T S O (l.set ad (1, strOf b))) := Lib.hid (by subst hw2; exact (h.set ad (1, strOf b) (by show (strOf b).size ≤ 64; rw [strOf_size]; omega)).fw ((Below.refl _ _).drew))
      have CS : Hid (Chg (fun j => j = X) w w2) := Lib.hid (by subst hw2; exact (Md.setChg w X ad (.int .i64 1) (.string (strOf b))).trans (below_chg ((Below.refl _ _).drew) _))
      have VV := Lib.hid h.v
      have SI := Lib.hid (Geo.shadow_in h.v (ad : Int))
      have LL := Lib.hid h.len
      clear hw2
      have f0 := h.sx.frz (ad * 2)
      have f1 := h.sx.frz (ad * 2 + 1)
      have k0 := h.sx.c0 hk
      have k1 := h.sx.c1 hk
      have CV := Lib.hid (conv_bs (P := Try.prog) (w := w.drew) 36 5 9 Try.underlying36 Try.underlying5 Try.underlying9 hb)
      have d1 : decide ((64 : Int) < (b.length : Int)) = false := decide_eq_false (by omega)
      clear h hc e1 e2 hb
      generalize b.length = m at *
      go_enter Try.func26, Try.ntmps26
      go_wp2_with fail
      refine H.out.mono ?_
      rintro e w1 ⟨rfl, rfl⟩
      go_wp2_with fail
      refine wp_region_still_tail 8 (by kernel_rfl) (by kernel_rfl) ?_
      simp only [List.take_succ_cons, List.take_zero, List.drop_succ_cons, List.drop_zero]
      repeat still_step
      refine wpStill_step (fun K hK => ?_)
      go_simp
      rw [CV.out]
      go_simp
      refine hK _ ?_
      clear hK K
      repeat still_step
      refine wpStill_nil ?_
      change wpList _ _ _ _ _ w.drew
      obtain ⟨c0, c1, c2, c3, c4⟩ := HM.out.geo
      rw [← HW.out] at c0 c1 c2 c3 c4
      go_wp2_with fail
      rw [HW.out]
      refine (pshadow_new (R : Int) B T S O (ad : Int) w2).mono ?_
      rintro e w3 ⟨v, rfl, ⟨hs, hn⟩, hb⟩
      have M3 := Lib.hid (HM.out.fw hb)
      have C3 := Lib.hid (CS.out.trans (below_chg hb _))
      have L3 := Lib.hid (Geo.shadow_len VV.out (ad : Int))
      have WX := Lib.hid (show X < w2.heap.size from HM.out.sx.lt)
      obtain ⟨A1, a1, hv⟩ := is_form hs
      obtain ⟨sh, hsh⟩ : ∃ sh, Geo.shadow (R : Int) B T S O (ad : Int) = sh := ⟨_, rfl⟩
      obtain ⟨l2, hl2⟩ : ∃ l2, l.set ad (1, strOf b) = l2 := ⟨_, rfl⟩
      have L2 := Lib.hid (show l2.length = R + B * (T * S) by rw [← hl2, List.length_set]; exact LL.out)
      rw [hsh] at hs hv L3 SI ⊢
      rw [hl2] at M3 ⊢
      obtain ⟨n, hn2⟩ : ∃ n, sh.length = n := ⟨_, rfl⟩
      have EN := Lib.hid hn2
      rw [hn2] at hv L3
      subst hv
      have IS := Lib.hid hs
      have NB := Lib.hid (show ∀ b off, A1 = some ⟨b, off, none⟩ → b ≠ X by rintro b off rfl; have := hn b rfl; have := WX.out; omega)
      have QS := Lib.hid hsh
      have QL := Lib.hid hl2
      clear c0 c1 c2 c3 c4 hs hn hb hsh hl2 hn2 HM CS HW LL VV f0 f1 k0 k1 CV c5 hk sm H d1
      have n3 : n ≤ 3 := L3.out
      go_wp2_with fail
      go_loopw [8, 34] (fun x i wr => ∃ k : Nat, k ≤ n ∧ i = .int .i64 (k : Int) ∧ Hid (PMd wr M X c R B T S O (kill l2 (sh.take k)) ∧ Chg (fun j => j = X) w3 wr)) (fun x i _ => n - (intOf i).toNat)
      case atStart => exact ⟨0, Nat.zero_le _, rfl, Lib.hid ⟨M3.out, Chg.refl _ _⟩⟩
      case round =>
        obtain ⟨k, hk, rfl, V⟩ := hrel
        have CW := Lib.hid (C3.out.trans V.out.2)
        by_cases hlt : k < n
        · have kI : (k : Int) < (n : Int) := by omega
          obtain ⟨gb, off, ha, hcell⟩ := is_nth IS.out hlt
          have hb := World.block_lt_of_cell? _ _ hcell
          have nx := NB.out gb off ha
          have hcell := (World.cell?_of_block (V.out.2.block gb hb nx)).trans hcell
          subst ha
          have SK := SI.out (sh.getD k 0) (by rw [getD_in (by rw [EN.out]; exact hlt)]; exact List.getElem_mem _)
          obtain ⟨j, hj⟩ : ∃ j : Nat, sh.getD k 0 = (j : Int) := ⟨(sh.getD k 0).toNat, by omega⟩
          rw [hj] at hcell SK
          have KT := Lib.hid (kill_take l2 sh (k := k) (by rw [EN.out]; exact hlt) kill kill_snoc)
          rw [hj] at KT
          have c5 := V.out.1.c5
          have le : (kill l2 (sh.take k)).length = l2.length := kill_len _ _
          rw [L2.out] at le
          have jl : j < (kill l2 (sh.take k)).length := by rw [le]; omega
          have sm := V.out.1.small
          have k0 := V.out.1.sx.c0 jl
          have k1 := V.out.1.sx.c1 jl
          have f0 := V.out.1.sx.frz (j * 2)
          have f1 := V.out.1.sx.frz (j * 2 + 1)
          obtain ⟨w5, hw5⟩ : ∃ w5, ((wr.setCell ⟨X, j * 2, none⟩ (.int .i64 2)).setCell ⟨X, j * 2 + 1, none⟩ (.string ⟨#[]⟩)) = w5 := ⟨_, rfl⟩
          have H5 := Lib.hid hw5
          have M5 : Hid (PMd w5 M X c R B T S O (kill l2 (sh.take (k + 1)))) := Lib.hid (by rw [KT.out]; subst hw5; exact (V.out.1.set j (2, ByteArray.empty) (Nat.zero_le _)))
          have C5 : Hid (Chg (fun j => j = X) w3 w5) := Lib.hid (by subst hw5; exact (V.out.2.trans (Md.setChg _ X j (.int .i64 2) (.string ByteArray.empty))).trans (Chg.refl _ _))
          generalize (kill l2 (sh.take k))[j].1 = x1 at *
          generalize (kill l2 (sh.take k))[j].2 = x2 at *
          generalize (kill l2 (sh.take k)).length = m at *
          clear hb hj hw5 KT le V CW SK
          go_wp2_with fail
          rw [H5.out]
          go_roundw
          case rel => exact ⟨k + 1, by omega, by go_num, Lib.hid ⟨M5.out, C5.out⟩⟩
          case measure => simp [intOf]; omega
        · obtain rfl : k = n := by omega
          have kI : ¬ (k : Int) < (k : Int) := by omega
          have dk : decide ((k : Int) < (k : Int)) = false := decide_eq_false kI
          have ME : Hid (PMd wr M X c R B T S O (kill (l.set ad (1, strOf b)) (Geo.shadow (R : Int) B T S O (ad : Int)))) := Lib.hid (by rw [QS.out, QL.out]; have := V.out.1; rw [List.take_of_length_le (by rw [EN.out]; exact Nat.le_refl _)] at this; exact this)
          clear V
          go_wp2_with fail
          go_ret
          exact ⟨rfl, ME.out, CW.out⟩
  · have e1 : wrE l a b.length = 2 := by unfold wrE; rw [if_neg hc]
    have e2 : wr (Geo.shadow R B T S O a) l a b.length (strOf b) = l := by unfold wr; rw [if_neg (by rw [e1]; decide)]
    rw [e1, e2]
    rw [decide_eq_false hc] at H
    have HM := Lib.hid h
    clear h hc e1 e2 hb
    generalize b.length = m at *
    go_enter Try.func26, Try.ntmps26
    go_wp2_with fail
    refine H.out.mono ?_
    rintro e w1 ⟨rfl, rfl⟩
    go_wp2_with fail
    go_ret
    exact ⟨rfl, HM.out, Chg.refl _ _⟩
set_option maxHeartbeats 4000000 in
set_option maxRecDepth 100000 in
theorem rwr_any {w : World} {M X c R B T S O : Nat} {l : List Sec} (h : RMd w M X c R B T S O l) (a : Int) (v : Value) (b : List Nat) (hb : Bs w v b) : Calls Try.prog 45 #[.pointer (some ⟨M, 0, none⟩), .int .i64 a, v] w (wrPost 73 92 M X c R B T S O (wrE l a b.length) (wr (Geo.shadow R B T S O a) l a b.length (strOf b)) w) := by
  have H := Lib.hid (rhas_any h a)
  have c5 := h.c5
  have sm := h.small
  obtain ⟨A, cc, rfl⟩ := hb.form
  by_cases hc : 0 ≤ a ∧ a < l.length
  · rw [decide_eq_true hc] at H
    by_cases h64 : 64 < b.length
    · have e1 : wrE l a b.length = 7 := by unfold wrE; rw [if_pos hc, if_pos h64]
      have e2 : wr (Geo.shadow R B T S O a) l a b.length (strOf b) = l := by unfold wr; rw [if_neg (by rw [e1]; decide)]
      rw [e1, e2]
      have HM := Lib.hid h
      have d1 : decide ((64 : Int) < (b.length : Int)) = true := decide_eq_true (by omega)
      clear h hc e1 e2 hb
      generalize b.length = m at *
      go_enter Try.func45, Try.ntmps45
      go_wp2_with fail
      refine H.out.mono ?_
      rintro e w1 ⟨rfl, rfl⟩
      go_wp2_with fail
      go_ret
      exact ⟨rfl, HM.out, Chg.refl _ _⟩
    · obtain ⟨ad, rfl⟩ : ∃ ad : Nat, a = ad := ⟨a.toNat, by omega⟩
      have hk : ad < l.length := by omega
      have e1 : wrE l (ad : Int) b.length = 0 := by unfold wrE; rw [if_pos hc, if_neg h64]
      have e2 : wr (Geo.shadow R B T S O ad) l ad b.length (strOf b) = kill (l.set ad (1, strOf b)) (Geo.shadow R B T S O ad) := by unfold wr; rw [if_pos e1]; rfl
      rw [e1, e2]
      obtain ⟨w2, hw2⟩ : ∃ w2, (((w.setCell ⟨X, ad * 2, none⟩ (.int .i64 1)).setCell ⟨X, ad * 2 + 1, none⟩ (.string (strOf b))).drew) = w2 := ⟨_, rfl⟩
      have HW := Lib.hid hw2
      have HM : Hid (RMd w2 M X c R B T S O (l.set ad (1, strOf b))) := Lib.hid (by subst hw2; exact (h.set ad (1, strOf b) (by show (strOf b).size ≤ 64; rw [strOf_size]; omega)).fw ((Below.refl _ _).drew))
      have CS : Hid (Chg (fun j => j = X) w w2) := Lib.hid (by subst hw2; exact (Md.setChg w X ad (.int .i64 1) (.string (strOf b))).trans (below_chg ((Below.refl _ _).drew) _))
      have VV := Lib.hid h.v
      have SI := Lib.hid (Geo.shadow_in h.v (ad : Int))
      have LL := Lib.hid h.len
      clear hw2
      have f0 := h.sx.frz (ad * 2)
      have f1 := h.sx.frz (ad * 2 + 1)
      have k0 := h.sx.c0 hk
      have k1 := h.sx.c1 hk
      have CV := Lib.hid (conv_bs (P := Try.prog) (w := w.drew) 36 5 9 Try.underlying36 Try.underlying5 Try.underlying9 hb)
      have d1 : decide ((64 : Int) < (b.length : Int)) = false := decide_eq_false (by omega)
      clear h hc e1 e2 hb
      generalize b.length = m at *
      go_enter Try.func45, Try.ntmps45
      go_wp2_with fail
      refine H.out.mono ?_
      rintro e w1 ⟨rfl, rfl⟩
      go_wp2_with fail
      refine wp_region_still_tail 8 (by kernel_rfl) (by kernel_rfl) ?_
      simp only [List.take_succ_cons, List.take_zero, List.drop_succ_cons, List.drop_zero]
      repeat still_step
      refine wpStill_step (fun K hK => ?_)
      go_simp
      rw [CV.out]
      go_simp
      refine hK _ ?_
      clear hK K
      repeat still_step
      refine wpStill_nil ?_
      change wpList _ _ _ _ _ w.drew
      obtain ⟨c0, c1, c2, c3, c4⟩ := HM.out.geo
      rw [← HW.out] at c0 c1 c2 c3 c4
      go_wp2_with fail
      rw [HW.out]
      refine (rshadow_new (R : Int) B T S O (ad : Int) w2).mono ?_
      rintro e w3 ⟨v, rfl, ⟨hs, hn⟩, hb⟩
      have M3 := Lib.hid (HM.out.fw hb)
      have C3 := Lib.hid (CS.out.trans (below_chg hb _))
      have L3 := Lib.hid (Geo.shadow_len VV.out (ad : Int))
      have WX := Lib.hid (show X < w2.heap.size from HM.out.sx.lt)
      obtain ⟨A1, a1, hv⟩ := is_form hs
      obtain ⟨sh, hsh⟩ : ∃ sh, Geo.shadow (R : Int) B T S O (ad : Int) = sh := ⟨_, rfl⟩
      obtain ⟨l2, hl2⟩ : ∃ l2, l.set ad (1, strOf b) = l2 := ⟨_, rfl⟩
      have L2 := Lib.hid (show l2.length = R + B * (T * S) by rw [← hl2, List.length_set]; exact LL.out)
      rw [hsh] at hs hv L3 SI ⊢
      rw [hl2] at M3 ⊢
      obtain ⟨n, hn2⟩ : ∃ n, sh.length = n := ⟨_, rfl⟩
      have EN := Lib.hid hn2
      rw [hn2] at hv L3
      subst hv
      have IS := Lib.hid hs
      have NB := Lib.hid (show ∀ b off, A1 = some ⟨b, off, none⟩ → b ≠ X by rintro b off rfl; have := hn b rfl; have := WX.out; omega)
      have QS := Lib.hid hsh
      have QL := Lib.hid hl2
      clear c0 c1 c2 c3 c4 hs hn hb hsh hl2 hn2 HM CS HW LL VV f0 f1 k0 k1 CV c5 hk sm H d1
      have n3 : n ≤ 3 := L3.out
      go_wp2_with fail
      go_loopw [8] (fun i wr => ∃ k : Nat, k ≤ n ∧ i = .int .i64 (k : Int) ∧ Hid (RMd wr M X c R B T S O (kill l2 (sh.take k)) ∧ Chg (fun j => j = X) w3 wr)) (fun i _ => n - (intOf i).toNat)
      case atStart => exact ⟨0, Nat.zero_le _, rfl, Lib.hid ⟨M3.out, Chg.refl _ _⟩⟩
      case round =>
        obtain ⟨k, hk, rfl, V⟩ := hrel
        have CW := Lib.hid (C3.out.trans V.out.2)
        by_cases hlt : k < n
        · have kI : (k : Int) < (n : Int) := by omega
          obtain ⟨gb, off, ha, hcell⟩ := is_nth IS.out hlt
          have hb := World.block_lt_of_cell? _ _ hcell
          have nx := NB.out gb off ha
          have hcell := (World.cell?_of_block (V.out.2.block gb hb nx)).trans hcell
          subst ha
          have SK := SI.out (sh.getD k 0) (by rw [getD_in (by rw [EN.out]; exact hlt)]; exact List.getElem_mem _)
          obtain ⟨j, hj⟩ : ∃ j : Nat, sh.getD k 0 = (j : Int) := ⟨(sh.getD k 0).toNat, by omega⟩
          rw [hj] at hcell SK
          have KT := Lib.hid (kill_take l2 sh (k := k) (by rw [EN.out]; exact hlt) kill kill_snoc)
          rw [hj] at KT
          have c5 := V.out.1.c5
          have le : (kill l2 (sh.take k)).length = l2.length := kill_len _ _
          rw [L2.out] at le
          have jl : j < (kill l2 (sh.take k)).length := by rw [le]; omega
          have sm := V.out.1.small
          have k0 := V.out.1.sx.c0 jl
          have k1 := V.out.1.sx.c1 jl
          have f0 := V.out.1.sx.frz (j * 2)
          have f1 := V.out.1.sx.frz (j * 2 + 1)
          obtain ⟨w5, hw5⟩ : ∃ w5, ((wr.setCell ⟨X, j * 2, none⟩ (.int .i64 2)).setCell ⟨X, j * 2 + 1, none⟩ (.string ⟨#[]⟩)).drew = w5 := ⟨_, rfl⟩
          have H5 := Lib.hid hw5
          have M5 : Hid (RMd w5 M X c R B T S O (kill l2 (sh.take (k + 1)))) := Lib.hid (by rw [KT.out]; subst hw5; exact (V.out.1.set j (2, ByteArray.empty) (Nat.zero_le _)).fw ((Below.refl _ _).drew))
          have C5 : Hid (Chg (fun j => j = X) w3 w5) := Lib.hid (by subst hw5; exact (V.out.2.trans (Md.setChg _ X j (.int .i64 2) (.string ByteArray.empty))).trans (below_chg ((Below.refl _ _).drew) _))
          generalize (kill l2 (sh.take k))[j].1 = x1 at *
          generalize (kill l2 (sh.take k))[j].2 = x2 at *
          generalize (kill l2 (sh.take k)).length = m at *
          clear hb hj hw5 KT le V CW SK
          go_wp2_with fail
          refine wp_region_still_tail 9 (by kernel_rfl) (by kernel_rfl) ?_
          simp only [List.take_succ_cons, List.take_zero, List.drop_succ_cons, List.drop_zero]
          repeat still_step
          refine wpStill_nil ?_
          change wpList _ _ _ _ _ wr.drew
          go_wp2_with fail
          rw [H5.out]
          go_roundw
          case rel => exact ⟨k + 1, by omega, by go_num, Lib.hid ⟨M5.out, C5.out⟩⟩
          case measure => simp [intOf]; omega
        · obtain rfl : k = n := by omega
          have kI : ¬ (k : Int) < (k : Int) := by omega
          have dk : decide ((k : Int) < (k : Int)) = false := decide_eq_false kI
          have ME : Hid (RMd wr M X c R B T S O (kill (l.set ad (1, strOf b)) (Geo.shadow (R : Int) B T S O (ad : Int)))) := Lib.hid (by rw [QS.out, QL.out]; have := V.out.1; rw [List.take_of_length_le (by rw [EN.out]; exact Nat.le_refl _)] at this; exact this)
          clear V
          go_wp2_with fail
          go_ret
          exact ⟨rfl, ME.out, CW.out⟩
  · have e1 : wrE l a b.length = 2 := by unfold wrE; rw [if_neg hc]
    have e2 : wr (Geo.shadow R B T S O a) l a b.length (strOf b) = l := by unfold wr; rw [if_neg (by rw [e1]; decide)]
    rw [e1, e2]
    rw [decide_eq_false hc] at H
    have HM := Lib.hid h
    clear h hc e1 e2 hb
    generalize b.length = m at *
    go_enter Try.func45, Try.ntmps45
    go_wp2_with fail
    refine H.out.mono ?_
    rintro e w1 ⟨rfl, rfl⟩
    go_wp2_with fail
    go_ret
    exact ⟨rfl, HM.out, Chg.refl _ _⟩
end Go.Proofs.Ytbaclcpnnompnaa
