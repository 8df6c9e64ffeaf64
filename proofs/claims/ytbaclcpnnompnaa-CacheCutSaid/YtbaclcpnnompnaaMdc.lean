/- Media: has, State, Read, of the program and of the reference. WRITTEN BY gen_Mdc.py. -/
import Derived.Test.YtbaclcpnnompnaaMdb
import Derived.Lib.ConvBytes
namespace Go.Proofs.Ytbaclcpnnompnaa
open Go Go.RowKit Med
set_option linter.unusedVariables false
set_option linter.unusedSimpArgs false
abbrev PMd := Md 84 81
abbrev RMd := Md 73 92
set_option maxHeartbeats 4000000 in
set_option maxRecDepth 100000 in
theorem phas_any {w : World} {M X c R B T S O : Nat} {l : List Sec} (h : PMd w M X c R B T S O l) (a : Int) : Calls Try.prog 50 #[.pointer (some ⟨M, 0, none⟩), .int .i64 a] w (qPost (.bool (decide (0 ≤ a ∧ a < l.length))) w) := by
  have c5 := h.c5
  have sm := h.small
  clear h
  generalize l.length = n at *
  by_cases h0 : 0 ≤ a
  · have d0 : decide ((0 : Int) ≤ a) = true := decide_eq_true h0
    by_cases h1 : a < n
    · have d1 : decide (a < (n : Int)) = true := decide_eq_true h1
      rw [decide_eq_true (show 0 ≤ a ∧ a < (n : Int) from ⟨h0, h1⟩)]
      go_enter Try.func50, Try.ntmps50
      go_wp2_with fail
      go_ret
      exact ⟨rfl, rfl⟩
    · have d1 : decide (a < (n : Int)) = false := decide_eq_false h1
      rw [decide_eq_false (show ¬ (0 ≤ a ∧ a < (n : Int)) from fun h => h1 h.2)]
      go_enter Try.func50, Try.ntmps50
      go_wp2_with fail
      go_ret
      exact ⟨rfl, rfl⟩
  · have d0 : decide ((0 : Int) ≤ a) = false := decide_eq_false h0
    rw [decide_eq_false (show ¬ (0 ≤ a ∧ a < (n : Int)) from fun h => h0 h.1)]
    go_enter Try.func50, Try.ntmps50
    go_wp2_with fail
    go_ret
    exact ⟨rfl, rfl⟩
set_option maxHeartbeats 4000000 in
set_option maxRecDepth 100000 in
theorem pst_any {w : World} {M X c R B T S O : Nat} {l : List Sec} (h : PMd w M X c R B T S O l) (a : Int) : Calls Try.prog 48 #[.pointer (some ⟨M, 0, none⟩), .int .i64 a] w (qPost (.int .i64 (st l a)) w) := by
  have H := Lib.hid (phas_any h a)
  have c5 := h.c5
  have sm := h.small
  unfold st
  by_cases hc : 0 ≤ a ∧ a < l.length
  · rw [if_pos hc]
    obtain ⟨k, rfl⟩ : ∃ k : Nat, a = k := ⟨a.toNat, by omega⟩
    have hk : k < l.length := by omega
    have k0 := h.sx.c0 hk
    have e : at_ l (k : Int) = l[k] := by simp [at_, List.getD, hk]
    rw [decide_eq_true hc] at H
    rw [e]
    clear h e hc
    generalize l[k].1 = x at *
    generalize l.length = n at *
    go_enter Try.func48, Try.ntmps48
    go_wp2_with fail
    refine H.out.mono ?_
    rintro e w1 ⟨rfl, rfl⟩
    go_wp2_with fail
    go_ret
    exact ⟨rfl, rfl⟩
  · rw [if_neg hc]
    rw [decide_eq_false hc] at H
    clear h hc
    go_enter Try.func48, Try.ntmps48
    go_wp2_with fail
    refine H.out.mono ?_
    rintro e w1 ⟨rfl, rfl⟩
    go_wp2_with fail
    go_ret
    exact ⟨rfl, rfl⟩
set_option maxHeartbeats 4000000 in
set_option maxRecDepth 100000 in
theorem rhas_any {w : World} {M X c R B T S O : Nat} {l : List Sec} (h : RMd w M X c R B T S O l) (a : Int) : Calls Try.prog 61 #[.pointer (some ⟨M, 0, none⟩), .int .i64 a] w (qPost (.bool (decide (0 ≤ a ∧ a < l.length))) w) := by
  have c5 := h.c5
  have sm := h.small
  clear h
  generalize l.length = n at *
  by_cases h0 : 0 ≤ a
  · have d0 : decide ((0 : Int) ≤ a) = true := decide_eq_true h0
    by_cases h1 : a < n
    · have d1 : decide (a < (n : Int)) = true := decide_eq_true h1
      rw [decide_eq_true (show 0 ≤ a ∧ a < (n : Int) from ⟨h0, h1⟩)]
      go_enter Try.func61, Try.ntmps61
      go_wp2_with fail
      go_ret
      exact ⟨rfl, rfl⟩
    · have d1 : decide (a < (n : Int)) = false := decide_eq_false h1
      rw [decide_eq_false (show ¬ (0 ≤ a ∧ a < (n : Int)) from fun h => h1 h.2)]
      go_enter Try.func61, Try.ntmps61
      go_wp2_with fail
      go_ret
      exact ⟨rfl, rfl⟩
  · have d0 : decide ((0 : Int) ≤ a) = false := decide_eq_false h0
    rw [decide_eq_false (show ¬ (0 ≤ a ∧ a < (n : Int)) from fun h => h0 h.1)]
    go_enter Try.func61, Try.ntmps61
    go_wp2_with fail
    go_ret
    exact ⟨rfl, rfl⟩
set_option maxHeartbeats 4000000 in
set_option maxRecDepth 100000 in
theorem rst_any {w : World} {M X c R B T S O : Nat} {l : List Sec} (h : RMd w M X c R B T S O l) (a : Int) : Calls Try.prog 41 #[.pointer (some ⟨M, 0, none⟩), .int .i64 a] w (qPost (.int .i64 (st l a)) w) := by
  have H := Lib.hid (rhas_any h a)
  have c5 := h.c5
  have sm := h.small
  unfold st
  by_cases hc : 0 ≤ a ∧ a < l.length
  · rw [if_pos hc]
    obtain ⟨k, rfl⟩ : ∃ k : Nat, a = k := ⟨a.toNat, by omega⟩
    have hk : k < l.length := by omega
    have k0 := h.sx.c0 hk
    have e : at_ l (k : Int) = l[k] := by simp [at_, List.getD, hk]
    rw [decide_eq_true hc] at H
    rw [e]
    clear h e hc
    generalize l[k].1 = x at *
    generalize l.length = n at *
    go_enter Try.func41, Try.ntmps41
    go_wp2_with fail
    refine H.out.mono ?_
    rintro e w1 ⟨rfl, rfl⟩
    go_wp2_with fail
    go_ret
    exact ⟨rfl, rfl⟩
  · rw [if_neg hc]
    rw [decide_eq_false hc] at H
    clear h hc
    go_enter Try.func41, Try.ntmps41
    go_wp2_with fail
    refine H.out.mono ?_
    rintro e w1 ⟨rfl, rfl⟩
    go_wp2_with fail
    go_ret
    exact ⟨rfl, rfl⟩
set_option maxHeartbeats 4000000 in
set_option maxRecDepth 100000 in
theorem prd_any {w : World} {M X c R B T S O : Nat} {l : List Sec} (h : PMd w M X c R B T S O l) (a : Int) : Calls Try.prog 47 #[.pointer (some ⟨M, 0, none⟩), .int .i64 a] w (rdPost (rdE l a) (rdB l a) w) := by
  have H := Lib.hid (phas_any h a)
  have c5 := h.c5
  have sm := h.small
  by_cases hc : 0 ≤ a ∧ a < l.length
  · obtain ⟨k, rfl⟩ : ∃ k : Nat, a = k := ⟨a.toNat, by omega⟩
    have hk : k < l.length := by omega
    have k0 := h.sx.c0 hk
    have k1 := h.sx.c1 hk
    have ss := h.sh _ (List.getElem_mem hk)
    have e : at_ l (k : Int) = l[k] := by simp [at_, List.getD, hk]
    rw [decide_eq_true hc] at H
    by_cases h1 : l[k].1 = 1
    · have e1 : rdE l (k : Int) = 0 := by unfold rdE; rw [if_pos hc, e, if_pos h1]
      have e2 : rdB l (k : Int) = l[k].2 := by unfold rdB; rw [if_pos e1, e]
      rw [e1, e2]
      rw [h1] at k0
      have hcv := Lib.run_convert_string_bytes (P := Try.prog) w 9 36 5 l[k].2 (u := .string) Try.underlying9 Try.underlying36 Try.underlying5
      have NW := Lib.hid (bytes_own w l[k].2 ss)
      have BW := Lib.hid (bytes_below w 5 l[k].2)
      generalize Lib.bytesWorld w 5 l[k].2 = w2 at *
      generalize grownCap w l[k].2.size 0 5 = cap at *
      clear h e e1 e2 hc h1 ss
      generalize l[k].2 = x at *
      generalize l.length = n at *
      go_enter Try.func47, Try.ntmps47
      go_wp2_with fail
      refine H.out.mono ?_
      rintro e w1 ⟨rfl, rfl⟩
      go_wp2_with fail
      refine bodyPost_ret (results_tmp2 rfl _ _ _) rfl ?_
      exact ⟨_, rfl, NW.out, BW.out⟩
    · have e1 : rdE l (k : Int) = 15 := by unfold rdE; rw [if_pos hc, e, if_neg h1]
      have e2 : rdB l (k : Int) = ByteArray.empty := by unfold rdB; rw [e1, if_neg (by decide)]
      rw [e1, e2]
      have d1 : (l[k].1 == 1) = false := by simpa using h1
      clear h e e1 e2 hc k1 ss
      generalize l[k].1 = x at *
      generalize l.length = n at *
      go_enter Try.func47, Try.ntmps47
      go_wp2_with fail
      refine H.out.mono ?_
      rintro e w1 ⟨rfl, rfl⟩
      go_wp2_with fail
      refine bodyPost_ret (results_tmp2 rfl _ _ _) rfl ?_
      exact ⟨_, rfl, OwF.nil_ _ _, Below.refl _ _⟩
  · have e1 : rdE l a = 2 := by unfold rdE; rw [if_neg hc]
    have e2 : rdB l a = ByteArray.empty := by unfold rdB; rw [e1, if_neg (by decide)]
    rw [e1, e2]
    rw [decide_eq_false hc] at H
    clear h hc e1 e2
    go_enter Try.func47, Try.ntmps47
    go_wp2_with fail
    refine H.out.mono ?_
    rintro e w1 ⟨rfl, rfl⟩
    go_wp2_with fail
    refine bodyPost_ret (results_tmp2 rfl _ _ _) rfl ?_
    exact ⟨_, rfl, OwF.nil_ _ _, Below.refl _ _⟩
set_option maxHeartbeats 4000000 in
set_option maxRecDepth 100000 in
theorem rrd_any {w : World} {M X c R B T S O : Nat} {l : List Sec} (h : RMd w M X c R B T S O l) (a : Int) : Calls Try.prog 40 #[.pointer (some ⟨M, 0, none⟩), .int .i64 a] w (rdPost (rdE l a) (rdB l a) w) := by
  have H := Lib.hid (rhas_any h a)
  have c5 := h.c5
  have sm := h.small
  by_cases hc : 0 ≤ a ∧ a < l.length
  · obtain ⟨k, rfl⟩ : ∃ k : Nat, a = k := ⟨a.toNat, by omega⟩
    have hk : k < l.length := by omega
    have k0 := h.sx.c0 hk
    have k1 := h.sx.c1 hk
    have ss := h.sh _ (List.getElem_mem hk)
    have e : at_ l (k : Int) = l[k] := by simp [at_, List.getD, hk]
    rw [decide_eq_true hc] at H
    by_cases h1 : l[k].1 = 1
    · have e1 : rdE l (k : Int) = 0 := by unfold rdE; rw [if_pos hc, e, if_pos h1]
      have e2 : rdB l (k : Int) = l[k].2 := by unfold rdB; rw [if_pos e1, e]
      rw [e1, e2]
      rw [h1] at k0
      have hcv := Lib.run_convert_string_bytes (P := Try.prog) w 9 36 5 l[k].2 (u := .string) Try.underlying9 Try.underlying36 Try.underlying5
      have NW := Lib.hid (bytes_own w l[k].2 ss)
      have BW := Lib.hid (bytes_below w 5 l[k].2)
      generalize Lib.bytesWorld w 5 l[k].2 = w2 at *
      generalize grownCap w l[k].2.size 0 5 = cap at *
      clear h e e1 e2 hc h1 ss
      generalize l[k].2 = x at *
      generalize l.length = n at *
      go_enter Try.func40, Try.ntmps40
      go_wp2_with fail
      refine H.out.mono ?_
      rintro e w1 ⟨rfl, rfl⟩
      go_wp2_with fail
      refine bodyPost_ret (results_tmp2 rfl _ _ _) rfl ?_
      exact ⟨_, rfl, NW.out, BW.out⟩
    · have e1 : rdE l (k : Int) = 15 := by unfold rdE; rw [if_pos hc, e, if_neg h1]
      have e2 : rdB l (k : Int) = ByteArray.empty := by unfold rdB; rw [e1, if_neg (by decide)]
      rw [e1, e2]
      have d1 : (l[k].1 == 1) = false := by simpa using h1
      clear h e e1 e2 hc k1 ss
      generalize l[k].1 = x at *
      generalize l.length = n at *
      go_enter Try.func40, Try.ntmps40
      go_wp2_with fail
      refine H.out.mono ?_
      rintro e w1 ⟨rfl, rfl⟩
      go_wp2_with fail
      refine bodyPost_ret (results_tmp2 rfl _ _ _) rfl ?_
      exact ⟨_, rfl, OwF.nil_ _ _, Below.refl _ _⟩
  · have e1 : rdE l a = 2 := by unfold rdE; rw [if_neg hc]
    have e2 : rdB l a = ByteArray.empty := by unfold rdB; rw [e1, if_neg (by decide)]
    rw [e1, e2]
    rw [decide_eq_false hc] at H
    clear h hc e1 e2
    go_enter Try.func40, Try.ntmps40
    go_wp2_with fail
    refine H.out.mono ?_
    rintro e w1 ⟨rfl, rfl⟩
    go_wp2_with fail
    refine bodyPost_ret (results_tmp2 rfl _ _ _) rfl ?_
    exact ⟨_, rfl, OwF.nil_ _ _, Below.refl _ _⟩
end Go.Proofs.Ytbaclcpnnompnaa
