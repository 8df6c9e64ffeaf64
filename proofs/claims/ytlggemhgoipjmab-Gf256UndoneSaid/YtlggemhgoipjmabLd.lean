/- The walks of the laws on Fused. -/
import Derived.Test.YtlggemhgoipjmabRff
import Derived.Test.YtlggemhgoipjmabGaw
import Derived.Test.YtlggemhgoipjmabOpen
namespace Go.Proofs.Ytlggemhgoipjmab
open Go Go.RowKit

set_option maxHeartbeats 1000000 in
set_option maxRecDepth 100000 in
theorem fusedlaw_long (v0 v1 : Value) (d s : List Nat) (c : Nat) (w : World) (h0 : Bs w v0 d) (h1 : Bs w v1 s) (hlong : 1000 < d.length ∨ 1000 < s.length) :
    Calls Try.prog 3 #[v0, v1, .int .u8 (c : Int)] w (lawPost w) := by
  obtain ⟨A0, c0, rfl⟩ := h0.form
  obtain ⟨A1, c1, rfl⟩ := h1.form
  clear h0 h1
  generalize d.length = n at *
  generalize s.length = m at *
  by_cases hn : 1000 < n
  · clear hlong
    go_enter Try.func3, Try.ntmps3
    go_wp2_with (go_at_call 5; refine (awake_any _).mono ?_; rintro e w1 ⟨rfl, hbel⟩)
    have HB := Lib.hid hbel
    clear hbel
    go_wp2_with fail
    go_ret
    exact ⟨rfl, HB.out⟩
  · have hm : 1000 < m := by omega
    clear hlong
    go_enter Try.func3, Try.ntmps3
    go_wp2_with (go_at_call 5; refine (awake_any _).mono ?_; rintro e w1 ⟨rfl, hbel⟩)
    have HB := Lib.hid hbel
    clear hbel
    go_wp2_with fail
    go_ret
    exact ⟨rfl, HB.out⟩

set_option maxHeartbeats 1000000 in
set_option maxRecDepth 100000 in
theorem fusedlaw_short (v0 v1 : Value) (d s : List Nat) (c : Nat) (w : World) (h0 : Bs w v0 d) (h1 : Bs w v1 s) (hc : c < 256) (hn : d.length ≤ 1000) (hm : s.length ≤ 1000) :
    Calls Try.prog 3 #[v0, v1, .int .u8 (c : Int)] w (lawPost w) := by
  obtain ⟨A0, c0, rfl⟩ := h0.form
  obtain ⟨A1, c1, rfl⟩ := h1.form
  obtain ⟨n, en⟩ : ∃ n, d.length = n := ⟨_, rfl⟩
  obtain ⟨m, em⟩ : ∃ m, s.length = m := ⟨_, rfl⟩
  rw [en] at h0 hn ⊢
  rw [em] at h1 hm ⊢
  have H0 := Lib.hid h0
  have H1 := Lib.hid h1
  have EN := Lib.hid en
  have EM := Lib.hid em
  obtain ⟨i0, hi, hz0, hz1, hz2⟩ := info_parts info_u8
  have I0 := Lib.hid (And.intro hi (And.intro hz0 (And.intro hz1 hz2)))
  have M0 : 0 ≤ maxLen := Nat.zero_le _
  have L1 : 0 + d.length ≤ maxLen := by unfold maxLen; omega
  have L2 : 0 + d.length ≤ 140737488355328 := by omega
  have L3 : 0 + s.length ≤ maxLen := by unfold maxLen; omega
  have L4 : 0 + s.length ≤ 140737488355328 := by omega
  have LL := Lib.hid (And.intro L1 (And.intro L2 (And.intro L3 L4)))
  clear h0 h1 en em hi hz0 hz1 hz2 L1 L2 L3 L4 M0
  go_enter Try.func3, Try.ntmps3
  go_wp2_with (first
    | (go_at_call 5; refine (awake_any _).mono ?_; rintro e w1 ⟨rfl, hbel⟩; have HB := Lib.hid hbel; have H01 := Lib.hid (H0.out.below hbel); have H11 := Lib.hid (H1.out.below hbel); clear hbel)
    | (at_builtin; refine wpList_append_bs rfl _ _ 22 rfl w.heap.size 5 i0 Try.underlying22 I0.out.1 I0.out.2.1 I0.out.2.2.1 I0.out.2.2.2 (.slice (some ⟨w1.heap.size, 0, none⟩) 0 0) (.slice A0 n c0) 0 [] rfl (World.ownsRow_made w1 #[] 0 HB.out.size (Nat.zero_le _) rfl) d rfl (H01.out.alloc _) LL.out.1 LL.out.2.1 (by simp; have := HB.out.size; omega) ?_
       intro x0 w2 hown2 hg2
       have HO2 := Lib.hid hown2; have HG2 := Lib.hid hg2; clear hown2 hg2)
    | (at_builtin; refine wpList_append_bs rfl _ _ 22 rfl w2.heap.size 5 i0 Try.underlying22 I0.out.1 I0.out.2.1 I0.out.2.2.1 I0.out.2.2.2 (.slice (some ⟨w2.heap.size, 0, none⟩) 0 0) (.slice A1 m c1) 0 [] rfl (World.ownsRow_made w2 #[] 0 (Nat.le_refl _) (Nat.zero_le _) rfl) s rfl ((H11.out.keep fun p hp => (Below.cell (((Below.refl w1.heap.size w1).alloc (Nat.le_refl _) _).grown HG2.out (by simp) (fun _ h => by cases h; exact Nat.le_refl _)) hp)).alloc _) LL.out.2.2.1 LL.out.2.2.2 (by simp) ?_
       intro x1 w3 hown3 hg3
       have HO3 := Lib.hid hown3; have HG3 := Lib.hid hg3; clear hown3 hg3))
  have hB2 : Below w.heap.size w w2 := (HB.out.alloc HB.out.size _).grown HG2.out (by simp; have := HB.out.size; omega) (fun g hg => by cases hg; exact HB.out.size)
  have hB3 : Below w2.heap.size w2 w3 := ((Below.refl _ w2).alloc (Nat.le_refl _) _).grown HG3.out (by simp) (fun g hg => by cases hg; exact Nat.le_refl _)
  have hX0 : Bs w2 x0 d := Bs.of_own HO2.out (by omega) H0.out.lt
  have hX1 : Bs w3 x1 s := Bs.of_own HO3.out (by omega) H1.out.lt
  have hB03 : Below w.heap.size w w3 := hB2.trans (hB3.mono hB2.size)
  have X03 := Lib.hid (hX0.below hB3)
  have X13 := Lib.hid hX1
  have V03 := Lib.hid (H0.out.below hB03)
  have V13 := Lib.hid (H1.out.below hB03)
  have B03 := Lib.hid hB03
  clear hB2 hB3 hX0 hX1 hB03 HO2 HO3 HG2 HG3 HB H01 H11
  by_cases hnm : n = m
  · subst hnm
    refine (fused_any x0 x1 d s c w3 X03.out X13.out (EN.out.trans EM.out.symm) hc (by have := EN.out; omega)).mono ?_
    rintro e w4 ⟨v, rfl, hv, hb4⟩
    have HV := Lib.hid hv
    have X04 := Lib.hid (X03.out.below hb4)
    have X14 := Lib.hid (X13.out.below hb4)
    have V04 := Lib.hid (V03.out.below hb4)
    have V14 := Lib.hid (V13.out.below hb4)
    have B04 := Lib.hid (B03.out.trans (hb4.mono B03.out.size))
    clear hv hb4
    go_wp2_with (first
      | (go_at_call 7; ((with_reducible first | refine (same_c _ _ d _ X04.out V04.out).mono ?_ | refine (same_c _ _ s _ X14.out V14.out).mono ?_); rintro e w' ⟨rfl, rfl⟩))
      | (go_at_call 8; ((with_reducible refine (rfused_any _ _ d s c _ V04.out V14.out (EN.out.trans EM.out.symm) hc (by have := EN.out; omega)).mono ?_); rintro e w5 ⟨r, rfl, hr, hb5⟩; have HR := Lib.hid hr; have HV5 := Lib.hid (HV.out.below hb5); have B05 := Lib.hid (B04.out.trans (hb5.mono B04.out.size)); clear hr hb5))
      | (go_at_call 7; ((with_reducible refine (same_c _ _ _ _ HV5.out HR.out).mono ?_); rintro e w' ⟨rfl, rfl⟩)))
    go_ret
    exact ⟨rfl, B05.out⟩
  · have g0 : ((n : Int) != (m : Int)) = true := by simp; omega
    have hne : Hid (d.length ≠ s.length) := Lib.hid (by rw [EN.out, EM.out]; exact hnm)
    clear hnm
    refine (fused_err x0 x1 d s c w3 X03.out X13.out hne.out).mono ?_
    rintro e w4 ⟨rfl, rfl⟩
    go_wp2_with (first
      | (go_at_call 7; ((with_reducible first | refine (same_c _ _ d _ X03.out V03.out).mono ?_ | refine (same_c _ _ s _ X13.out V13.out).mono ?_); rintro e w' ⟨rfl, rfl⟩)))
    go_ret
    exact ⟨rfl, B03.out⟩
theorem fusedlaw_walk (v0 v1 : Value) (d s : List Nat) (c : Nat) (w : World) (h0 : Bs w v0 d) (h1 : Bs w v1 s) (hc : c < 256) :
    Calls Try.prog 3 #[v0, v1, .int .u8 (c : Int)] w (lawPost w) := by
  by_cases h : 1000 < d.length ∨ 1000 < s.length
  · exact fusedlaw_long v0 v1 d s c w h0 h1 h
  · exact fusedlaw_short v0 v1 d s c w h0 h1 hc (by omega) (by omega)
end Go.Proofs.Ytlggemhgoipjmab
