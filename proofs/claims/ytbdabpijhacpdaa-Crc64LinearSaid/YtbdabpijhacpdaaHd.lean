/- Contracts: the reference's Sum and Combine; two byte strings joined. -/
import Derived.Test.YtbdabpijhacpdaaHc
import Derived.Test.YtbdabpijhacpdaaGK
import Derived.Deep.DeepMust
namespace Go.Proofs.Ytbdabpijhacpdaa
open Go Go.RowKit
set_option linter.unusedVariables false
set_option linter.unusedSimpArgs false
set_option maxHeartbeats 400000 in
set_option maxRecDepth 100000 in
theorem rcrcsum_any (v : Value) (b : List Nat) (w : World) (hb : Bs w v b) :
    Calls Try.prog 13 #[v] w fun e w' => e = .returned (.int .u64 (Crc.crc b : Nat)) ∧ w = w' := by
  have U := Lib.hid (rcrcupd_any 0 v b w (by decide) hb)
  obtain ⟨A1, c1, rfl⟩ := hb.form
  clear hb
  generalize b.length = n at *
  go_enter Try.func13, Try.ntmps13
  go_wp2_with (go_at_call 15; refine U.out.mono ?_; rintro e w' ⟨rfl, rfl⟩)
  go_ret
  exact ⟨rfl, rfl⟩
set_option maxHeartbeats 400000 in
set_option maxRecDepth 100000 in
theorem rcomb_any (a b n : Nat) (w : World) (ha : a < 2 ^ 64) (hb : b < 2 ^ 64) (hn : n ≤ 1000000) :
    Calls Try.prog 18 #[.int .u64 (a : Int), .int .u64 (b : Int), .int .i64 (n : Int)] w fun e w' => e = .returned (.int .u64 ((Crc.sts (8 * n) a ^^^ b : Nat) : Int)) ∧ w = w' := by
  have S := Lib.hid (rsteps_any a (8 * n) w ha (by omega))
  have X := Lib.hid (xor_u64 (Crc.sts_lt (8 * n) ha) hb)
  generalize Crc.sts (8 * n) a = t at *
  have w8 : wrap64 (8 * (n : Int)) = ((8 * n : Nat) : Int) := by rw [IntWalk.wrap64_in _ ⟨by omega, by omega⟩]; omega
  have W8 := Lib.hid w8
  clear w8 ha hb
  have n0 : ¬ (n : Int) < 0 := by omega
  have n1 : ¬ (1000000 : Int) < (n : Int) := by omega
  go_enter Try.func18, Try.ntmps18
  go_wp2_with (go_at_call 20; refine S.out.mono ?_; rintro e w' ⟨rfl, rfl⟩)
  go_ret
  exact ⟨ret_u64 X.out, rfl⟩
/-- Two byte strings joined, in new memory. -/
def bsNew (l : List Nat) (w : World) (e : Ending) (w' : World) : Prop := ∃ v, e = .returned v ∧ Bs w' v l ∧ (∀ k, v.ownBlock = some k → w.heap.size ≤ k) ∧ Below w.heap.size w w'
theorem bs_grown {w w1 w2 : World} {v u : Value} {b : List Nat} (h : Bs w u b) (hb : Below w.heap.size w w1) (hg : w1.grownBy w2 v.ownBlock) (hs : w.heap.size ≤ w1.heap.size) (ho : ∀ k, v.ownBlock = some k → w.heap.size ≤ k) : Bs w2 u b :=
  h.below (hb.grown hg hs ho)
set_option maxHeartbeats 1000000 in
set_option maxRecDepth 100000 in
theorem joined_any (v1 v2 : Value) (a b : List Nat) (w : World) (h1 : Bs w v1 a) (h2 : Bs w v2 b) (ha : a.length ≤ 300) (hb : b.length ≤ 300) :
    Calls Try.prog 16 #[v1, v2] w (bsNew (a ++ b) w) := by
  have H1 := Lib.hid h1
  have H2 := Lib.hid h2
  obtain ⟨A1, c1, e1⟩ := h1.form
  obtain ⟨A2, c2, e2⟩ := h2.form
  have E1 := Lib.hid e1
  have E2 := Lib.hid e2
  rw [e1, e2]
  clear h1 h2 e1 e2
  have L1 : 0 + a.length ≤ maxLen := by unfold maxLen; omega
  have L2 : 0 + a.length ≤ 140737488355328 := by omega
  have L3 : 0 + a.length + b.length ≤ maxLen := by unfold maxLen; omega
  have L4 : 0 + a.length + b.length ≤ 140737488355328 := by omega
  have LL := Lib.hid (And.intro L1 (And.intro L2 (And.intro L3 L4)))
  clear L1 L2 L3 L4
  obtain ⟨n, en⟩ : ∃ n, a.length = n := ⟨_, rfl⟩
  obtain ⟨m, em⟩ : ∃ m, b.length = m := ⟨_, rfl⟩
  rw [en] at E1 LL ha ⊢
  rw [em] at E2 LL hb ⊢
  have EN := Lib.hid en
  have EM := Lib.hid em
  clear en em
  obtain ⟨i0, hi, hz0, hz1, hz2⟩ := info_parts info_u8
  have I0 := Lib.hid (And.intro hi (And.intro hz0 (And.intro hz1 hz2)))
  clear hi hz0 hz1 hz2
  have B1 : Hid (∀ o, Below w.heap.size w (w.alloc o)) := Lib.hid fun o => (Below.refl w.heap.size w).alloc (Nat.le_refl _) o
  go_enter Try.func16, Try.ntmps16
  go_wp2_with (first
    | (at_builtin; refine wpList_append_bs rfl (.tmp 5) (.tmp 6) 22 rfl w.heap.size 5 i0 Try.underlying22 I0.out.1 I0.out.2.1 I0.out.2.2.1 I0.out.2.2.2 (.slice (some ⟨w.heap.size, 0, none⟩) 0 0) (.slice A1 n c1) 0 [] rfl (World.ownsRow_made w #[] 0 (Nat.le_refl _) (Nat.zero_le _) rfl) a rfl (by rw [← E1.out]; exact H1.out.alloc _) (by rw [EN.out]; exact LL.out.1) (by rw [EN.out]; exact LL.out.2.1) (by simp) ?_
       rw [EN.out]
       intro x1 w1 hown1 hg1
       have HO1 := Lib.hid hown1; have HG1 := Lib.hid ((B1.out _).grown hg1 (by simp) (fun g hg => by cases hg; exact Nat.le_refl _)); clear hown1 hg1)
    | (at_builtin; refine wpList_append_bs rfl (.tmp 7) (.tmp 8) 22 rfl w.heap.size 5 i0 Try.underlying22 I0.out.1 I0.out.2.1 I0.out.2.2.1 I0.out.2.2.2 x1 (.slice A2 m c2) (0 + n) _ rfl HO1.out b rfl (by rw [← E2.out]; exact H2.out.below HG1.out) (by rw [EM.out]; exact LL.out.2.2.1) (by rw [EM.out]; exact LL.out.2.2.2) HG1.out.size ?_
       rw [EM.out]
       intro x2 w2 hown2 hg2
       have HO2 := Lib.hid hown2; have HG2 := Lib.hid (HG1.out.grown hg2 HG1.out.size (fun g hg => (HO1.out.lt g hg).1)); clear hown2 hg2))
  go_ret
  refine ⟨x2, rfl, ?_, fun g hg => (HO2.out.lt g hg).1, HG2.out⟩
  have hown := HO2.out
  rw [List.nil_append, ← List.map_append] at hown
  exact Bs.of_own hown (by rw [List.length_append, EN.out, EM.out]; omega) fun x hx => by
    rcases List.mem_append.1 hx with h | h
    · exact H1.out.lt x h
    · exact H2.out.lt x h
end Go.Proofs.Ytbdabpijhacpdaa
