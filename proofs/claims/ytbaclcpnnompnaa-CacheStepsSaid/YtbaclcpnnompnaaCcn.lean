/- Layer 12: the example of the document holds. -/
import Derived.Test.YtbaclcpnnompnaaCcm
import Derived.Lib.SlBytesConst
namespace Go.Proofs.Ytbaclcpnnompnaa
open Go Go.RowKit Med
set_option linter.unusedVariables false
set_option linter.unusedSimpArgs false
def ex0 : List Sec := List.replicate (2 + 1 * (1 * 1)) Med.blank
def ex1 : Med.Op := ⟨false, 0, [97]⟩
def ex2 : Med.Op := ⟨false, 1, [98]⟩
theorem ex_w1 : opE 1 (Med.play 2 1 1 1 0 ex0 []) ex1 = 0 := by decide +kernel
theorem ex_w2 : opE 1 (Med.play 2 1 1 1 0 ex0 [ex1]) ex2 = 0 := by decide +kernel
theorem ex_r1 : rdE (Med.play 2 1 1 1 0 ex0 [ex1, ex2]) 1 = 0 ∧ rdB (Med.play 2 1 1 1 0 ex0 [ex1, ex2]) 1 = strOf [98] := by decide +kernel
theorem ex_r2 : rdE (Med.play 2 1 1 1 0 (Med.play 2 1 1 1 0 ex0 [ex1]) []) 0 = 0 ∧ rdB (Med.play 2 1 1 1 0 (Med.play 2 1 1 1 0 ex0 [ex1]) []) 0 = strOf [97] ∧ st (Med.play 2 1 1 1 0 (Med.play 2 1 1 1 0 ex0 [ex1]) []) 1 = 0 := by decide +kernel
theorem ex_a : strOf [97] = ⟨#[97]⟩ := by decide +kernel
theorem ex_b : strOf [98] = ⟨#[98]⟩ := by decide +kernel
theorem OwF.bst {w : World} {K : Nat} {v : Value} {l : List Nat} (h : OwF w K v l) : BsT w v l := by
  refine ⟨h.1, fun g hg => ?_⟩
  rcases h.2 with ⟨rfl, _⟩ | ⟨g', c, cs, fr, rfl, _, h2, _⟩
  · cases hg
  · injection hg with hg; subst hg; exact ⟨_, _, h2⟩
set_option maxHeartbeats 4000000 in
set_option maxRecDepth 100000 in
theorem awake12 (w : World) : Calls Try.prog 9 #[] w (gPost (.bool true) w) := by
  have kc := fun (w : World) (C : Array Value) (n c : Nat) => Lib.run_convert_bytes_const (P := Try.prog) w 36 5 C n c Try.underlying36 Try.underlying5
  have NW : Hid (Calls Try.prog 28 #[.agg #[.int .i64 2, .int .i64 1, .int .i64 1, .int .i64 1, .int .i64 0]] w (newPost 84 81 2 1 1 1 0 w)) := Lib.hid (pnew_ok 2 1 1 1 0 w (by decide))
  go_enter Try.func9, Try.ntmps9
  go_wp2_with fail
  refine NW.out.mono ?_
  rintro e w1 ⟨M, X, rfl, hm, hmx, hb⟩
  have B1 := Lib.hid hb
  have E1 := Lib.hid (cnew_any hm)
  clear hm hmx hb NW
  go_wp2_with fail
  refine E1.out.mono ?_
  rintro e w2 ⟨K, rfl, hc, hb⟩
  have C2 : Hid (Ce w.heap.size w2 K 2 1 1 1 0 ex0 []) := Lib.hid (hc.low B1.out.size)
  have B2 := Lib.hid (B1.out.trans (hb.mono B1.out.size))
  clear hc hb E1
  go_wp2_with fail
  have A2 := Lib.hid ((Below.refl w2.heap.size w2).alloc (Nat.le_refl _) (.cells #[.int .u8 97] 5 (1, 2)))
  have W1 := Lib.hid (cwr_any (C2.out.fw A2.out) 0 _ [97] (bs_lit w2 5 (1, 2) 97 (by decide)) (by decide) (by decide))
  refine W1.out.mono ?_
  rintro e w3 ⟨rfl, hc, ht⟩
  have C3 : Hid (Ce w.heap.size w3 K 2 1 1 1 0 ex0 [ex1]) := Lib.hid (by have h := hc; rw [show opE 1 (Med.play 2 1 1 1 0 ex0 []) ⟨false, 0, [97]⟩ = 0 from ex_w1] at h; exact h)
  have B3 := Lib.hid (B2.out.trans ((A2.out.mono B2.out.size).trans (ht.below (Nat.le_trans B2.out.size A2.out.size))))
  clear hc ht W1 A2
  generalize opE 1 (Med.play 2 1 1 1 0 ex0 []) ⟨false, 0, [97]⟩ = z1
  go_wp2_with fail
  have A3 := Lib.hid ((Below.refl w3.heap.size w3).alloc (Nat.le_refl _) (.cells #[.int .u8 98] 5 (1, 2)))
  have W2 := Lib.hid (cwr_any (C3.out.fw A3.out) 1 _ [98] (bs_lit w3 5 (1, 2) 98 (by decide)) (by decide) (by decide))
  refine W2.out.mono ?_
  rintro e w4 ⟨rfl, hc, ht⟩
  have C4 : Hid (Ce w.heap.size w4 K 2 1 1 1 0 ex0 [ex1, ex2]) := Lib.hid (by have h := hc; rw [show opE 1 (Med.play 2 1 1 1 0 ex0 [ex1]) ⟨false, 1, [98]⟩ = 0 from ex_w2] at h; exact h)
  have B4 := Lib.hid (B3.out.trans ((A3.out.mono B3.out.size).trans (ht.below (Nat.le_trans B3.out.size A3.out.size))))
  clear hc ht W2 A3 kc
  generalize opE 1 (Med.play 2 1 1 1 0 ex0 [ex1]) ⟨false, 1, [98]⟩ = z2
  have RD := Lib.hid (crd_any C4.out 1)
  rw [ex_r1.1, ex_r1.2] at RD
  go_wp2_with fail
  refine RD.out.mono ?_
  rintro e w5 ⟨v, rfl, hv, hb⟩
  rw [bOf_strOf (l := [98]) (by decide)] at hv
  have V5 := Lib.hid hv.bst
  have C5 := Lib.hid (C4.out.fw hb)
  have B5 := Lib.hid (B4.out.trans (hb.mono B4.out.size))
  have P5 : Hid (Calls Try.prog 20 #[.pointer (some ⟨K, 0, none⟩)] w5 (qPost (.int .i64 2) w5)) := Lib.hid (cpe_any C5.out)
  have U5 : Hid (Calls Try.prog 17 #[.pointer (some ⟨K, 0, none⟩), .int .i64 1] w5 (fuPost w.heap.size K 2 1 1 1 0 (Med.play 2 1 1 1 0 ex0 [ex1]) w5)) := Lib.hid (ccu_any C5.out 1)
  clear hv hb RD
  go_wp2_with fail
  refine P5.out.mono ?_
  rintro e w' ⟨rfl, rfl⟩
  go_wp2_with fail
  refine U5.out.mono ?_
  rintro e w6 ⟨⟨u, rfl⟩, hc, ht⟩
  have C6 := Lib.hid hc
  have H6 := Lib.hid (ht.below B5.out.size)
  have B6 := Lib.hid (B5.out.trans H6.out)
  have RD := Lib.hid (crd_any hc 0)
  rw [ex_r2.1, ex_r2.2.1] at RD
  have V6 := Lib.hid (V5.out.tch ht (by decide))
  clear hc ht P5 U5 V5
  go_wp2_with fail
  refine RD.out.mono ?_
  rintro e w7 ⟨v2, rfl, hv, hb⟩
  rw [bOf_strOf (l := [97]) (by decide)] at hv
  have C7 := Lib.hid (C6.out.fw hb)
  have B7 := Lib.hid (B6.out.trans (hb.mono B6.out.size))
  have V7 := V6.out.1.below hb
  obtain ⟨A1, a1, rfl⟩ := V7.form
  obtain ⟨A2, a2, rfl⟩ := hv.1.form
  have cv1 := cvb A1 1 a1 [98] V7
  have cv2 := cvb A2 1 a2 [97] hv.1
  rw [ex_b] at cv1
  rw [ex_a] at cv2
  have S7 := Lib.hid (cst_any C7.out 1)
  rw [ex_r2.2.2] at S7
  have P7 : Hid (Calls Try.prog 20 #[.pointer (some ⟨K, 0, none⟩)] w7 (qPost (.int .i64 0) w7)) := Lib.hid (cpe_any C7.out)
  clear hv hb RD V7 V6 H6
  go_wp2_with fail
  refine S7.out.mono ?_
  rintro e w' ⟨rfl, rfl⟩
  go_wp2_with fail
  refine P7.out.mono ?_
  rintro e w' ⟨rfl, rfl⟩
  go_wp2_with fail
  go_ret
  exact ⟨rfl, B7.out⟩
end Go.Proofs.Ytbaclcpnnompnaa
