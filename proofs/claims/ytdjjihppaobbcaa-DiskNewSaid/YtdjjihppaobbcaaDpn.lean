/- Layer 14: the example of the document holds. -/
import Derived.Test.YtdjjihppaobbcaaDpm
import Derived.Test.YtdjjihppaobbcaaGK
import Derived.Lib.SlBytesConst
namespace Go.Proofs.Ytdjjihppaobbcaa
open Go Go.RowKit Med Flt
set_option linter.unusedVariables false
set_option linter.unusedSimpArgs false
instance : DecidableEq Dsk.Pw := fun a b => by
  obtain ⟨a1, a2, a3, a4⟩ := a
  obtain ⟨b1, b2, b3, b4⟩ := b
  exact decidable_of_iff (a1 = b1 ∧ a2 = b2 ∧ a3 = b3 ∧ a4 = b4) (by simp)
namespace Dsk
def exF : List F := [⟨1, 1, 0⟩]
def exP : Pw := Pw.new
def ex0 : Dk := Dk.new (List.replicate 3 Med.blank) exP
def ex1 : Dk := writeD (faL exF) 2 1 1 1 0 exP ex0 0 0 [120] false
def ex2 : Dk := writeD (faL exF) 2 1 1 1 0 exP ex1 0 0 [121] false
def ex3 : Dk := readD (faL exF) 2 1 1 1 0 exP ex2 0 0
def exQ : Pw := exP.arm 1
def ex4 : Dk := readD (faL exF) 2 1 1 1 0 exQ ex3 0 0
def exR : Pw := beP exQ ex3
def exS : Pw := beP exR ex4
theorem ex_w1 : writeE (faL exF) exP ex0 0 0 [120] = 0 := by decide +kernel
theorem ex_w2 : writeE (faL exF) exP ex1 0 0 [121] = 0 := by decide +kernel
theorem ex_r : readE (faL exF) 2 1 1 1 0 exP ex2 0 0 = 0 ∧ readB (faL exF) 2 1 1 1 0 exP ex2 0 0 = strOf [120] := by decide +kernel
theorem ex_r3 : readE (faL exF) 2 1 1 1 0 exQ ex3 0 0 = 0 := by decide +kernel
theorem ex_r4 : readE (faL exF) 2 1 1 1 0 exR ex4 0 0 = 13 ∧ exS.off = true := by decide +kernel
theorem ex_p1 : beP exP ex0 = exP ∧ beP exP ex1 = exP ∧ beP exP ex2 = exP := by unfold beP; decide +kernel
theorem ex_s : strOf [120] = ⟨#[120]⟩ := by decide +kernel
theorem ex_n : (ex0.count ≤ 9 ∧ ex0.ws ≤ 9 ∧ ex0.ops.length ≤ 9) ∧ (ex1.count ≤ 9 ∧ ex1.ws ≤ 9 ∧ ex1.ops.length ≤ 9) ∧ (ex2.count ≤ 9 ∧ ex2.rs ≤ 9) ∧ (ex3.count ≤ 9 ∧ ex3.rs ≤ 9) ∧ ex4.count ≤ 9 ∧ ex4.rs ≤ 9 := by decide +kernel
theorem ex_v : vld exF = true := by decide
theorem ex_f : exP.fit 5 ∧ exQ.fit 5 ∧ exR.fit 5 := by unfold Pw.fit; decide +kernel
end Dsk
theorem exF_lit (w : World) : Fts (w.alloc (.cells #[.int .i64 1, .int .i64 1, .int .i64 0] 80)) (.slice (some ⟨w.heap.size, 0, none⟩) 1 1) Dsk.exF := by
  have hr := new13 w #[.int .i64 1, .int .i64 1, .int .i64 0] 80 rfl
  refine ⟨_, 1, rfl, ⟨Nat.le_refl _, by decide⟩, ?_, fun _ => ⟨w.heap.size, 0, rfl, fun k hk => ?_⟩⟩
  · intro f hf
    simp only [Dsk.exF, List.mem_cons, List.not_mem_nil, or_false] at hf
    subst hf; decide
  · obtain rfl : k = 0 := by simp [Dsk.exF] at hk; exact hk
    exact row_rg hr
theorem bst_lit (w : World) (fr : Nat × Nat) (x : Nat) (hx : x < 256) : BsT (w.alloc (.cells #[.int .u8 (x : Int)] 5 fr)) (.slice (some ⟨w.heap.size, 0, none⟩) 1 1) [x] := by
  refine ⟨bs_lit w 5 fr x hx, fun g hg => ?_⟩
  injection hg with hg
  subst hg
  exact ⟨_, _, heap_alloc_new w _⟩
set_option maxHeartbeats 4000000 in
set_option maxRecDepth 100000 in
theorem awake14 (w : World) : Calls Try.prog 8 #[] w (gPost (.bool true) w) := by
  have kc := fun (w : World) (C : Array Value) (n c : Nat) => Lib.run_convert_bytes_const (P := Try.prog) w 60 5 C n c Try.underlying60 Try.underlying5
  go_enter Try.func8, Try.ntmps8
  go_wp2_with fail
  refine (pnp_any w).mono ?_
  rintro e w1 ⟨P, rfl, hP, hp, hb⟩
  have B1 := Lib.hid hb
  have P1 := Lib.hid hp
  have PL := Lib.hid hP
  obtain ⟨b2, hb2⟩ : ∃ b, w1.heap.size = b := ⟨_, rfl⟩
  obtain ⟨W2, hW2⟩ : ∃ q, w1.alloc (.cells #[.int .i64 2, .int .i64 1, .int .i64 1, .int .i64 1, .int .i64 0] 23) = q := ⟨_, rfl⟩
  have A2 : Below w1.heap.size w1 W2 := by subst hW2; exact (Below.refl _ _).alloc (Nat.le_refl _) _
  have G2 : Row W2 b2 23 #[.int .i64 2, .int .i64 1, .int .i64 1, .int .i64 1, .int .i64 0] := by subst hW2; exact gr_new w1 _ _ hb2
  have B2 := Lib.hid (hb.trans (A2.mono hb.size))
  have P2 := Lib.hid (hp.fw A2)
  have HB2 := Lib.hid hb2
  have HW2 := Lib.hid hW2
  obtain ⟨b3, hb3⟩ : ∃ b, W2.heap.size = b := ⟨_, rfl⟩
  obtain ⟨W3, hW3⟩ : ∃ q, W2.alloc (.cells #[.int .i64 1, .int .i64 1, .int .i64 0] 80) = q := ⟨_, rfl⟩
  have A3 : Below W2.heap.size W2 W3 := by subst hW3; exact (Below.refl _ _).alloc (Nat.le_refl _) _
  have B3 := Lib.hid (B2.out.trans (A3.mono B2.out.size))
  have P3 := Lib.hid (P2.out.fw A3)
  have L3 : Hid (Fts W3 (.slice (some ⟨b3, 0, none⟩) 1 1) Dsk.exF) := Lib.hid (by subst hb3 hW3; exact exF_lit W2)
  have HB3 := Lib.hid hb3
  have HW3 := Lib.hid hW3
  have NW : Hid (Calls Try.prog 12 #[.agg #[.int .i64 2, .int .i64 1, .int .i64 1, .int .i64 1, .int .i64 0], .slice (some ⟨b3, 0, none⟩) 1 1, .pointer (some ⟨P, 0, none⟩)] W3 (pdNew P 2 1 1 1 0 Dsk.exF Dsk.exP W3)) := Lib.hid (pdnew_ok (R := 2) (Bn := 1) (T := 1) (S := 1) (O := 0) (by decide) L3.out Dsk.ex_v (by decide) P3.out)
  obtain ⟨g0, g1, g2, g3, g4⟩ := geo_cells14 G2
  clear hb hp hP hb2 hW2 hb3 hW3 A2 A3 G2
  go_wp2_with (first | rw [HW2.out, HB2.out] | rw [HW3.out, HB3.out] | (refine wpList_plain rfl fun _ hK' => wp_build_f _ rfl 1 1 0 rfl (hK' _ _ ?_)))
  refine NW.out.mono ?_
  rintro e w4 ⟨D, rfl, hd, hb⟩
  obtain ⟨B, hB⟩ : ∃ B : Zn, B = (w.heap.size : Zn) := ⟨_, rfl⟩
  have D4 : Hid (PDk B w4 D P 2 1 1 1 0 Dsk.exF Dsk.ex0) := Lib.hid (hd.zone fun k hk => by rw [hB]; exact Nat.le_trans B3.out.size hk)
  have P4 : Hid (PPw w4 P Dsk.exP) := Lib.hid (P3.out.fw hb)
  have B4 := Lib.hid (B3.out.trans (hb.mono B3.out.size))
  have BP : Hid (B.fr P) := Lib.hid (by rw [hB]; exact PL.out)
  have BT : Hid (∀ c : World, w.heap.size ≤ c.heap.size → B.top c) := Lib.hid fun c hc k hk => by rw [hB]; exact Nat.le_trans hc hk
  have BB : Hid (∀ {c c' : World} {L : List TypeId}, w.heap.size ≤ c.heap.size → Tch B L c c' → Below w.heap.size c c') := Lib.hid fun hs ht => Tch.below_ ht hs fun k hk => by rw [hB] at hk; exact hk
  clear hd hb hB NW
  go_wp2_with fail
  have C4 := Lib.hid (bst_lit w4 (1, 2) 120 (by decide))
  have A4 := Lib.hid ((Below.refl w4.heap.size w4).alloc (Nat.le_refl _) (.cells #[.int .u8 120] 5 (1, 2)))
  have S5 := Lib.hid (Nat.le_trans B4.out.size A4.out.size)
  have W1 := pwr14_any (D4.out.fw A4.out) (P4.out.fw A4.out) BP.out (BT.out _ S5.out) Dsk.ex_f.1 (by decide) (Nat.lt_of_le_of_lt Dsk.ex_n.1.1 (by decide)) (Nat.lt_of_le_of_lt Dsk.ex_n.1.2.1 (by decide)) (Nat.le_trans Dsk.ex_n.1.2.2 (by decide)) 0 0 _ [120] false (fun c hc => (C4.out.tch hc (by decide)).1) (by decide)
  unfold pdPost at W1
  rw [Dsk.ex_w1, Dsk.ex_p1.1] at W1
  replace W1 := Lib.hid W1
  refine W1.out.mono ?_
  rintro e w5 ⟨rfl, hd, hp, ht⟩
  have D5 : Hid (PDk B w5 D P 2 1 1 1 0 Dsk.exF Dsk.ex1) := Lib.hid hd
  have P5 := Lib.hid hp
  have B5 := Lib.hid ((B4.out.trans (A4.out.mono B4.out.size)).trans (BB.out S5.out ht))
  clear hd hp ht W1 C4 A4 S5
  go_wp2_with fail
  have C5 := Lib.hid (bst_lit w5 (1, 2) 121 (by decide))
  have A5 := Lib.hid ((Below.refl w5.heap.size w5).alloc (Nat.le_refl _) (.cells #[.int .u8 121] 5 (1, 2)))
  have S6 := Lib.hid (Nat.le_trans B5.out.size A5.out.size)
  have W1 := pwr14_any (D5.out.fw A5.out) (P5.out.fw A5.out) BP.out (BT.out _ S6.out) Dsk.ex_f.1 (by decide) (Nat.lt_of_le_of_lt Dsk.ex_n.2.1.1 (by decide)) (Nat.lt_of_le_of_lt Dsk.ex_n.2.1.2.1 (by decide)) (Nat.le_trans Dsk.ex_n.2.1.2.2 (by decide)) 0 0 _ [121] false (fun c hc => (C5.out.tch hc (by decide)).1) (by decide)
  unfold pdPost at W1
  rw [Dsk.ex_w2, Dsk.ex_p1.2.1] at W1
  replace W1 := Lib.hid W1
  refine W1.out.mono ?_
  rintro e w6 ⟨rfl, hd, hp, ht⟩
  have D6 : Hid (PDk B w6 D P 2 1 1 1 0 Dsk.exF Dsk.ex2) := Lib.hid hd
  have P6 := Lib.hid hp
  have B6 := Lib.hid ((B5.out.trans (A5.out.mono B5.out.size)).trans (BB.out S6.out ht))
  clear hd hp ht W1 C5 A5 S6 kc
  have RD := prd14_any D6.out P6.out BP.out Dsk.ex_f.1 (by decide) (Nat.lt_of_le_of_lt Dsk.ex_n.2.2.1.1 (by decide)) (Nat.lt_of_le_of_lt Dsk.ex_n.2.2.1.2 (by decide)) 0 0
  unfold prdkPost at RD
  rw [Dsk.ex_r.1, Dsk.ex_r.2, Dsk.ex_p1.2.2] at RD
  replace RD := Lib.hid RD
  go_wp2_with fail
  refine RD.out.mono ?_
  rintro e w7 ⟨u, rfl, hu, hd, hp, ht⟩
  have D7 : Hid (PDk B w7 D P 2 1 1 1 0 Dsk.exF Dsk.ex3) := Lib.hid hd
  have B7 := Lib.hid (B6.out.trans (BB.out B6.out.size ht))
  rw [bOf_strOf (l := [120]) (by decide)] at hu
  have U7 := Lib.hid hu
  have AR := Lib.hid (parm_any hp 1)
  have P7 := Lib.hid hp
  clear hu hd hp ht RD
  go_wp2_with fail
  refine AR.out.mono ?_
  rintro e w8 ⟨⟨u2, rfl⟩, hp, hc⟩
  have t8 : Tch B [82] w7 w8 := Tch.of_one hc BP.out P7.out.ty (by simp)
  have D8 : Hid (PDk B w8 D P 2 1 1 1 0 Dsk.exF Dsk.ex3) := Lib.hid (D7.out.pwr BP.out P7.out.ty hc)
  have B8 := Lib.hid (B7.out.trans (BB.out B7.out.size t8))
  have U8 := Lib.hid (U7.out.tch t8 (by decide))
  have P8 : Hid (PPw w8 P Dsk.exQ) := Lib.hid hp
  clear hp hc t8 AR U7
  have RD := prd14_any D8.out P8.out BP.out Dsk.ex_f.2.1 (by decide) (Nat.lt_of_le_of_lt Dsk.ex_n.2.2.2.1.1 (by decide)) (Nat.lt_of_le_of_lt Dsk.ex_n.2.2.2.1.2 (by decide)) 0 0
  unfold prdkPost at RD
  rw [Dsk.ex_r3] at RD
  replace RD := Lib.hid RD
  go_wp2_with fail
  refine RD.out.mono ?_
  rintro e w9 ⟨v9, rfl, hu, hd, hp, ht⟩
  have D9 : Hid (PDk B w9 D P 2 1 1 1 0 Dsk.exF Dsk.ex4) := Lib.hid hd
  have P9 : Hid (PPw w9 P Dsk.exR) := Lib.hid hp
  have B9 := Lib.hid (B8.out.trans (BB.out B8.out.size ht))
  have U9 := Lib.hid (U8.out.tch ht (by decide))
  clear hu hd hp ht RD U8
  have RD := prd14_any D9.out P9.out BP.out Dsk.ex_f.2.2 (by decide) (Nat.lt_of_le_of_lt Dsk.ex_n.2.2.2.2.1 (by decide)) (Nat.lt_of_le_of_lt Dsk.ex_n.2.2.2.2.2 (by decide)) 0 0
  unfold prdkPost at RD
  rw [Dsk.ex_r4.1] at RD
  replace RD := Lib.hid RD
  go_wp2_with fail
  refine RD.out.mono ?_
  rintro e w10 ⟨v10, rfl, hu, hd, hp, ht⟩
  have OF := poff_any (p := Dsk.exS) hp
  rw [Dsk.ex_r4.2] at OF
  replace OF := Lib.hid OF
  have B10 := Lib.hid (B9.out.trans (BB.out B9.out.size ht))
  have U10 := U9.out.tch ht (by decide)
  obtain ⟨A1, a1, rfl⟩ := U10.1.form
  have cv := cvb A1 1 a1 [120] U10.1
  rw [Dsk.ex_s] at cv
  clear hu hd hp ht RD U10 U9
  go_wp2_with fail
  refine OF.out.mono ?_
  rintro e w' ⟨rfl, rfl⟩
  clear OF
  go_wp2_with fail
  go_ret
  exact ⟨rfl, B10.out⟩
end Go.Proofs.Ytdjjihppaobbcaa
