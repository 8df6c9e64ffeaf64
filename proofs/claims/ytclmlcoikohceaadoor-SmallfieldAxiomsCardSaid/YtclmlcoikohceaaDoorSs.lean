/- Law walk: SmallfieldAxioms. WRITTEN BY gen_Ss.py. -/
import Derived.Test.YtclmlcoikohceaaDoorSn
import Derived.Test.YtclmlcoikohceaaDoorGK
namespace Go.Proofs.YtclmlcoikohceaaDoor
open Go Go.RowKit
set_option linter.unusedVariables false

set_option maxHeartbeats 2000000 in
set_option maxRecDepth 100000 in
theorem axiomslaw_walk (n x0 x1 x2 : Nat) (w : World) (hK : Kd w) (hn : n < 256) (hx0 : x0 < 256) (hx1 : x1 < 256) (hx2 : x2 < 256) : Calls Tryd.prog 6 #[.int .u8 (n : Int), .agg #[.int .u8 (x0 : Int), .int .u8 (x1 : Int), .int .u8 (x2 : Int)]] w (lawPost w) := by
  obtain ⟨q, hq⟩ : ∃ q, kS (n % 7) = q := ⟨_, rfl⟩
  have qs : q ∈ Sf.sizes := hq ▸ (kS_ok _ (Nat.mod_lt _ (by decide))).1
  have q9 := (Sf.prm_ok qs).2.2.1
  have q2 := (Sf.prm_ok qs).2.2.2.1
  have QS := Lib.hid qs
  obtain ⟨a, ha⟩ : ∃ a, x0 % q = a := ⟨_, rfl⟩
  have aq : a < q := ha ▸ Nat.mod_lt _ (by omega)
  have ea : (x0 : Int) % (q : Int) = (a : Int) := by rw [← ha]; rfl
  obtain ⟨b, hb⟩ : ∃ b, x1 % q = b := ⟨_, rfl⟩
  have bq : b < q := hb ▸ Nat.mod_lt _ (by omega)
  have eb : (x1 : Int) % (q : Int) = (b : Int) := by rw [← hb]; rfl
  obtain ⟨c, hc⟩ : ∃ c, x2 % q = c := ⟨_, rfl⟩
  have cq : c < q := hc ▸ Nat.mod_lt _ (by omega)
  have ec : (x2 : Int) % (q : Int) = (c : Int) := by rw [← hc]; rfl
  have CF := fun W hb => Lib.hid (field_any n q W (hK.below hb) hn hq)
  have CF' := Lib.hid CF
  have CA := fun W hb => Lib.hid (awake_any W (hK.below hb))
  have CA' := Lib.hid CA
  have HB0 := fun o => Lib.hid ((Below.refl w.heap.size w).alloc (Nat.le_refl _) o)
  have HB0' := Lib.hid HB0
  have CX0 : Hid ((w.alloc (.cells #[.int .u8 (x0 : Int), .int .u8 (x1 : Int), .int .u8 (x2 : Int)] 40)).cell? ⟨w.heap.size, 0, none⟩ = some (.int .u8 (x0 : Int))) := Lib.hid (by rw [cell_of_row _ _ _ _ _ _ (heap_alloc_new w _)]; rfl)
  have LX0 : Hid (w.heap.size < (w.alloc (.cells #[.int .u8 (x0 : Int), .int .u8 (x1 : Int), .int .u8 (x2 : Int)] 40)).heap.size) := Lib.hid (World.block_lt_of_cell? _ _ CX0.out)
  have CX1 : Hid ((w.alloc (.cells #[.int .u8 (x0 : Int), .int .u8 (x1 : Int), .int .u8 (x2 : Int)] 40)).cell? ⟨w.heap.size, 1, none⟩ = some (.int .u8 (x1 : Int))) := Lib.hid (by rw [cell_of_row _ _ _ _ _ _ (heap_alloc_new w _)]; rfl)
  have LX1 : Hid (w.heap.size < (w.alloc (.cells #[.int .u8 (x0 : Int), .int .u8 (x1 : Int), .int .u8 (x2 : Int)] 40)).heap.size) := Lib.hid (World.block_lt_of_cell? _ _ CX1.out)
  have CX2 : Hid ((w.alloc (.cells #[.int .u8 (x0 : Int), .int .u8 (x1 : Int), .int .u8 (x2 : Int)] 40)).cell? ⟨w.heap.size, 2, none⟩ = some (.int .u8 (x2 : Int))) := Lib.hid (by rw [cell_of_row _ _ _ _ _ _ (heap_alloc_new w _)]; rfl)
  have LX2 : Hid (w.heap.size < (w.alloc (.cells #[.int .u8 (x0 : Int), .int .u8 (x1 : Int), .int .u8 (x2 : Int)] 40)).heap.size) := Lib.hid (World.block_lt_of_cell? _ _ CX2.out)
  clear CF CA hq qs hK HB0 ha hb hc
  go_enter Tryd.func6, Tryd.ntmps6
  go_wp2_with fail
  refine ((CA'.out _ (HB0'.out _).out).out).mono ?_
  rintro e w1 ⟨rfl, hb1⟩
  have B1 := Lib.hid ((HB0'.out _).out.trans (hb1.mono ((HB0'.out _).out).size))
  have DX0 := Lib.hid ((hb1.cell LX0.out).trans CX0.out)
  have DX1 := Lib.hid ((hb1.cell LX1.out).trans CX1.out)
  have DX2 := Lib.hid ((hb1.cell LX2.out).trans CX2.out)
  clear hb1
  go_wp2_with fail
  refine ((CF'.out _ B1.out).out).mono ?_
  rintro e w2 ⟨u, rfl, hf, hb2⟩
  have HF := Lib.hid hf
  have HB := Lib.hid (B1.out.trans (hb2.mono (B1.out).size))
  have cx0 := (hb2.cell (World.block_lt_of_cell? _ _ DX0.out)).trans DX0.out
  have cx1 := (hb2.cell (World.block_lt_of_cell? _ _ DX1.out)).trans DX1.out
  have cx2 := (hb2.cell (World.block_lt_of_cell? _ _ DX2.out)).trans DX2.out
  clear hf hb2 CX0 LX0 DX0 CX1 LX1 DX1 CX2 LX2 DX2
  go_wp2_with fail
  go_quiet (fail)
  have HF3 := Lib.hid (HF.out.to (below_drewN (Below.refl w2.heap.size w2) nq))
  have HB3 := Lib.hid (below_drewN HB.out nq)
  generalize w2.drewN nq = w3 at HF3 HB3 ⊢
  rw [ea, eb, ec]
  clear HF HB cx0 cx1 cx2 ea eb ec CA' CF' HB0' B1
  obtain ⟨s, hs⟩ : ∃ y, Sf.addF q a b = y := ⟨_, rfl⟩
  have sq : s < q := hs ▸ Sf.add_lt QS.out aq bq
  obtain ⟨m, hm⟩ : ∃ y, Sf.mulF q a b = y := ⟨_, rfl⟩
  have mq : m < q := hm ▸ Sf.mul_lt QS.out aq bq
  obtain ⟨bc, hbc⟩ : ∃ y, Sf.addF q b c = y := ⟨_, rfl⟩
  have bcq : bc < q := hbc ▸ Sf.add_lt QS.out bq cq
  obtain ⟨mbc, hmbc⟩ : ∃ y, Sf.mulF q b c = y := ⟨_, rfl⟩
  have mbcq : mbc < q := hmbc ▸ Sf.mul_lt QS.out bq cq
  obtain ⟨mac, hmac⟩ : ∃ y, Sf.mulF q a c = y := ⟨_, rfl⟩
  have macq : mac < q := hmac ▸ Sf.mul_lt QS.out aq cq
  obtain ⟨t, ht⟩ : ∃ y, Sf.addF q s c = y := ⟨_, rfl⟩
  obtain ⟨r, hr⟩ : ∃ y, Sf.mulF q m c = y := ⟨_, rfl⟩
  obtain ⟨d, hd⟩ : ∃ y, Sf.mulF q a bc = y := ⟨_, rfl⟩
  have Cs : Sf.addF q b a = s := by rw [← hs]; exact Sf.add_comm QS.out bq aq
  have Cm : Sf.mulF q b a = m := by rw [← hm]; exact Sf.mul_comm QS.out bq aq
  have At : Sf.addF q a bc = t := by rw [← hbc, ← ht, ← hs]; exact (Sf.add_assoc QS.out aq bq cq).symm
  have Ar : Sf.mulF q a mbc = r := by rw [← hmbc, ← hr, ← hm]; exact (Sf.mul_assoc QS.out aq bq cq).symm
  have Di : Sf.addF q m mac = d := by rw [← hd, ← hbc, ← hm, ← hmac]; exact (Sf.mul_add QS.out aq bq cq).symm
  obtain ⟨U0, U1, U2⟩ := Sf.units QS.out aq
  have z1 : 0 < q ∧ 1 < q := by have := q2; omega
  have A0 : Hid (Calls Tryd.prog 21 #[u, .int .i64 (a : Int), .int .i64 (b : Int)] w3 (still (.int .i64 (s : Int)) w3)) := Lib.hid (by
    have h := add_ok q a b u w3 QS.out HF3.out aq bq
    rw [show Sf.addF q a b = s from hs] at h
    exact h)
  have A1 : Hid (Calls Tryd.prog 21 #[u, .int .i64 (b : Int), .int .i64 (a : Int)] w3 (still (.int .i64 (s : Int)) w3)) := Lib.hid (by
    have h := add_ok q b a u w3 QS.out HF3.out bq aq
    rw [show Sf.addF q b a = s from Cs] at h
    exact h)
  have A2 : Hid (Calls Tryd.prog 22 #[u, .int .i64 (a : Int), .int .i64 (b : Int)] w3 (still (.int .i64 (m : Int)) w3)) := Lib.hid (by
    have h := mul_ok q a b u w3 QS.out HF3.out aq bq
    rw [show Sf.mulF q a b = m from hm] at h
    exact h)
  have A3 : Hid (Calls Tryd.prog 22 #[u, .int .i64 (b : Int), .int .i64 (a : Int)] w3 (still (.int .i64 (m : Int)) w3)) := Lib.hid (by
    have h := mul_ok q b a u w3 QS.out HF3.out bq aq
    rw [show Sf.mulF q b a = m from Cm] at h
    exact h)
  have A4 : Hid (Calls Tryd.prog 21 #[u, .int .i64 (s : Int), .int .i64 (c : Int)] w3 (still (.int .i64 (t : Int)) w3)) := Lib.hid (by
    have h := add_ok q s c u w3 QS.out HF3.out sq cq
    rw [show Sf.addF q s c = t from ht] at h
    exact h)
  have A5 : Hid (Calls Tryd.prog 21 #[u, .int .i64 (b : Int), .int .i64 (c : Int)] w3 (still (.int .i64 (bc : Int)) w3)) := Lib.hid (by
    have h := add_ok q b c u w3 QS.out HF3.out bq cq
    rw [show Sf.addF q b c = bc from hbc] at h
    exact h)
  have A6 : Hid (Calls Tryd.prog 21 #[u, .int .i64 (a : Int), .int .i64 (bc : Int)] w3 (still (.int .i64 (t : Int)) w3)) := Lib.hid (by
    have h := add_ok q a bc u w3 QS.out HF3.out aq bcq
    rw [show Sf.addF q a bc = t from At] at h
    exact h)
  have A7 : Hid (Calls Tryd.prog 22 #[u, .int .i64 (m : Int), .int .i64 (c : Int)] w3 (still (.int .i64 (r : Int)) w3)) := Lib.hid (by
    have h := mul_ok q m c u w3 QS.out HF3.out mq cq
    rw [show Sf.mulF q m c = r from hr] at h
    exact h)
  have A8 : Hid (Calls Tryd.prog 22 #[u, .int .i64 (b : Int), .int .i64 (c : Int)] w3 (still (.int .i64 (mbc : Int)) w3)) := Lib.hid (by
    have h := mul_ok q b c u w3 QS.out HF3.out bq cq
    rw [show Sf.mulF q b c = mbc from hmbc] at h
    exact h)
  have A9 : Hid (Calls Tryd.prog 22 #[u, .int .i64 (a : Int), .int .i64 (mbc : Int)] w3 (still (.int .i64 (r : Int)) w3)) := Lib.hid (by
    have h := mul_ok q a mbc u w3 QS.out HF3.out aq mbcq
    rw [show Sf.mulF q a mbc = r from Ar] at h
    exact h)
  have B1 : Hid (Calls Tryd.prog 22 #[u, .int .i64 (a : Int), .int .i64 (bc : Int)] w3 (still (.int .i64 (d : Int)) w3)) := Lib.hid (by
    have h := mul_ok q a bc u w3 QS.out HF3.out aq bcq
    rw [show Sf.mulF q a bc = d from hd] at h
    exact h)
  have B2 : Hid (Calls Tryd.prog 22 #[u, .int .i64 (a : Int), .int .i64 (c : Int)] w3 (still (.int .i64 (mac : Int)) w3)) := Lib.hid (by
    have h := mul_ok q a c u w3 QS.out HF3.out aq cq
    rw [show Sf.mulF q a c = mac from hmac] at h
    exact h)
  have B3 : Hid (Calls Tryd.prog 21 #[u, .int .i64 (m : Int), .int .i64 (mac : Int)] w3 (still (.int .i64 (d : Int)) w3)) := Lib.hid (by
    have h := add_ok q m mac u w3 QS.out HF3.out mq macq
    rw [show Sf.addF q m mac = d from Di] at h
    exact h)
  have B4 : Hid (Calls Tryd.prog 21 #[u, .int .i64 (a : Int), .int .i64 0] w3 (still (.int .i64 (a : Int)) w3)) := Lib.hid (by
    have h := add_ok q a 0 u w3 QS.out HF3.out aq z1.1
    rw [show Sf.addF q a 0 = a from U0] at h
    exact h)
  have B5 : Hid (Calls Tryd.prog 22 #[u, .int .i64 (a : Int), .int .i64 1] w3 (still (.int .i64 (a : Int)) w3)) := Lib.hid (by
    have h := mul_ok q a 1 u w3 QS.out HF3.out aq z1.2
    rw [show Sf.mulF q a 1 = a from U1] at h
    exact h)
  have B6 : Hid (Calls Tryd.prog 22 #[u, .int .i64 (a : Int), .int .i64 0] w3 (still (.int .i64 0) w3)) := Lib.hid (by
    have h := mul_ok q a 0 u w3 QS.out HF3.out aq z1.1
    rw [show Sf.mulF q a 0 = 0 from U2] at h
    exact h)
  have sI : (0 : Int) ≤ (s : Int) := by omega
  have sJ : (s : Int) < (q : Int) := by omega
  clear hs hm hbc hmbc hmac ht hr hd Cs Cm At Ar Di U0 U1 U2 z1
  go_wp2_with fail
  refine A0.out.mono ?_
  rintro e z1 ⟨rfl, hzz⟩
  obtain rfl := hzz.symm
  go_wp2_with fail
  refine A1.out.mono ?_
  rintro e z2 ⟨rfl, hzz⟩
  obtain rfl := hzz.symm
  go_wp2_with fail
  refine A2.out.mono ?_
  rintro e z3 ⟨rfl, hzz⟩
  obtain rfl := hzz.symm
  go_wp2_with fail
  refine A3.out.mono ?_
  rintro e z4 ⟨rfl, hzz⟩
  obtain rfl := hzz.symm
  go_wp2_with fail
  refine A0.out.mono ?_
  rintro e z5 ⟨rfl, hzz⟩
  obtain rfl := hzz.symm
  go_wp2_with fail
  refine A4.out.mono ?_
  rintro e z6 ⟨rfl, hzz⟩
  obtain rfl := hzz.symm
  go_wp2_with fail
  refine A5.out.mono ?_
  rintro e z7 ⟨rfl, hzz⟩
  obtain rfl := hzz.symm
  go_wp2_with fail
  refine A6.out.mono ?_
  rintro e z8 ⟨rfl, hzz⟩
  obtain rfl := hzz.symm
  go_wp2_with fail
  refine A2.out.mono ?_
  rintro e z9 ⟨rfl, hzz⟩
  obtain rfl := hzz.symm
  go_wp2_with fail
  refine A7.out.mono ?_
  rintro e z10 ⟨rfl, hzz⟩
  obtain rfl := hzz.symm
  go_wp2_with fail
  refine A8.out.mono ?_
  rintro e z11 ⟨rfl, hzz⟩
  obtain rfl := hzz.symm
  go_wp2_with fail
  refine A9.out.mono ?_
  rintro e z12 ⟨rfl, hzz⟩
  obtain rfl := hzz.symm
  go_wp2_with fail
  refine A0.out.mono ?_
  rintro e z13 ⟨rfl, hzz⟩
  obtain rfl := hzz.symm
  go_wp2_with fail
  refine A5.out.mono ?_
  rintro e z14 ⟨rfl, hzz⟩
  obtain rfl := hzz.symm
  go_wp2_with fail
  refine B1.out.mono ?_
  rintro e z15 ⟨rfl, hzz⟩
  obtain rfl := hzz.symm
  go_wp2_with fail
  refine A2.out.mono ?_
  rintro e z16 ⟨rfl, hzz⟩
  obtain rfl := hzz.symm
  go_wp2_with fail
  refine B2.out.mono ?_
  rintro e z17 ⟨rfl, hzz⟩
  obtain rfl := hzz.symm
  go_wp2_with fail
  refine B3.out.mono ?_
  rintro e z18 ⟨rfl, hzz⟩
  obtain rfl := hzz.symm
  go_wp2_with fail
  refine B4.out.mono ?_
  rintro e z19 ⟨rfl, hzz⟩
  obtain rfl := hzz.symm
  go_wp2_with fail
  refine B5.out.mono ?_
  rintro e z20 ⟨rfl, hzz⟩
  obtain rfl := hzz.symm
  go_wp2_with fail
  refine B6.out.mono ?_
  rintro e z21 ⟨rfl, hzz⟩
  obtain rfl := hzz.symm
  go_wp2_with fail
  go_ret
  exact ⟨rfl, HB3.out⟩
end Go.Proofs.YtclmlcoikohceaaDoor
