/- Law walk: SmallfieldPrime. WRITTEN BY gen_St.py. -/
import Derived.Test.YtclmlcoikohceaaDoorSn
import Derived.Test.YtclmlcoikohceaaDoorGK
namespace Go.Proofs.YtclmlcoikohceaaDoor
open Go Go.RowKit
set_option linter.unusedVariables false

/-- n times an element. -/
def mulN (q a n : Nat) : Nat := Sf.rep (fun s => Sf.addF q s a) n 0
theorem prime_add {q a : Nat} (hq : q ∈ Sf.sizes) (ha : a < q) : mulN q a (Sf.prm q) = 0 :=
  (show ∀ q ∈ Sf.sizes, ∀ a, a < q → mulN q a (Sf.prm q) = 0 by decide +kernel) q hq a ha
theorem prime_pow {q a b : Nat} (hq : q ∈ Sf.sizes) (ha : a < q) (hb : b < q) : powF q (Sf.addF q a b) (Sf.prm q) = Sf.addF q (powF q a (Sf.prm q)) (powF q b (Sf.prm q)) :=
  (show ∀ q ∈ Sf.sizes, ∀ a, a < q → ∀ b, b < q → powF q (Sf.addF q a b) (Sf.prm q) = Sf.addF q (powF q a (Sf.prm q)) (powF q b (Sf.prm q)) by decide +kernel) q hq a ha b hb
theorem size_pow {q a : Nat} (hq : q ∈ Sf.sizes) (ha : a < q) : powF q a q = a :=
  (show ∀ q ∈ Sf.sizes, ∀ a, a < q → powF q a q = a by decide +kernel) q hq a ha

set_option maxHeartbeats 2000000 in
set_option maxRecDepth 100000 in
theorem primelaw_walk (n x0 x1 : Nat) (w : World) (hK : Kd w) (hn : n < 256) (hx0 : x0 < 256) (hx1 : x1 < 256) : Calls Tryd.prog 8 #[.int .u8 (n : Int), .agg #[.int .u8 (x0 : Int), .int .u8 (x1 : Int)]] w (lawPost w) := by
  obtain ⟨q, hq⟩ : ∃ q, kS (n % 7) = q := ⟨_, rfl⟩
  have qs : q ∈ Sf.sizes := hq ▸ (kS_ok _ (Nat.mod_lt _ (by decide))).1
  have q9 := (Sf.prm_ok qs).2.2.1
  have q2 := (Sf.prm_ok qs).2.2.2.1
  have QS := Lib.hid qs
  obtain ⟨a, ha⟩ : ∃ a, x0 % q = a := ⟨_, rfl⟩
  have aq : a < q := ha ▸ Nat.mod_lt _ (by omega)
  have ea : (x0 : Int) % (q : Int) = (a : Int) := by rw [← ha]; rfl
  obtain ⟨b, hb⟩ : ∃ b, x1 % q = b := ⟨_, rfl⟩
  have bq : b < q := hb ▸ Nat.mod_lt _ (by omega)
  have eb : (x1 : Int) % (q : Int) = (b : Int) := by rw [← hb]; rfl
  have CF := fun W hb => Lib.hid (field_any n q W (hK.below hb) hn hq)
  have CF' := Lib.hid CF
  have CA := fun W hb => Lib.hid (awake_any W (hK.below hb))
  have CA' := Lib.hid CA
  have HB0 := fun o => Lib.hid ((Below.refl w.heap.size w).alloc (Nat.le_refl _) o)
  have HB0' := Lib.hid HB0
  have CX0 : Hid ((w.alloc (.cells #[.int .u8 (x0 : Int), .int .u8 (x1 : Int)] 42)).cell? ⟨w.heap.size, 0, none⟩ = some (.int .u8 (x0 : Int))) := Lib.hid (by rw [cell_of_row _ _ _ _ _ _ (heap_alloc_new w _)]; rfl)
  have LX0 : Hid (w.heap.size < (w.alloc (.cells #[.int .u8 (x0 : Int), .int .u8 (x1 : Int)] 42)).heap.size) := Lib.hid (World.block_lt_of_cell? _ _ CX0.out)
  have CX1 : Hid ((w.alloc (.cells #[.int .u8 (x0 : Int), .int .u8 (x1 : Int)] 42)).cell? ⟨w.heap.size, 1, none⟩ = some (.int .u8 (x1 : Int))) := Lib.hid (by rw [cell_of_row _ _ _ _ _ _ (heap_alloc_new w _)]; rfl)
  have LX1 : Hid (w.heap.size < (w.alloc (.cells #[.int .u8 (x0 : Int), .int .u8 (x1 : Int)] 42)).heap.size) := Lib.hid (World.block_lt_of_cell? _ _ CX1.out)
  clear CF CA hq qs hK HB0 ha hb
  go_enter Tryd.func8, Tryd.ntmps8
  go_wp2_with fail
  refine ((CA'.out _ (HB0'.out _).out).out).mono ?_
  rintro e w1 ⟨rfl, hb1⟩
  have B1 := Lib.hid ((HB0'.out _).out.trans (hb1.mono ((HB0'.out _).out).size))
  have DX0 := Lib.hid ((hb1.cell LX0.out).trans CX0.out)
  have DX1 := Lib.hid ((hb1.cell LX1.out).trans CX1.out)
  clear hb1
  go_wp2_with fail
  refine ((CF'.out _ B1.out).out).mono ?_
  rintro e w2 ⟨u, rfl, hf, hb2⟩
  have HF := Lib.hid hf
  have HB := Lib.hid (B1.out.trans (hb2.mono (B1.out).size))
  have cx0 := (hb2.cell (World.block_lt_of_cell? _ _ DX0.out)).trans DX0.out
  have cx1 := (hb2.cell (World.block_lt_of_cell? _ _ DX1.out)).trans DX1.out
  clear hf hb2 CX0 LX0 DX0 CX1 LX1 DX1
  go_wp2_with fail
  have CP := Lib.hid (fun n => prime_ok q u (w2.drewN n) (HF.out.to (below_drewN (Below.refl w2.heap.size w2) n)))
  go_quiet ((go_at_call 15; refine Calls.quiet_of_same ((CP.out _).mono fun _ _ h => ⟨h.1, h.2⟩)))
  have HF3 := Lib.hid (HF.out.to (below_drewN (Below.refl w2.heap.size w2) nq))
  have HB3 := Lib.hid (below_drewN HB.out nq)
  generalize w2.drewN nq = w3 at HF3 HB3 ⊢
  rw [ea, eb]
  clear HF HB cx0 cx1 ea eb CA' CF' HB0' B1
  obtain ⟨p, hp⟩ : ∃ p, Sf.prm q = p := ⟨_, rfl⟩
  have p2 := (Sf.prm_ok QS.out).1
  have p7 := (Sf.prm_ok QS.out).2.2.2.2
  have PA := prime_add QS.out aq
  have PP := prime_pow QS.out aq bq
  have PQ := size_pow QS.out aq
  rw [hp] at PA PP p2 p7 ⊢
  have RS := Lib.hid PA
  obtain ⟨s, hs⟩ : ∃ zz, Sf.addF q a b = zz := ⟨_, rfl⟩
  obtain ⟨x, hx⟩ : ∃ zz, powF q a p = zz := ⟨_, rfl⟩
  obtain ⟨y, hy⟩ : ∃ zz, powF q b p = zz := ⟨_, rfl⟩
  have sq : s < q := hs ▸ Sf.add_lt QS.out aq bq
  have xq : x < q := hx ▸ pow_lt QS.out aq
  have yq : y < q := hy ▸ pow_lt QS.out bq
  rw [hs, hx, hy] at PP
  obtain ⟨z, hz⟩ : ∃ zz, Sf.addF q x y = zz := ⟨_, rfl⟩
  rw [hz] at PP
  have A0 : Hid (Calls Tryd.prog 21 #[u, .int .i64 (a : Int), .int .i64 (b : Int)] w3 (still (.int .i64 (s : Int)) w3)) := Lib.hid (by
    have h := add_ok q a b u w3 QS.out HF3.out aq bq
    rw [show Sf.addF q a b = s from hs] at h
    exact h)
  have A1 : Hid (Calls Tryd.prog 21 #[u, .int .i64 (x : Int), .int .i64 (y : Int)] w3 (still (.int .i64 (z : Int)) w3)) := Lib.hid (by
    have h := add_ok q x y u w3 QS.out HF3.out xq yq
    rw [show Sf.addF q x y = z from hz] at h
    exact h)
  have P0 : Hid (Calls Tryd.prog 25 #[u, .int .i64 (s : Int), .int .i64 (p : Int)] w3 (still (.int .i64 (z : Int)) w3)) := Lib.hid (by
    have h := power_any q s p u w3 QS.out HF3.out sq (by omega)
    rw [show powF q s p = z from PP] at h
    exact h)
  have P1 : Hid (Calls Tryd.prog 25 #[u, .int .i64 (a : Int), .int .i64 (p : Int)] w3 (still (.int .i64 (x : Int)) w3)) := Lib.hid (by
    have h := power_any q a p u w3 QS.out HF3.out aq (by omega)
    rw [show powF q a p = x from hx] at h
    exact h)
  have P2 : Hid (Calls Tryd.prog 25 #[u, .int .i64 (b : Int), .int .i64 (p : Int)] w3 (still (.int .i64 (y : Int)) w3)) := Lib.hid (by
    have h := power_any q b p u w3 QS.out HF3.out bq (by omega)
    rw [show powF q b p = y from hy] at h
    exact h)
  have P3 : Hid (Calls Tryd.prog 25 #[u, .int .i64 (a : Int), .int .i64 (q : Int)] w3 (still (.int .i64 (a : Int)) w3)) := Lib.hid (by
    have h := power_any q a q u w3 QS.out HF3.out aq (by omega)
    rw [show powF q a q = a from PQ] at h
    exact h)
  have AQ := Lib.hid aq
  clear CP PA PP PQ hp hs hx hy hz
  go_wp2_with fail
  go_loopw [11, 12] (fun c i wr => wr = w3 ∧ ∃ k m : Nat, k ≤ p ∧ i = .int .i64 (k : Int) ∧ c = .int .i64 (m : Int) ∧ Hid (m < q ∧ m = mulN q a k)) (fun _ i _ => p - (intOf i).toNat)
  case atStart => exact ⟨rfl, 0, 0, Nat.zero_le _, rfl, rfl, Lib.hid ⟨by omega, rfl⟩⟩
  case round =>
    obtain ⟨rfl, k, m, hk, rfl, rfl, H⟩ := hrel
    by_cases hlt : k < p
    · have hkI : (k : Int) < (p : Int) := by omega
      have hk9 : (k : Int) < 9 := by omega
      have cM := Lib.hid (add_ok q m a u wr QS.out HF3.out H.out.1 AQ.out)
      have Y : Hid (Sf.addF q m a < q ∧ Sf.addF q m a = mulN q a (k + 1)) := Lib.hid ⟨Sf.add_lt QS.out H.out.1 AQ.out, by unfold mulN; rw [Sf.rep_succ]; exact congrArg (fun z => Sf.addF q z a) H.out.2⟩
      generalize Sf.addF q m a = y at cM Y
      clear H
      go_wp2_with (go_at_call 21; refine cM.out.mono ?_; rintro e w' ⟨rfl, rfl⟩)
      go_roundw
      case rel => exact ⟨trivial, k + 1, y, by omega, by go_num, rfl, Y⟩
      case measure => simp [intOf]; omega
    · obtain rfl : k = p := by omega
      obtain rfl : m = 0 := H.out.2.trans RS.out
      have hkI : ¬ (k : Int) < (k : Int) := by omega
      clear H RS
      go_wp2_with fail
      refine A0.out.mono ?_
      rintro e z1 ⟨rfl, hzz⟩
      obtain rfl := hzz.symm
      go_wp2_with fail
      refine P0.out.mono ?_
      rintro e z2 ⟨rfl, hzz⟩
      obtain rfl := hzz.symm
      go_wp2_with fail
      refine P1.out.mono ?_
      rintro e z3 ⟨rfl, hzz⟩
      obtain rfl := hzz.symm
      go_wp2_with fail
      refine P2.out.mono ?_
      rintro e z4 ⟨rfl, hzz⟩
      obtain rfl := hzz.symm
      go_wp2_with fail
      refine A1.out.mono ?_
      rintro e z5 ⟨rfl, hzz⟩
      obtain rfl := hzz.symm
      go_wp2_with fail
      refine P3.out.mono ?_
      rintro e z6 ⟨rfl, hzz⟩
      obtain rfl := hzz.symm
      go_wp2_with fail
      go_ret
      exact ⟨rfl, HB3.out⟩
end Go.Proofs.YtclmlcoikohceaaDoor
