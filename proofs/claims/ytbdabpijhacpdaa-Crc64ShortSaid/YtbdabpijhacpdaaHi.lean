/- Layer 8: the walk of Crc64Linear. -/
import Derived.Test.YtbdabpijhacpdaaHg
import Derived.BigQuiet
import Derived.Lib.SliceRun
namespace Go.Proofs.Ytbdabpijhacpdaa
open Go Go.RowKit
set_option linter.unusedVariables false
set_option linter.unusedSimpArgs false
theorem crcsum_quiet (v : Value) (b : List Nat) (w : World) (n : Nat) (hb : Bs w v b) :
    Calls Try.prog 12 #[v] (w.drewN n) fun e w'' => e = .returned (.int .u64 (Crc.crc b : Nat)) ∧ ∃ m, w'' = w.drewN m :=
  Calls.quiet_of_same ((pcrcsum_eq v b (w.drewN n) (hb.keep fun _ _ => rfl)).mono fun _ _ h => ⟨h.1, h.2.symm⟩)
theorem run_min4 {P : Program} (n0 n1 n2 : Nat) : ∃ n : Nat, n ≤ n0 ∧ n ≤ n1 ∧ n ≤ n2 ∧ n ≤ 100 ∧ ∀ w ts t, (Builtin.min_ ts t #[.int .i64 (n0 : Int), .int .i64 (n1 : Int), .int .i64 (n2 : Int), .int .i64 100]).run P w = .ok (.int .i64 (n : Int)) w := by
  refine ⟨min (min n0 (min n1 n2)) 100, by omega, by omega, by omega, by omega, fun w ts t => ?_⟩
  simp [Builtin.min_, Builtin.min2]
  (repeat' split) <;> omega
def LiSt (w wr : World) (g n k : Nat) (t : TypeId) (x : Nat → Nat) : Prop :=
  Below w.heap.size w wr ∧ ∃ cur, Row wr g t cur ∧ cur.size = n ∧ ∀ j, j < k → cur[j]? = some (.int .u8 ((x j : Nat) : Int))
theorem Bs.byte {w : World} {v : Value} {l : List Nat} {A : Option Addr} {n c : Nat} (h : Bs w v l) (e : v = .slice A n c) {k : Nat} (hk : k < n) : ∃ b off, A = some ⟨b, off, none⟩ ∧ w.cell? ⟨b, off + k, none⟩ = some (.int .u8 ((l.getD k 0 : Nat) : Int)) := by
  obtain ⟨A', c', h1, -, -, -, h2⟩ := h
  rw [e] at h1
  injection h1 with h3 h4 h5
  obtain ⟨b, off, h6, h7⟩ := h2 (by omega)
  exact ⟨b, off, by rw [h3, h6], h7 k (by omega)⟩
theorem LiSt.next {w wr : World} {g n k : Nat} {t : TypeId} {x : Nat → Nat} (h : LiSt w wr g n k t x) (hg : w.heap.size ≤ g) (hk : k < n) (y : Nat) (hy : y = x k) : LiSt w ((wr.setCell ⟨g, k, none⟩ (.int .u8 (y : Int))).drew) g n (k + 1) t x := by
  obtain ⟨h1, cur, h2, h3, h4⟩ := h
  refine ⟨(h1.setCell (p := ⟨g, k, none⟩) hg _).drew, cur.setIfInBounds k (.int .u8 (y : Int)), h2.store k _, by rw [Array.size_setIfInBounds]; exact h3, fun j hj => ?_⟩
  by_cases e : j = k
  · subst e; rw [Array.getElem?_setIfInBounds_self_of_lt (by omega), hy]
  · rw [Array.getElem?_setIfInBounds_ne (fun h => e h.symm)]; exact h4 j (by omega)
/-- The first k bytes of a slice. -/
theorem slice_to (A : Option Addr) (m c k : Nat) (hk : k ≤ m) (hm : m ≤ c) : ∃ B d, (∀ w, (Instr.slice 22 (.slice A m c) none (some (.int .i64 (k : Int))) none).run Try.prog w = .ok (.slice B k d) w) ∧ (∀ w, (Instr.sliceAt 22 (.slice A m c) none (some (.int .i64 (k : Int))) none).run Try.prog w = .ok (.slice B k d) w) ∧ ∀ w l, Bs w (.slice A m c) l → Bs w (.slice B k d) (l.take k) := by
  have hel : Try.prog.elem 22 = 5 := by kernel_rfl
  have hu : Try.prog.underlying 22 = some (.slice (Try.prog.elem 22)) := by rw [hel]; exact Try.underlying22
  obtain ⟨i, hi, hzz⟩ := Option.map_eq_some_iff.1 info_u8
  simp only [Prod.mk.injEq] at hzz
  have key : ∀ w, (Instr.slice 22 (.slice A m c) none (some (.int .i64 (k : Int))) none).run Try.prog w = .ok (sliced A 0 k c 1) w := fun w => by
    rw [run_slice_h w 22 A m c hu .i64 (k : Int) (by omega) (by omega), hel]
    simp [sizeOf, typeInfo, hi, hzz.2.1, Result.andThen]
  refine ⟨if c = 0 then A else A.map (fun a => Addr.add a (0 * 1)), c, key, fun w => by rw [run_sliceAt_slice w _ _ _ _ _ hu]; exact key w, ?_⟩
  rintro w l ⟨A', c', e, hc, hl, hn, hcell⟩
  injection e with e1 e2 e3
  subst e1 e3
  refine ⟨_, c, by rw [List.length_take, Nat.min_eq_left (by omega)], by rw [List.length_take]; omega, fun x hx => hl x (List.mem_of_mem_take hx), fun h => ?_, fun h => ?_⟩
  · by_cases h0 : c = 0
    · exact h0
    · rw [if_neg h0] at h
      cases A with
      | none => exact hn rfl
      | some a => cases h
  · rw [List.length_take] at h
    obtain ⟨b, off, rfl, hq⟩ := hcell (by omega)
    refine ⟨b, off, ?_, fun j hj => ?_⟩
    · split
      · rfl
      · rfl
    · rw [List.length_take] at hj
      rw [hq j (by omega)]
      congr 3
      rw [getD_in (by omega), getD_in (by rw [List.length_take]; omega), List.getElem_take]
theorem Crc.lin_list {a b c y : List Nat} {n : Nat} (ha : n ≤ a.length) (hb : n ≤ b.length) (hc : n ≤ c.length) (hy : y.length = n) (h : ∀ k, k < n → y.getD k 0 = a.getD k 0 ^^^ b.getD k 0 ^^^ c.getD k 0) : Crc.crc (a.take n) ^^^ Crc.crc (b.take n) ^^^ Crc.crc (c.take n) = Crc.crc y := by
  rw [Crc.crc_linear (by rw [List.length_take, List.length_take]; omega) (by rw [List.length_take, List.length_take]; omega)]
  congr 1
  refine List.ext_getElem (by simp [Crc.xorL]; omega) fun k h1 h2 => ?_
  have hk : k < n := by rw [hy] at h2; exact h2
  have := h k hk
  rw [getD_in h2, getD_in (by omega), getD_in (by omega), getD_in (by omega)] at this
  rw [this]
  simp [Crc.xorL]
set_option maxHeartbeats 2000000 in
set_option maxRecDepth 100000 in
theorem linlaw_walk (v0 v1 v2 : Value) (a b c : List Nat) (w : World) (h0 : Bs w v0 a) (h1 : Bs w v1 b) (h2 : Bs w v2 c) :
    Calls Try.prog 8 #[v0, v1, v2] w (lawPost w) := by
  have H0 := Lib.hid h0
  have H1 := Lib.hid h1
  have H2 := Lib.hid h2
  obtain ⟨A0, c0, e0⟩ := h0.form
  obtain ⟨A1, c1, e1⟩ := h1.form
  obtain ⟨A2, c2, e2⟩ := h2.form
  obtain ⟨n0, en0⟩ : ∃ n, a.length = n := ⟨_, rfl⟩
  obtain ⟨n1, en1⟩ : ∃ n, b.length = n := ⟨_, rfl⟩
  obtain ⟨n2, en2⟩ : ∃ n, c.length = n := ⟨_, rfl⟩
  rw [en0] at e0
  rw [en1] at e1
  rw [en2] at e2
  have CC := Lib.hid (show n0 ≤ c0 ∧ n1 ≤ c1 ∧ n2 ≤ c2 from ⟨by obtain ⟨_, _, h, h', -⟩ := h0; rw [e0] at h; injection h with _ h3 h4; omega, by obtain ⟨_, _, h, h', -⟩ := h1; rw [e1] at h; injection h with _ h3 h4; omega, by obtain ⟨_, _, h, h', -⟩ := h2; rw [e2] at h; injection h with _ h3 h4; omega⟩)
  have E0 := Lib.hid e0
  have E1 := Lib.hid e1
  have E2 := Lib.hid e2
  rw [e0, e1, e2]
  clear h0 h1 h2 e0 e1 e2
  go_enter Try.func8, Try.ntmps8
  go_wp2_with fail
  refine (awake_any w).mono ?_
  rintro e w1 ⟨rfl, hbel⟩
  obtain ⟨n, L0, L1, L2, L100, hmin⟩ := run_min4 (P := Try.prog) n0 n1 n2
  have B1 := Lib.hid hbel
  have P0 := Lib.hid (H0.out.below hbel)
  have P1 := Lib.hid (H1.out.below hbel)
  have P2 := Lib.hid (H2.out.below hbel)
  obtain ⟨i0, hi, hz0, hz1, hz2⟩ := info_parts info_u8
  have MB : i0.bytes * n ≤ 281474976710656 := by rw [hz2]; omega
  have ML : n ≤ maxLen := by unfold maxLen; omega
  clear hbel
  go_wp2_with (at_make; go_must (refine wpList_make_full _ rfl _ _ 22 rfl w1.heap.size 5 i0 (.int .u8 0) 1 Try.underlying22 hi hz0 hz1 .i64 .i64 _ _ n rfl rfl rfl rfl MB ML (Nat.le_refl _) ?_); intro w2 hown hg)
  obtain ⟨G, hG⟩ : ∃ G, w1.heap.size = G := ⟨_, rfl⟩
  obtain ⟨x, hx⟩ : ∃ x : Nat → Nat, ∀ k, x k = a.getD k 0 ^^^ b.getD k 0 ^^^ c.getD k 0 := ⟨_, fun _ => rfl⟩
  have HX := Lib.hid hx
  have ST : Hid (LiSt w1 w2 G n 0 5 x) := by
    obtain ⟨hlen, hown⟩ := hown
    obtain ⟨cur, hrow, hcs⟩ : ∃ cur, Row w2 w1.heap.size 5 cur ∧ cur.size = n := by
      rcases hown with ⟨h, -⟩ | ⟨g, cap, cur, hv, -, hh, hle, -, hs, -⟩
      · cases h
      · injection hv with hv1 hv2 hv3
        injection hv1 with hv1
        injection hv1 with hv1
        subst hv1 hv3
        exact ⟨cur, hh, by simpa using hs⟩
    have hb1 : Below w1.heap.size w1 w2 := (Below.refl _ _).grown hg (Nat.le_refl _) (fun _ h => by cases h)
    exact Lib.hid ⟨hb1, cur, hG ▸ hrow, hcs, fun j hj => absurd hj (Nat.not_lt_zero j)⟩
  have HG := Lib.hid hG
  rw [hG]
  clear hown hg MB ML hi hz0 hz1 hz2 hmin hG hx
  go_wp2_with fail
  go_loopw [9] (fun i wr => ∃ k : Nat, k ≤ n ∧ i = .int .i64 (k : Int) ∧ Hid (LiSt w1 wr G n k 5 x)) (fun i _ => n - (intOf i).toNat)
  case atStart => exact ⟨0, Nat.zero_le _, rfl, ST⟩
  case round =>
    obtain ⟨k, hk, rfl, H⟩ := hrel
    by_cases hlt : k < n
    · have kI : (k : Int) < (n : Int) := by omega
      have hn0 : (k : Int) < (n0 : Int) := by omega
      have hn1 : (k : Int) < (n1 : Int) := by omega
      have hn2 : (k : Int) < (n2 : Int) := by omega
      obtain ⟨x0, hx0⟩ : ∃ y, a.getD k 0 = y := ⟨_, rfl⟩
      obtain ⟨x1, hx1⟩ : ∃ y, b.getD k 0 = y := ⟨_, rfl⟩
      obtain ⟨x2, hx2⟩ : ∃ y, c.getD k 0 = y := ⟨_, rfl⟩
      have l0 : x0 < 256 := hx0 ▸ P0.out.getD_lt k
      have l1 : x1 < 256 := hx1 ▸ P1.out.getD_lt k
      have l2 : x2 < 256 := hx2 ▸ P2.out.getD_lt k
      have XK := Lib.hid (HX.out k)
      rw [hx0, hx1, hx2] at XK
      obtain ⟨b0, o0, rfl, q0⟩ := Bs.byte (P0.out.below (H.out.1)) E0.out (k := k) (by omega)
      obtain ⟨b1, o1, rfl, q1⟩ := Bs.byte (P1.out.below (H.out.1)) E1.out (k := k) (by omega)
      obtain ⟨b2, o2, rfl, q2⟩ := Bs.byte (P2.out.below (H.out.1)) E2.out (k := k) (by omega)
      rw [hx0] at q0
      rw [hx1] at q1
      rw [hx2] at q2
      obtain ⟨old, hold⟩ : ∃ old, wr.cell? ⟨G, k, none⟩ = some old := by
        obtain ⟨-, cur, h1, h2, -⟩ := H.out; exact ⟨_, by rw [h1.cell, Array.getElem?_eq_getElem (by omega)]⟩
      have fz : wr.frozen? ⟨G, k, none⟩ = false := by obtain ⟨-, cur, h1, -, -⟩ := H.out; exact h1.frozen k
      have X01 := Lib.hid (u8_xor_nat x0 x1 l0 l1)
      have l01 : x0 ^^^ x1 < 256 := Nat.xor_lt_two_pow (n := 8) l0 l1
      have X012 := Lib.hid (u8_xor_nat (x0 ^^^ x1) x2 l01 l2)
      have NX := Lib.hid (H.out.next (by rw [HG.out]; exact Nat.le_refl _) hlt _ XK.out.symm)
      clear hx0 hx1 hx2 l0 l1 l2 l01 H XK
      go_wp2_with fail
      refine wp_region_still_tail 16 (by kernel_rfl) (by kernel_rfl) ?_
      simp only [List.take_succ_cons, List.take_zero, List.drop_succ_cons, List.drop_zero]
      repeat still_step
      refine wpStill_nil ?_
      change wpList _ _ _ _ _ wr.drew
      go_wp2
      rw [X01.out, X012.out]
      go_roundw
      case rel => exact ⟨k + 1, by omega, by go_num, NX⟩
      case measure => simp [intOf]; omega
    · obtain rfl : k = n := by omega
      obtain ⟨B0, d0, sa0, sb0, Y0⟩ := slice_to A0 n0 c0 k L0 CC.out.1
      obtain ⟨B3, d1, sa1, sb1, Y1⟩ := slice_to A1 n1 c1 k L1 CC.out.2.1
      obtain ⟨B2, d2, sa2, sb2, Y2⟩ := slice_to A2 n2 c2 k L2 CC.out.2.2
      have Z0 := Lib.hid (Y0 wr a (by rw [← E0.out]; exact P0.out.below H.out.1))
      have Z1 := Lib.hid (Y1 wr b (by rw [← E1.out]; exact P1.out.below H.out.1))
      have Z2 := Lib.hid (Y2 wr c (by rw [← E2.out]; exact P2.out.below H.out.1))
      obtain ⟨hbel, cur, hrow, hsz, hcur⟩ := H.out
      obtain ⟨y, hy⟩ : ∃ y, (List.range k).map x = y := ⟨_, rfl⟩
      have yl : y.length = k := by rw [← hy]; simp
      have yk : ∀ j, j < k → y.getD j 0 = x j := fun j hj => by rw [getD_in (by omega)]; simp [← hy]
      have y256 : ∀ u ∈ y, u < 256 := by
        intro u hu
        rw [← hy] at hu
        obtain ⟨j, hj, rfl⟩ := List.mem_map.1 hu
        rw [HX.out]
        exact Nat.xor_lt_two_pow (n := 8) (Nat.xor_lt_two_pow (n := 8) (P0.out.getD_lt j) (P1.out.getD_lt j)) (P2.out.getD_lt j)
      have ZY := Lib.hid (Bs.of_row (n := k) (c := k) hrow yl ⟨Nat.le_refl _, by unfold maxLen; omega⟩ y256 fun j hj => by rw [yk j hj]; exact hcur j hj)
      have EQ := Lib.hid (Crc.lin_list (a := a) (b := b) (c := c) (y := y) (n := k) (by omega) (by omega) (by omega) yl fun j hj => by rw [yk j hj, HX.out])
      have K0 := Lib.hid (Crc.crc_lt Z0.out.lt)
      have K1 := Lib.hid (Crc.crc_lt Z1.out.lt)
      have K2 := Lib.hid (Crc.crc_lt Z2.out.lt)
      have BW := Lib.hid (B1.out.trans (hbel.mono B1.out.size))
      clear Y0 Y1 Y2 hbel hrow hsz hcur hy yl yk y256 H
      have Q0 := Lib.hid fun m => crcsum_quiet _ _ wr m Z0.out
      have Q1 := Lib.hid fun m => crcsum_quiet _ _ wr m Z1.out
      have Q2 := Lib.hid fun m => crcsum_quiet _ _ wr m Z2.out
      have QY := Lib.hid fun m => crcsum_quiet _ _ wr m ZY.out
      generalize Crc.crc (a.take k) = s0 at *
      generalize Crc.crc (b.take k) = s1 at *
      generalize Crc.crc (c.take k) = s2 at *
      generalize Crc.crc y = s3 at *
      go_wp2_with fail
      go_quiet (first | (go_at_call 12; exact Q0.out _) | (go_at_call 12; exact Q1.out _) | (go_at_call 12; exact Q2.out _) | (go_at_call 12; exact QY.out _))
      have X01 := Lib.hid (xor_u64 K0.out K1.out)
      have X012 := Lib.hid (xor_u64 (Nat.xor_lt_two_pow K0.out K1.out) K2.out)
      go_wp2_with fail
      go_ret
      exact ⟨congrArg (fun t => Ending.returned (.bool t)) (by rw [X01.out, X012.out, EQ.out]; simp), below_drewN BW.out nq⟩
end Go.Proofs.Ytbdabpijhacpdaa
