/- Joined: Gfc Gff Gfr Gfs Rff. -/
import Derived.Test.YtheijobnmdbodaaProg
import Derived.Test.YtheijobnmdbodaaGf
import Derived.WalkKit
import Derived.WalkSpells
import Derived.WalkLawsBesides
import Derived.Lib.Hide
import Derived.Test.YtheijobnmdbodaaGA
import Derived.Deep.QuietTactic
import Derived.BigQuiet
import Derived.StillTailTactics
import Derived.Deep.DeepMust
import Derived.Deep.RegionHeld3
import Derived.Deep.AppendLies
namespace Go.Proofs.Ytheijobnmdbodaa
open Go Go.RowKit

theorem and128 (a : Nat) (ha : a < 256) : bits BinOp.and IntKind.u8 (a : Int) 128 = ((a &&& 128 : Nat) : Int) := u8_and_nat a 128 ha (by decide)
theorem and128_val : ∀ a, a < 256 → (a &&& 128) = 128 * (a / 128) := by decide +kernel
theorem and1 (a : Nat) (ha : a < 256) : bits BinOp.and IntKind.u8 (a : Int) 1 = ((a % 2 : Nat) : Int) := by
  have := u8_and_nat a 1 ha (by decide)
  rw [Nat.and_one_is_mod] at this
  exact this
theorem ret_u8 {a b : Int} (h : a = b) : Ending.returned (.int .u8 a) = .returned (.int .u8 b) := by rw [h]
theorem ret_i64 {a b : Int} (h : a = b) : Ending.returned (.int .i64 a) = .returned (.int .i64 b) := by rw [h]

set_option maxHeartbeats 400000 in
theorem timesX_any (a : Nat) (ha : a < 256) (w : World) :
    Calls Try.prog 63 #[.int .u8 (a : Int)] w fun e w' => e = .returned (.int .u8 (Gf.tx a : Nat)) ∧ w = w' := by
  have h2 := and128_val a ha
  by_cases h : 128 ≤ a
  · have h1 : (bits BinOp.and IntKind.u8 (a : Int) 128 != 0) = true := by
      rw [and128 a ha, h2]; simp; omega
    have h3 : bits BinOp.xor IntKind.u8 ((a : Int) * 2 % 256) 29 = (Gf.tx a : Nat) := by
      have e : (a : Int) * 2 % 256 = ((2 * a % 256 : Nat) : Int) := by omega
      have := u8_xor_nat (2 * a % 256) 29 (by omega) (by decide)
      have d : a / 128 = 1 := by omega
      rw [e]; unfold Gf.tx; rw [d]; exact this
    have H3 := Lib.hid h3
    clear h2 h3
    go_enter Try.func63, Try.ntmps63
    go_wp2
    go_ret
    exact ⟨ret_u8 H3.out, rfl⟩
  · have h1 : (bits BinOp.and IntKind.u8 (a : Int) 128 != 0) = false := by
      rw [and128 a ha, h2]; simp; omega
    have h3 : (a : Int) * 2 = (Gf.tx a : Nat) := by
      have d : a / 128 = 0 := by omega
      unfold Gf.tx; rw [d]; simp; omega
    have H3 := Lib.hid h3
    clear h2 h3
    go_enter Try.func63, Try.ntmps63
    go_wp2
    go_ret
    exact ⟨ret_u8 H3.out, rfl⟩

set_option maxHeartbeats 400000 in
theorem mul_any (a b : Nat) (ha : a < 256) (hb : b < 256) (w : World) :
    Calls Try.prog 52 #[.int .u8 (a : Int), .int .u8 (b : Int)] w fun e w' => e = .returned (.int .u8 (Gf.mul a b : Nat)) ∧ w = w' := by
  go_enter Try.func52, Try.ntmps52
  go_wp2
  go_loop [0, 1, 5] (fun x y s => ∃ f x' y' s' : Nat, x' < 256 ∧ y' < 256 ∧ s' < 256 ∧ y' < 2 ^ f ∧ x = .int .u8 (x' : Int) ∧ y = .int .u8 (y' : Int) ∧ s = .int .u8 (s' : Int) ∧ Hid (Gf.mulF f x' y' s' = Gf.mul a b)) (fun _ y _ => (intOf y).toNat)
  case atStart => exact ⟨8, a, b, 0, ha, hb, by decide, hb, rfl, rfl, rfl, Lib.hid rfl⟩
  case round =>
    obtain ⟨f, x', y', s', hx, hy, hs, hf, rfl, rfl, rfl, H⟩ := hrel
    by_cases h0 : y' = 0
    · have g0 : ((y' : Int) != 0) = false := by simp [h0]
      have e : ((s' : Nat) : Int) = (Gf.mul a b : Nat) := by rw [← H.out, h0, Gf.mulF_zero_b]
      have E := Lib.hid e
      clear e h0
      go_wp2
      go_ret
      exact ⟨ret_u8 E.out, rfl⟩
    · have g0 : ((y' : Int) != 0) = true := by simp [h0]
      have F : Hid (∃ g, f = g + 1) := Lib.hid (by
        cases f with
        | zero => exact absurd (by simpa using hf) h0
        | succ g => exact ⟨g, rfl⟩)
      have D : ((y' : Int) / 2).toNat < (y' : Int).toNat := by omega
      by_cases h1 : y' % 2 = 1
      · have g1 : (bits BinOp.and IntKind.u8 (y' : Int) 1 != 0) = true := by rw [and1 y' hy, h1]; rfl
        have X := Lib.hid (u8_xor_nat s' x' hs hx)
        have H1 := Lib.hid h1
        have H0 := Lib.hid h0
        clear h1 h0
        go_wp2_with (go_at_call 63; refine (timesX_any _ hx _).mono ?_; rintro e w' ⟨rfl, rfl⟩)
        go_round
        case rel =>
          obtain ⟨g, rfl⟩ := F.out
          refine ⟨g, Gf.tx x', y' / 2, s' ^^^ x', Gf.tx_lt _ hx, by omega, Gf.xor_lt _ _ hs hx, by rw [Nat.pow_succ] at hf; omega, rfl, ?_, ?_, ?_⟩
          · go_num
          · rw [X.out]
          · have h := H.out; simp only [Gf.mulF] at h; rw [H1.out, Nat.mul_one] at h; exact h
        case measure => simp [intOf]; omega
      · have g1 : (bits BinOp.and IntKind.u8 (y' : Int) 1 != 0) = false := by rw [and1 y' hy, show y' % 2 = 0 by omega]; rfl
        have H1 := Lib.hid (show y' % 2 = 0 by omega)
        have H0 := Lib.hid h0
        clear h1 h0
        go_wp2_with (go_at_call 63; refine (timesX_any _ hx _).mono ?_; rintro e w' ⟨rfl, rfl⟩)
        go_round
        case rel =>
          obtain ⟨g, rfl⟩ := F.out
          refine ⟨g, Gf.tx x', y' / 2, s', Gf.tx_lt _ hx, by omega, hs, by rw [Nat.pow_succ] at hf; omega, rfl, by go_num, rfl, ?_⟩
          have h := H.out; simp only [Gf.mulF] at h; rw [H1.out, Nat.mul_zero, Nat.xor_zero] at h; exact h
        case measure => simp [intOf]; omega

theorem and1_i64 (a : Nat) : bits BinOp.and IntKind.i64 (a : Int) 1 = ((a % 2 : Nat) : Int) := by
  have key : (BitVec.ofInt 64 (a : Int) &&& BitVec.ofInt 64 1).toNat = a % 2 := by
    rw [BitVec.toNat_and, BitVec.toNat_ofInt, show (BitVec.ofInt 64 1).toNat = 2 ^ 1 - 1 by decide, Nat.and_two_pow_sub_one_eq_mod]
    omega
  show IntKind.i64.wrap ((BitVec.ofInt 64 (a : Int) &&& BitVec.ofInt 64 1).toNat : Nat) = _
  rw [key, IntKind.wrap_i64]
  omega

set_option maxHeartbeats 400000 in
theorem power_any (a n : Nat) (ha : a < 256) (hn : n < 256) (w : World) :
    Calls Try.prog 70 #[.int .u8 (a : Int), .int .i64 (n : Int)] w fun e w' => e = .returned (.int .u8 (Gf.gpow a n : Nat)) ∧ w = w' := by
  go_enter Try.func70, Try.ntmps70
  go_wp2
  go_loop [0, 1, 5] (fun x y s => ∃ f x' y' s' : Nat, x' < 256 ∧ y' < 256 ∧ s' < 256 ∧ y' < 2 ^ f ∧ x = .int .u8 (x' : Int) ∧ y = .int .i64 (y' : Int) ∧ s = .int .u8 (s' : Int) ∧ Hid (Gf.powF f x' y' s' = Gf.gpow a n)) (fun _ y _ => (intOf y).toNat)
  case atStart => exact ⟨8, a, n, 1, ha, hn, by decide, hn, rfl, rfl, rfl, Lib.hid (by rw [Gf.powF_eq _ _ _ _ ha (by decide) hn, Gf.one_mul _ (Gf.gpow_lt _ _ ha)])⟩
  case round =>
    obtain ⟨f, x', y', s', hx, hy, hs, hf, rfl, rfl, rfl, H⟩ := hrel
    by_cases h0 : y' = 0
    · have g0 : ¬ 0 < (y' : Int) := by simp [h0]
      have e : ((s' : Nat) : Int) = (Gf.gpow a n : Nat) := by rw [← H.out, h0, Gf.powF_eq _ _ _ _ hx hs (Nat.two_pow_pos f)]; exact congrArg Nat.cast (Gf.mul_one s' hs).symm
      have E := Lib.hid e
      clear e h0
      go_wp2
      go_ret
      exact ⟨ret_u8 E.out, rfl⟩
    · have g0 : 0 < y' := by omega
      have F : Hid (∃ g, f = g + 1) := Lib.hid (by
        cases f with
        | zero => exact absurd (by simpa using hf) h0
        | succ g => exact ⟨g, rfl⟩)
      have D : ((y' : Int) / 2).toNat < (y' : Int).toNat := by omega
      have hm := Gf.mul_lt x' x' hx
      by_cases h1 : y' % 2 = 1
      · have g1 : (bits BinOp.and IntKind.i64 (y' : Int) 1 != 0) = true := by rw [and1_i64 y', h1]; rfl
        have H1 := Lib.hid h1
        have H0 := Lib.hid h0
        clear h1 h0
        go_wp2_with (go_at_call 52; refine (mul_any _ _ (by assumption) (by assumption) _).mono ?_; rintro e w' ⟨rfl, rfl⟩)
        go_round
        case rel =>
          obtain ⟨g, rfl⟩ := F.out
          refine ⟨g, Gf.mul x' x', y' / 2, Gf.mul s' x', hm, by omega, Gf.mul_lt _ _ hs, by rw [Nat.pow_succ] at hf; omega, rfl, by go_num, rfl, ?_⟩
          have h := H.out; simp only [Gf.powF] at h; rw [if_pos H1.out] at h; exact h
        case measure => simp [intOf]; omega
      · have g1 : (bits BinOp.and IntKind.i64 (y' : Int) 1 != 0) = false := by rw [and1_i64 y', show y' % 2 = 0 by omega]; rfl
        have H1 := Lib.hid h1
        have H0 := Lib.hid h0
        clear h1 h0
        go_wp2_with (go_at_call 52; refine (mul_any _ _ (by assumption) (by assumption) _).mono ?_; rintro e w' ⟨rfl, rfl⟩)
        go_round
        case rel =>
          obtain ⟨g, rfl⟩ := F.out
          refine ⟨g, Gf.mul x' x', y' / 2, s', hm, by omega, hs, by rw [Nat.pow_succ] at hf; omega, rfl, by go_num, rfl, ?_⟩
          have h := H.out; simp only [Gf.powF] at h; rw [if_neg H1.out] at h; exact h
        case measure => simp [intOf]; omega

theorem tmod255 (n : Int) : n.tmod 255 = if 0 ≤ n then n % 255 else -((-n) % 255) := by
  by_cases h : 0 ≤ n
  · rw [if_pos h, Int.tmod_eq_emod_of_nonneg h]
  · rw [if_neg h]
    have := Int.neg_tmod (-n) 255
    rw [Int.neg_neg] at this
    rw [this, Int.tmod_eq_emod_of_nonneg (by omega)]
theorem red_neg (n : Int) (h : n.tmod 255 < 0) : wrap64 (n.tmod 255 + 255) = n % 255 := by
  rw [tmod255] at h ⊢
  by_cases hn : 0 ≤ n
  · rw [if_pos hn] at h; omega
  · rw [if_neg hn] at h ⊢
    rw [IntWalk.wrap64_in _ ⟨by omega, by omega⟩]; omega
theorem red_pos (n : Int) (h : 0 ≤ n.tmod 255) : n.tmod 255 = n % 255 := by
  rw [tmod255] at h ⊢
  by_cases hn : 0 ≤ n
  · rw [if_pos hn]
  · rw [if_neg hn] at h ⊢; omega

set_option maxHeartbeats 400000 in
theorem reduced_any (n : Int) (w : World) :
    Calls Try.prog 71 #[.int .i64 n] w fun e w' => e = .returned (.int .i64 (n % 255)) ∧ w = w' := by
  go_enter Try.func71, Try.ntmps71
  go_wp2
  · go_ret
    exact ⟨ret_i64 (red_neg n ‹_›), rfl⟩
  · go_ret
    exact ⟨ret_i64 (red_pos n ‹_›), rfl⟩
/-- The exponent that stands for n. -/
def red (n : Int) : Nat := (n % 255).toNat
theorem red_lt (n : Int) : red n < 256 := by unfold red; omega

theorem reduced_nat (n : Int) (w : World) :
    Calls Try.prog 71 #[.int .i64 n] w fun e w' => e = .returned (.int .i64 ((red n : Nat) : Int)) ∧ w = w' :=
  (reduced_any n w).mono fun _ _ ⟨h1, h2⟩ => ⟨h1.trans (ret_i64 (by unfold red; omega)), h2⟩


set_option maxHeartbeats 400000 in
theorem exp_any (n : Int) (w : World) :
    Calls Try.prog 64 #[.int .i64 n] w fun e w' => e = .returned (.int .u8 (Gf.gpow 2 (red n) : Nat)) ∧ w = w' := by
  go_enter Try.func64, Try.ntmps64
  go_wp2_with (first | (go_at_call 71; refine (reduced_nat _ _).mono ?_; rintro e w' ⟨rfl, rfl⟩) | (go_at_call 70; refine (power_any 2 (red n) (by decide) (red_lt n) _).mono ?_; rintro e w' ⟨rfl, rfl⟩))
  go_ret
  exact ⟨rfl, rfl⟩
set_option maxHeartbeats 400000 in
theorem pow_nz (a : Nat) (n : Int) (ha : a < 256) (h0 : a ≠ 0) (w : World) :
    Calls Try.prog 74 #[.int .u8 (a : Int), .int .i64 n] w fun e w' => e = .returned (.tuple #[.int .u8 (Gf.gpow a (red n) : Nat), .int .i64 0]) ∧ w = w' := by
  have g0 : ((a : Int) != 0) = true := by simp [h0]
  clear h0
  go_enter Try.func74, Try.ntmps74
  go_wp2_with (first | (go_at_call 71; refine (reduced_nat _ _).mono ?_; rintro e w' ⟨rfl, rfl⟩) | (go_at_call 70; refine (power_any a (red n) ha (red_lt n) _).mono ?_; rintro e w' ⟨rfl, rfl⟩))
  go_ret2
  exact ⟨rfl, rfl⟩
set_option maxHeartbeats 400000 in
theorem pow_z_neg (n : Int) (h : n < 0) (w : World) :
    Calls Try.prog 74 #[.int .u8 0, .int .i64 n] w fun e w' => e = .returned (.tuple #[.int .u8 0, .int .i64 3]) ∧ w = w' := by
  go_enter Try.func74, Try.ntmps74
  go_wp2
  go_ret2
  exact ⟨rfl, rfl⟩
set_option maxHeartbeats 400000 in
theorem pow_z_zero (w : World) :
    Calls Try.prog 74 #[.int .u8 0, .int .i64 0] w fun e w' => e = .returned (.tuple #[.int .u8 1, .int .i64 0]) ∧ w = w' := by
  go_enter Try.func74, Try.ntmps74
  go_wp2
  go_ret2
  exact ⟨rfl, rfl⟩
set_option maxHeartbeats 400000 in
theorem pow_z_pos (n : Int) (h : 0 < n) (w : World) :
    Calls Try.prog 74 #[.int .u8 0, .int .i64 n] w fun e w' => e = .returned (.tuple #[.int .u8 0, .int .i64 0]) ∧ w = w' := by
  go_enter Try.func74, Try.ntmps74
  go_wp2
  go_ret2
  exact ⟨rfl, rfl⟩

set_option maxHeartbeats 400000 in
theorem inv_nz (a : Nat) (ha : a < 256) (h0 : a ≠ 0) (w : World) :
    Calls Try.prog 73 #[.int .u8 (a : Int)] w fun e w' => e = .returned (.tuple #[.int .u8 (Gf.inv a : Nat), .int .i64 0]) ∧ w = w' := by
  have H0 := Lib.hid h0
  clear h0
  go_enter Try.func73, Try.ntmps73
  go_wp2_with (go_at_call 74; refine (pow_nz a (-1) ha H0.out _).mono ?_; rintro e w' ⟨rfl, rfl⟩)
  go_ret2
  exact ⟨rfl, rfl⟩
set_option maxHeartbeats 400000 in
theorem inv_z (w : World) :
    Calls Try.prog 73 #[.int .u8 0] w fun e w' => e = .returned (.tuple #[.int .u8 0, .int .i64 3]) ∧ w = w' := by
  go_enter Try.func73, Try.ntmps73
  go_wp2_with (go_at_call 74; refine (pow_z_neg (-1) (by decide) _).mono ?_; rintro e w' ⟨rfl, rfl⟩)
  go_ret2
  exact ⟨rfl, rfl⟩

end Go.Proofs.Ytheijobnmdbodaa
namespace Go.Proofs.Ytheijobnmdbodaa
open Go Go.RowKit

set_option maxHeartbeats 400000 in
theorem add_any (a b : Nat) (ha : a < 256) (hb : b < 256) (w : World) :
    Calls Try.prog 51 #[.int .u8 (a : Int), .int .u8 (b : Int)] w fun e w' => e = .returned (.int .u8 ((a ^^^ b : Nat) : Int)) ∧ w = w' := by
  have X := Lib.hid (u8_xor_nat a b ha hb)
  go_enter Try.func51, Try.ntmps51
  go_wp2
  go_ret
  exact ⟨ret_u8 X.out, rfl⟩

def fused (d s : List Nat) (c : Nat) : List Nat := (List.range d.length).map fun i => d.getD i 0 ^^^ Gf.mul c (s.getD i 0)
theorem fused_len (d s : List Nat) (c : Nat) : (fused d s c).length = d.length := by simp [fused]
theorem fused_at (d s : List Nat) (c k : Nat) (hk : k < d.length) : (fused d s c).getD k 0 = d.getD k 0 ^^^ Gf.mul c (s.getD k 0) := by
  rw [getD_in (by rw [fused_len]; exact hk)]
  simp [fused]

theorem fused_bytes (d s : List Nat) (c : Nat) (hd : ∀ x ∈ d, x < 256) (hc : c < 256) : ∀ x ∈ fused d s c, x < 256 := by
  intro x hx
  simp only [fused, List.mem_map, List.mem_range] at hx
  obtain ⟨i, hi, rfl⟩ := hx
  rw [getD_in hi]
  exact Gf.xor_lt _ _ (hd _ (List.getElem_mem hi)) (Gf.mul_lt _ _ hc)

theorem info_u8 : (Try.prog.info? 5).map (fun i => (i.zero, i.size, i.bytes)) = some (some (.int .u8 0), 1, 1) := by kernel_rfl

def fusedPost (d s : List Nat) (c : Nat) (w : World) (e : Ending) (w' : World) : Prop :=
  ∃ v, e = .returned (.tuple #[v, .int .i64 0]) ∧ Bs w' v (fused d s c) ∧ Below w.heap.size w w'
/-- .. and the list lies in new memory. -/
def fusedNew (d s : List Nat) (c : Nat) (w : World) (e : Ending) (w' : World) : Prop :=
  ∃ v, e = .returned (.tuple #[v, .int .i64 0]) ∧ Bs w' v (fused d s c) ∧ (∀ k, v.ownBlock = some k → w.heap.size ≤ k) ∧ Below w.heap.size w w'

set_option maxHeartbeats 1000000 in
set_option maxRecDepth 100000 in
theorem fused_new (v1 v2 : Value) (d s : List Nat) (c : Nat) (w : World) (h1 : Bs w v1 d) (h2 : Bs w v2 s) (hl : d.length = s.length) (hc : c < 256) (hr : d.length ≤ 140737488351232) :
    Calls Try.prog 67 #[v1, v2, .int .u8 (c : Int)] w (fusedNew d s c w) := by
  have H1 := Lib.hid h1
  have H2 := Lib.hid h2
  obtain ⟨A1, c1, rfl, -, -, -, hc1⟩ := h1
  obtain ⟨A2, c2, rfl, -, -, -, hc2⟩ := h2
  obtain ⟨n, hn⟩ : ∃ n, d.length = n := ⟨_, rfl⟩
  have hn2 : s.length = n := by omega
  rw [hn] at hc1 hr ⊢
  rw [hn2] at hc2 ⊢
  have HC1 := Lib.hid hc1
  have HC2 := Lib.hid hc2
  have N1 := Lib.hid hn
  have N2 := Lib.hid hn2
  obtain ⟨i0, hi, hz0, hz1, hz2⟩ := info_parts info_u8
  clear hc1 hc2 hl hn hn2
  have hm : (n : Int) ≤ 9223372036854775807 := by omega
  have MB : i0.bytes * n ≤ 281474976710656 := by rw [hz2]; omega
  have ML : n ≤ maxLen := by unfold maxLen; omega
  go_enter Try.func67, Try.ntmps67
  go_wp2_with (at_make; go_must (refine wpList_make_full _ rfl _ _ 24 rfl w.heap.size 5 i0 (.int .u8 0) 1 Try.underlying24 hi hz0 hz1 .i64 .i64 _ _ n rfl rfl rfl rfl MB ML (Nat.le_refl _) ?_); intro w1 hown hg)
  obtain ⟨hlen, hown⟩ := hown
  obtain ⟨cur, hrow, hcs⟩ : ∃ cur, Row w1 w.heap.size 5 cur ∧ cur.size = n := by
    rcases hown with ⟨h, -⟩ | ⟨g, cap, cur, hv, -, hh, hle, -, hs, -⟩
    · cases h
    · injection hv with hv1 hv2 hv3
      injection hv1 with hv1
      injection hv1 with hv1
      subst hv1 hv3
      exact ⟨cur, hh, by simpa using hs⟩
  have hb1 : Below w.heap.size w w1 := (Below.refl _ _).grown hg (Nat.le_refl _) (fun _ h => by cases h)
  have HR := Lib.hid hrow
  have HS := Lib.hid hcs
  have HB := Lib.hid hb1
  clear hlen hown hrow hcs hg hb1 MB ML hi hz0 hz1 hz2
  go_wp2
  go_loopw [9, 20] (fun _ i wr => ∃ k : Nat, k ≤ n ∧ i = .int .i64 (k : Int) ∧ Hid (Below w.heap.size w wr ∧ ∃ cs, Row wr w.heap.size 5 cs ∧ cs.size = n ∧ ∀ j, j < k → cs[j]? = some (.int .u8 (((fused d s c).getD j 0 : Nat) : Int)))) (fun _ i _ => n - (intOf i).toNat)
  case atStart => exact ⟨0, Nat.zero_le _, rfl, Lib.hid ⟨HB.out, cur, HR.out, HS.out, fun j hj => absurd hj (Nat.not_lt_zero j)⟩⟩
  case round =>
    obtain ⟨k, hk, rfl, H⟩ := hrel
    by_cases hlt : k < n
    · have hkI : (k : Int) < (n : Int) := by omega
      obtain ⟨b1, off1, rfl, q1⟩ := HC1.out (by omega)
      obtain ⟨b2, off2, rfl, q2⟩ := HC2.out (by omega)
      obtain ⟨hbel, cs, hrow, hcs, hdone⟩ := H.out
      have q1' := (hbel.cell (p := ⟨b1, off1 + k, none⟩) (World.block_lt_of_cell? w _ (q1 k hlt))).trans (q1 k hlt)
      have q2' := (hbel.cell (p := ⟨b2, off2 + k, none⟩) (World.block_lt_of_cell? w _ (q2 k hlt))).trans (q2 k hlt)
      obtain ⟨x, hx⟩ : ∃ x, d.getD k 0 = x := ⟨_, rfl⟩
      obtain ⟨y, hy⟩ : ∃ y, s.getD k 0 = y := ⟨_, rfl⟩
      have hx2 : x < 256 := hx ▸ H1.out.getD_lt k
      have hy2 : y < 256 := hy ▸ H2.out.getD_lt k
      rw [hx] at q1'
      rw [hy] at q2'
      have hf : (fused d s c).getD k 0 = x ^^^ Gf.mul c y := by rw [fused_at d s c k (by rw [N1.out]; exact hlt), hx, hy]
      have hmul := Gf.mul_lt c y hc
      obtain ⟨old, hold⟩ : ∃ old, wr.cell? ⟨w.heap.size, k, none⟩ = some old := by
        rw [hrow.cell]; exact ⟨cs[k], Array.getElem?_eq_getElem (by omega)⟩
      have hfz : wr.frozen? ⟨w.heap.size, k, none⟩ = false := hrow.frozen k
      have HF := Lib.hid hf
      have HD := Lib.hid hdone
      have HB2 := Lib.hid hbel
      have HR2 := Lib.hid hrow
      have HS2 := Lib.hid hcs
      clear q1 q2 hx hy hf hdone hbel hrow hcs
      go_wp2
      refine wp_region_still_tail 14 (by kernel_rfl) (by kernel_rfl) ?_
      simp only [List.take_succ_cons, List.take_zero, List.drop_succ_cons, List.drop_zero]
      repeat (first | still_step | still_call ((mul_any c y hc hy2 _).mono fun _ _ h => ⟨h.1, h.2.symm⟩) | still_call ((add_any x (Gf.mul c y) hx2 hmul _).mono fun _ _ h => ⟨h.1, h.2.symm⟩))
      refine wpStill_nil ?_
      change wpList _ _ _ _ _ wr.drew
      go_wp2
      go_roundw
      case rel => 
        refine ⟨k + 1, by omega, by go_num, Lib.hid ⟨(HB2.out.setCell (Nat.le_refl _) _).drew, _, HR2.out.store k _, by rw [Array.size_setIfInBounds]; exact HS2.out, fun j hj => ?_⟩⟩
        rcases Nat.lt_or_ge j k with h | h
        · rw [Array.getElem?_setIfInBounds_ne (by omega)]; exact HD.out j h
        · obtain rfl : j = k := by omega
          rw [Array.getElem?_setIfInBounds_self_of_lt (by rw [HS2.out]; exact hlt), HF.out]
      case measure => simp [intOf]; omega
    · go_wp2
      go_ret2
      obtain ⟨hbel, cs, hrow, hcs, hdone⟩ := H.out
      obtain rfl : k = n := by omega
      exact ⟨_, rfl, Bs.of_row hrow (by rw [fused_len]; exact N1.out) ⟨Nat.le_refl _, by unfold maxLen; omega⟩ (fused_bytes _ _ _ H1.out.lt hc) hdone, (fun k hk => by injection hk with hk; exact Nat.le_of_eq hk), hbel⟩
theorem fused_any (v1 v2 : Value) (d s : List Nat) (c : Nat) (w : World) (h1 : Bs w v1 d) (h2 : Bs w v2 s) (hl : d.length = s.length) (hc : c < 256) (hr : d.length ≤ 140737488351232) :
    Calls Try.prog 67 #[v1, v2, .int .u8 (c : Int)] w (fusedPost d s c w) :=
  (fused_new v1 v2 d s c w h1 h2 hl hc hr).mono fun _ _ ⟨v, he, hb, _, hw⟩ => ⟨v, he, hb, hw⟩

set_option maxHeartbeats 400000 in
theorem fused_err (v1 v2 : Value) (d s : List Nat) (c : Nat) (w : World) (h1 : Bs w v1 d) (h2 : Bs w v2 s) (hl : d.length ≠ s.length) :
    Calls Try.prog 67 #[v1, v2, .int .u8 (c : Int)] w fun e w' => e = .returned (.tuple #[.slice none 0 0, .int .i64 1]) ∧ w = w' := by
  obtain ⟨A1, c1, rfl, -, -, -, -⟩ := h1
  obtain ⟨A2, c2, rfl, -, -, -, -⟩ := h2
  have g0 : (((d.length : Nat) : Int) != ((s.length : Nat) : Int)) = true := by simp; omega
  clear hl
  generalize d.length = n at *
  generalize s.length = m at *
  go_enter Try.func67, Try.ntmps67
  go_wp2
  go_ret2
  exact ⟨rfl, rfl⟩

set_option maxHeartbeats 400000 in
theorem same_any (v1 v2 : Value) (d s : List Nat) (w : World) (h1 : Bs w v1 d) (h2 : Bs w v2 s) :
    Calls Try.prog 13 #[v1, v2] w fun e w' => e = .returned (.bool (decide (d = s))) ∧ w = w' := by
  have k1 := conv_bs 24 5 9 Try.underlying24 Try.underlying5 Try.underlying9 h1
  have k2 := conv_bs 24 5 9 Try.underlying24 Try.underlying5 Try.underlying9 h2
  have E := Lib.hid (strOf_eq d s h1.lt h2.lt)
  clear h1 h2
  generalize strOf d = S1 at *
  generalize strOf s = S2 at *
  go_enter Try.func13, Try.ntmps13
  go_wp2
  go_ret
  exact ⟨congrArg (fun b => Ending.returned (.bool b)) E.out, rfl⟩
end Go.Proofs.Ytheijobnmdbodaa
namespace Go.Proofs.Ytheijobnmdbodaa
open Go Go.RowKit

/-! ### The reference -/
theorem xor_i64 (a b : Nat) (ha : a < 2 ^ 62) (hb : b < 2 ^ 62) : bits BinOp.xor IntKind.i64 (a : Int) (b : Int) = ((a ^^^ b : Nat) : Int) := by
  have hx : a ^^^ b < 2 ^ 62 := Nat.xor_lt_two_pow ha hb
  have e1 : (BitVec.ofInt 64 (a : Int)).toNat = a := by rw [BitVec.ofInt_natCast, BitVec.toNat_ofNat]; exact Nat.mod_eq_of_lt (by omega)
  have e2 : (BitVec.ofInt 64 (b : Int)).toNat = b := by rw [BitVec.ofInt_natCast, BitVec.toNat_ofNat]; exact Nat.mod_eq_of_lt (by omega)
  show IntKind.i64.wrap ((BitVec.ofInt 64 (a : Int) ^^^ BitVec.ofInt 64 (b : Int)).toNat : Int) = _
  rw [BitVec.toNat_xor, e1, e2, IntKind.wrap_i64]
  omega
theorem shr_and1 (b k : Nat) (hb : b < 256) : bits BinOp.and IntKind.u8 ((b : Int) / 2 ^ k) 1 = ((b / 2 ^ k % 2 : Nat) : Int) := by
  have h : b / 2 ^ k ≤ b := Nat.div_le_self _ _
  have := and1 (b / 2 ^ k) (by omega)
  rw [← this]; congr 1
theorem shl_xor (a p k : Nat) (ha : a < 256) (hk : k < 8) (hp : p < 2 ^ 16) : bits BinOp.xor IntKind.i64 (p : Int) (wrap64 ((a : Int) * 2 ^ k)) = ((p ^^^ (2 ^ k * a) : Nat) : Int) := by
  have h1 : 2 ^ k ≤ 2 ^ 7 := Nat.pow_le_pow_right (by decide) (by omega)
  have h2 : 2 ^ k * a ≤ 2 ^ 7 * 255 := Nat.mul_le_mul h1 (by omega)
  have e : (a : Int) * 2 ^ k = ((2 ^ k * a : Nat) : Int) := by push_cast; rw [Int.mul_comm]
  rw [e, IntWalk.wrap64_in _ ⟨by omega, by omega⟩, xor_i64 _ _ (by omega) (by omega)]
theorem cl_step (a b k p : Nat) (hk : k < 8) : Gf.clF (8 - k) (2 ^ k * a) (b / 2 ^ k) p = Gf.clF (8 - (k + 1)) (2 ^ (k + 1) * a) (b / 2 ^ (k + 1)) (p ^^^ (2 ^ k * a) * (b / 2 ^ k % 2)) := by
  obtain ⟨d, e⟩ : ∃ d, 8 - k = d + 1 := ⟨7 - k, by omega⟩
  have e2 : 8 - (k + 1) = d := by omega
  rw [e, e2, Gf.clF, Nat.div_div_eq_div_mul, Nat.pow_succ, ← Nat.mul_assoc, Nat.mul_comm 2]
theorem shr_and1_i64 (p k : Nat) : bits BinOp.and IntKind.i64 ((p : Int) / 2 ^ k) 1 = ((p / 2 ^ k % 2 : Nat) : Int) := by
  rw [← and1_i64 (p / 2 ^ k)]; congr 1
theorem red_step (k p : Nat) (h : 8 ≤ k) : Gf.redF (k - 7) p = Gf.redF (k - 1 - 7) (p ^^^ (285 * 2 ^ (k - 8)) * (p / 2 ^ k % 2)) := by
  obtain ⟨d, rfl⟩ : ∃ d, k = d + 8 := ⟨k - 8, by omega⟩
  rw [show d + 8 - 7 = d + 1 by omega, show d + 8 - 1 - 7 = d by omega, show d + 8 - 8 = d by omega, Gf.redF]
theorem red_pow (k : Nat) (h2 : k ≤ 14) : 285 * 2 ^ (k - 8) ≤ 285 * 64 := by
  have h1 : 2 ^ (k - 8) ≤ 2 ^ 6 := Nat.pow_le_pow_right (by decide) (by omega)
  omega
theorem red_bound (k p : Nat) (_h : 8 ≤ k) (h2 : k ≤ 14) (hp : p < 65536) : p ^^^ (285 * 2 ^ (k - 8)) < 65536 := by
  have := red_pow k h2
  exact Nat.xor_lt_two_pow (n := 16) hp (by omega)
theorem red_xor (k p : Nat) (_h : 8 ≤ k) (h2 : k ≤ 14) (hp : p < 65536) : bits BinOp.xor IntKind.i64 (p : Int) (wrap64 (285 * 2 ^ (k - 8))) = ((p ^^^ (285 * 2 ^ (k - 8)) : Nat) : Int) := by
  have := red_pow k h2
  have e : (285 : Int) * 2 ^ (k - 8) = ((285 * 2 ^ (k - 8) : Nat) : Int) := by rw [Int.natCast_mul, Int.natCast_pow]; rfl
  rw [e, IntWalk.wrap64_in _ ⟨by omega, by omega⟩, xor_i64 _ _ (by omega) (by omega)]
set_option maxHeartbeats 400000 in
set_option maxRecDepth 100000 in
theorem rmul_any (a b : Nat) (ha : a < 256) (hb : b < 256) (w : World) :
    Calls Try.prog 50 #[.int .u8 (a : Int), .int .u8 (b : Int)] w fun e w' => e = .returned (.int .u8 (Gf.mul a b : Nat)) ∧ w = w' := by
  go_enter Try.func50, Try.ntmps50
  go_wp2
  go_loop [5, 6] (fun p i => ∃ k p' : Nat, k ≤ 8 ∧ p' < 65536 ∧ i = .int .i64 (k : Int) ∧ p = .int .i64 (p' : Int) ∧ Hid (Gf.clF (8 - k) (2 ^ k * a) (b / 2 ^ k) p' = Gf.clF 8 a b 0)) (fun _ i => 8 - (intOf i).toNat)
  case atStart => exact ⟨0, 0, by decide, by decide, rfl, rfl, Lib.hid (by simp)⟩
  case round =>
    obtain ⟨k, p', hk, hp, rfl, rfl, H⟩ := hrel
    by_cases hlt : k < 8
    · have S := Lib.hid (cl_step a b k p' hlt)
      have A := Lib.hid (shr_and1 b k hb)
      have hbnd : p' ^^^ 2 ^ k * a < 65536 := by
        have h1 : 2 ^ k ≤ 2 ^ 7 := Nat.pow_le_pow_right (by decide) (by omega)
        have h2 : 2 ^ k * a ≤ 2 ^ 7 * 255 := Nat.mul_le_mul h1 (by omega)
        exact Nat.xor_lt_two_pow (n := 16) hp (by omega)
      have B := Lib.hid hbnd
      have X := Lib.hid (shl_xor a p' k ha hlt hp)
      clear hbnd
      by_cases h1 : b / 2 ^ k % 2 = 1
      · have g1 : (bits BinOp.and IntKind.u8 ((b : Int) / 2 ^ k) 1 == 1) = true := by rw [A.out, h1]; rfl
        have H1 := Lib.hid h1
        clear h1
        go_wp2
        go_round
        case rel => exact ⟨k + 1, p' ^^^ (2 ^ k * a), by omega, B.out, by go_num, by rw [X.out], Lib.hid (by rw [← H.out, S.out, H1.out, Nat.mul_one])⟩
        case measure => simp [intOf]; omega
      · have g1 : (bits BinOp.and IntKind.u8 ((b : Int) / 2 ^ k) 1 == 1) = false := by rw [A.out, show b / 2 ^ k % 2 = 0 by omega]; rfl
        have H1 := Lib.hid (show b / 2 ^ k % 2 = 0 by omega)
        clear h1
        go_wp2
        go_round
        case rel => exact ⟨k + 1, p', by omega, hp, by go_num, rfl, Lib.hid (by rw [← H.out, S.out, H1.out, Nat.mul_zero, Nat.xor_zero])⟩
        case measure => simp [intOf]; omega
    · have E : Hid (p' = Gf.clF 8 a b 0) := Lib.hid (by rw [← H.out, show 8 - k = 0 by omega]; rfl)
      go_wp2
      go_loop [5, 7] (fun p i => ∃ k p' : Nat, k ≤ 14 ∧ 7 ≤ k ∧ p' < 65536 ∧ i = .int .i64 (k : Int) ∧ p = .int .i64 (p' : Int) ∧ Hid (Gf.redF (k - 7) p' = Gf.mul a b)) (fun _ i => (intOf i).toNat)
      case atStart => exact ⟨14, p', by decide, by decide, hp, rfl, rfl, Lib.hid (by rw [Gf.mul_eq_rmul a b ha hb, E.out]; rfl)⟩
      case round =>
        obtain ⟨k, p', hk, hk7, hp, rfl, rfl, H⟩ := hrel
        by_cases hlt : 8 ≤ k
        · have S := Lib.hid (red_step k p' hlt)
          have A := Lib.hid (shr_and1_i64 p' k)
          have B := Lib.hid (red_bound k p' hlt hk hp)
          have X := Lib.hid (red_xor k p' hlt hk hp)
          by_cases h1 : p' / 2 ^ k % 2 = 1
          · have g1 : (bits BinOp.and IntKind.i64 ((p' : Int) / 2 ^ k) 1 == 1) = true := by rw [A.out, h1]; rfl
            have H1 := Lib.hid h1
            clear h1
            go_wp2
            go_round
            case rel => exact ⟨k - 1, p' ^^^ (285 * 2 ^ (k - 8)), by omega, by omega, B.out, by go_num, by rw [X.out], Lib.hid (by rw [← H.out, S.out, H1.out, Nat.mul_one])⟩
            case measure => simp [intOf]; omega
          · have g1 : (bits BinOp.and IntKind.i64 ((p' : Int) / 2 ^ k) 1 == 1) = false := by rw [A.out, show p' / 2 ^ k % 2 = 0 by omega]; rfl
            have H1 := Lib.hid (show p' / 2 ^ k % 2 = 0 by omega)
            clear h1
            go_wp2
            go_round
            case rel => exact ⟨k - 1, p', by omega, by omega, hp, by go_num, rfl, Lib.hid (by rw [← H.out, S.out, H1.out, Nat.mul_zero, Nat.xor_zero])⟩
            case measure => simp [intOf]; omega
        · have E2 : Hid (p' = Gf.mul a b) := Lib.hid (by rw [← H.out, show k - 7 = 0 by omega]; rfl)
          go_wp2
          go_ret
          have hl := Gf.mul_lt a b ha
          exact ⟨ret_u8 (by rw [E2.out]; omega), rfl⟩
end Go.Proofs.Ytheijobnmdbodaa
namespace Go.Proofs.Ytheijobnmdbodaa
open Go Go.RowKit

def rinvPost (a : Nat) (w : World) (e : Ending) (w' : World) : Prop :=
  (a ≠ 0 → e = .returned (.tuple #[.int .u8 (Gf.inv a : Nat), .bool true])) ∧ (a = 0 → e = .returned (.tuple #[.int .u8 0, .bool false])) ∧ w = w'
set_option maxHeartbeats 400000 in
set_option maxRecDepth 100000 in
theorem rinv_any (a : Nat) (ha : a < 256) (w : World) :
    Calls Try.prog 34 #[.int .u8 (a : Int)] w (rinvPost a w) := by
  go_enter Try.func34, Try.ntmps34
  go_wp2
  go_loop [4] (fun i => ∃ k : Nat, 1 ≤ k ∧ k ≤ 256 ∧ i = .int .i64 (k : Int) ∧ Hid (∀ m, m < k → Gf.mul a m ≠ 1)) (fun i => 256 - (intOf i).toNat)
  case atStart => exact ⟨1, by decide, by decide, rfl, Lib.hid fun m hm => by rw [show m = 0 by omega, Gf.mul_zero]; decide⟩
  case round =>
    obtain ⟨k, hk1, hk, rfl, H⟩ := hrel
    by_cases hlt : k < 256
    · by_cases he : Gf.mul a k = 1
      · have E := Lib.hid he
        have g1 : (((Gf.mul a k : Nat) : Int) == 1) = true := by rw [he]; rfl
        clear he
        go_wp2_with (go_at_call 50; refine (rmul_any a k ha hlt _).mono ?_; rintro e w' ⟨rfl, rfl⟩)
        go_ret2
        refine ⟨fun h0 => ?_, fun h0 => ?_, rfl⟩
        · have := Gf.inv_unique a k ha hlt h0 E.out
          subst this
          rfl
        · have := E.out
          rw [h0, Gf.zero_mul] at this
          exact absurd this (by decide)
      · have E := Lib.hid he
        have g1 : (((Gf.mul a k : Nat) : Int) == 1) = false := by simp; omega
        clear he
        go_wp2_with (go_at_call 50; refine (rmul_any a k ha hlt _).mono ?_; rintro e w' ⟨rfl, rfl⟩)
        go_round
        case rel =>
          refine ⟨k + 1, by omega, by omega, by go_num, Lib.hid fun m hm => ?_⟩
          rcases Nat.lt_or_ge m k with h | h
          · exact H.out m h
          · obtain rfl : m = k := by omega
            exact E.out
        case measure => simp [intOf]; omega
    · go_wp2
      go_ret2
      refine ⟨fun h0 => ?_, fun _ => rfl, rfl⟩
      exact absurd (Gf.mul_inv a ha h0) (H.out _ (by have := Gf.gpow_lt a 254 ha; unfold Gf.inv; omega))

set_option maxHeartbeats 400000 in
set_option maxRecDepth 100000 in
theorem rpower_any (a n : Nat) (ha : a < 256) (hn : n < 4294967296) (w : World) :
    Calls Try.prog 49 #[.int .u8 (a : Int), .int .i64 (n : Int)] w fun e w' => e = .returned (.int .u8 (Gf.gpow a n : Nat)) ∧ w = w' := by
  go_enter Try.func49, Try.ntmps49
  go_wp2
  go_loop [5, 6] (fun p i => ∃ k p' : Nat, k ≤ n ∧ p' < 256 ∧ p = .int .u8 (p' : Int) ∧ i = .int .i64 (k : Int) ∧ Hid (p' = Gf.gpow a k)) (fun _ i => n - (intOf i).toNat)
  case atStart => exact ⟨0, 1, by omega, by decide, rfl, rfl, Lib.hid rfl⟩
  case round =>
    obtain ⟨k, p', hk, hp, rfl, rfl, H⟩ := hrel
    by_cases hlt : k < n
    · go_wp2_with (go_at_call 50; refine (rmul_any p' a hp ha _).mono ?_; rintro e w' ⟨rfl, rfl⟩)
      go_round
      case rel => exact ⟨k + 1, _, by omega, Gf.mul_lt _ _ hp, rfl, by go_num, Lib.hid (by rw [H.out]; rfl)⟩
      case measure => simp [intOf]; omega
    · go_wp2
      go_ret
      exact ⟨ret_u8 (by rw [H.out, show k = n by omega]), rfl⟩
end Go.Proofs.Ytheijobnmdbodaa
namespace Go.Proofs.Ytheijobnmdbodaa
open Go Go.RowKit

def rfusedPost (d s : List Nat) (c : Nat) (w : World) (e : Ending) (w' : World) : Prop :=
  ∃ v, e = .returned v ∧ Bs w' v (fused d s c) ∧ Below w.heap.size w w'
/-- .. and the list lies in new memory. -/
def rfusedNew (d s : List Nat) (c : Nat) (w : World) (e : Ending) (w' : World) : Prop :=
  ∃ v, e = .returned v ∧ Bs w' v (fused d s c) ∧ (∀ k, v.ownBlock = some k → w.heap.size ≤ k) ∧ Below w.heap.size w w'
theorem fused_take (d s : List Nat) (c k : Nat) (hk : k < d.length) : (fused d s c).take (k + 1) = (fused d s c).take k ++ [d.getD k 0 ^^^ Gf.mul c (s.getD k 0)] := by
  rw [List.take_add_one, List.getElem?_eq_getElem (by rw [fused_len]; exact hk), ← getD_in (x := 0), fused_at d s c k hk]; rfl

set_option maxHeartbeats 1000000 in
set_option maxRecDepth 100000 in
theorem rfused_new (v1 v2 : Value) (d s : List Nat) (c : Nat) (w : World) (h1 : Bs w v1 d) (h2 : Bs w v2 s) (hl : d.length = s.length) (hc : c < 256) (hr : d.length ≤ 140737488351232) :
    Calls Try.prog 35 #[v1, v2, .int .u8 (c : Int)] w (rfusedNew d s c w) := by
  have H1 := Lib.hid h1
  have H2 := Lib.hid h2
  obtain ⟨A1, c1, rfl, -, -, -, hc1⟩ := h1
  obtain ⟨A2, c2, rfl, -, -, -, hc2⟩ := h2
  obtain ⟨n, hn⟩ : ∃ n, d.length = n := ⟨_, rfl⟩
  have hn2 : s.length = n := by omega
  rw [hn] at hc1 hr ⊢
  rw [hn2] at hc2 ⊢
  have HC1 := Lib.hid hc1
  have HC2 := Lib.hid hc2
  have N1 := Lib.hid hn
  have N2 := Lib.hid hn2
  obtain ⟨i0, hi, hz0, hz1, hz2⟩ := info_parts info_u8
  have I0 := Lib.hid (And.intro hi (And.intro hz0 (And.intro hz1 hz2)))
  clear hc1 hc2 hl hn hn2 hi hz0 hz1 hz2
  have hm : (n : Int) ≤ 9223372036854775807 := by omega
  go_enter Try.func35, Try.ntmps35
  go_wp2
  go_loopw [7, 8] (fun v i wr => ∃ k : Nat, k ≤ n ∧ i = .int .i64 (k : Int) ∧ Hid (Below w.heap.size w wr ∧ wr.ownsRow w.heap.size 5 1 v k (((fused d s c).take k).map bv))) (fun _ i _ => n - (intOf i).toNat)
  case atStart => exact ⟨0, Nat.zero_le _, rfl, Lib.hid ⟨Below.refl _ _, World.ownsRow_nil _ _ _ _⟩⟩
  case round =>

    obtain ⟨k, hk, rfl, H⟩ := hrel
    by_cases hlt : k < n
    · have hkI : (k : Int) < (n : Int) := by omega
      obtain ⟨b1, off1, rfl, q1⟩ := HC1.out (by omega)
      obtain ⟨b2, off2, rfl, q2⟩ := HC2.out (by omega)
      obtain ⟨hbel, hown⟩ := H.out
      have q1' := (hbel.cell (p := ⟨b1, off1 + k, none⟩) (World.block_lt_of_cell? w _ (q1 k hlt))).trans (q1 k hlt)
      have q2' := (hbel.cell (p := ⟨b2, off2 + k, none⟩) (World.block_lt_of_cell? w _ (q2 k hlt))).trans (q2 k hlt)
      obtain ⟨x, hx⟩ : ∃ x, d.getD k 0 = x := ⟨_, rfl⟩
      obtain ⟨y, hy⟩ : ∃ y, s.getD k 0 = y := ⟨_, rfl⟩
      have hx2 : x < 256 := hx ▸ H1.out.getD_lt k
      have hy2 : y < 256 := hy ▸ H2.out.getD_lt k
      rw [hx] at q1'
      rw [hy] at q2'
      have HT : Hid ((fused d s c).take (k + 1) = (fused d s c).take k ++ [x ^^^ Gf.mul c y]) := Lib.hid (by rw [fused_take d s c k (by rw [N1.out]; exact hlt), hx, hy])
      have hmul := Gf.mul_lt c y hc
      have hxor := u8_xor_nat x (Gf.mul c y) hx2 hmul
      have HB2 := Lib.hid hbel
      have HO := Lib.hid hown
      clear q1 q2 hx hy hbel hown
      have L1 : k + 1 ≤ maxLen := by unfold maxLen; omega
      have L2 : (k + 1) * 1 ≤ 140737488355328 := by omega
      have L3 : w.heap.size ≤ wr.heap.size := HB2.out.size
      have one : ∀ u ∈ [bv (x ^^^ Gf.mul c y)], u.oneCell' = true := by intro u hu; simp at hu; subst hu; rfl
      have lb1 : b1 < w.heap.size := by
        obtain ⟨b, off, he, hq⟩ := HC1.out (by omega)
        cases he
        exact World.block_lt_of_cell? w ⟨b1, off1 + k, none⟩ (hq k hlt)
      have lb2 : b2 < w.heap.size := by
        obtain ⟨b, off, he, hq⟩ := HC2.out (by omega)
        cases he
        exact World.block_lt_of_cell? w ⟨b2, off2 + k, none⟩ (hq k hlt)
      have ag : u7.ownBlock ≠ some b1 := fun h => by have := (HO.out.lt b1 h).1; omega
      have ak : u7.ownBlock ≠ some b2 := fun h => by have := (HO.out.lt b2 h).1; omega
      have k0 : (0 : Int) ≤ (k : Int) := Int.natCast_nonneg _
      have ONE := Lib.hid one
      clear one
      go_wp2_with fail
      go_region_held3 (fun w' => w'.cell? ⟨b1, off1 + k, none⟩ = some (.int .u8 (x : Int)) ∧ w'.cell? ⟨b2, off2 + k, none⟩ = some (.int .u8 (y : Int)))
        (first
          | go_keep
          | (go_split_ands
             refine ⟨?_, ?_⟩
             · (rw [hgrow.cell_far _ (by simp; omega) (Ne.symm ag)]; assumption)
             · (rw [hgrow.cell_far _ (by simp; omega) (Ne.symm ak)]; assumption)))
        ((first
          | (go_at_call 50; refine (rmul_any c y hc hy2 _).mono ?_; rintro e w' ⟨rfl, rfl⟩)
          | (refine step_append_lies _ (by rfl) _ _ _ (by rfl) w.heap.size 5 i0 _ 1 1 Try.underlying24 I0.out.1 I0.out.2.1 I0.out.2.2.1 I0.out.2.2.2 rfl (by decide) u7 k _ (by rfl) ((HO.out.alloc _).drew)
              ⟨wr.heap.size, 0, none⟩ 1 1 [bv (x ^^^ Gf.mul c y)] (by rfl) (by rfl) (World.news_of_block (cs := #[bv (x ^^^ Gf.mul c y)]) (t := 5) (fr := (0, 0)) (heap_alloc_new wr _)) ONE.out
              (by decide) L1 L2 (by simp; omega) (wr.heap.size + 1) (by simp) ?_; intro gg cap w1 hown1 hgrow hat hlt1)))
      have HO1 := Lib.hid hown1
      have HG1 := Lib.hid hgrow
      clear hown1 hgrow hat hlt1
      go_wp2
      go_roundw
      case rel =>
        refine ⟨k + 1, by omega, by go_num, Lib.hid ⟨?_, ?_⟩⟩
        · exact ((HB2.out.alloc L3 _).drew).grown HG1.out (by simp; omega) (fun g hg => (HO.out.lt g hg).1)
        · rw [HT.out, List.map_append]; exact HO1.out
      case measure => simp [intOf]; omega
    · go_wp2
      go_ret
      obtain ⟨hbel, hown⟩ := H.out
      obtain rfl : k = n := by omega
      rw [List.take_of_length_le (by rw [fused_len, N1.out]; exact Nat.le_refl _)] at hown
      exact ⟨_, rfl, Bs.of_own hown (by rw [fused_len]; exact N1.out) (fused_bytes _ _ _ H1.out.lt hc), (fun k hk => (hown.lt k hk).1), hbel⟩
theorem rfused_any (v1 v2 : Value) (d s : List Nat) (c : Nat) (w : World) (h1 : Bs w v1 d) (h2 : Bs w v2 s) (hl : d.length = s.length) (hc : c < 256) (hr : d.length ≤ 140737488351232) :
    Calls Try.prog 35 #[v1, v2, .int .u8 (c : Int)] w (rfusedPost d s c w) :=
  (rfused_new v1 v2 d s c w h1 h2 hl hc hr).mono fun _ _ ⟨v, he, hb, _, hw⟩ => ⟨v, he, hb, hw⟩
end Go.Proofs.Ytheijobnmdbodaa
