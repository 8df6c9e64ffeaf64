/- The walks of the laws on powers. -/
import Derived.Test.YtlggemhgoipjmaaLa
namespace Go.Proofs.Ytlggemhgoipjmaa
open Go Go.RowKit

theorem pow_v (a : Nat) (n : Int) (x : Nat) (ha : a < 256) (h0 : a ≠ 0) (h : Gf.gpow a (red n) = x) (w : World) :
    Calls Try.prog 16 #[.int .u8 (a : Int), .int .i64 n] w fun e w' => e = .returned (.tuple #[.int .u8 (x : Int), .int .i64 0]) ∧ w = w' := h ▸ pow_nz a n ha h0 w
theorem rpower_v (a n x : Nat) (ha : a < 256) (hn : n < 4294967296) (h : Gf.gpow a n = x) (w : World) :
    Calls Try.prog 17 #[.int .u8 (a : Int), .int .i64 (n : Int)] w fun e w' => e = .returned (.int .u8 (x : Int)) ∧ w = w' := h ▸ rpower_any a n ha hn w
theorem red_red (n : Int) : red (n.tmod 255) = red n := by
  have h := red_tmod n
  have h2 := red_lt n
  have h3 : red n < 255 := by unfold red; omega
  rcases h with h | h <;> rw [h]
  · exact red_nat _ h3
  · show ((((red n : Nat) : Int) - 255) % 255).toNat = _
    omega

set_option maxHeartbeats 1000000 in
set_option maxRecDepth 100000 in
theorem powers_zneg (n : Int) (hn : n < 0) (w : World) : Calls Try.prog 6 #[.int .u8 0, .int .i64 n] w (lawPost w) := by
  go_enter Try.func6, Try.ntmps6
  go_wp2_with (go_at_call 9; refine (awake_any _).mono ?_; rintro e w1 ⟨rfl, hbel⟩)
  have HB := Lib.hid hbel
  clear hbel
  go_wp2_with (first | (go_at_call 16; ((with_reducible refine (pow_z_neg n hn _).mono ?_); rintro e w' ⟨rfl, rfl⟩)))
  go_ret
  exact ⟨rfl, HB.out⟩
set_option maxHeartbeats 1000000 in
set_option maxRecDepth 100000 in
theorem powers_zz (w : World) : Calls Try.prog 6 #[.int .u8 0, .int .i64 0] w (lawPost w) := by
  go_enter Try.func6, Try.ntmps6
  go_wp2_with (go_at_call 9; refine (awake_any _).mono ?_; rintro e w1 ⟨rfl, hbel⟩)
  have HB := Lib.hid hbel
  clear hbel
  go_wp2_with (first | (go_at_call 16; ((with_reducible refine (pow_z_zero _).mono ?_); rintro e w' ⟨rfl, rfl⟩)) | (go_at_call 17; ((refine (rpower_v 0 0 1 (by decide) (by decide) rfl _).mono ?_); rintro e w' ⟨rfl, rfl⟩)))
  go_ret
  exact ⟨rfl, HB.out⟩
set_option maxHeartbeats 1000000 in
set_option maxRecDepth 100000 in
theorem powers_zp (n : Nat) (h0 : 0 < n) (h : n ≤ 600) (w : World) : Calls Try.prog 6 #[.int .u8 0, .int .i64 (n : Int)] w (lawPost w) := by
  have h0' : 0 < (n : Int) := by omega
  have G : Gf.gpow 0 n = 0 := by obtain ⟨m, rfl⟩ : ∃ m, n = m + 1 := ⟨n - 1, by omega⟩; exact Gf.gpow_zero_base m
  have HG := Lib.hid G
  have H0 := Lib.hid h0'
  clear G h0'
  go_enter Try.func6, Try.ntmps6
  go_wp2_with (go_at_call 9; refine (awake_any _).mono ?_; rintro e w1 ⟨rfl, hbel⟩)
  have HB := Lib.hid hbel
  clear hbel
  go_wp2_with (first | (go_at_call 16; ((with_reducible refine (pow_z_pos (n : Int) H0.out _).mono ?_); rintro e w' ⟨rfl, rfl⟩)) | (go_at_call 17; ((refine (rpower_v 0 n 0 (by decide) (by omega) HG.out _).mono ?_); rintro e w' ⟨rfl, rfl⟩)))
  go_ret
  exact ⟨rfl, HB.out⟩
def someOk (w : World) (e : Ending) (w' : World) : Prop := ∃ q : Nat, e = .returned (.tuple #[.int .u8 (q : Int), .int .i64 0]) ∧ w = w'
theorem pow_z_nn (m : Int) (h : 0 ≤ m) (w : World) : Calls Try.prog 16 #[.int .u8 0, .int .i64 m] w (someOk w) := by
  by_cases h0 : m = 0
  · subst h0; exact (pow_z_zero w).mono fun _ _ ⟨h1, h2⟩ => ⟨1, h1, h2⟩
  · exact (pow_z_pos m (by omega) w).mono fun _ _ ⟨h1, h2⟩ => ⟨0, h1, h2⟩
set_option maxHeartbeats 1000000 in
set_option maxRecDepth 100000 in
theorem powers_zbig (n : Int) (h : 600 < n) (w : World) : Calls Try.prog 6 #[.int .u8 0, .int .i64 n] w (lawPost w) := by
  have h0' : 0 < n := by omega
  obtain ⟨t, et⟩ : ∃ t, n % 255 = t := ⟨_, rfl⟩
  have HM : Hid (0 ≤ t) := Lib.hid (by omega)
  have H0 := Lib.hid h0'
  clear h0'
  go_enter Try.func6, Try.ntmps6
  go_wp2_with (go_at_call 9; refine (awake_any _).mono ?_; rintro e w1 ⟨rfl, hbel⟩)
  have HB := Lib.hid hbel
  clear hbel
  go_wp2_with (first | (go_at_call 16; ((with_reducible refine (pow_z_pos n H0.out _).mono ?_); rintro e w' ⟨rfl, rfl⟩)) | (go_at_call 16; ((with_reducible refine (pow_z_nn t HM.out _).mono ?_); rintro e w' ⟨q, rfl, rfl⟩)))
  go_ret
  exact ⟨rfl, HB.out⟩
set_option maxHeartbeats 1000000 in
set_option maxRecDepth 100000 in
theorem powers_far (a : Nat) (n : Int) (ha : a < 256) (a0 : a ≠ 0) (h : n < -600 ∨ 600 < n) (w : World) : Calls Try.prog 6 #[.int .u8 (a : Int), .int .i64 n] w (lawPost w) := by
  obtain ⟨x, hx⟩ : ∃ x, Gf.gpow a (red n) = x := ⟨_, rfl⟩
  have g1 : ((a : Int) == 0) = false := by simp; omega
  have g2 : ((a : Int) != 0) = true := by simp; omega
  have HX := Lib.hid hx
  have HX2 : Hid (Gf.gpow a (red (n.tmod 255)) = x) := Lib.hid (by rw [red_red, hx])
  obtain ⟨t, et⟩ : ∃ t, n.tmod 255 = t := ⟨_, rfl⟩
  rw [et] at HX2
  have A0 := Lib.hid a0
  clear hx a0
  rcases h with h | h
  · go_enter Try.func6, Try.ntmps6
    go_wp2_with (go_at_call 9; refine (awake_any _).mono ?_; rintro e w1 ⟨rfl, hbel⟩)
    have HB := Lib.hid hbel
    clear hbel
    go_wp2_with (first | (go_at_call 16; ((with_reducible first | refine (pow_v a n x ha A0.out HX.out _).mono ?_ | refine (pow_v a t x ha A0.out HX2.out _).mono ?_); rintro e w' ⟨rfl, rfl⟩)))
    go_ret
    exact ⟨rfl, HB.out⟩
  · have e1 : n.tmod 255 = n % 255 := Int.tmod_eq_emod_of_nonneg (by omega)
    rw [e1] at et
    clear e1
    go_enter Try.func6, Try.ntmps6
    go_wp2_with (go_at_call 9; refine (awake_any _).mono ?_; rintro e w1 ⟨rfl, hbel⟩)
    have HB := Lib.hid hbel
    clear hbel
    go_wp2_with (first | (go_at_call 16; ((with_reducible first | refine (pow_v a n x ha A0.out HX.out _).mono ?_ | refine (pow_v a t x ha A0.out HX2.out _).mono ?_); rintro e w' ⟨rfl, rfl⟩)))
    go_ret
    exact ⟨rfl, HB.out⟩
set_option maxHeartbeats 1000000 in
set_option maxRecDepth 100000 in
theorem powers_near (a n : Nat) (ha : a < 256) (a0 : a ≠ 0) (h : n ≤ 600) (w : World) : Calls Try.prog 6 #[.int .u8 (a : Int), .int .i64 (n : Int)] w (lawPost w) := by
  obtain ⟨x, hx⟩ : ∃ x, Gf.gpow a n = x := ⟨_, rfl⟩
  have g1 : ((a : Int) == 0) = false := by simp; omega
  have er : red (n : Int) = n % 255 := by unfold red; omega
  have HX := Lib.hid hx
  have HX2 : Hid (Gf.gpow a (red (n : Int)) = x) := Lib.hid (by rw [er, Gf.gpow_mod a n a0 ha, hx])
  have A0 := Lib.hid a0
  clear hx a0 er
  go_enter Try.func6, Try.ntmps6
  go_wp2_with (go_at_call 9; refine (awake_any _).mono ?_; rintro e w1 ⟨rfl, hbel⟩)
  have HB := Lib.hid hbel
  clear hbel
  go_wp2_with (first | (go_at_call 16; ((with_reducible refine (pow_v a (n : Int) x ha A0.out HX2.out _).mono ?_); rintro e w' ⟨rfl, rfl⟩)) | (go_at_call 17; ((refine (rpower_v a n x ha (by omega) HX.out _).mono ?_); rintro e w' ⟨rfl, rfl⟩)))
  go_ret
  exact ⟨rfl, HB.out⟩
theorem inv_pow (a n : Nat) (ha : a < 256) (a0 : a ≠ 0) : Gf.inv (Gf.gpow a n) = Gf.gpow a (red (-(n : Int))) := by
  refine (Gf.inv_unique _ _ (Gf.gpow_lt _ _ ha) (Gf.gpow_lt _ _ ha) (Gf.gpow_ne a n ha a0) ?_).symm
  rw [← Gf.gpow_add _ _ _ ha, ← Gf.gpow_mod a _ a0 ha]
  have : (n + red (-(n : Int))) % 255 = 0 := by unfold red; omega
  rw [this]; rfl
set_option maxHeartbeats 1000000 in
set_option maxRecDepth 100000 in
theorem powers_nearn (a n : Nat) (ha : a < 256) (a0 : a ≠ 0) (h0 : 0 < n) (h : n ≤ 600) (w : World) : Calls Try.prog 6 #[.int .u8 (a : Int), .int .i64 (-(n : Int))] w (lawPost w) := by
  obtain ⟨x, hx⟩ : ∃ x, Gf.gpow a n = x := ⟨_, rfl⟩
  obtain ⟨y, hy⟩ : ∃ y, Gf.inv x = y := ⟨_, rfl⟩
  have g1 : ((a : Int) == 0) = false := by simp; omega
  have lx : x < 256 := hx ▸ Gf.gpow_lt _ _ ha
  have HX := Lib.hid hx
  have HY := Lib.hid hy
  have HX2 : Hid (Gf.gpow a (red (-(n : Int))) = y) := Lib.hid (by rw [← inv_pow a n ha a0, hx, hy])
  have X0 : Hid (x ≠ 0) := Lib.hid (by rw [← hx]; exact Gf.gpow_ne a n ha a0)
  have A0 := Lib.hid a0
  clear hx a0 hy
  go_enter Try.func6, Try.ntmps6
  go_wp2_with (go_at_call 9; refine (awake_any _).mono ?_; rintro e w1 ⟨rfl, hbel⟩)
  have HB := Lib.hid hbel
  clear hbel
  go_wp2_with (first | (go_at_call 16; ((with_reducible refine (pow_v a (-(n : Int)) y ha A0.out HX2.out _).mono ?_); rintro e w' ⟨rfl, rfl⟩)) | (go_at_call 17; ((refine (rpower_v a n x ha (by omega) HX.out _).mono ?_); rintro e w' ⟨rfl, rfl⟩)) | (go_at_call 14; ((with_reducible refine (rinv_nz x y lx X0.out HY.out _).mono ?_); rintro e w' ⟨rfl, rfl⟩)))
  go_ret
  exact ⟨rfl, HB.out⟩
theorem powers_walk (a : Nat) (n : Int) (ha : a < 256) (w : World) : Calls Try.prog 6 #[.int .u8 (a : Int), .int .i64 n] w (lawPost w) := by
  by_cases a0 : a = 0
  · subst a0
    rcases Int.lt_trichotomy n 0 with h | h | h
    · exact powers_zneg n h w
    · subst h; exact powers_zz w
    · by_cases h6 : 600 < n
      · exact powers_zbig n h6 w
      · obtain ⟨m, rfl⟩ := Int.eq_ofNat_of_zero_le (Int.le_of_lt h)
        exact powers_zp m (by omega) (by omega) w
  · by_cases h6 : n < -600 ∨ 600 < n
    · exact powers_far a n ha a0 h6 w
    · by_cases h0 : 0 ≤ n
      · obtain ⟨m, rfl⟩ := Int.eq_ofNat_of_zero_le h0
        exact powers_near a m ha a0 (by omega) w
      · obtain ⟨m, hm⟩ := Int.eq_ofNat_of_zero_le (show 0 ≤ -n by omega)
        obtain rfl : n = -(m : Int) := by omega
        exact powers_nearn a m ha a0 (by omega) (by omega) w
end Go.Proofs.Ytlggemhgoipjmaa
