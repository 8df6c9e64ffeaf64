/- The walk of the law on sums of exponents. -/
import Derived.Test.YtlggemhgoipjmaaLb
import Derived.WalkSmall
import Derived.Lib.SmallJoins
namespace Go.Proofs.Ytlggemhgoipjmaa
open Go Go.RowKit

theorem pow_two (a x : Nat) (ha : a < 256) (h : Gf.mul a a = x) (w : World) :
    Calls Try.prog 16 #[.int .u8 (a : Int), .int .i64 2] w fun e w' => e = .returned (.tuple #[.int .u8 (x : Int), .int .i64 0]) ∧ w = w' := by
  by_cases h0 : a = 0
  · subst h0
    obtain rfl : x = 0 := by rw [← h]; exact Gf.mul_zero 0
    exact pow_z_pos 2 (by decide) w
  · exact pow_v a 2 x ha h0 (by rw [show red 2 = 2 by decide, Gf.gpow_two a ha, h]) w
theorem square_xor (a b : Nat) (ha : a < 256) (hb : b < 256) : Gf.mul (a ^^^ b) (a ^^^ b) = Gf.mul a a ^^^ Gf.mul b b := by
  rw [Gf.mul_xor_left _ _ _ ha hb, Gf.mul_xor_right, Gf.mul_xor_right, Gf.mul_comm b a hb ha]
  generalize Gf.mul a a = p
  generalize Gf.mul a b = q
  generalize Gf.mul b b = r
  rw [Nat.xor_assoc, ← Nat.xor_assoc q, Nat.xor_self, Nat.zero_xor]
theorem gpow_red_add (a : Nat) (n m : Int) (ha : a < 256) (a0 : a ≠ 0) : Gf.gpow a (red (n + m)) = Gf.mul (Gf.gpow a (red n)) (Gf.gpow a (red m)) := by
  rw [← Gf.gpow_add _ _ _ ha, ← Gf.gpow_mod a (red n + red m) a0 ha, ← Gf.gpow_mod a (red (n + m)) a0 ha]
  congr 1
  unfold red; omega

theorem boxed (w w1 : World) (x y z u : Value) (t1 t2 : TypeId) (h : Below ((w.alloc (.cells #[x, y] t1)).alloc (.cells #[z, u] t2)).heap.size ((w.alloc (.cells #[x, y] t1)).alloc (.cells #[z, u] t2)) w1) :
    w1.cell? ⟨w.heap.size, 0, none⟩ = some x ∧ w1.cell? ⟨w.heap.size, 1, none⟩ = some y ∧ w1.cell? ⟨w.heap.size + 1, 0, none⟩ = some z ∧ w1.cell? ⟨w.heap.size + 1, 1, none⟩ = some u ∧ Below w.heap.size w w1 := by
  have r1 : Row (w.alloc (.cells #[x, y] t1)) w.heap.size t1 #[x, y] := heap_alloc_new w _
  have r2 : Row ((w.alloc (.cells #[x, y] t1)).alloc (.cells #[z, u] t2)) (w.heap.size + 1) t2 #[z, u] := by
    have := heap_alloc_new (w.alloc (.cells #[x, y] t1)) (.cells #[z, u] t2)
    simpa [Row] using this
  have r1' : Row ((w.alloc (.cells #[x, y] t1)).alloc (.cells #[z, u] t2)) w.heap.size t1 #[x, y] := (Below.heap_alloc _ _ _ (by simp)).trans r1
  have q1 := r1'.below h (by simp; omega)
  have q2 := r2.below h (by simp)
  exact ⟨q1.cell 0, q1.cell 1, q2.cell 0, q2.cell 1, (((Below.refl _ _).alloc (Nat.le_refl _) _).alloc (by simp) _).trans (h.mono (by simp; omega))⟩
set_option maxHeartbeats 1000000 in
set_option maxRecDepth 100000 in
theorem sums_a0 (a b : Nat) (n m : Int) (ha : a < 256) (hb : b < 256) (g1 : ((a : Int) == 0) = true) (w : World) :
    Calls Try.prog 7 #[.agg #[.int .u8 (a : Int), .int .u8 (b : Int)], .agg #[.int .i32 n, .int .i32 m]] w (lawPost w) := by
  obtain ⟨c, hc⟩ : ∃ c, a ^^^ b = c := ⟨_, rfl⟩
  obtain ⟨x, hx⟩ : ∃ x, Gf.mul a a = x := ⟨_, rfl⟩
  obtain ⟨y, hy⟩ : ∃ y, Gf.mul b b = y := ⟨_, rfl⟩
  obtain ⟨z, hz⟩ : ∃ z, x ^^^ y = z := ⟨_, rfl⟩
  have lc : c < 256 := hc ▸ Gf.xor_lt _ _ ha hb
  have lx : x < 256 := hx ▸ Gf.mul_lt _ _ ha
  have ly : y < 256 := hy ▸ Gf.mul_lt _ _ hb
  have hzz : Gf.mul c c = z := by rw [← hc, square_xor a b ha hb, hx, hy, hz]
  have C1 := Lib.hid hc
  have X1 := Lib.hid hx
  have Y1 := Lib.hid hy
  have Z1 := Lib.hid hz
  have Z2 := Lib.hid hzz
  clear hc hx hy hz hzz
  go_enter Try.func7, Try.ntmps7
  go_wp2_with (go_at_call 9; refine (awake_any _).mono ?_; rintro e w1 ⟨rfl, hbel⟩)
  obtain ⟨q1, q2, q3, q4, hb1⟩ := boxed _ _ _ _ _ _ _ _ hbel
  have HB := Lib.hid hb1
  clear hbel hb1
  go_wp2_with fail
  go_quiet (fail)
  go_wp2_with (first | (go_at_call 10; ((with_reducible first | refine (add_v a b c ha hb C1.out _).mono ?_ | refine (add_v x y z lx ly Z1.out _).mono ?_); rintro e w' ⟨rfl, rfl⟩)) | (go_at_call 16; ((with_reducible first | refine (pow_two c z lc Z2.out _).mono ?_ | refine (pow_two a x ha X1.out _).mono ?_ | refine (pow_two b y hb Y1.out _).mono ?_); rintro e w' ⟨rfl, rfl⟩)))
  go_ret
  exact ⟨rfl, below_drewN HB.out _⟩
set_option maxHeartbeats 1000000 in
set_option maxRecDepth 100000 in
theorem sums_b0 (a b : Nat) (n m : Int) (ha : a < 256) (hb : b < 256) (g1 : ((a : Int) == 0) = false) (g2 : ((b : Int) == 0) = true) (w : World) :
    Calls Try.prog 7 #[.agg #[.int .u8 (a : Int), .int .u8 (b : Int)], .agg #[.int .i32 n, .int .i32 m]] w (lawPost w) := by
  obtain ⟨c, hc⟩ : ∃ c, a ^^^ b = c := ⟨_, rfl⟩
  obtain ⟨x, hx⟩ : ∃ x, Gf.mul a a = x := ⟨_, rfl⟩
  obtain ⟨y, hy⟩ : ∃ y, Gf.mul b b = y := ⟨_, rfl⟩
  obtain ⟨z, hz⟩ : ∃ z, x ^^^ y = z := ⟨_, rfl⟩
  have lc : c < 256 := hc ▸ Gf.xor_lt _ _ ha hb
  have lx : x < 256 := hx ▸ Gf.mul_lt _ _ ha
  have ly : y < 256 := hy ▸ Gf.mul_lt _ _ hb
  have hzz : Gf.mul c c = z := by rw [← hc, square_xor a b ha hb, hx, hy, hz]
  have C1 := Lib.hid hc
  have X1 := Lib.hid hx
  have Y1 := Lib.hid hy
  have Z1 := Lib.hid hz
  have Z2 := Lib.hid hzz
  clear hc hx hy hz hzz
  go_enter Try.func7, Try.ntmps7
  go_wp2_with (go_at_call 9; refine (awake_any _).mono ?_; rintro e w1 ⟨rfl, hbel⟩)
  obtain ⟨q1, q2, q3, q4, hb1⟩ := boxed _ _ _ _ _ _ _ _ hbel
  have HB := Lib.hid hb1
  clear hbel hb1
  go_wp2_with fail
  go_quiet (fail)
  go_wp2_with (first | (go_at_call 10; ((with_reducible first | refine (add_v a b c ha hb C1.out _).mono ?_ | refine (add_v x y z lx ly Z1.out _).mono ?_); rintro e w' ⟨rfl, rfl⟩)) | (go_at_call 16; ((with_reducible first | refine (pow_two c z lc Z2.out _).mono ?_ | refine (pow_two a x ha X1.out _).mono ?_ | refine (pow_two b y hb Y1.out _).mono ?_); rintro e w' ⟨rfl, rfl⟩)))
  go_ret
  exact ⟨rfl, below_drewN HB.out _⟩
set_option maxHeartbeats 1000000 in
set_option maxRecDepth 100000 in
theorem sums_ab (a b : Nat) (n m : Int) (ha : a < 256) (hb : b < 256) (n1 : -2147483648 ≤ n) (n2 : n ≤ 2147483647) (m1 : -2147483648 ≤ m) (m2 : m ≤ 2147483647) (a0 : a ≠ 0) (b0 : b ≠ 0) (w : World) :
    Calls Try.prog 7 #[.agg #[.int .u8 (a : Int), .int .u8 (b : Int)], .agg #[.int .i32 n, .int .i32 m]] w (lawPost w) := by
  obtain ⟨c, hc⟩ : ∃ c, a ^^^ b = c := ⟨_, rfl⟩
  obtain ⟨x, hx⟩ : ∃ x, Gf.mul a a = x := ⟨_, rfl⟩
  obtain ⟨y, hy⟩ : ∃ y, Gf.mul b b = y := ⟨_, rfl⟩
  obtain ⟨z, hz⟩ : ∃ z, x ^^^ y = z := ⟨_, rfl⟩
  have lc : c < 256 := hc ▸ Gf.xor_lt _ _ ha hb
  have lx : x < 256 := hx ▸ Gf.mul_lt _ _ ha
  have ly : y < 256 := hy ▸ Gf.mul_lt _ _ hb
  have hzz : Gf.mul c c = z := by rw [← hc, square_xor a b ha hb, hx, hy, hz]
  have C1 := Lib.hid hc
  have X1 := Lib.hid hx
  have Y1 := Lib.hid hy
  have Z1 := Lib.hid hz
  have Z2 := Lib.hid hzz
  clear hc hx hy hz hzz
  have g1 : ((a : Int) == 0) = false := by simp; omega
  have g2 : ((b : Int) == 0) = false := by simp; omega
  obtain ⟨d, hd⟩ : ∃ d, Gf.mul a b = d := ⟨_, rfl⟩
  obtain ⟨p, hp⟩ : ∃ p, Gf.gpow a (red n) = p := ⟨_, rfl⟩
  obtain ⟨q, hq⟩ : ∃ q, Gf.gpow b (red n) = q := ⟨_, rfl⟩
  obtain ⟨t, ht⟩ : ∃ t, Gf.gpow a (red m) = t := ⟨_, rfl⟩
  obtain ⟨r, hr⟩ : ∃ r, Gf.mul p q = r := ⟨_, rfl⟩
  obtain ⟨u, hu⟩ : ∃ u, Gf.mul p t = u := ⟨_, rfl⟩
  have ld : d < 256 := hd ▸ Gf.mul_lt _ _ ha
  have lp : p < 256 := hp ▸ Gf.gpow_lt _ _ ha
  have lq : q < 256 := hq ▸ Gf.gpow_lt _ _ hb
  have lt : t < 256 := ht ▸ Gf.gpow_lt _ _ ha
  have D0 : Hid (d ≠ 0) := Lib.hid fun e => b0 (Gf.mul_eq_zero a b ha hb a0 (hd.trans e))
  have P2 : Hid (Gf.gpow d (red n) = r) := Lib.hid (by rw [← hd, Gf.gpow_prod a b _ ha hb, hp, hq, hr])
  have P3 : Hid (Gf.gpow a (red (n + m)) = u) := Lib.hid (by rw [gpow_red_add a n m ha a0, hp, ht, hu])
  have A0 := Lib.hid a0
  have B0 := Lib.hid b0
  have D1 := Lib.hid hd
  have P1 := Lib.hid hp
  have Q1 := Lib.hid hq
  have T1 := Lib.hid ht
  have R1 := Lib.hid hr
  have U1 := Lib.hid hu
  clear a0 b0 hd hp hq ht hr hu
  go_enter Try.func7, Try.ntmps7
  go_wp2_with (go_at_call 9; refine (awake_any _).mono ?_; rintro e w1 ⟨rfl, hbel⟩)
  obtain ⟨q1, q2, q3, q4, hb1⟩ := boxed _ _ _ _ _ _ _ _ hbel
  have HB := Lib.hid hb1
  clear hbel hb1
  go_wp2_with fail
  go_quiet (fail)
  go_wp2_with (first | (go_at_call 10; ((with_reducible first | refine (add_v a b c ha hb C1.out _).mono ?_ | refine (add_v x y z lx ly Z1.out _).mono ?_); rintro e w' ⟨rfl, rfl⟩)) | (go_at_call 16; ((with_reducible first | refine (pow_two c z lc Z2.out _).mono ?_ | refine (pow_two a x ha X1.out _).mono ?_ | refine (pow_two b y hb Y1.out _).mono ?_ | refine (pow_v a n p ha A0.out P1.out _).mono ?_ | refine (pow_v b n q hb B0.out Q1.out _).mono ?_ | refine (pow_v d n r ld D0.out P2.out _).mono ?_ | refine (pow_v a m t ha A0.out T1.out _).mono ?_ | refine (pow_v a (n + m) u ha A0.out P3.out _).mono ?_); rintro e w' ⟨rfl, rfl⟩)) | (go_at_call 11; ((with_reducible first | refine (mul_v a b d ha hb D1.out _).mono ?_ | refine (mul_v p q r lp lq R1.out _).mono ?_ | refine (mul_v p t u lp lt U1.out _).mono ?_); rintro e w' ⟨rfl, rfl⟩)))
  go_ret
  exact ⟨rfl, below_drewN HB.out _⟩
theorem sums_walk (a b : Nat) (n m : Int) (ha : a < 256) (hb : b < 256) (n1 : -2147483648 ≤ n) (n2 : n ≤ 2147483647) (m1 : -2147483648 ≤ m) (m2 : m ≤ 2147483647) (w : World) :
    Calls Try.prog 7 #[.agg #[.int .u8 (a : Int), .int .u8 (b : Int)], .agg #[.int .i32 n, .int .i32 m]] w (lawPost w) := by
  by_cases a0 : a = 0
  · exact sums_a0 a b n m ha hb (by simp [a0]) w
  · by_cases b0 : b = 0
    · exact sums_b0 a b n m ha hb (by simp; omega) (by simp [b0]) w
    · exact sums_ab a b n m ha hb n1 n2 m1 m2 a0 b0 w
theorem arr2_in {H : Type} {enc : TypeId × Value → H} {P : Program} {w : World} {base b0 : Nat} {spare : Nat → Bool} {held : Bool} {r : Reach} {t e : TypeId} {k : IntKind} {v : Value} {d : DataW H} {p : List MemPlace}
    (ht : P.underlying t = some (.array 2 e)) (he : P.underlying e = some (.int k)) (hc : P.cellsOf e = 1) (hC : P.cellsOf t = 2) (hv : Value.okWide P w r b0 t v) (h : DataW.Trod enc P w base spare held t v d p) :
    ∃ n m, v = .agg #[.int k n, .int k m] ∧ (Lit.int k n).wf = true ∧ (Lit.int k m).wf = true := by
  obtain ⟨cs, rfl, hsz⟩ : ∃ cs, v = .agg cs ∧ cs.size = P.cellsOf t := by
    simp only [Value.okWide, ht] at hv
    obtain ⟨cs, h1, h2, _⟩ := hv
    exact ⟨cs, h1, h2⟩
  obtain ⟨c0, c1, rfl⟩ := Joins.array2 (hsz.trans hC)
  obtain ⟨fuel, hf⟩ := h
  obtain ⟨xs, m, _, _, _, hl, hel⟩ := DataW.trod_array ht hf
  have q0 := hel 0 (by decide)
  have q1 := hel 1 (by decide)
  rw [hc] at q0 q1
  match xs, hl with
  | [y0, y1], _ =>
    obtain ⟨x0, e0, _, w0⟩ := DataW.trod_int he (show DataW.trod enc P w base spare held m e [c0] = some y0 by simpa [Value.cells] using q0)
    obtain ⟨x1, e1, _, w1⟩ := DataW.trod_int he (show DataW.trod enc P w base spare held m e [c1] = some y1 by simpa [Value.cells] using q1)
    exact ⟨x0, x1, by simp at e0 e1; rw [e0, e1], w0, w1⟩
end Go.Proofs.Ytlggemhgoipjmaa
