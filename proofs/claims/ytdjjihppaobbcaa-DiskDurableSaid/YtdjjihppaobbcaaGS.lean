/- Joined: Ka Kb Kc Kd Kg Kh Kpa Kpb Kpc Kp. -/
import Derived.Test.YtdjjihppaobbcaaGA
import Derived.Test.YtdjjihppaobbcaaRr
import Derived.Deep.DeepMust
import Derived.Test.YtdjjihppaobbcaaRu
import Derived.Deep.MidRow
import Derived.BigQuiet
namespace Go.Proofs.Ytdjjihppaobbcaa
namespace Geo
/-- A valid geometry. -/
def GV (r b t s o : Int) : Prop := (0 ≤ r ∧ r ≤ 16384) ∧ (1 ≤ b ∧ b ≤ 64) ∧ (1 ≤ t ∧ t ≤ 16) ∧ (1 ≤ s ∧ s ≤ 64) ∧ (0 ≤ o ∧ o ≤ 3)
instance (r b t s o : Int) : Decidable (GV r b t s o) := by unfold GV; infer_instance
def band (r b t s o : Int) : Int := if GV r b t s o then t * s else 0
def size (r b t s o : Int) : Int := if GV r b t s o then r + b * (t * s) else 0
def rand (r b t s o a : Int) : Bool := decide (GV r b t s o ∧ 0 ≤ a ∧ a < r)
/-- Address: the number and the error. -/
def addr (r b t s o x y z : Int) : Int × Int := if GV r b t s o then (if 0 ≤ x ∧ x < b ∧ 0 ≤ y ∧ y < t ∧ 0 ≤ z ∧ z < s then (r + (x * t + y) * s + z, 0) else (0, 2)) else (0, 1)
/-- Locate: band, track, position, error. -/
def loc (r b t s o a : Int) : Int × Int × Int × Int := if GV r b t s o then (if r ≤ a ∧ a < r + b * (t * s) then ((a - r) / (t * s), (a - r) / s % t, (a - r) % s, 0) else (0, 0, 0, 2)) else (0, 0, 0, 1)
/-- The first k addresses of a shadow. -/
def shd (s a : Int) (k : Nat) : List Int := (List.range k).map fun i : Nat => a + ((i : Int) + 1) * s
/-- How many there are. -/
def shn (r b t s o a : Int) : Nat := if (loc r b t s o a).2.2.2 = 0 then (min o (t - 1 - (loc r b t s o a).2.1)).toNat else 0
def shadow (r b t s o a : Int) : List Int := shd s a (shn r b t s o a)
/-! ### In natural numbers -/
variable {R B T S O n : Nat}
theorem gv_nat (h : GV (R : Int) B T S O) : R ≤ 16384 ∧ 1 ≤ B ∧ B ≤ 64 ∧ 1 ≤ T ∧ T ≤ 16 ∧ 1 ≤ S ∧ S ≤ 64 ∧ O ≤ 3 := by unfold GV at h; omega
theorem ts_le (hT : T ≤ 16) (hS : S ≤ 64) : T * S ≤ 1024 := Nat.le_trans (Nat.mul_le_mul hT hS) (by decide)
theorem bts_le (hB : B ≤ 64) (hT : T ≤ 16) (hS : S ≤ 64) : B * (T * S) ≤ 65536 := Nat.le_trans (Nat.mul_le_mul hB (ts_le hT hS)) (by decide)
theorem ts_pos (hT : 1 ≤ T) (hS : 1 ≤ S) : 0 < T * S := Nat.mul_pos hT hS
theorem div_lt (hn : n < B * (T * S)) : n / (T * S) < B := Nat.div_lt_of_lt_mul (by rw [Nat.mul_comm]; exact hn)
theorem parts (T S n : Nat) : (n / (T * S) * T + n / S % T) * S + n % S = n := by
  have h1 : n / (T * S) = n / S / T := by rw [Nat.mul_comm, Nat.div_div_eq_div_mul]
  rw [h1]
  have h2 : n / S / T * T + n / S % T = n / S := by rw [Nat.mul_comm]; exact Nat.div_add_mod _ _
  rw [h2, Nat.mul_comm]; exact Nat.div_add_mod _ _
/-- The place of the number (x T + y) S + z. -/
theorem place {x y z : Nat} (hy : y < T) (hz : z < S) : ((x * T + y) * S + z) / (T * S) = x ∧ ((x * T + y) * S + z) / S % T = y ∧ ((x * T + y) * S + z) % S = z := by
  have hS : 0 < S := by omega
  have hT : 0 < T := by omega
  have h1 : ((x * T + y) * S + z) / S = x * T + y := by
    rw [Nat.add_comm, Nat.add_mul_div_right _ _ hS, Nat.div_eq_of_lt hz, Nat.zero_add]
  have h2 : (x * T + y) / T = x := by rw [Nat.add_comm, Nat.add_mul_div_right _ _ hT, Nat.div_eq_of_lt hy, Nat.zero_add]
  refine ⟨?_, ?_, ?_⟩
  · rw [Nat.mul_comm T S, ← Nat.div_div_eq_div_mul, h1, h2]
  · rw [h1, Nat.add_comm, Nat.add_mul_mod_self_right, Nat.mod_eq_of_lt hy]
  · rw [Nat.add_comm, Nat.add_mul_mod_self_right, Nat.mod_eq_of_lt hz]
theorem num_lt {x y z : Nat} (hx : x < B) (hy : y < T) (hz : z < S) : (x * T + y) * S + z < B * (T * S) := by
  have h1 : x * T + y + 1 ≤ B * T := by
    have := Nat.mul_le_mul_right T (show x + 1 ≤ B from hx)
    rw [Nat.add_mul, Nat.one_mul] at this; omega
  have h2 := Nat.mul_le_mul_right S h1
  rw [Nat.add_mul, Nat.one_mul, Nat.mul_assoc] at h2
  omega
theorem size_nat (h : GV (R : Int) B T S O) : size R B T S O = ((R + B * (T * S) : Nat) : Int) := by unfold size; rw [if_pos h]; push_cast; rfl
theorem band_nat (h : GV (R : Int) B T S O) : band R B T S O = ((T * S : Nat) : Int) := by unfold band; rw [if_pos h]; push_cast; rfl
theorem loc_in (h : GV (R : Int) B T S O) (hn : n < B * (T * S)) : loc R B T S O ((R + n : Nat) : Int) = (((n / (T * S) : Nat) : Int), ((n / S % T : Nat) : Int), ((n % S : Nat) : Int), 0) := by
  unfold loc
  have e : ((R + n : Nat) : Int) - (R : Int) = (n : Int) := by omega
  have e2 : (R : Int) + (B : Int) * ((T : Int) * (S : Int)) = ((R + B * (T * S) : Nat) : Int) := by push_cast; rfl
  rw [if_pos h, e2, if_pos (by omega), e]
  rfl
theorem loc_out {a : Int} (h : GV (R : Int) B T S O) (ha : a < R ∨ ((R + B * (T * S) : Nat) : Int) ≤ a) : loc R B T S O a = (0, 0, 0, 2) := by
  unfold loc
  have e2 : (R : Int) + (B : Int) * ((T : Int) * (S : Int)) = ((R + B * (T * S) : Nat) : Int) := by push_cast; rfl
  rw [if_pos h, e2, if_neg (by omega)]
theorem loc_bad {r b t s o a : Int} (h : ¬ GV r b t s o) : loc r b t s o a = (0, 0, 0, 1) := by unfold loc; exact if_neg h
theorem addr_in {x y z : Nat} (h : GV (R : Int) B T S O) (hx : x < B) (hy : y < T) (hz : z < S) : addr R B T S O x y z = (((R + ((x * T + y) * S + z) : Nat) : Int), 0) := by
  unfold addr
  rw [if_pos h, if_pos (by omega)]
  congr 1
  push_cast
  rw [Int.add_assoc]
theorem addr_out {r b t s o x y z : Int} (h : GV r b t s o) (hn : ¬ (0 ≤ x ∧ x < b ∧ 0 ≤ y ∧ y < t ∧ 0 ≤ z ∧ z < s)) : addr r b t s o x y z = (0, 2) := by unfold addr; rw [if_pos h, if_neg hn]
theorem addr_bad {r b t s o x y z : Int} (h : ¬ GV r b t s o) : addr r b t s o x y z = (0, 1) := by unfold addr; exact if_neg h
theorem shn_in (h : GV (R : Int) B T S O) (hn : n < B * (T * S)) : shn R B T S O ((R + n : Nat) : Int) = min O (T - 1 - n / S % T) := by
  have hT := (gv_nat h).2.2.2.1
  have hm := Nat.mod_lt (n / S) (show T > 0 by omega)
  unfold shn
  rw [loc_in h hn, if_pos rfl]
  show (min (O : Int) ((T : Int) - 1 - ((n / S % T : Nat) : Int))).toNat = _
  generalize n / S % T = m at hm
  omega
theorem shn_out {r b t s o a : Int} (h : (loc r b t s o a).2.2.2 ≠ 0) : shn r b t s o a = 0 := by unfold shn; exact if_neg h
theorem shd_len (s a : Int) (k : Nat) : (shd s a k).length = k := by simp [shd]
theorem shd_at (s a : Int) {k i : Nat} (h : i < k) : (shd s a k)[i]? = some (a + ((i : Int) + 1) * s) := by simp [shd, h]
theorem shd_succ (s a : Int) (k : Nat) : shd s a (k + 1) = shd s a k ++ [a + ((k : Int) + 1) * s] := by simp [shd, List.range_succ]
/-- A shadow's sector is that of a later track. -/
theorem shd_num (n k : Nat) : n + k * S = (n / (T * S) * T + (n / S % T + k)) * S + n % S := by
  have h := parts T S n
  have h2 : (n / (T * S) * T + (n / S % T + k)) * S = (n / (T * S) * T + n / S % T) * S + k * S := by rw [← Nat.add_assoc, Nat.add_mul]
  rw [h2]; omega
end Geo
end Go.Proofs.Ytdjjihppaobbcaa
namespace Go.Proofs.Ytdjjihppaobbcaa
open Go Go.RowKit
set_option linter.unusedVariables false
set_option linter.unusedSimpArgs false
/-- A value is returned, and below the new memory all is as it was. -/
def gPost (v : Value) (w : World) (e : Ending) (w' : World) : Prop := e = .returned v ∧ Below w.heap.size w w'

set_option maxHeartbeats 1000000 in
set_option maxRecDepth 100000 in
theorem rvalid_0 (r b t s o : Int) (w : World)  (h0 : ¬ 0 ≤ r) : Calls Try.prog 9 #[.agg #[.int .i64 r, .int .i64 b, .int .i64 t, .int .i64 s, .int .i64 o]] w (gPost (.bool false) w) := by
  have d : decide ((0 : Int) ≤ r) = false := decide_eq_false h0
  go_enter Try.func9, Try.ntmps9
  go_wp2_with fail
  go_ret
  exact ⟨rfl, (Below.refl _ _).alloc (Nat.le_refl _) _⟩
set_option maxHeartbeats 1000000 in
set_option maxRecDepth 100000 in
theorem rvalid_1 (r b t s o : Int) (w : World) (h0 : 0 ≤ r) (h1 : ¬ r ≤ 16384) : Calls Try.prog 9 #[.agg #[.int .i64 r, .int .i64 b, .int .i64 t, .int .i64 s, .int .i64 o]] w (gPost (.bool false) w) := by
  have d : decide (r ≤ (16384 : Int)) = false := decide_eq_false h1
  have d0 : decide ((0 : Int) ≤ r) = true := decide_eq_true h0
  go_enter Try.func9, Try.ntmps9
  go_wp2_with fail
  go_ret
  exact ⟨rfl, (Below.refl _ _).alloc (Nat.le_refl _) _⟩
set_option maxHeartbeats 1000000 in
set_option maxRecDepth 100000 in
theorem rvalid_2 (r b t s o : Int) (w : World) (h0 : 0 ≤ r) (h1 : r ≤ 16384) (h2 : ¬ 1 ≤ b) : Calls Try.prog 9 #[.agg #[.int .i64 r, .int .i64 b, .int .i64 t, .int .i64 s, .int .i64 o]] w (gPost (.bool false) w) := by
  have d : decide ((1 : Int) ≤ b) = false := decide_eq_false h2
  have d0 : decide ((0 : Int) ≤ r) = true := decide_eq_true h0
  have d1 : decide (r ≤ (16384 : Int)) = true := decide_eq_true h1
  go_enter Try.func9, Try.ntmps9
  go_wp2_with fail
  go_ret
  exact ⟨rfl, (Below.refl _ _).alloc (Nat.le_refl _) _⟩
set_option maxHeartbeats 1000000 in
set_option maxRecDepth 100000 in
theorem rvalid_3 (r b t s o : Int) (w : World) (h0 : 0 ≤ r) (h1 : r ≤ 16384) (h2 : 1 ≤ b) (h3 : ¬ b ≤ 64) : Calls Try.prog 9 #[.agg #[.int .i64 r, .int .i64 b, .int .i64 t, .int .i64 s, .int .i64 o]] w (gPost (.bool false) w) := by
  have d : decide (b ≤ (64 : Int)) = false := decide_eq_false h3
  have d0 : decide ((0 : Int) ≤ r) = true := decide_eq_true h0
  have d1 : decide (r ≤ (16384 : Int)) = true := decide_eq_true h1
  have d2 : decide ((1 : Int) ≤ b) = true := decide_eq_true h2
  go_enter Try.func9, Try.ntmps9
  go_wp2_with fail
  go_ret
  exact ⟨rfl, (Below.refl _ _).alloc (Nat.le_refl _) _⟩
set_option maxHeartbeats 1000000 in
set_option maxRecDepth 100000 in
theorem rvalid_4 (r b t s o : Int) (w : World) (h0 : 0 ≤ r) (h1 : r ≤ 16384) (h2 : 1 ≤ b) (h3 : b ≤ 64) (h4 : ¬ 1 ≤ t) : Calls Try.prog 9 #[.agg #[.int .i64 r, .int .i64 b, .int .i64 t, .int .i64 s, .int .i64 o]] w (gPost (.bool false) w) := by
  have d : decide ((1 : Int) ≤ t) = false := decide_eq_false h4
  have d0 : decide ((0 : Int) ≤ r) = true := decide_eq_true h0
  have d1 : decide (r ≤ (16384 : Int)) = true := decide_eq_true h1
  have d2 : decide ((1 : Int) ≤ b) = true := decide_eq_true h2
  have d3 : decide (b ≤ (64 : Int)) = true := decide_eq_true h3
  go_enter Try.func9, Try.ntmps9
  go_wp2_with fail
  go_ret
  exact ⟨rfl, (Below.refl _ _).alloc (Nat.le_refl _) _⟩
set_option maxHeartbeats 1000000 in
set_option maxRecDepth 100000 in
theorem rvalid_5 (r b t s o : Int) (w : World) (h0 : 0 ≤ r) (h1 : r ≤ 16384) (h2 : 1 ≤ b) (h3 : b ≤ 64) (h4 : 1 ≤ t) (h5 : ¬ t ≤ 16) : Calls Try.prog 9 #[.agg #[.int .i64 r, .int .i64 b, .int .i64 t, .int .i64 s, .int .i64 o]] w (gPost (.bool false) w) := by
  have d : decide (t ≤ (16 : Int)) = false := decide_eq_false h5
  have d0 : decide ((0 : Int) ≤ r) = true := decide_eq_true h0
  have d1 : decide (r ≤ (16384 : Int)) = true := decide_eq_true h1
  have d2 : decide ((1 : Int) ≤ b) = true := decide_eq_true h2
  have d3 : decide (b ≤ (64 : Int)) = true := decide_eq_true h3
  have d4 : decide ((1 : Int) ≤ t) = true := decide_eq_true h4
  go_enter Try.func9, Try.ntmps9
  go_wp2_with fail
  go_ret
  exact ⟨rfl, (Below.refl _ _).alloc (Nat.le_refl _) _⟩
set_option maxHeartbeats 1000000 in
set_option maxRecDepth 100000 in
theorem rvalid_6 (r b t s o : Int) (w : World) (h0 : 0 ≤ r) (h1 : r ≤ 16384) (h2 : 1 ≤ b) (h3 : b ≤ 64) (h4 : 1 ≤ t) (h5 : t ≤ 16) (h6 : ¬ 1 ≤ s) : Calls Try.prog 9 #[.agg #[.int .i64 r, .int .i64 b, .int .i64 t, .int .i64 s, .int .i64 o]] w (gPost (.bool false) w) := by
  have d : decide ((1 : Int) ≤ s) = false := decide_eq_false h6
  have d0 : decide ((0 : Int) ≤ r) = true := decide_eq_true h0
  have d1 : decide (r ≤ (16384 : Int)) = true := decide_eq_true h1
  have d2 : decide ((1 : Int) ≤ b) = true := decide_eq_true h2
  have d3 : decide (b ≤ (64 : Int)) = true := decide_eq_true h3
  have d4 : decide ((1 : Int) ≤ t) = true := decide_eq_true h4
  have d5 : decide (t ≤ (16 : Int)) = true := decide_eq_true h5
  go_enter Try.func9, Try.ntmps9
  go_wp2_with fail
  go_ret
  exact ⟨rfl, (Below.refl _ _).alloc (Nat.le_refl _) _⟩
set_option maxHeartbeats 1000000 in
set_option maxRecDepth 100000 in
theorem rvalid_7 (r b t s o : Int) (w : World) (h0 : 0 ≤ r) (h1 : r ≤ 16384) (h2 : 1 ≤ b) (h3 : b ≤ 64) (h4 : 1 ≤ t) (h5 : t ≤ 16) (h6 : 1 ≤ s) (h7 : ¬ s ≤ 64) : Calls Try.prog 9 #[.agg #[.int .i64 r, .int .i64 b, .int .i64 t, .int .i64 s, .int .i64 o]] w (gPost (.bool false) w) := by
  have d : decide (s ≤ (64 : Int)) = false := decide_eq_false h7
  have d0 : decide ((0 : Int) ≤ r) = true := decide_eq_true h0
  have d1 : decide (r ≤ (16384 : Int)) = true := decide_eq_true h1
  have d2 : decide ((1 : Int) ≤ b) = true := decide_eq_true h2
  have d3 : decide (b ≤ (64 : Int)) = true := decide_eq_true h3
  have d4 : decide ((1 : Int) ≤ t) = true := decide_eq_true h4
  have d5 : decide (t ≤ (16 : Int)) = true := decide_eq_true h5
  have d6 : decide ((1 : Int) ≤ s) = true := decide_eq_true h6
  go_enter Try.func9, Try.ntmps9
  go_wp2_with fail
  go_ret
  exact ⟨rfl, (Below.refl _ _).alloc (Nat.le_refl _) _⟩
set_option maxHeartbeats 1000000 in
set_option maxRecDepth 100000 in
theorem rvalid_8 (r b t s o : Int) (w : World) (h0 : 0 ≤ r) (h1 : r ≤ 16384) (h2 : 1 ≤ b) (h3 : b ≤ 64) (h4 : 1 ≤ t) (h5 : t ≤ 16) (h6 : 1 ≤ s) (h7 : s ≤ 64) (h8 : ¬ 0 ≤ o) : Calls Try.prog 9 #[.agg #[.int .i64 r, .int .i64 b, .int .i64 t, .int .i64 s, .int .i64 o]] w (gPost (.bool false) w) := by
  have d : decide ((0 : Int) ≤ o) = false := decide_eq_false h8
  have d0 : decide ((0 : Int) ≤ r) = true := decide_eq_true h0
  have d1 : decide (r ≤ (16384 : Int)) = true := decide_eq_true h1
  have d2 : decide ((1 : Int) ≤ b) = true := decide_eq_true h2
  have d3 : decide (b ≤ (64 : Int)) = true := decide_eq_true h3
  have d4 : decide ((1 : Int) ≤ t) = true := decide_eq_true h4
  have d5 : decide (t ≤ (16 : Int)) = true := decide_eq_true h5
  have d6 : decide ((1 : Int) ≤ s) = true := decide_eq_true h6
  have d7 : decide (s ≤ (64 : Int)) = true := decide_eq_true h7
  go_enter Try.func9, Try.ntmps9
  go_wp2_with fail
  go_ret
  exact ⟨rfl, (Below.refl _ _).alloc (Nat.le_refl _) _⟩
set_option maxHeartbeats 1000000 in
set_option maxRecDepth 100000 in
theorem rvalid_9 (r b t s o : Int) (w : World) (h0 : 0 ≤ r) (h1 : r ≤ 16384) (h2 : 1 ≤ b) (h3 : b ≤ 64) (h4 : 1 ≤ t) (h5 : t ≤ 16) (h6 : 1 ≤ s) (h7 : s ≤ 64) (h8 : 0 ≤ o) (h9 : ¬ o ≤ 3) : Calls Try.prog 9 #[.agg #[.int .i64 r, .int .i64 b, .int .i64 t, .int .i64 s, .int .i64 o]] w (gPost (.bool false) w) := by
  have d : decide (o ≤ (3 : Int)) = false := decide_eq_false h9
  have d0 : decide ((0 : Int) ≤ r) = true := decide_eq_true h0
  have d1 : decide (r ≤ (16384 : Int)) = true := decide_eq_true h1
  have d2 : decide ((1 : Int) ≤ b) = true := decide_eq_true h2
  have d3 : decide (b ≤ (64 : Int)) = true := decide_eq_true h3
  have d4 : decide ((1 : Int) ≤ t) = true := decide_eq_true h4
  have d5 : decide (t ≤ (16 : Int)) = true := decide_eq_true h5
  have d6 : decide ((1 : Int) ≤ s) = true := decide_eq_true h6
  have d7 : decide (s ≤ (64 : Int)) = true := decide_eq_true h7
  have d8 : decide ((0 : Int) ≤ o) = true := decide_eq_true h8
  go_enter Try.func9, Try.ntmps9
  go_wp2_with fail
  go_ret
  exact ⟨rfl, (Below.refl _ _).alloc (Nat.le_refl _) _⟩
set_option maxHeartbeats 1000000 in
set_option maxRecDepth 100000 in
theorem rvalid_10 (r b t s o : Int) (w : World) (h0 : 0 ≤ r) (h1 : r ≤ 16384) (h2 : 1 ≤ b) (h3 : b ≤ 64) (h4 : 1 ≤ t) (h5 : t ≤ 16) (h6 : 1 ≤ s) (h7 : s ≤ 64) (h8 : 0 ≤ o) (h9 : o ≤ 3) : Calls Try.prog 9 #[.agg #[.int .i64 r, .int .i64 b, .int .i64 t, .int .i64 s, .int .i64 o]] w (gPost (.bool true) w) := by
  have d0 : decide ((0 : Int) ≤ r) = true := decide_eq_true h0
  have d1 : decide (r ≤ (16384 : Int)) = true := decide_eq_true h1
  have d2 : decide ((1 : Int) ≤ b) = true := decide_eq_true h2
  have d3 : decide (b ≤ (64 : Int)) = true := decide_eq_true h3
  have d4 : decide ((1 : Int) ≤ t) = true := decide_eq_true h4
  have d5 : decide (t ≤ (16 : Int)) = true := decide_eq_true h5
  have d6 : decide ((1 : Int) ≤ s) = true := decide_eq_true h6
  have d7 : decide (s ≤ (64 : Int)) = true := decide_eq_true h7
  have d8 : decide ((0 : Int) ≤ o) = true := decide_eq_true h8
  have d9 : decide (o ≤ (3 : Int)) = true := decide_eq_true h9
  go_enter Try.func9, Try.ntmps9
  go_wp2_with fail
  go_ret
  exact ⟨rfl, (Below.refl _ _).alloc (Nat.le_refl _) _⟩
theorem rvalid_any (r b t s o : Int) (w : World) : Calls Try.prog 9 #[.agg #[.int .i64 r, .int .i64 b, .int .i64 t, .int .i64 s, .int .i64 o]] w (gPost (.bool (decide (Geo.GV r b t s o))) w) := by
  by_cases h0 : ¬ (0 ≤ r)
  · rw [decide_eq_false (show ¬ Geo.GV r b t s o by unfold Geo.GV; omega)]; exact rvalid_0 r b t s o w h0
  replace h0 := Decidable.not_not.1 h0
  by_cases h1 : ¬ (r ≤ 16384)
  · rw [decide_eq_false (show ¬ Geo.GV r b t s o by unfold Geo.GV; omega)]; exact rvalid_1 r b t s o w h0 h1
  replace h1 := Decidable.not_not.1 h1
  by_cases h2 : ¬ (1 ≤ b)
  · rw [decide_eq_false (show ¬ Geo.GV r b t s o by unfold Geo.GV; omega)]; exact rvalid_2 r b t s o w h0 h1 h2
  replace h2 := Decidable.not_not.1 h2
  by_cases h3 : ¬ (b ≤ 64)
  · rw [decide_eq_false (show ¬ Geo.GV r b t s o by unfold Geo.GV; omega)]; exact rvalid_3 r b t s o w h0 h1 h2 h3
  replace h3 := Decidable.not_not.1 h3
  by_cases h4 : ¬ (1 ≤ t)
  · rw [decide_eq_false (show ¬ Geo.GV r b t s o by unfold Geo.GV; omega)]; exact rvalid_4 r b t s o w h0 h1 h2 h3 h4
  replace h4 := Decidable.not_not.1 h4
  by_cases h5 : ¬ (t ≤ 16)
  · rw [decide_eq_false (show ¬ Geo.GV r b t s o by unfold Geo.GV; omega)]; exact rvalid_5 r b t s o w h0 h1 h2 h3 h4 h5
  replace h5 := Decidable.not_not.1 h5
  by_cases h6 : ¬ (1 ≤ s)
  · rw [decide_eq_false (show ¬ Geo.GV r b t s o by unfold Geo.GV; omega)]; exact rvalid_6 r b t s o w h0 h1 h2 h3 h4 h5 h6
  replace h6 := Decidable.not_not.1 h6
  by_cases h7 : ¬ (s ≤ 64)
  · rw [decide_eq_false (show ¬ Geo.GV r b t s o by unfold Geo.GV; omega)]; exact rvalid_7 r b t s o w h0 h1 h2 h3 h4 h5 h6 h7
  replace h7 := Decidable.not_not.1 h7
  by_cases h8 : ¬ (0 ≤ o)
  · rw [decide_eq_false (show ¬ Geo.GV r b t s o by unfold Geo.GV; omega)]; exact rvalid_8 r b t s o w h0 h1 h2 h3 h4 h5 h6 h7 h8
  replace h8 := Decidable.not_not.1 h8
  by_cases h9 : ¬ (o ≤ 3)
  · rw [decide_eq_false (show ¬ Geo.GV r b t s o by unfold Geo.GV; omega)]; exact rvalid_9 r b t s o w h0 h1 h2 h3 h4 h5 h6 h7 h8 h9
  replace h9 := Decidable.not_not.1 h9
  rw [decide_eq_true (show Geo.GV r b t s o by unfold Geo.GV; omega)]; exact rvalid_10 r b t s o w h0 h1 h2 h3 h4 h5 h6 h7 h8 h9
end Go.Proofs.Ytdjjihppaobbcaa
namespace Go.Proofs.Ytdjjihppaobbcaa
open Go Go.RowKit
set_option linter.unusedVariables false
set_option linter.unusedSimpArgs false
theorem gr_new (w : World) (cs : Array Value) (t : TypeId) {g : Nat} (h : w.heap.size = g) : Row (w.alloc (.cells cs t)) g t cs := h ▸ heap_alloc_new w _
theorem rw_fw {w w' : World} {g : Nat} {t : TypeId} {cs : Array Value} (h : Row w g t cs) (hb : Below w.heap.size w w') : Row w' g t cs := h.below hb h.lt
theorem gr_rng {w : World} {g : Nat} {t : TypeId} {cs : Array Value} (h : Row w g t cs) : w.rangeAt g 0 cs.toList := fun j v hv => by
  rw [Nat.zero_add, h.cell]; rw [Array.getElem?_toList] at hv; exact hv
theorem ce_fw {w w' : World} {p : Addr} {u : Value} (h : w.cell? p = some u) (hb : Below w.heap.size w w') : w'.cell? p = some u := (hb.cell (World.block_lt_of_cell? w _ h)).trans h
theorem gw {x : Int} (h : -9223372036854775808 ≤ x) (h2 : x ≤ 9223372036854775807) : wrap64 x = x := IntWalk.wrap64_in _ ⟨h, h2⟩
theorem gm {t s : Int} {a c : Int} (h1 : 0 ≤ t) (h2 : t ≤ a) (h3 : 0 ≤ s) (h4 : s ≤ c) : 0 ≤ t * s ∧ t * s ≤ a * c := ⟨Int.mul_nonneg h1 h3, Int.mul_le_mul h2 h4 h3 (by omega)⟩

set_option maxHeartbeats 4000000 in
set_option maxRecDepth 100000 in
theorem rband_any (r b t s o : Int) (w : World) : Calls Try.prog 38 #[.agg #[.int .i64 r, .int .i64 b, .int .i64 t, .int .i64 s, .int .i64 o]] w (gPost (.int .i64 (Geo.band r b t s o)) w) := by
  have E := Lib.hid (show Geo.band r b t s o = if Geo.GV r b t s o then t * s else 0 from rfl)
  generalize Geo.band r b t s o = q at E ⊢
  obtain ⟨B0, hB0⟩ : ∃ B, w.heap.size = B := ⟨_, rfl⟩
  obtain ⟨W0, hW0⟩ : ∃ W, w.alloc (.cells #[.int .i64 r, .int .i64 b, .int .i64 t, .int .i64 s, .int .i64 o] 23) = W := ⟨_, rfl⟩
  have BW : Hid (Below w.heap.size w W0) := Lib.hid (by subst hW0; exact (Below.refl _ _).alloc (Nat.le_refl _) _)
  have R0 : Hid (Row W0 B0 23 #[.int .i64 r, .int .i64 b, .int .i64 t, .int .i64 s, .int .i64 o]) := Lib.hid (by subst hW0; exact gr_new w _ _ hB0)
  have c0 := R0.out.cell 0
  have c1 := R0.out.cell 1
  have c2 := R0.out.cell 2
  have c3 := R0.out.cell 3
  have c4 := R0.out.cell 4
  simp only [List.getElem?_toArray, List.getElem?_cons_zero, List.getElem?_cons_succ] at c0 c1 c2 c3 c4
  have HB0 := Lib.hid hB0
  have HW0 := Lib.hid hW0
  clear hB0 hW0
  go_enter Try.func38, Try.ntmps38
  go_wp2_with (first | rw [HB0.out] | rw [HW0.out])
  refine (rvalid_any r b t s o W0).mono ?_
  rintro e w1 ⟨rfl, hb⟩
  replace c0 := ce_fw c0 hb
  replace c1 := ce_fw c1 hb
  replace c2 := ce_fw c2 hb
  replace c3 := ce_fw c3 hb
  replace c4 := ce_fw c4 hb
  have B1 := Lib.hid (BW.out.trans (hb.mono BW.out.size))
  clear hb
  by_cases h : Geo.GV r b t s o
  · rw [decide_eq_true h]
    rw [if_pos h] at E
    unfold Geo.GV at h
    have hm := gm (t := t) (s := s) (a := 16) (c := 64) (by omega) (by omega) (by omega) (by omega)
    have e := E.out
    rw [← e] at hm
    have W := gw (x := t * s) (by rw [← e]; omega) (by rw [← e]; omega)
    rw [← e] at W
    go_wp2_with fail
    go_ret
    exact ⟨by rw [e]; try rw [← e]; first | rfl | (rw [W]) , B1.out⟩
  · rw [decide_eq_false h]
    rw [if_neg h] at E
    have e := E.out
    go_wp2_with fail
    go_ret
    exact ⟨by rw [e]; rfl, B1.out⟩

set_option maxHeartbeats 4000000 in
set_option maxRecDepth 100000 in
theorem rsize_any (r b t s o : Int) (w : World) : Calls Try.prog 10 #[.agg #[.int .i64 r, .int .i64 b, .int .i64 t, .int .i64 s, .int .i64 o]] w (gPost (.int .i64 (Geo.size r b t s o)) w) := by
  obtain ⟨q, hq⟩ : ∃ q, Geo.size r b t s o = q := ⟨_, rfl⟩
  have E := Lib.hid hq
  rw [hq]
  clear hq
  obtain ⟨B0, hB0⟩ : ∃ B, w.heap.size = B := ⟨_, rfl⟩
  obtain ⟨W0, hW0⟩ : ∃ W, w.alloc (.cells #[.int .i64 r, .int .i64 b, .int .i64 t, .int .i64 s, .int .i64 o] 23) = W := ⟨_, rfl⟩
  have BW : Hid (Below w.heap.size w W0) := Lib.hid (by subst hW0; exact (Below.refl _ _).alloc (Nat.le_refl _) _)
  have R0 : Hid (Row W0 B0 23 #[.int .i64 r, .int .i64 b, .int .i64 t, .int .i64 s, .int .i64 o]) := Lib.hid (by subst hW0; exact gr_new w _ _ hB0)
  have c0 := R0.out.cell 0
  have c1 := R0.out.cell 1
  have c2 := R0.out.cell 2
  have c3 := R0.out.cell 3
  have c4 := R0.out.cell 4
  simp only [List.getElem?_toArray, List.getElem?_cons_zero, List.getElem?_cons_succ] at c0 c1 c2 c3 c4
  have HB0 := Lib.hid hB0
  have HW0 := Lib.hid hW0
  clear hB0 hW0
  go_enter Try.func10, Try.ntmps10
  go_wp2_with (first | rw [HB0.out] | rw [HW0.out])
  refine (rvalid_any r b t s o W0).mono ?_
  rintro e w1 ⟨rfl, hb⟩
  replace c0 := ce_fw c0 hb
  replace c1 := ce_fw c1 hb
  replace c2 := ce_fw c2 hb
  replace c3 := ce_fw c3 hb
  replace c4 := ce_fw c4 hb
  have B1 := Lib.hid (BW.out.trans (hb.mono BW.out.size))
  have R1 := Lib.hid (rw_fw R0.out hb)
  clear hb
  by_cases h : Geo.GV r b t s o
  · rw [decide_eq_true h]
    obtain ⟨m, hm⟩ : ∃ m, t * s = m := ⟨_, rfl⟩
    have EB := Lib.hid (show Geo.band r b t s o = m by rw [← hm]; exact if_pos h)
    have e := E.out
    rw [show Geo.size r b t s o = r + b * (t * s) from if_pos h, hm] at e
    have h' := h
    unfold Geo.GV at h'
    have b1 := gm (t := t) (s := s) (a := 16) (c := 64) (by omega) (by omega) (by omega) (by omega)
    rw [hm] at b1
    have b2 := gm (t := b) (s := m) (a := 64) (c := 1024) (by omega) (by omega) (by omega) (by omega)
    have w1' := gw (x := b * m) (by omega) (by omega)
    have w2' := gw (x := r + b * m) (by omega) (by omega)
    obtain ⟨p, hp⟩ : ∃ p, b * m = p := ⟨_, rfl⟩
    rw [hp] at w1' w2' e
    rw [e] at w2'
    have k1 : IntKind.i64.wrap p = p := by rw [IntKind.wrap_i64]; rw [hp] at b2; omega
    have k2 : IntKind.i64.wrap (r + p) = q := by rw [e, IntKind.wrap_i64]; rw [hp] at b2; omega
    have C0 := Lib.hid c0
    have C1 := Lib.hid c1
    clear h h' b1 b2 hm e E
    go_wp2_with fail
    clear c0 c1 c2 c3 c4

    refine wp_region_held (P := Try.prog) (S := (fun w' : World => Below w1.heap.size w1 w')) rfl ?_
    change wpAnyH _ _ _ _ _ _ _ _ w1.drew
    have hz2 : Below w1.heap.size w1 w1.drew := (Below.refl w1.heap.size w1).drew
    generalize w1.drew = wz1 at hz2 ⊢
    have R_3 := Lib.hid (rw_fw R1.out (hz2))
    have C0_4 := Lib.hid (ce_fw C0.out (hz2))
    have C1_5 := Lib.hid (ce_fw C1.out (hz2))
    have hl6 := hz2
    have HT_7 : Hid (Below w1.heap.size w1 wz1) := Lib.hid (hl6)
    refine wpAnyH_up (S' := (fun w' : World => Below wz1.heap.size wz1 w')) (fun w' h => hz2.trans (h.mono hz2.size)) ?_
    have hS8 : (fun w' : World => Below wz1.heap.size wz1 w') wz1 := Below.refl _ _
    refine takeD (i := 0) (v := .pointer (some ⟨B0, 0, none⟩)) (some 6) rfl rfl (by kernel_rfl) (by kernel_rfl) (by kernel_rfl) (fun _ _ _ h => h) (Or.inl ⟨by rfl, by rintro w' -; go_simp⟩) hS8 ?_
    simp only [Act.put, List.setIfInBounds_toArray, List.set_cons_zero, List.set_cons_succ]
    refine takeD (i := 1) (v := .int .i64 r) (some 7) rfl rfl (by kernel_rfl) (by kernel_rfl) (by kernel_rfl) (fun _ _ _ h => h) (Or.inl ⟨by rfl, by rintro w' h; have hc := ce_fw C0_4.out h; go_simp⟩) hS8 ?_
    simp only [Act.put, List.setIfInBounds_toArray, List.set_cons_zero, List.set_cons_succ]
    refine takeD (i := 2) (v := .pointer (some ⟨B0, 1, none⟩)) (some 8) rfl rfl (by kernel_rfl) (by kernel_rfl) (by kernel_rfl) (fun _ _ _ h => h) (Or.inl ⟨by rfl, by rintro w' -; go_simp⟩) hS8 ?_
    simp only [Act.put, List.setIfInBounds_toArray, List.set_cons_zero, List.set_cons_succ]
    refine takeD (i := 3) (v := .int .i64 b) (some 9) rfl rfl (by kernel_rfl) (by kernel_rfl) (by kernel_rfl) (fun _ _ _ h => h) (Or.inl ⟨by rfl, by rintro w' h; have hc := ce_fw C1_5.out h; go_simp⟩) hS8 ?_
    simp only [Act.put, List.setIfInBounds_toArray, List.set_cons_zero, List.set_cons_succ]
    refine takeD (i := 4) (v := .agg #[.int .i64 r, .int .i64 b, .int .i64 t, .int .i64 s, .int .i64 o]) (some 10) rfl rfl (by kernel_rfl) (by kernel_rfl) (by kernel_rfl) (fun _ _ _ h => h) (yieldsIf_load_mid (by rfl) _ _ rfl B0 0 rfl (#[.int .i64 r, .int .i64 b, .int .i64 t, .int .i64 s, .int .i64 o]).toList _ (fun w' h => gr_rng (rw_fw R_3.out h)) Try.underlying23 rfl (by kernel_rfl)) hS8 ?_
    simp only [Act.put, List.setIfInBounds_toArray, List.set_cons_zero, List.set_cons_succ]
    refine wpAnyH_ready (rs := [5]) (by kernel_rfl) (by simp) ?_
    refine AllReadyH.cons rfl (fun K9 hK9 => ?_) AllReadyH.nil
    have HK9 := Lib.hid hK9
    clear hK9
    rw [if_pos (by rfl)]
    go_simp
    refine (rband_any r b t s o _).mono ?_
    rintro e x10 ⟨rfl, hb11⟩
    have R_12 := Lib.hid (rw_fw R_3.out (hb11))
    have C0_13 := Lib.hid (ce_fw C0_4.out (hb11))
    have C1_14 := Lib.hid (ce_fw C1_5.out (hb11))
    have hl15 := hb11
    have HT_16 : Hid (Below w1.heap.size w1 x10) := Lib.hid (HT_7.out.trans ((hl15).mono HT_7.out.size))
    clear hb11 
    rw [EB.out]
    have hb18 : Below wz1.heap.size wz1 x10 := hl15
    have hS17 : (fun w' : World => Below wz1.heap.size wz1 w') x10 := hb18
    refine HK9.out _ _ hS17 fun _ => ?_
    try simp only [Act.put, List.setIfInBounds_toArray, List.set_cons_zero, List.set_cons_succ]
    refine wpAnyH_up (S' := (fun w' : World => Below x10.heap.size x10 w')) (fun w' h => hb18.trans (h.mono hb18.size)) ?_
    have hS19 : (fun w' : World => Below x10.heap.size x10 w') x10 := Below.refl _ _
    refine takeD (i := 6) (v := .int .i64 p) (some 12) rfl rfl (by kernel_rfl) (by kernel_rfl) (by kernel_rfl) (fun _ _ _ h => h) (Or.inl ⟨by rfl, by rintro w' -; go_simp⟩) hS19 ?_
    simp only [Act.put, List.setIfInBounds_toArray, List.set_cons_zero, List.set_cons_succ]
    refine takeD (i := 7) (v := .int .i64 q) (some 13) rfl rfl (by kernel_rfl) (by kernel_rfl) (by kernel_rfl) (fun _ _ _ h => h) (Or.inl ⟨by rfl, by rintro w' -; go_simp⟩) hS19 ?_
    simp only [Act.put, List.setIfInBounds_toArray, List.set_cons_zero, List.set_cons_succ]
    refine takeD (i := 8) (v := .int .i64 q) (some 2) rfl rfl (by kernel_rfl) (by kernel_rfl) (by kernel_rfl) (fun _ _ _ h => h) (Or.inl ⟨by rfl, by rintro w' -; go_simp⟩) hS19 ?_
    simp only [Act.put, List.setIfInBounds_toArray, List.set_cons_zero, List.set_cons_succ]
    refine wpAnyH_done (by kernel_rfl) ?_ _
    go_wp2_with fail
    go_ret
    exact ⟨rfl, B1.out.trans (HT_16.out.mono B1.out.size)⟩
  · rw [decide_eq_false h]
    have e := E.out
    rw [show Geo.size r b t s o = 0 from if_neg h] at e
    subst e
    clear h E
    go_wp2_with fail
    go_ret
    exact ⟨rfl, B1.out⟩
set_option maxHeartbeats 4000000 in
set_option maxRecDepth 100000 in
theorem raddr_bad (r b t s o x y z : Int) (w : World) (h : ¬ Geo.GV r b t s o) : Calls Try.prog 106 #[.agg #[.int .i64 r, .int .i64 b, .int .i64 t, .int .i64 s, .int .i64 o], .int .i64 x, .int .i64 y, .int .i64 z] w (gPost (.tuple #[.int .i64 0, .int .i64 1]) w) := by
  obtain ⟨B0, hB0⟩ : ∃ B, w.heap.size = B := ⟨_, rfl⟩
  obtain ⟨W0, hW0⟩ : ∃ W, w.alloc (.cells #[.int .i64 r, .int .i64 b, .int .i64 t, .int .i64 s, .int .i64 o] 23) = W := ⟨_, rfl⟩
  have BW : Hid (Below w.heap.size w W0) := Lib.hid (by subst hW0; exact (Below.refl _ _).alloc (Nat.le_refl _) _)
  have R0 : Hid (Row W0 B0 23 #[.int .i64 r, .int .i64 b, .int .i64 t, .int .i64 s, .int .i64 o]) := Lib.hid (by subst hW0; exact gr_new w _ _ hB0)
  have c0 := R0.out.cell 0
  have c1 := R0.out.cell 1
  have c2 := R0.out.cell 2
  have c3 := R0.out.cell 3
  have c4 := R0.out.cell 4
  simp only [List.getElem?_toArray, List.getElem?_cons_zero, List.getElem?_cons_succ] at c0 c1 c2 c3 c4
  have HB0 := Lib.hid hB0
  have HW0 := Lib.hid hW0
  clear hB0 hW0
  go_enter Try.func106, Try.ntmps106
  go_wp2_with (first | rw [HB0.out] | rw [HW0.out])
  refine (rvalid_any r b t s o W0).mono ?_
  rintro e w1 ⟨rfl, hb⟩
  replace c0 := ce_fw c0 hb
  replace c1 := ce_fw c1 hb
  replace c2 := ce_fw c2 hb
  replace c3 := ce_fw c3 hb
  replace c4 := ce_fw c4 hb
  have B1 := Lib.hid (BW.out.trans (hb.mono BW.out.size))
  clear hb
  rw [decide_eq_false h]
  clear h
  go_wp2_with fail
  go_ret2
  exact ⟨rfl, B1.out⟩
set_option maxHeartbeats 4000000 in
set_option maxRecDepth 100000 in
theorem raddr_o0 (r b t s o x y z : Int) (w : World) (h : Geo.GV r b t s o)  (h0 : x < 0) : Calls Try.prog 106 #[.agg #[.int .i64 r, .int .i64 b, .int .i64 t, .int .i64 s, .int .i64 o], .int .i64 x, .int .i64 y, .int .i64 z] w (gPost (.tuple #[.int .i64 0, .int .i64 2]) w) := by
  obtain ⟨B0, hB0⟩ : ∃ B, w.heap.size = B := ⟨_, rfl⟩
  obtain ⟨W0, hW0⟩ : ∃ W, w.alloc (.cells #[.int .i64 r, .int .i64 b, .int .i64 t, .int .i64 s, .int .i64 o] 23) = W := ⟨_, rfl⟩
  have BW : Hid (Below w.heap.size w W0) := Lib.hid (by subst hW0; exact (Below.refl _ _).alloc (Nat.le_refl _) _)
  have R0 : Hid (Row W0 B0 23 #[.int .i64 r, .int .i64 b, .int .i64 t, .int .i64 s, .int .i64 o]) := Lib.hid (by subst hW0; exact gr_new w _ _ hB0)
  have c0 := R0.out.cell 0
  have c1 := R0.out.cell 1
  have c2 := R0.out.cell 2
  have c3 := R0.out.cell 3
  have c4 := R0.out.cell 4
  simp only [List.getElem?_toArray, List.getElem?_cons_zero, List.getElem?_cons_succ] at c0 c1 c2 c3 c4
  have HB0 := Lib.hid hB0
  have HW0 := Lib.hid hW0
  clear hB0 hW0
  go_enter Try.func106, Try.ntmps106
  go_wp2_with (first | rw [HB0.out] | rw [HW0.out])
  refine (rvalid_any r b t s o W0).mono ?_
  rintro e w1 ⟨rfl, hb⟩
  replace c0 := ce_fw c0 hb
  replace c1 := ce_fw c1 hb
  replace c2 := ce_fw c2 hb
  replace c3 := ce_fw c3 hb
  replace c4 := ce_fw c4 hb
  have B1 := Lib.hid (BW.out.trans (hb.mono BW.out.size))
  clear hb
  rw [decide_eq_true h]
  clear h
  have d0 : decide (x < (0 : Int)) = true := decide_eq_true (by omega)
  go_wp2_with fail
  go_ret2
  exact ⟨rfl, B1.out⟩
set_option maxHeartbeats 4000000 in
set_option maxRecDepth 100000 in
theorem raddr_o1 (r b t s o x y z : Int) (w : World) (h : Geo.GV r b t s o) (h0 : ¬ x < 0) (h1 : b ≤ x) : Calls Try.prog 106 #[.agg #[.int .i64 r, .int .i64 b, .int .i64 t, .int .i64 s, .int .i64 o], .int .i64 x, .int .i64 y, .int .i64 z] w (gPost (.tuple #[.int .i64 0, .int .i64 2]) w) := by
  obtain ⟨B0, hB0⟩ : ∃ B, w.heap.size = B := ⟨_, rfl⟩
  obtain ⟨W0, hW0⟩ : ∃ W, w.alloc (.cells #[.int .i64 r, .int .i64 b, .int .i64 t, .int .i64 s, .int .i64 o] 23) = W := ⟨_, rfl⟩
  have BW : Hid (Below w.heap.size w W0) := Lib.hid (by subst hW0; exact (Below.refl _ _).alloc (Nat.le_refl _) _)
  have R0 : Hid (Row W0 B0 23 #[.int .i64 r, .int .i64 b, .int .i64 t, .int .i64 s, .int .i64 o]) := Lib.hid (by subst hW0; exact gr_new w _ _ hB0)
  have c0 := R0.out.cell 0
  have c1 := R0.out.cell 1
  have c2 := R0.out.cell 2
  have c3 := R0.out.cell 3
  have c4 := R0.out.cell 4
  simp only [List.getElem?_toArray, List.getElem?_cons_zero, List.getElem?_cons_succ] at c0 c1 c2 c3 c4
  have HB0 := Lib.hid hB0
  have HW0 := Lib.hid hW0
  clear hB0 hW0
  go_enter Try.func106, Try.ntmps106
  go_wp2_with (first | rw [HB0.out] | rw [HW0.out])
  refine (rvalid_any r b t s o W0).mono ?_
  rintro e w1 ⟨rfl, hb⟩
  replace c0 := ce_fw c0 hb
  replace c1 := ce_fw c1 hb
  replace c2 := ce_fw c2 hb
  replace c3 := ce_fw c3 hb
  replace c4 := ce_fw c4 hb
  have B1 := Lib.hid (BW.out.trans (hb.mono BW.out.size))
  clear hb
  rw [decide_eq_true h]
  clear h
  have d0 : decide (x < (0 : Int)) = false := decide_eq_false (by omega)
  have d1 : decide (b ≤ x) = true := decide_eq_true (by omega)
  go_wp2_with fail
  go_ret2
  exact ⟨rfl, B1.out⟩
set_option maxHeartbeats 4000000 in
set_option maxRecDepth 100000 in
theorem raddr_o2 (r b t s o x y z : Int) (w : World) (h : Geo.GV r b t s o) (h0 : ¬ x < 0) (h1 : ¬ b ≤ x) (h2 : y < 0) : Calls Try.prog 106 #[.agg #[.int .i64 r, .int .i64 b, .int .i64 t, .int .i64 s, .int .i64 o], .int .i64 x, .int .i64 y, .int .i64 z] w (gPost (.tuple #[.int .i64 0, .int .i64 2]) w) := by
  obtain ⟨B0, hB0⟩ : ∃ B, w.heap.size = B := ⟨_, rfl⟩
  obtain ⟨W0, hW0⟩ : ∃ W, w.alloc (.cells #[.int .i64 r, .int .i64 b, .int .i64 t, .int .i64 s, .int .i64 o] 23) = W := ⟨_, rfl⟩
  have BW : Hid (Below w.heap.size w W0) := Lib.hid (by subst hW0; exact (Below.refl _ _).alloc (Nat.le_refl _) _)
  have R0 : Hid (Row W0 B0 23 #[.int .i64 r, .int .i64 b, .int .i64 t, .int .i64 s, .int .i64 o]) := Lib.hid (by subst hW0; exact gr_new w _ _ hB0)
  have c0 := R0.out.cell 0
  have c1 := R0.out.cell 1
  have c2 := R0.out.cell 2
  have c3 := R0.out.cell 3
  have c4 := R0.out.cell 4
  simp only [List.getElem?_toArray, List.getElem?_cons_zero, List.getElem?_cons_succ] at c0 c1 c2 c3 c4
  have HB0 := Lib.hid hB0
  have HW0 := Lib.hid hW0
  clear hB0 hW0
  go_enter Try.func106, Try.ntmps106
  go_wp2_with (first | rw [HB0.out] | rw [HW0.out])
  refine (rvalid_any r b t s o W0).mono ?_
  rintro e w1 ⟨rfl, hb⟩
  replace c0 := ce_fw c0 hb
  replace c1 := ce_fw c1 hb
  replace c2 := ce_fw c2 hb
  replace c3 := ce_fw c3 hb
  replace c4 := ce_fw c4 hb
  have B1 := Lib.hid (BW.out.trans (hb.mono BW.out.size))
  clear hb
  rw [decide_eq_true h]
  clear h
  have d0 : decide (x < (0 : Int)) = false := decide_eq_false (by omega)
  have d1 : decide (b ≤ x) = false := decide_eq_false (by omega)
  have d2 : decide (y < (0 : Int)) = true := decide_eq_true (by omega)
  go_wp2_with fail
  go_ret2
  exact ⟨rfl, B1.out⟩
set_option maxHeartbeats 4000000 in
set_option maxRecDepth 100000 in
theorem raddr_o3 (r b t s o x y z : Int) (w : World) (h : Geo.GV r b t s o) (h0 : ¬ x < 0) (h1 : ¬ b ≤ x) (h2 : ¬ y < 0) (h3 : t ≤ y) : Calls Try.prog 106 #[.agg #[.int .i64 r, .int .i64 b, .int .i64 t, .int .i64 s, .int .i64 o], .int .i64 x, .int .i64 y, .int .i64 z] w (gPost (.tuple #[.int .i64 0, .int .i64 2]) w) := by
  obtain ⟨B0, hB0⟩ : ∃ B, w.heap.size = B := ⟨_, rfl⟩
  obtain ⟨W0, hW0⟩ : ∃ W, w.alloc (.cells #[.int .i64 r, .int .i64 b, .int .i64 t, .int .i64 s, .int .i64 o] 23) = W := ⟨_, rfl⟩
  have BW : Hid (Below w.heap.size w W0) := Lib.hid (by subst hW0; exact (Below.refl _ _).alloc (Nat.le_refl _) _)
  have R0 : Hid (Row W0 B0 23 #[.int .i64 r, .int .i64 b, .int .i64 t, .int .i64 s, .int .i64 o]) := Lib.hid (by subst hW0; exact gr_new w _ _ hB0)
  have c0 := R0.out.cell 0
  have c1 := R0.out.cell 1
  have c2 := R0.out.cell 2
  have c3 := R0.out.cell 3
  have c4 := R0.out.cell 4
  simp only [List.getElem?_toArray, List.getElem?_cons_zero, List.getElem?_cons_succ] at c0 c1 c2 c3 c4
  have HB0 := Lib.hid hB0
  have HW0 := Lib.hid hW0
  clear hB0 hW0
  go_enter Try.func106, Try.ntmps106
  go_wp2_with (first | rw [HB0.out] | rw [HW0.out])
  refine (rvalid_any r b t s o W0).mono ?_
  rintro e w1 ⟨rfl, hb⟩
  replace c0 := ce_fw c0 hb
  replace c1 := ce_fw c1 hb
  replace c2 := ce_fw c2 hb
  replace c3 := ce_fw c3 hb
  replace c4 := ce_fw c4 hb
  have B1 := Lib.hid (BW.out.trans (hb.mono BW.out.size))
  clear hb
  rw [decide_eq_true h]
  clear h
  have d0 : decide (x < (0 : Int)) = false := decide_eq_false (by omega)
  have d1 : decide (b ≤ x) = false := decide_eq_false (by omega)
  have d2 : decide (y < (0 : Int)) = false := decide_eq_false (by omega)
  have d3 : decide (t ≤ y) = true := decide_eq_true (by omega)
  go_wp2_with fail
  go_ret2
  exact ⟨rfl, B1.out⟩
set_option maxHeartbeats 4000000 in
set_option maxRecDepth 100000 in
theorem raddr_o4 (r b t s o x y z : Int) (w : World) (h : Geo.GV r b t s o) (h0 : ¬ x < 0) (h1 : ¬ b ≤ x) (h2 : ¬ y < 0) (h3 : ¬ t ≤ y) (h4 : z < 0) : Calls Try.prog 106 #[.agg #[.int .i64 r, .int .i64 b, .int .i64 t, .int .i64 s, .int .i64 o], .int .i64 x, .int .i64 y, .int .i64 z] w (gPost (.tuple #[.int .i64 0, .int .i64 2]) w) := by
  obtain ⟨B0, hB0⟩ : ∃ B, w.heap.size = B := ⟨_, rfl⟩
  obtain ⟨W0, hW0⟩ : ∃ W, w.alloc (.cells #[.int .i64 r, .int .i64 b, .int .i64 t, .int .i64 s, .int .i64 o] 23) = W := ⟨_, rfl⟩
  have BW : Hid (Below w.heap.size w W0) := Lib.hid (by subst hW0; exact (Below.refl _ _).alloc (Nat.le_refl _) _)
  have R0 : Hid (Row W0 B0 23 #[.int .i64 r, .int .i64 b, .int .i64 t, .int .i64 s, .int .i64 o]) := Lib.hid (by subst hW0; exact gr_new w _ _ hB0)
  have c0 := R0.out.cell 0
  have c1 := R0.out.cell 1
  have c2 := R0.out.cell 2
  have c3 := R0.out.cell 3
  have c4 := R0.out.cell 4
  simp only [List.getElem?_toArray, List.getElem?_cons_zero, List.getElem?_cons_succ] at c0 c1 c2 c3 c4
  have HB0 := Lib.hid hB0
  have HW0 := Lib.hid hW0
  clear hB0 hW0
  go_enter Try.func106, Try.ntmps106
  go_wp2_with (first | rw [HB0.out] | rw [HW0.out])
  refine (rvalid_any r b t s o W0).mono ?_
  rintro e w1 ⟨rfl, hb⟩
  replace c0 := ce_fw c0 hb
  replace c1 := ce_fw c1 hb
  replace c2 := ce_fw c2 hb
  replace c3 := ce_fw c3 hb
  replace c4 := ce_fw c4 hb
  have B1 := Lib.hid (BW.out.trans (hb.mono BW.out.size))
  clear hb
  rw [decide_eq_true h]
  clear h
  have d0 : decide (x < (0 : Int)) = false := decide_eq_false (by omega)
  have d1 : decide (b ≤ x) = false := decide_eq_false (by omega)
  have d2 : decide (y < (0 : Int)) = false := decide_eq_false (by omega)
  have d3 : decide (t ≤ y) = false := decide_eq_false (by omega)
  have d4 : decide (z < (0 : Int)) = true := decide_eq_true (by omega)
  go_wp2_with fail
  go_ret2
  exact ⟨rfl, B1.out⟩
set_option maxHeartbeats 4000000 in
set_option maxRecDepth 100000 in
theorem raddr_o5 (r b t s o x y z : Int) (w : World) (h : Geo.GV r b t s o) (h0 : ¬ x < 0) (h1 : ¬ b ≤ x) (h2 : ¬ y < 0) (h3 : ¬ t ≤ y) (h4 : ¬ z < 0) (h5 : s ≤ z) : Calls Try.prog 106 #[.agg #[.int .i64 r, .int .i64 b, .int .i64 t, .int .i64 s, .int .i64 o], .int .i64 x, .int .i64 y, .int .i64 z] w (gPost (.tuple #[.int .i64 0, .int .i64 2]) w) := by
  obtain ⟨B0, hB0⟩ : ∃ B, w.heap.size = B := ⟨_, rfl⟩
  obtain ⟨W0, hW0⟩ : ∃ W, w.alloc (.cells #[.int .i64 r, .int .i64 b, .int .i64 t, .int .i64 s, .int .i64 o] 23) = W := ⟨_, rfl⟩
  have BW : Hid (Below w.heap.size w W0) := Lib.hid (by subst hW0; exact (Below.refl _ _).alloc (Nat.le_refl _) _)
  have R0 : Hid (Row W0 B0 23 #[.int .i64 r, .int .i64 b, .int .i64 t, .int .i64 s, .int .i64 o]) := Lib.hid (by subst hW0; exact gr_new w _ _ hB0)
  have c0 := R0.out.cell 0
  have c1 := R0.out.cell 1
  have c2 := R0.out.cell 2
  have c3 := R0.out.cell 3
  have c4 := R0.out.cell 4
  simp only [List.getElem?_toArray, List.getElem?_cons_zero, List.getElem?_cons_succ] at c0 c1 c2 c3 c4
  have HB0 := Lib.hid hB0
  have HW0 := Lib.hid hW0
  clear hB0 hW0
  go_enter Try.func106, Try.ntmps106
  go_wp2_with (first | rw [HB0.out] | rw [HW0.out])
  refine (rvalid_any r b t s o W0).mono ?_
  rintro e w1 ⟨rfl, hb⟩
  replace c0 := ce_fw c0 hb
  replace c1 := ce_fw c1 hb
  replace c2 := ce_fw c2 hb
  replace c3 := ce_fw c3 hb
  replace c4 := ce_fw c4 hb
  have B1 := Lib.hid (BW.out.trans (hb.mono BW.out.size))
  clear hb
  rw [decide_eq_true h]
  clear h
  have d0 : decide (x < (0 : Int)) = false := decide_eq_false (by omega)
  have d1 : decide (b ≤ x) = false := decide_eq_false (by omega)
  have d2 : decide (y < (0 : Int)) = false := decide_eq_false (by omega)
  have d3 : decide (t ≤ y) = false := decide_eq_false (by omega)
  have d4 : decide (z < (0 : Int)) = false := decide_eq_false (by omega)
  have d5 : decide (s ≤ z) = true := decide_eq_true (by omega)
  go_wp2_with fail
  go_ret2
  exact ⟨rfl, B1.out⟩
set_option maxHeartbeats 4000000 in
set_option maxRecDepth 100000 in
theorem raddr_in (r b t s o x y z : Int) (w : World) (h : Geo.GV r b t s o) (h0 : ¬ x < 0) (h1 : ¬ b ≤ x) (h2 : ¬ y < 0) (h3 : ¬ t ≤ y) (h4 : ¬ z < 0) (h5 : ¬ s ≤ z) : Calls Try.prog 106 #[.agg #[.int .i64 r, .int .i64 b, .int .i64 t, .int .i64 s, .int .i64 o], .int .i64 x, .int .i64 y, .int .i64 z] w (gPost (.tuple #[.int .i64 (r + (x * t + y) * s + z), .int .i64 0]) w) := by
  obtain ⟨q, hq⟩ : ∃ q, r + (x * t + y) * s + z = q := ⟨_, rfl⟩
  rw [hq]
  obtain ⟨B0, hB0⟩ : ∃ B, w.heap.size = B := ⟨_, rfl⟩
  obtain ⟨W0, hW0⟩ : ∃ W, w.alloc (.cells #[.int .i64 r, .int .i64 b, .int .i64 t, .int .i64 s, .int .i64 o] 23) = W := ⟨_, rfl⟩
  have BW : Hid (Below w.heap.size w W0) := Lib.hid (by subst hW0; exact (Below.refl _ _).alloc (Nat.le_refl _) _)
  have R0 : Hid (Row W0 B0 23 #[.int .i64 r, .int .i64 b, .int .i64 t, .int .i64 s, .int .i64 o]) := Lib.hid (by subst hW0; exact gr_new w _ _ hB0)
  have c0 := R0.out.cell 0
  have c1 := R0.out.cell 1
  have c2 := R0.out.cell 2
  have c3 := R0.out.cell 3
  have c4 := R0.out.cell 4
  simp only [List.getElem?_toArray, List.getElem?_cons_zero, List.getElem?_cons_succ] at c0 c1 c2 c3 c4
  have HB0 := Lib.hid hB0
  have HW0 := Lib.hid hW0
  clear hB0 hW0
  go_enter Try.func106, Try.ntmps106
  go_wp2_with (first | rw [HB0.out] | rw [HW0.out])
  refine (rvalid_any r b t s o W0).mono ?_
  rintro e w1 ⟨rfl, hb⟩
  replace c0 := ce_fw c0 hb
  replace c1 := ce_fw c1 hb
  replace c2 := ce_fw c2 hb
  replace c3 := ce_fw c3 hb
  replace c4 := ce_fw c4 hb
  have B1 := Lib.hid (BW.out.trans (hb.mono BW.out.size))
  clear hb
  rw [decide_eq_true h]
  unfold Geo.GV at h
  have d0 : decide (x < (0 : Int)) = false := decide_eq_false (by omega)
  have d1 : decide (b ≤ x) = false := decide_eq_false (by omega)
  have d2 : decide (y < (0 : Int)) = false := decide_eq_false (by omega)
  have d3 : decide (t ≤ y) = false := decide_eq_false (by omega)
  have d4 : decide (z < (0 : Int)) = false := decide_eq_false (by omega)
  have d5 : decide (s ≤ z) = false := decide_eq_false (by omega)
  have b1 := gm (t := x) (s := t) (a := 64) (c := 16) (by omega) (by omega) (by omega) (by omega)
  obtain ⟨p1, hp1⟩ : ∃ p, x * t = p := ⟨_, rfl⟩
  rw [hp1] at b1 hq
  have b2 := gm (t := p1 + y) (s := s) (a := 1040) (c := 64) (by omega) (by omega) (by omega) (by omega)
  obtain ⟨p2, hp2⟩ : ∃ p, (p1 + y) * s = p := ⟨_, rfl⟩
  rw [hp2] at b2 hq
  go_wp2_with fail
  go_ret2
  exact ⟨by rw [← hq]; first | rfl | (simp; done), B1.out⟩
theorem raddr_any (r b t s o x y z : Int) (w : World) : Calls Try.prog 106 #[.agg #[.int .i64 r, .int .i64 b, .int .i64 t, .int .i64 s, .int .i64 o], .int .i64 x, .int .i64 y, .int .i64 z] w (gPost (.tuple #[.int .i64 (Geo.addr r b t s o x y z).1, .int .i64 (Geo.addr r b t s o x y z).2]) w) := by
  by_cases h : ¬ Geo.GV r b t s o
  · rw [Geo.addr_bad h]; exact raddr_bad r b t s o x y z w h
  replace h := Decidable.not_not.1 h
  by_cases h0 : x < 0
  · rw [Geo.addr_out h (by omega)]; exact raddr_o0 r b t s o x y z w h h0
  by_cases h1 : b ≤ x
  · rw [Geo.addr_out h (by omega)]; exact raddr_o1 r b t s o x y z w h h0 h1
  by_cases h2 : y < 0
  · rw [Geo.addr_out h (by omega)]; exact raddr_o2 r b t s o x y z w h h0 h1 h2
  by_cases h3 : t ≤ y
  · rw [Geo.addr_out h (by omega)]; exact raddr_o3 r b t s o x y z w h h0 h1 h2 h3
  by_cases h4 : z < 0
  · rw [Geo.addr_out h (by omega)]; exact raddr_o4 r b t s o x y z w h h0 h1 h2 h3 h4
  by_cases h5 : s ≤ z
  · rw [Geo.addr_out h (by omega)]; exact raddr_o5 r b t s o x y z w h h0 h1 h2 h3 h4 h5
  have e : Geo.addr r b t s o x y z = (r + (x * t + y) * s + z, 0) := by unfold Geo.addr; rw [if_pos h, if_pos (by omega)]
  rw [e]; exact raddr_in r b t s o x y z w h h0 h1 h2 h3 h4 h5
end Go.Proofs.Ytdjjihppaobbcaa
namespace Go.Proofs.Ytdjjihppaobbcaa
open Go Go.RowKit
set_option linter.unusedVariables false
set_option linter.unusedSimpArgs false
/-- What Locate returns, as one value. -/
def locV (q : Int × Int × Int × Int) : Value := .tuple #[.int .i64 q.1, .int .i64 q.2.1, .int .i64 q.2.2.1, .int .i64 q.2.2.2]
theorem results_tmp4 {fn : Func} {t u v x : Tmp} (h : fn.results = #[.tmp t, .tmp u, .tmp v, .tmp x]) (tmps : Array Value) (P : Program) (w : World) :
    (results fn tmps).run P w = .ok (.tuple #[tmps.getD t undef, tmps.getD u undef, tmps.getD v undef, tmps.getD x undef]) w := by
  simp [results, h]

set_option maxHeartbeats 4000000 in
set_option maxRecDepth 100000 in
theorem rloc_bad (r b t s o a : Int) (w : World) (h : ¬ Geo.GV r b t s o) : Calls Try.prog 105 #[.agg #[.int .i64 r, .int .i64 b, .int .i64 t, .int .i64 s, .int .i64 o], .int .i64 a] w (gPost (locV (0, 0, 0, 1)) w) := by
  obtain ⟨B0, hB0⟩ : ∃ B, w.heap.size = B := ⟨_, rfl⟩
  obtain ⟨W0, hW0⟩ : ∃ W, w.alloc (.cells #[.int .i64 r, .int .i64 b, .int .i64 t, .int .i64 s, .int .i64 o] 23) = W := ⟨_, rfl⟩
  have BW : Hid (Below w.heap.size w W0) := Lib.hid (by subst hW0; exact (Below.refl _ _).alloc (Nat.le_refl _) _)
  have R0 : Hid (Row W0 B0 23 #[.int .i64 r, .int .i64 b, .int .i64 t, .int .i64 s, .int .i64 o]) := Lib.hid (by subst hW0; exact gr_new w _ _ hB0)
  have c0 := R0.out.cell 0
  have c1 := R0.out.cell 1
  have c2 := R0.out.cell 2
  have c3 := R0.out.cell 3
  have c4 := R0.out.cell 4
  simp only [List.getElem?_toArray, List.getElem?_cons_zero, List.getElem?_cons_succ] at c0 c1 c2 c3 c4
  have HB0 := Lib.hid hB0
  have HW0 := Lib.hid hW0
  clear hB0 hW0
  go_enter Try.func105, Try.ntmps105
  go_wp2_with (first | rw [HB0.out] | rw [HW0.out])
  refine (rvalid_any r b t s o W0).mono ?_
  rintro e w1 ⟨rfl, hb⟩
  replace c0 := ce_fw c0 hb
  replace c1 := ce_fw c1 hb
  replace c2 := ce_fw c2 hb
  replace c3 := ce_fw c3 hb
  replace c4 := ce_fw c4 hb
  have B1 := Lib.hid (BW.out.trans (hb.mono BW.out.size))
  have R1 := Lib.hid (rw_fw R0.out hb)
  clear hb
  rw [decide_eq_false h]
  clear h
  go_wp2_with fail
  refine bodyPost_ret (results_tmp4 rfl _ _ _) rfl ?_
  exact ⟨rfl, B1.out⟩
set_option maxHeartbeats 4000000 in
set_option maxRecDepth 100000 in
theorem rloc_low (r b t s o a : Int) (w : World) (h : Geo.GV r b t s o) (h1 : a < r) : Calls Try.prog 105 #[.agg #[.int .i64 r, .int .i64 b, .int .i64 t, .int .i64 s, .int .i64 o], .int .i64 a] w (gPost (locV (0, 0, 0, 2)) w) := by
  obtain ⟨B0, hB0⟩ : ∃ B, w.heap.size = B := ⟨_, rfl⟩
  obtain ⟨W0, hW0⟩ : ∃ W, w.alloc (.cells #[.int .i64 r, .int .i64 b, .int .i64 t, .int .i64 s, .int .i64 o] 23) = W := ⟨_, rfl⟩
  have BW : Hid (Below w.heap.size w W0) := Lib.hid (by subst hW0; exact (Below.refl _ _).alloc (Nat.le_refl _) _)
  have R0 : Hid (Row W0 B0 23 #[.int .i64 r, .int .i64 b, .int .i64 t, .int .i64 s, .int .i64 o]) := Lib.hid (by subst hW0; exact gr_new w _ _ hB0)
  have c0 := R0.out.cell 0
  have c1 := R0.out.cell 1
  have c2 := R0.out.cell 2
  have c3 := R0.out.cell 3
  have c4 := R0.out.cell 4
  simp only [List.getElem?_toArray, List.getElem?_cons_zero, List.getElem?_cons_succ] at c0 c1 c2 c3 c4
  have HB0 := Lib.hid hB0
  have HW0 := Lib.hid hW0
  clear hB0 hW0
  go_enter Try.func105, Try.ntmps105
  go_wp2_with (first | rw [HB0.out] | rw [HW0.out])
  refine (rvalid_any r b t s o W0).mono ?_
  rintro e w1 ⟨rfl, hb⟩
  replace c0 := ce_fw c0 hb
  replace c1 := ce_fw c1 hb
  replace c2 := ce_fw c2 hb
  replace c3 := ce_fw c3 hb
  replace c4 := ce_fw c4 hb
  have B1 := Lib.hid (BW.out.trans (hb.mono BW.out.size))
  have R1 := Lib.hid (rw_fw R0.out hb)
  clear hb
  rw [decide_eq_true h]
  clear h
  have d1 : decide (a < r) = true := decide_eq_true (by omega)
  go_wp2_with fail
  refine bodyPost_ret (results_tmp4 rfl _ _ _) rfl ?_
  exact ⟨rfl, B1.out⟩
set_option maxHeartbeats 4000000 in
set_option maxRecDepth 100000 in
theorem rloc_high (r b t s o a : Int) (w : World) (h : Geo.GV r b t s o) (h1 : ¬ a < r) (z : Int) (hz : Geo.size r b t s o = z) (h2 : z ≤ a) : Calls Try.prog 105 #[.agg #[.int .i64 r, .int .i64 b, .int .i64 t, .int .i64 s, .int .i64 o], .int .i64 a] w (gPost (locV (0, 0, 0, 2)) w) := by
  have ES := Lib.hid hz
  clear hz
  obtain ⟨B0, hB0⟩ : ∃ B, w.heap.size = B := ⟨_, rfl⟩
  obtain ⟨W0, hW0⟩ : ∃ W, w.alloc (.cells #[.int .i64 r, .int .i64 b, .int .i64 t, .int .i64 s, .int .i64 o] 23) = W := ⟨_, rfl⟩
  have BW : Hid (Below w.heap.size w W0) := Lib.hid (by subst hW0; exact (Below.refl _ _).alloc (Nat.le_refl _) _)
  have R0 : Hid (Row W0 B0 23 #[.int .i64 r, .int .i64 b, .int .i64 t, .int .i64 s, .int .i64 o]) := Lib.hid (by subst hW0; exact gr_new w _ _ hB0)
  have c0 := R0.out.cell 0
  have c1 := R0.out.cell 1
  have c2 := R0.out.cell 2
  have c3 := R0.out.cell 3
  have c4 := R0.out.cell 4
  simp only [List.getElem?_toArray, List.getElem?_cons_zero, List.getElem?_cons_succ] at c0 c1 c2 c3 c4
  have HB0 := Lib.hid hB0
  have HW0 := Lib.hid hW0
  clear hB0 hW0
  go_enter Try.func105, Try.ntmps105
  go_wp2_with (first | rw [HB0.out] | rw [HW0.out])
  refine (rvalid_any r b t s o W0).mono ?_
  rintro e w1 ⟨rfl, hb⟩
  replace c0 := ce_fw c0 hb
  replace c1 := ce_fw c1 hb
  replace c2 := ce_fw c2 hb
  replace c3 := ce_fw c3 hb
  replace c4 := ce_fw c4 hb
  have B1 := Lib.hid (BW.out.trans (hb.mono BW.out.size))
  have R1 := Lib.hid (rw_fw R0.out hb)
  clear hb
  rw [decide_eq_true h]
  clear h
  have d1 : decide (a < r) = false := decide_eq_false (by omega)
  have d2 : decide (z ≤ a) = true := decide_eq_true (by omega)
  go_wp2_with fail
  refine (rsize_any r b t s o w1).mono ?_
  rw [show Geo.size r b t s o = z from ES.out]
  rintro e w2 ⟨rfl, hb⟩
  replace c0 := ce_fw c0 hb
  replace c1 := ce_fw c1 hb
  replace c2 := ce_fw c2 hb
  replace c3 := ce_fw c3 hb
  replace c4 := ce_fw c4 hb
  have B2 := Lib.hid (B1.out.trans (hb.mono B1.out.size))
  have R2 := Lib.hid (rw_fw R1.out hb)
  clear hb
  go_wp2_with fail
  refine bodyPost_ret (results_tmp4 rfl _ _ _) rfl ?_
  exact ⟨rfl, B2.out⟩
set_option maxHeartbeats 4000000 in
set_option maxRecDepth 100000 in
theorem rloc_in (r b t s o a : Int) (w : World) (h : Geo.GV r b t s o) (h1 : ¬ a < r) (z : Int) (hz : Geo.size r b t s o = z) (h2 : ¬ z ≤ a) : Calls Try.prog 105 #[.agg #[.int .i64 r, .int .i64 b, .int .i64 t, .int .i64 s, .int .i64 o], .int .i64 a] w (gPost (locV ((a - r) / (t * s), (a - r) / s % t, (a - r) % s, 0)) w) := by
  have ES := Lib.hid hz
  have hz2 := hz
  rw [show Geo.size r b t s o = r + b * (t * s) from if_pos h] at hz2
  obtain ⟨m, hm⟩ : ∃ m, t * s = m := ⟨_, rfl⟩
  have EB := Lib.hid (show Geo.band r b t s o = m by rw [← hm]; exact if_pos h)
  have h' := h
  unfold Geo.GV at h'
  have b1 := gm (t := t) (s := s) (a := 16) (c := 64) (by omega) (by omega) (by omega) (by omega)
  have p1 : 0 < t * s := Int.mul_pos (by omega) (by omega)
  rw [hm] at b1 hz2 p1
  have b2 := gm (t := b) (s := m) (a := 64) (c := 1024) (by omega) (by omega) (by omega) (by omega)
  obtain ⟨n, hn⟩ : ∃ n, a - r = n := ⟨_, rfl⟩
  have n0 : 0 ≤ n := by omega
  have n1 : n ≤ 65536 := by omega
  rw [hn, hm]
  have q1b : 0 ≤ n / m ∧ n / m ≤ n := ⟨Int.ediv_nonneg n0 (by omega), Int.ediv_le_self _ n0⟩
  have kb : 0 ≤ n / s ∧ n / s ≤ n := ⟨Int.ediv_nonneg n0 (by omega), Int.ediv_le_self _ n0⟩
  have q2b : 0 ≤ n / s % t ∧ n / s % t < t := ⟨Int.emod_nonneg _ (by omega), Int.emod_lt_of_pos _ (by omega)⟩
  have q3b : 0 ≤ n % s ∧ n % s < s := ⟨Int.emod_nonneg _ (by omega), Int.emod_lt_of_pos _ (by omega)⟩
  have t1 : n.tdiv m = n / m := Int.tdiv_eq_ediv_of_nonneg n0
  have t2 : n.tdiv s = n / s := Int.tdiv_eq_ediv_of_nonneg n0
  have t3 : (n / s).tmod t = n / s % t := Int.tmod_eq_emod_of_nonneg kb.1
  have t4 : n.tmod s = n % s := Int.tmod_eq_emod_of_nonneg n0
  obtain ⟨q1, hq1⟩ : ∃ q, n / m = q := ⟨_, rfl⟩
  obtain ⟨q2, hq2⟩ : ∃ q, n / s % t = q := ⟨_, rfl⟩
  obtain ⟨q3, hq3⟩ : ∃ q, n % s = q := ⟨_, rfl⟩
  rw [hq1] at t1 q1b ⊢
  rw [hq2] at t3 q2b ⊢
  rw [hq3] at t4 q3b ⊢
  obtain ⟨k, hk⟩ : ∃ k, n / s = k := ⟨_, rfl⟩
  rw [hk] at t2 t3 hq2 kb
  have wk : IntKind.i64.wrap k = k := by rw [IntKind.wrap_i64]; omega
  have wq : IntKind.i64.wrap q1 = q1 := by rw [IntKind.wrap_i64]; omega
  have nm : ¬ m = 0 := by omega
  have ns : ¬ s = 0 := by omega
  have nt : ¬ t = 0 := by omega
  have HN := Lib.hid hn
  clear hz hz2 hm b1 b2
  obtain ⟨B0, hB0⟩ : ∃ B, w.heap.size = B := ⟨_, rfl⟩
  obtain ⟨W0, hW0⟩ : ∃ W, w.alloc (.cells #[.int .i64 r, .int .i64 b, .int .i64 t, .int .i64 s, .int .i64 o] 23) = W := ⟨_, rfl⟩
  have BW : Hid (Below w.heap.size w W0) := Lib.hid (by subst hW0; exact (Below.refl _ _).alloc (Nat.le_refl _) _)
  have R0 : Hid (Row W0 B0 23 #[.int .i64 r, .int .i64 b, .int .i64 t, .int .i64 s, .int .i64 o]) := Lib.hid (by subst hW0; exact gr_new w _ _ hB0)
  have c0 := R0.out.cell 0
  have c1 := R0.out.cell 1
  have c2 := R0.out.cell 2
  have c3 := R0.out.cell 3
  have c4 := R0.out.cell 4
  simp only [List.getElem?_toArray, List.getElem?_cons_zero, List.getElem?_cons_succ] at c0 c1 c2 c3 c4
  have HB0 := Lib.hid hB0
  have HW0 := Lib.hid hW0
  clear hB0 hW0
  go_enter Try.func105, Try.ntmps105
  go_wp2_with (first | rw [HB0.out] | rw [HW0.out])
  refine (rvalid_any r b t s o W0).mono ?_
  rintro e w1 ⟨rfl, hb⟩
  replace c0 := ce_fw c0 hb
  replace c1 := ce_fw c1 hb
  replace c2 := ce_fw c2 hb
  replace c3 := ce_fw c3 hb
  replace c4 := ce_fw c4 hb
  have B1 := Lib.hid (BW.out.trans (hb.mono BW.out.size))
  have R1 := Lib.hid (rw_fw R0.out hb)
  clear hb
  rw [decide_eq_true h]
  clear h
  have d1 : decide (a < r) = false := decide_eq_false (by omega)
  have d2 : decide (z ≤ a) = false := decide_eq_false (by omega)
  go_wp2_with fail
  refine (rsize_any r b t s o w1).mono ?_
  rw [show Geo.size r b t s o = z from ES.out]
  rintro e w2 ⟨rfl, hb⟩
  replace c0 := ce_fw c0 hb
  replace c1 := ce_fw c1 hb
  replace c2 := ce_fw c2 hb
  replace c3 := ce_fw c3 hb
  replace c4 := ce_fw c4 hb
  have B2 := Lib.hid (B1.out.trans (hb.mono B1.out.size))
  have R2 := Lib.hid (rw_fw R1.out hb)
  clear hb
  have C2 := Lib.hid c2
  have C3 := Lib.hid c3
  go_wp2_with fail
  clear c0 c1 c2 c3 c4
  refine wp_region_held (P := Try.prog) (S := (fun w' : World => Below w2.heap.size w2 w')) rfl ?_
  change wpAnyH _ _ _ _ _ _ _ _ w2.drew
  have hz2 : Below w2.heap.size w2 w2.drew := (Below.refl w2.heap.size w2).drew
  generalize w2.drew = wz1 at hz2 ⊢
  have R_3 := Lib.hid (rw_fw R2.out (hz2))
  have C2_4 := Lib.hid (ce_fw C2.out (hz2))
  have C3_5 := Lib.hid (ce_fw C3.out (hz2))
  have hl6 := hz2
  have HT_7 : Hid (Below w2.heap.size w2 wz1) := Lib.hid (hl6)
  refine wpAnyH_up (S' := (fun w' : World => Below wz1.heap.size wz1 w')) (fun w' h => hz2.trans (h.mono hz2.size)) ?_
  have hS8 : (fun w' : World => Below wz1.heap.size wz1 w') wz1 := Below.refl _ _
  refine takeD (i := 0) (v := .int .i64 n) (some 26) rfl rfl (by kernel_rfl) (by kernel_rfl) (by kernel_rfl) (fun _ _ _ h => h) (Or.inl ⟨by rfl, by rintro w' -; go_simp⟩) hS8 ?_
  simp only [Act.put, List.setIfInBounds_toArray, List.set_cons_zero, List.set_cons_succ]
  refine takeD (i := 1) (v := .agg #[.int .i64 r, .int .i64 b, .int .i64 t, .int .i64 s, .int .i64 o]) (some 27) rfl rfl (by kernel_rfl) (by kernel_rfl) (by kernel_rfl) (fun _ _ _ h => h) (yieldsIf_load_mid (by rfl) _ _ rfl B0 0 rfl (#[.int .i64 r, .int .i64 b, .int .i64 t, .int .i64 s, .int .i64 o]).toList _ (fun w' h => gr_rng (rw_fw R_3.out h)) Try.underlying23 rfl (by kernel_rfl)) hS8 ?_
  simp only [Act.put, List.setIfInBounds_toArray, List.set_cons_zero, List.set_cons_succ]
  refine takeD (i := 4) (v := .int .i64 n) (some 30) rfl rfl (by kernel_rfl) (by kernel_rfl) (by kernel_rfl) (fun _ _ _ h => h) (Or.inl ⟨by rfl, by rintro w' -; go_simp⟩) hS8 ?_
  simp only [Act.put, List.setIfInBounds_toArray, List.set_cons_zero, List.set_cons_succ]
  refine takeD (i := 5) (v := .pointer (some ⟨B0, 3, none⟩)) (some 31) rfl rfl (by kernel_rfl) (by kernel_rfl) (by kernel_rfl) (fun _ _ _ h => h) (Or.inl ⟨by rfl, by rintro w' -; go_simp⟩) hS8 ?_
  simp only [Act.put, List.setIfInBounds_toArray, List.set_cons_zero, List.set_cons_succ]
  refine takeD (i := 6) (v := .int .i64 s) (some 32) rfl rfl (by kernel_rfl) (by kernel_rfl) (by kernel_rfl) (fun _ _ _ h => h) (Or.inl ⟨by rfl, by rintro w' h; have hc := ce_fw C3_5.out h; go_simp⟩) hS8 ?_
  simp only [Act.put, List.setIfInBounds_toArray, List.set_cons_zero, List.set_cons_succ]
  refine takeD (i := 7) (v := .int .i64 k) (some 33) rfl rfl (by kernel_rfl) (by kernel_rfl) (by kernel_rfl) (fun _ _ _ h => h) (Or.inl ⟨by rfl, by rintro w' -; go_simp⟩) hS8 ?_
  simp only [Act.put, List.setIfInBounds_toArray, List.set_cons_zero, List.set_cons_succ]
  refine takeD (i := 8) (v := .pointer (some ⟨B0, 2, none⟩)) (some 34) rfl rfl (by kernel_rfl) (by kernel_rfl) (by kernel_rfl) (fun _ _ _ h => h) (Or.inl ⟨by rfl, by rintro w' -; go_simp⟩) hS8 ?_
  simp only [Act.put, List.setIfInBounds_toArray, List.set_cons_zero, List.set_cons_succ]
  refine takeD (i := 9) (v := .int .i64 t) (some 35) rfl rfl (by kernel_rfl) (by kernel_rfl) (by kernel_rfl) (fun _ _ _ h => h) (Or.inl ⟨by rfl, by rintro w' h; have hc := ce_fw C2_4.out h; go_simp⟩) hS8 ?_
  simp only [Act.put, List.setIfInBounds_toArray, List.set_cons_zero, List.set_cons_succ]
  refine takeD (i := 10) (v := .int .i64 q2) (some 36) rfl rfl (by kernel_rfl) (by kernel_rfl) (by kernel_rfl) (fun _ _ _ h => h) (Or.inl ⟨by rfl, by rintro w' -; go_simp⟩) hS8 ?_
  simp only [Act.put, List.setIfInBounds_toArray, List.set_cons_zero, List.set_cons_succ]
  refine takeD (i := 11) (v := .int .i64 n) (some 37) rfl rfl (by kernel_rfl) (by kernel_rfl) (by kernel_rfl) (fun _ _ _ h => h) (Or.inl ⟨by rfl, by rintro w' -; go_simp⟩) hS8 ?_
  simp only [Act.put, List.setIfInBounds_toArray, List.set_cons_zero, List.set_cons_succ]
  refine takeD (i := 12) (v := .pointer (some ⟨B0, 3, none⟩)) (some 38) rfl rfl (by kernel_rfl) (by kernel_rfl) (by kernel_rfl) (fun _ _ _ h => h) (Or.inl ⟨by rfl, by rintro w' -; go_simp⟩) hS8 ?_
  simp only [Act.put, List.setIfInBounds_toArray, List.set_cons_zero, List.set_cons_succ]
  refine takeD (i := 13) (v := .int .i64 s) (some 39) rfl rfl (by kernel_rfl) (by kernel_rfl) (by kernel_rfl) (fun _ _ _ h => h) (Or.inl ⟨by rfl, by rintro w' h; have hc := ce_fw C3_5.out h; go_simp⟩) hS8 ?_
  simp only [Act.put, List.setIfInBounds_toArray, List.set_cons_zero, List.set_cons_succ]
  refine takeD (i := 14) (v := .int .i64 q3) (some 40) rfl rfl (by kernel_rfl) (by kernel_rfl) (by kernel_rfl) (fun _ _ _ h => h) (Or.inl ⟨by rfl, by rintro w' -; go_simp⟩) hS8 ?_
  simp only [Act.put, List.setIfInBounds_toArray, List.set_cons_zero, List.set_cons_succ]
  refine wpAnyH_ready (rs := [2]) (by kernel_rfl) (by simp) ?_
  refine AllReadyH.cons rfl (fun K9 hK9 => ?_) AllReadyH.nil
  have HK9 := Lib.hid hK9
  clear hK9
  rw [if_pos (by rfl)]
  go_simp
  refine (rband_any r b t s o _).mono ?_
  rintro e x10 ⟨rfl, hb11⟩
  have R_12 := Lib.hid (rw_fw R_3.out (hb11))
  have C2_13 := Lib.hid (ce_fw C2_4.out (hb11))
  have C3_14 := Lib.hid (ce_fw C3_5.out (hb11))
  have hl15 := hb11
  have HT_16 : Hid (Below w2.heap.size w2 x10) := Lib.hid (HT_7.out.trans ((hl15).mono HT_7.out.size))
  clear hb11 
  rw [EB.out]
  have hb18 : Below wz1.heap.size wz1 x10 := hl15
  have hS17 : (fun w' : World => Below wz1.heap.size wz1 w') x10 := hb18
  refine HK9.out _ _ hS17 fun _ => ?_
  try simp only [Act.put, List.setIfInBounds_toArray, List.set_cons_zero, List.set_cons_succ]
  refine wpAnyH_up (S' := (fun w' : World => Below x10.heap.size x10 w')) (fun w' h => hb18.trans (h.mono hb18.size)) ?_
  have hS19 : (fun w' : World => Below x10.heap.size x10 w') x10 := Below.refl _ _
  refine takeD (i := 3) (v := .int .i64 q1) (some 29) rfl rfl (by kernel_rfl) (by kernel_rfl) (by kernel_rfl) (fun _ _ _ h => h) (Or.inl ⟨by rfl, by rintro w' -; go_simp⟩) hS19 ?_
  simp only [Act.put, List.setIfInBounds_toArray, List.set_cons_zero, List.set_cons_succ]
  refine takeD (i := 15) (v := .int .i64 q1) (some 4) rfl rfl (by kernel_rfl) (by kernel_rfl) (by kernel_rfl) (fun _ _ _ h => h) (Or.inl ⟨by rfl, by rintro w' -; go_simp⟩) hS19 ?_
  simp only [Act.put, List.setIfInBounds_toArray, List.set_cons_zero, List.set_cons_succ]
  refine takeD (i := 16) (v := .int .i64 q2) (some 5) rfl rfl (by kernel_rfl) (by kernel_rfl) (by kernel_rfl) (fun _ _ _ h => h) (Or.inl ⟨by rfl, by rintro w' -; go_simp⟩) hS19 ?_
  simp only [Act.put, List.setIfInBounds_toArray, List.set_cons_zero, List.set_cons_succ]
  refine takeD (i := 17) (v := .int .i64 q3) (some 6) rfl rfl (by kernel_rfl) (by kernel_rfl) (by kernel_rfl) (fun _ _ _ h => h) (Or.inl ⟨by rfl, by rintro w' -; go_simp⟩) hS19 ?_
  simp only [Act.put, List.setIfInBounds_toArray, List.set_cons_zero, List.set_cons_succ]
  refine takeD (i := 18) (v := .int .i64 0) (some 7) rfl rfl (by kernel_rfl) (by kernel_rfl) (by kernel_rfl) (fun _ _ _ h => h) (Or.inl ⟨by rfl, by rintro w' -; go_simp⟩) hS19 ?_
  simp only [Act.put, List.setIfInBounds_toArray, List.set_cons_zero, List.set_cons_succ]
  refine wpAnyH_done (by kernel_rfl) ?_ _
  go_wp2_with fail
  refine bodyPost_ret (results_tmp4 rfl _ _ _) rfl ?_
  exact ⟨rfl, B2.out.trans (HT_16.out.mono B2.out.size)⟩
theorem rloc_any (r b t s o a : Int) (w : World) : Calls Try.prog 105 #[.agg #[.int .i64 r, .int .i64 b, .int .i64 t, .int .i64 s, .int .i64 o], .int .i64 a] w (gPost (locV (Geo.loc r b t s o a)) w) := by
  by_cases h : Geo.GV r b t s o
  · by_cases h1 : a < r
    · rw [show Geo.loc r b t s o a = (0, 0, 0, 2) by unfold Geo.loc; rw [if_pos h, if_neg (by omega)]]; exact rloc_low r b t s o a w h h1
    · have hz : Geo.size r b t s o = r + b * (t * s) := if_pos h
      by_cases h2 : r + b * (t * s) ≤ a
      · rw [show Geo.loc r b t s o a = (0, 0, 0, 2) by unfold Geo.loc; rw [if_pos h, if_neg (by omega)]]; exact rloc_high r b t s o a w h h1 _ hz h2
      · rw [show Geo.loc r b t s o a = ((a - r) / (t * s), (a - r) / s % t, (a - r) % s, 0) by unfold Geo.loc; rw [if_pos h, if_pos (by omega)]]; exact rloc_in r b t s o a w h h1 _ hz h2
  · rw [Geo.loc_bad h]; exact rloc_bad r b t s o a w h
end Go.Proofs.Ytdjjihppaobbcaa
namespace Go.Proofs.Ytdjjihppaobbcaa
open Go Go.RowKit
set_option linter.unusedVariables false
set_option linter.unusedSimpArgs false
theorem is_form {w : World} {v : Value} {l : List Int} (h : Is w v l) : ∃ A c, v = .slice A l.length c := by obtain ⟨A, c, h, _⟩ := h; exact ⟨A, c, h⟩
theorem is_fw {w w' : World} {v : Value} {l : List Int} (h : Is w v l) (hb : Below w.heap.size w w') : Is w' v l := Sl.keeps Iv.keeps _ _ _ _ h (Below.toSame hb)
theorem is_nth {w : World} {A : Option Addr} {n c : Nat} {l : List Int} (h : Is w (.slice A n c) l) {k : Nat} (hk : k < n) : ∃ b off, A = some ⟨b, off, none⟩ ∧ w.cell? ⟨b, off + k, none⟩ = some (.int .i64 (l.getD k 0)) := by
  obtain ⟨A', c', e, -, -, hc⟩ := h
  injection e with e1 e2 e3
  obtain ⟨b, off, h1, h2⟩ := hc (by omega)
  obtain ⟨u, hu, hr⟩ := h2 k (by omega)
  refine ⟨b, off, by rw [e1, h1], ?_⟩
  rw [hu, hr, getD_in (by omega)]
theorem is_len {w : World} {A : Option Addr} {n c : Nat} {l : List Int} (h : Is w (.slice A n c) l) : l.length = n ∧ n ≤ 9223372036854775807 := by
  obtain ⟨A', c', e, hm, -, -⟩ := h
  injection e with e1 e2 e3
  refine ⟨e2.symm, ?_⟩
  have := hm.2; unfold maxLen at this; omega
theorem list_eq_of {a b : List Int} {n : Nat} (ha : a.length = n) (hb : b.length = n) (h : ∀ k, k < n → a.getD k 0 = b.getD k 0) : a = b := by
  refine List.ext_getElem (by omega) fun k h1 h2 => ?_
  have := h k (by omega)
  rw [getD_in h1, getD_in h2] at this; exact this
end Go.Proofs.Ytdjjihppaobbcaa
namespace Go.Proofs.Ytdjjihppaobbcaa
open Go Go.RowKit
set_option linter.unusedVariables false
set_option linter.unusedSimpArgs false
def shPost (l : List Int) (w : World) (e : Ending) (w' : World) : Prop := ∃ v, e = .returned v ∧ Is w' v l ∧ Below w.heap.size w w'
/-- The list lies in new memory. -/
def shPostN (l : List Int) (w : World) (e : Ending) (w' : World) : Prop := ∃ v, e = .returned v ∧ (Is w' v l ∧ ∀ g, v.ownBlock = some g → w.heap.size ≤ g) ∧ Below w.heap.size w w'
theorem info_i8 : (Try.prog.info? 3).map (fun i => (i.zero, i.size, i.bytes)) = some (some (.int .i64 0), 1, 8) := by kernel_rfl
theorem info_pt {P : Program} {t : TypeId} {z : Value} {s b : Nat} (h : (P.info? t).map (fun i => (i.zero, i.size, i.bytes)) = some (some z, s, b)) : ∃ i, P.info? t = some i ∧ i.zero = some z ∧ i.size = s ∧ i.bytes = b := by
  obtain ⟨i, hi, e⟩ := Option.map_eq_some_iff.1 h
  simp only [Prod.mk.injEq] at e
  exact ⟨i, hi, e.1, e.2.1, e.2.2⟩

set_option maxHeartbeats 4000000 in
set_option maxRecDepth 100000 in
theorem rshadow_no (r b t s o a : Int) (w : World) (q : Int × Int × Int × Int) (hq : Geo.loc r b t s o a = q) (hne : q.2.2.2 ≠ 0) : Calls Try.prog 102 #[.agg #[.int .i64 r, .int .i64 b, .int .i64 t, .int .i64 s, .int .i64 o], .int .i64 a] w (shPostN [] w) := by
  have L := Lib.hid fun w => rloc_any r b t s o a w
  rw [hq] at L
  have d : (q.2.2.2 == 0) = false := by simpa using hne
  obtain ⟨q1, q2, q3, q4⟩ := q
  have d' : (q4 == 0) = false := d
  unfold locV at L
  clear hq hne d
  obtain ⟨B0, hB0⟩ : ∃ B, w.heap.size = B := ⟨_, rfl⟩
  obtain ⟨W0, hW0⟩ : ∃ W, w.alloc (.cells #[.int .i64 r, .int .i64 b, .int .i64 t, .int .i64 s, .int .i64 o] 23) = W := ⟨_, rfl⟩
  have BW : Hid (Below w.heap.size w W0) := Lib.hid (by subst hW0; exact (Below.refl _ _).alloc (Nat.le_refl _) _)
  have R0 : Hid (Row W0 B0 23 #[.int .i64 r, .int .i64 b, .int .i64 t, .int .i64 s, .int .i64 o]) := Lib.hid (by subst hW0; exact gr_new w _ _ hB0)
  have c0 := R0.out.cell 0
  have c1 := R0.out.cell 1
  have c2 := R0.out.cell 2
  have c3 := R0.out.cell 3
  have c4 := R0.out.cell 4
  simp only [List.getElem?_toArray, List.getElem?_cons_zero, List.getElem?_cons_succ] at c0 c1 c2 c3 c4
  have HB0 := Lib.hid hB0
  have HW0 := Lib.hid hW0
  clear hB0 hW0
  go_enter Try.func102, Try.ntmps102
  go_wp2_with (first | rw [HB0.out] | rw [HW0.out])
  refine (L.out _).mono ?_
  rintro e w1 ⟨rfl, hb⟩
  have B1 := Lib.hid (BW.out.trans (hb.mono BW.out.size))
  clear hb
  go_wp2_with fail
  go_loopw [9, 10] (fun v i wr => v = .slice none 0 0 ∧ i = .int .i64 1 ∧ wr = w1) (fun _ _ _ => 0)
  case atStart => exact ⟨rfl, rfl, rfl⟩
  case round =>
    obtain ⟨rfl, rfl, rfl⟩ := hrel
    go_wp2_with fail
    go_ret
    exact ⟨_, rfl, ⟨Sl.nil_ _, fun g hg => (by cases hg)⟩, B1.out⟩
set_option maxHeartbeats 4000000 in
set_option maxRecDepth 100000 in
theorem rshadow_in (R B T S O n : Nat) (w : World) (h : Geo.GV (R : Int) B T S O) (hn : n < B * (T * S)) : Calls Try.prog 102 #[.agg #[.int .i64 (R : Int), .int .i64 (B : Int), .int .i64 (T : Int), .int .i64 (S : Int), .int .i64 (O : Int)], .int .i64 ((R + n : Nat) : Int)] w (shPostN (Geo.shd S ((R + n : Nat) : Int) (min O (T - 1 - n / S % T))) w) := by
  have L := Lib.hid fun w => rloc_any R B T S O ((R + n : Nat) : Int) w
  rw [Geo.loc_in h hn] at L
  unfold locV at L
  have hg := Geo.gv_nat h
  have AD := Lib.hid fun k (x y z w) => raddr_any R B T S O x (y + k) z w
  have AI := Lib.hid fun k (hk : n / S % T + k < T) => (show Geo.addr R B T S O ((n / (T * S) : Nat) : Int) (((n / S % T : Nat) : Int) + (k : Nat)) ((n % S : Nat) : Int) = (((R + n : Nat) : Int) + ((k : Nat) : Int) * S, 0) by
    have e := Geo.addr_in h (Geo.div_lt hn) hk (Nat.mod_lt n (show S > 0 by omega))
    have e2 := Geo.shd_num (S := S) (T := T) n k
    rw [← e2] at e
    rw [show (((n / S % T : Nat) : Int) + (k : Nat)) = ((n / S % T + k : Nat) : Int) by push_cast; rfl, e]
    congr 1
    push_cast; rw [Int.add_assoc])
  have AO := Lib.hid fun k (hk : ¬ n / S % T + k < T) => (show Geo.addr R B T S O ((n / (T * S) : Nat) : Int) (((n / S % T : Nat) : Int) + (k : Nat)) ((n % S : Nat) : Int) = (0, 2) from Geo.addr_out h (by omega))
  have yT := Nat.mod_lt (n / S) (show T > 0 by omega)
  obtain ⟨x, hx⟩ : ∃ x, n / (T * S) = x := ⟨_, rfl⟩
  obtain ⟨y, hy⟩ : ∃ y, n / S % T = y := ⟨_, rfl⟩
  obtain ⟨z, hz⟩ : ∃ z, n % S = z := ⟨_, rfl⟩
  obtain ⟨a, ha⟩ : ∃ a, ((R + n : Nat) : Int) = a := ⟨_, rfl⟩
  rw [hx, hy, hz, ha] at L
  rw [hx, hy, hz, ha] at AI
  rw [hx, hy, hz] at AO
  rw [hy] at yT ⊢
  rw [ha]
  have yB : y ≤ 15 ∧ O ≤ 3 ∧ T ≤ 16 := by omega
  clear hx hy hz ha h hn hg
  obtain ⟨i0, hi, hz0, hz1, hz2⟩ := info_pt info_i8
  have I0 := Lib.hid (And.intro hi (And.intro hz0 (And.intro hz1 hz2)))
  clear hi hz0 hz1 hz2
  obtain ⟨B0, hB0⟩ : ∃ B, w.heap.size = B := ⟨_, rfl⟩
  obtain ⟨W0, hW0⟩ : ∃ W, w.alloc (.cells #[.int .i64 (R : Int), .int .i64 (B : Int), .int .i64 (T : Int), .int .i64 (S : Int), .int .i64 (O : Int)] 23) = W := ⟨_, rfl⟩
  have BW : Hid (Below w.heap.size w W0) := Lib.hid (by subst hW0; exact (Below.refl _ _).alloc (Nat.le_refl _) _)
  have R0 : Hid (Row W0 B0 23 #[.int .i64 (R : Int), .int .i64 (B : Int), .int .i64 (T : Int), .int .i64 (S : Int), .int .i64 (O : Int)]) := Lib.hid (by subst hW0; exact gr_new w _ _ hB0)
  have c0 := R0.out.cell 0
  have c1 := R0.out.cell 1
  have c2 := R0.out.cell 2
  have c3 := R0.out.cell 3
  have c4 := R0.out.cell 4
  simp only [List.getElem?_toArray, List.getElem?_cons_zero, List.getElem?_cons_succ] at c0 c1 c2 c3 c4
  have HB0 := Lib.hid hB0
  have HW0 := Lib.hid hW0
  clear hB0 hW0
  go_enter Try.func102, Try.ntmps102
  go_wp2_with (first | rw [HB0.out] | rw [HW0.out])
  refine (L.out _).mono ?_
  rintro e w1 ⟨rfl, hb⟩
  have B1 := Lib.hid (BW.out.trans (hb.mono BW.out.size))
  have R1 := Lib.hid (rw_fw R0.out hb)
  clear hb L c0 c1 c2 c3 c4
  go_wp2_with fail
  go_loopw [9, 10] (fun v i wr => ∃ k : Nat, k ≤ O ∧ i = .int .i64 ((k : Int) + 1) ∧ Hid (OwnL Iv wr w1.heap.size 3 v (Geo.shd S a (min k (T - 1 - y))) ∧ Below w1.heap.size w1 wr)) (fun _ i _ => O + 1 - (intOf i).toNat)
  case atStart => exact ⟨0, Nat.zero_le _, rfl, Lib.hid ⟨by rw [Nat.zero_min]; exact OwnL.nil_ _ _ _, Below.refl _ _⟩⟩
  case round =>
    obtain ⟨k, hk, rfl, V⟩ := hrel
    have R2 := Lib.hid (rw_fw R1.out V.out.2)
    have c0 := R2.out.cell 0
    have c1 := R2.out.cell 1
    have c2 := R2.out.cell 2
    have c3 := R2.out.cell 3
    have c4 := R2.out.cell 4
    simp only [List.getElem?_toArray, List.getElem?_cons_zero, List.getElem?_cons_succ] at c0 c1 c2 c3 c4
    by_cases hlt : k < O
    · have kI : (k : Int) + 1 ≤ (O : Int) := by omega
      have AD2 := Lib.hid (AD.out ((k : Int) + 1) (x : Int) (y : Int) (z : Int) wr)
      by_cases hin : y + (k + 1) < T
      · have e := AI.out (k + 1) hin
        rw [show (((k + 1 : Nat)) : Int) = (k : Int) + 1 by push_cast; rfl] at e
        rw [e] at AD2
        have CN := Lib.hid (show Geo.shd S a (min (k + 1) (T - 1 - y)) = Geo.shd S a k ++ [a + ((k : Int) + 1) * S] by rw [Nat.min_eq_left (by omega)]; exact Geo.shd_succ _ _ _)
        have OW := Lib.hid (show OwnL Iv wr w1.heap.size 3 u9 (Geo.shd S a k) by have := V.out.1; rw [Nat.min_eq_left (by omega)] at this; exact this)
        have BV := Lib.hid V.out.2
        have LN := Lib.hid (Geo.shd_len S a k)
        obtain ⟨p, hp⟩ : ∃ p, a + ((k : Int) + 1) * S = p := ⟨_, rfl⟩
        rw [hp] at AD2 CN
        clear V e hp
        go_wp2_with fail
        refine AD2.out.mono ?_
        rintro e w2 ⟨rfl, hb⟩
        have B2 := Lib.hid (BV.out.trans (hb.mono BV.out.size))
        have O2 := Lib.hid (OW.out.below hb (Nat.le_refl _))
        have CL := Lib.hid (show (w2.alloc (.cells #[.int .i64 p] 3)).cell? ⟨w2.heap.size, 0, none⟩ = some (.int .i64 p) by rw [(gr_new w2 _ _ rfl).cell]; rfl)
        have O3 := Lib.hid (O2.out.alloc (.cells #[.int .i64 p] 3))
        have B3 := Lib.hid (B2.out.alloc B2.out.size (.cells #[.int .i64 p] 3))
        clear hb
        go_wp2_with (at_builtin; refine wpList_push rfl (.tmp 43) (.tmp 45) 139 rfl w1.heap.size 3 i0 (.int .i64 0) 8 Try.underlying139 I0.out.1 I0.out.2.1 I0.out.2.2.1 I0.out.2.2.2 rfl Iv.keeps u9 _ rfl O3.out k LN.out w2.heap.size (.int .i64 p) p rfl CL.out rfl rfl (fun _ _ => fun _ _ => rfl) (by unfold maxLen; omega) (by omega) (by have := B2.out.size; simp; omega) ?_; intro g cap w3 ho hg; have HO := Lib.hid ho; have HG := Lib.hid (B3.out.grown hg B3.out.size (fun j hj => (O3.out.own j hj).1)); clear ho hg)
        go_roundw
        case rel => exact ⟨k + 1, by omega, by go_num, Lib.hid ⟨by rw [CN.out]; exact HO.out, HG.out⟩⟩
        case measure => simp [intOf]; omega
      · have e := AO.out (k + 1) hin
        rw [show (((k + 1 : Nat)) : Int) = (k : Int) + 1 by push_cast; rfl] at e
        rw [e] at AD2
        have OW := Lib.hid (show OwnL Iv wr w1.heap.size 3 u9 (Geo.shd S a (min (k + 1) (T - 1 - y))) by have := V.out.1; rw [show min k (T - 1 - y) = min (k + 1) (T - 1 - y) by omega] at this; exact this)
        have BV := Lib.hid V.out.2
        clear V e
        go_wp2_with fail
        refine AD2.out.mono ?_
        rintro e w2 ⟨rfl, hb⟩
        have B2 := Lib.hid (BV.out.trans (hb.mono BV.out.size))
        have O2 := Lib.hid (OW.out.below hb (Nat.le_refl _))
        clear hb
        go_wp2_with fail
        go_roundw
        case rel => exact ⟨k + 1, by omega, by go_num, Lib.hid ⟨O2.out, B2.out⟩⟩
        case measure => simp [intOf]; omega
    · obtain rfl : k = O := by omega
      have kI : ¬ (k : Int) + 1 ≤ (k : Int) := by omega
      have dk : decide ((k : Int) + 1 ≤ (k : Int)) = false := decide_eq_false kI
      have OW := Lib.hid (And.intro V.out.1.sl fun g hg => Nat.le_trans B1.out.size (V.out.1.own g hg).1)
      have BV := Lib.hid (B1.out.trans (V.out.2.mono B1.out.size))
      clear V
      go_wp2_with fail
      go_ret
      exact ⟨_, rfl, OW.out, BV.out⟩
theorem rshadow_new (r b t s o a : Int) (w : World) : Calls Try.prog 102 #[.agg #[.int .i64 r, .int .i64 b, .int .i64 t, .int .i64 s, .int .i64 o], .int .i64 a] w (shPostN (Geo.shadow r b t s o a) w) := by
  by_cases hne : (Geo.loc r b t s o a).2.2.2 = 0
  · have h : Geo.GV r b t s o := by
      by_cases h : Geo.GV r b t s o
      · exact h
      · rw [Geo.loc_bad h] at hne; cases hne
    have h' := h
    unfold Geo.GV at h'
    obtain ⟨R, rfl⟩ : ∃ n : Nat, r = n := ⟨r.toNat, by omega⟩
    obtain ⟨B, rfl⟩ : ∃ n : Nat, b = n := ⟨b.toNat, by omega⟩
    obtain ⟨T, rfl⟩ : ∃ n : Nat, t = n := ⟨t.toNat, by omega⟩
    obtain ⟨S, rfl⟩ : ∃ n : Nat, s = n := ⟨s.toNat, by omega⟩
    obtain ⟨O, rfl⟩ : ∃ n : Nat, o = n := ⟨o.toNat, by omega⟩
    clear h'
    by_cases ha : a < R ∨ ((R + B * (T * S) : Nat) : Int) ≤ a
    · rw [Geo.loc_out h ha] at hne; cases hne
    · obtain ⟨n, rfl⟩ : ∃ n : Nat, a = ((R + n : Nat) : Int) := ⟨(a - R).toNat, by omega⟩
      have hn : n < B * (T * S) := by omega
      unfold Geo.shadow
      rw [Geo.shn_in h hn]
      exact rshadow_in R B T S O n w h hn
  · have e : Geo.shadow r b t s o a = [] := by unfold Geo.shadow; rw [Geo.shn_out hne]; rfl
    rw [e]
    exact rshadow_no r b t s o a w _ rfl hne
theorem rshadow_any (r b t s o a : Int) (w : World) : Calls Try.prog 102 #[.agg #[.int .i64 r, .int .i64 b, .int .i64 t, .int .i64 s, .int .i64 o], .int .i64 a] w (shPost (Geo.shadow r b t s o a) w) :=
  (rshadow_new r b t s o a w).mono fun e w1 ⟨v, h1, h2, h3⟩ => ⟨v, h1, h2.1, h3⟩
end Go.Proofs.Ytdjjihppaobbcaa
namespace Go.Proofs.Ytdjjihppaobbcaa
open Go Go.RowKit
set_option linter.unusedVariables false
set_option linter.unusedSimpArgs false

set_option maxHeartbeats 1000000 in
set_option maxRecDepth 100000 in
theorem pvalid_0 (r b t s o : Int) (w : World)  (h0 : ¬ 0 ≤ r) : Calls Try.prog 70 #[.agg #[.int .i64 r, .int .i64 b, .int .i64 t, .int .i64 s, .int .i64 o]] w (gPost (.bool false) w) := by
  have d : decide ((0 : Int) ≤ r) = false := decide_eq_false h0
  go_enter Try.func70, Try.ntmps70
  go_wp2_with fail
  go_ret
  exact ⟨rfl, (Below.refl _ _).alloc (Nat.le_refl _) _⟩
set_option maxHeartbeats 1000000 in
set_option maxRecDepth 100000 in
theorem pvalid_1 (r b t s o : Int) (w : World) (h0 : 0 ≤ r) (h1 : ¬ r ≤ 16384) : Calls Try.prog 70 #[.agg #[.int .i64 r, .int .i64 b, .int .i64 t, .int .i64 s, .int .i64 o]] w (gPost (.bool false) w) := by
  have d : decide (r ≤ (16384 : Int)) = false := decide_eq_false h1
  have d0 : decide ((0 : Int) ≤ r) = true := decide_eq_true h0
  go_enter Try.func70, Try.ntmps70
  go_wp2_with fail
  go_ret
  exact ⟨rfl, (Below.refl _ _).alloc (Nat.le_refl _) _⟩
set_option maxHeartbeats 1000000 in
set_option maxRecDepth 100000 in
theorem pvalid_2 (r b t s o : Int) (w : World) (h0 : 0 ≤ r) (h1 : r ≤ 16384) (h2 : ¬ 1 ≤ b) : Calls Try.prog 70 #[.agg #[.int .i64 r, .int .i64 b, .int .i64 t, .int .i64 s, .int .i64 o]] w (gPost (.bool false) w) := by
  have d : decide ((1 : Int) ≤ b) = false := decide_eq_false h2
  have d0 : decide ((0 : Int) ≤ r) = true := decide_eq_true h0
  have d1 : decide (r ≤ (16384 : Int)) = true := decide_eq_true h1
  go_enter Try.func70, Try.ntmps70
  go_wp2_with fail
  go_ret
  exact ⟨rfl, (Below.refl _ _).alloc (Nat.le_refl _) _⟩
set_option maxHeartbeats 1000000 in
set_option maxRecDepth 100000 in
theorem pvalid_3 (r b t s o : Int) (w : World) (h0 : 0 ≤ r) (h1 : r ≤ 16384) (h2 : 1 ≤ b) (h3 : ¬ b ≤ 64) : Calls Try.prog 70 #[.agg #[.int .i64 r, .int .i64 b, .int .i64 t, .int .i64 s, .int .i64 o]] w (gPost (.bool false) w) := by
  have d : decide (b ≤ (64 : Int)) = false := decide_eq_false h3
  have d0 : decide ((0 : Int) ≤ r) = true := decide_eq_true h0
  have d1 : decide (r ≤ (16384 : Int)) = true := decide_eq_true h1
  have d2 : decide ((1 : Int) ≤ b) = true := decide_eq_true h2
  go_enter Try.func70, Try.ntmps70
  go_wp2_with fail
  go_ret
  exact ⟨rfl, (Below.refl _ _).alloc (Nat.le_refl _) _⟩
set_option maxHeartbeats 1000000 in
set_option maxRecDepth 100000 in
theorem pvalid_4 (r b t s o : Int) (w : World) (h0 : 0 ≤ r) (h1 : r ≤ 16384) (h2 : 1 ≤ b) (h3 : b ≤ 64) (h4 : ¬ 1 ≤ t) : Calls Try.prog 70 #[.agg #[.int .i64 r, .int .i64 b, .int .i64 t, .int .i64 s, .int .i64 o]] w (gPost (.bool false) w) := by
  have d : decide ((1 : Int) ≤ t) = false := decide_eq_false h4
  have d0 : decide ((0 : Int) ≤ r) = true := decide_eq_true h0
  have d1 : decide (r ≤ (16384 : Int)) = true := decide_eq_true h1
  have d2 : decide ((1 : Int) ≤ b) = true := decide_eq_true h2
  have d3 : decide (b ≤ (64 : Int)) = true := decide_eq_true h3
  go_enter Try.func70, Try.ntmps70
  go_wp2_with fail
  go_ret
  exact ⟨rfl, (Below.refl _ _).alloc (Nat.le_refl _) _⟩
set_option maxHeartbeats 1000000 in
set_option maxRecDepth 100000 in
theorem pvalid_5 (r b t s o : Int) (w : World) (h0 : 0 ≤ r) (h1 : r ≤ 16384) (h2 : 1 ≤ b) (h3 : b ≤ 64) (h4 : 1 ≤ t) (h5 : ¬ t ≤ 16) : Calls Try.prog 70 #[.agg #[.int .i64 r, .int .i64 b, .int .i64 t, .int .i64 s, .int .i64 o]] w (gPost (.bool false) w) := by
  have d : decide (t ≤ (16 : Int)) = false := decide_eq_false h5
  have d0 : decide ((0 : Int) ≤ r) = true := decide_eq_true h0
  have d1 : decide (r ≤ (16384 : Int)) = true := decide_eq_true h1
  have d2 : decide ((1 : Int) ≤ b) = true := decide_eq_true h2
  have d3 : decide (b ≤ (64 : Int)) = true := decide_eq_true h3
  have d4 : decide ((1 : Int) ≤ t) = true := decide_eq_true h4
  go_enter Try.func70, Try.ntmps70
  go_wp2_with fail
  go_ret
  exact ⟨rfl, (Below.refl _ _).alloc (Nat.le_refl _) _⟩
set_option maxHeartbeats 1000000 in
set_option maxRecDepth 100000 in
theorem pvalid_6 (r b t s o : Int) (w : World) (h0 : 0 ≤ r) (h1 : r ≤ 16384) (h2 : 1 ≤ b) (h3 : b ≤ 64) (h4 : 1 ≤ t) (h5 : t ≤ 16) (h6 : ¬ 1 ≤ s) : Calls Try.prog 70 #[.agg #[.int .i64 r, .int .i64 b, .int .i64 t, .int .i64 s, .int .i64 o]] w (gPost (.bool false) w) := by
  have d : decide ((1 : Int) ≤ s) = false := decide_eq_false h6
  have d0 : decide ((0 : Int) ≤ r) = true := decide_eq_true h0
  have d1 : decide (r ≤ (16384 : Int)) = true := decide_eq_true h1
  have d2 : decide ((1 : Int) ≤ b) = true := decide_eq_true h2
  have d3 : decide (b ≤ (64 : Int)) = true := decide_eq_true h3
  have d4 : decide ((1 : Int) ≤ t) = true := decide_eq_true h4
  have d5 : decide (t ≤ (16 : Int)) = true := decide_eq_true h5
  go_enter Try.func70, Try.ntmps70
  go_wp2_with fail
  go_ret
  exact ⟨rfl, (Below.refl _ _).alloc (Nat.le_refl _) _⟩
set_option maxHeartbeats 1000000 in
set_option maxRecDepth 100000 in
theorem pvalid_7 (r b t s o : Int) (w : World) (h0 : 0 ≤ r) (h1 : r ≤ 16384) (h2 : 1 ≤ b) (h3 : b ≤ 64) (h4 : 1 ≤ t) (h5 : t ≤ 16) (h6 : 1 ≤ s) (h7 : ¬ s ≤ 64) : Calls Try.prog 70 #[.agg #[.int .i64 r, .int .i64 b, .int .i64 t, .int .i64 s, .int .i64 o]] w (gPost (.bool false) w) := by
  have d : decide (s ≤ (64 : Int)) = false := decide_eq_false h7
  have d0 : decide ((0 : Int) ≤ r) = true := decide_eq_true h0
  have d1 : decide (r ≤ (16384 : Int)) = true := decide_eq_true h1
  have d2 : decide ((1 : Int) ≤ b) = true := decide_eq_true h2
  have d3 : decide (b ≤ (64 : Int)) = true := decide_eq_true h3
  have d4 : decide ((1 : Int) ≤ t) = true := decide_eq_true h4
  have d5 : decide (t ≤ (16 : Int)) = true := decide_eq_true h5
  have d6 : decide ((1 : Int) ≤ s) = true := decide_eq_true h6
  go_enter Try.func70, Try.ntmps70
  go_wp2_with fail
  go_ret
  exact ⟨rfl, (Below.refl _ _).alloc (Nat.le_refl _) _⟩
set_option maxHeartbeats 1000000 in
set_option maxRecDepth 100000 in
theorem pvalid_8 (r b t s o : Int) (w : World) (h0 : 0 ≤ r) (h1 : r ≤ 16384) (h2 : 1 ≤ b) (h3 : b ≤ 64) (h4 : 1 ≤ t) (h5 : t ≤ 16) (h6 : 1 ≤ s) (h7 : s ≤ 64) (h8 : ¬ 0 ≤ o) : Calls Try.prog 70 #[.agg #[.int .i64 r, .int .i64 b, .int .i64 t, .int .i64 s, .int .i64 o]] w (gPost (.bool false) w) := by
  have d : decide ((0 : Int) ≤ o) = false := decide_eq_false h8
  have d0 : decide ((0 : Int) ≤ r) = true := decide_eq_true h0
  have d1 : decide (r ≤ (16384 : Int)) = true := decide_eq_true h1
  have d2 : decide ((1 : Int) ≤ b) = true := decide_eq_true h2
  have d3 : decide (b ≤ (64 : Int)) = true := decide_eq_true h3
  have d4 : decide ((1 : Int) ≤ t) = true := decide_eq_true h4
  have d5 : decide (t ≤ (16 : Int)) = true := decide_eq_true h5
  have d6 : decide ((1 : Int) ≤ s) = true := decide_eq_true h6
  have d7 : decide (s ≤ (64 : Int)) = true := decide_eq_true h7
  go_enter Try.func70, Try.ntmps70
  go_wp2_with fail
  go_ret
  exact ⟨rfl, (Below.refl _ _).alloc (Nat.le_refl _) _⟩
set_option maxHeartbeats 1000000 in
set_option maxRecDepth 100000 in
theorem pvalid_9 (r b t s o : Int) (w : World) (h0 : 0 ≤ r) (h1 : r ≤ 16384) (h2 : 1 ≤ b) (h3 : b ≤ 64) (h4 : 1 ≤ t) (h5 : t ≤ 16) (h6 : 1 ≤ s) (h7 : s ≤ 64) (h8 : 0 ≤ o) (h9 : ¬ o ≤ 3) : Calls Try.prog 70 #[.agg #[.int .i64 r, .int .i64 b, .int .i64 t, .int .i64 s, .int .i64 o]] w (gPost (.bool false) w) := by
  have d : decide (o ≤ (3 : Int)) = false := decide_eq_false h9
  have d0 : decide ((0 : Int) ≤ r) = true := decide_eq_true h0
  have d1 : decide (r ≤ (16384 : Int)) = true := decide_eq_true h1
  have d2 : decide ((1 : Int) ≤ b) = true := decide_eq_true h2
  have d3 : decide (b ≤ (64 : Int)) = true := decide_eq_true h3
  have d4 : decide ((1 : Int) ≤ t) = true := decide_eq_true h4
  have d5 : decide (t ≤ (16 : Int)) = true := decide_eq_true h5
  have d6 : decide ((1 : Int) ≤ s) = true := decide_eq_true h6
  have d7 : decide (s ≤ (64 : Int)) = true := decide_eq_true h7
  have d8 : decide ((0 : Int) ≤ o) = true := decide_eq_true h8
  go_enter Try.func70, Try.ntmps70
  go_wp2_with fail
  go_ret
  exact ⟨rfl, (Below.refl _ _).alloc (Nat.le_refl _) _⟩
set_option maxHeartbeats 1000000 in
set_option maxRecDepth 100000 in
theorem pvalid_10 (r b t s o : Int) (w : World) (h0 : 0 ≤ r) (h1 : r ≤ 16384) (h2 : 1 ≤ b) (h3 : b ≤ 64) (h4 : 1 ≤ t) (h5 : t ≤ 16) (h6 : 1 ≤ s) (h7 : s ≤ 64) (h8 : 0 ≤ o) (h9 : o ≤ 3) : Calls Try.prog 70 #[.agg #[.int .i64 r, .int .i64 b, .int .i64 t, .int .i64 s, .int .i64 o]] w (gPost (.bool true) w) := by
  have d0 : decide ((0 : Int) ≤ r) = true := decide_eq_true h0
  have d1 : decide (r ≤ (16384 : Int)) = true := decide_eq_true h1
  have d2 : decide ((1 : Int) ≤ b) = true := decide_eq_true h2
  have d3 : decide (b ≤ (64 : Int)) = true := decide_eq_true h3
  have d4 : decide ((1 : Int) ≤ t) = true := decide_eq_true h4
  have d5 : decide (t ≤ (16 : Int)) = true := decide_eq_true h5
  have d6 : decide ((1 : Int) ≤ s) = true := decide_eq_true h6
  have d7 : decide (s ≤ (64 : Int)) = true := decide_eq_true h7
  have d8 : decide ((0 : Int) ≤ o) = true := decide_eq_true h8
  have d9 : decide (o ≤ (3 : Int)) = true := decide_eq_true h9
  go_enter Try.func70, Try.ntmps70
  go_wp2_with fail
  go_ret
  exact ⟨rfl, (Below.refl _ _).alloc (Nat.le_refl _) _⟩
theorem pvalid_any (r b t s o : Int) (w : World) : Calls Try.prog 70 #[.agg #[.int .i64 r, .int .i64 b, .int .i64 t, .int .i64 s, .int .i64 o]] w (gPost (.bool (decide (Geo.GV r b t s o))) w) := by
  by_cases h0 : ¬ (0 ≤ r)
  · rw [decide_eq_false (show ¬ Geo.GV r b t s o by unfold Geo.GV; omega)]; exact pvalid_0 r b t s o w h0
  replace h0 := Decidable.not_not.1 h0
  by_cases h1 : ¬ (r ≤ 16384)
  · rw [decide_eq_false (show ¬ Geo.GV r b t s o by unfold Geo.GV; omega)]; exact pvalid_1 r b t s o w h0 h1
  replace h1 := Decidable.not_not.1 h1
  by_cases h2 : ¬ (1 ≤ b)
  · rw [decide_eq_false (show ¬ Geo.GV r b t s o by unfold Geo.GV; omega)]; exact pvalid_2 r b t s o w h0 h1 h2
  replace h2 := Decidable.not_not.1 h2
  by_cases h3 : ¬ (b ≤ 64)
  · rw [decide_eq_false (show ¬ Geo.GV r b t s o by unfold Geo.GV; omega)]; exact pvalid_3 r b t s o w h0 h1 h2 h3
  replace h3 := Decidable.not_not.1 h3
  by_cases h4 : ¬ (1 ≤ t)
  · rw [decide_eq_false (show ¬ Geo.GV r b t s o by unfold Geo.GV; omega)]; exact pvalid_4 r b t s o w h0 h1 h2 h3 h4
  replace h4 := Decidable.not_not.1 h4
  by_cases h5 : ¬ (t ≤ 16)
  · rw [decide_eq_false (show ¬ Geo.GV r b t s o by unfold Geo.GV; omega)]; exact pvalid_5 r b t s o w h0 h1 h2 h3 h4 h5
  replace h5 := Decidable.not_not.1 h5
  by_cases h6 : ¬ (1 ≤ s)
  · rw [decide_eq_false (show ¬ Geo.GV r b t s o by unfold Geo.GV; omega)]; exact pvalid_6 r b t s o w h0 h1 h2 h3 h4 h5 h6
  replace h6 := Decidable.not_not.1 h6
  by_cases h7 : ¬ (s ≤ 64)
  · rw [decide_eq_false (show ¬ Geo.GV r b t s o by unfold Geo.GV; omega)]; exact pvalid_7 r b t s o w h0 h1 h2 h3 h4 h5 h6 h7
  replace h7 := Decidable.not_not.1 h7
  by_cases h8 : ¬ (0 ≤ o)
  · rw [decide_eq_false (show ¬ Geo.GV r b t s o by unfold Geo.GV; omega)]; exact pvalid_8 r b t s o w h0 h1 h2 h3 h4 h5 h6 h7 h8
  replace h8 := Decidable.not_not.1 h8
  by_cases h9 : ¬ (o ≤ 3)
  · rw [decide_eq_false (show ¬ Geo.GV r b t s o by unfold Geo.GV; omega)]; exact pvalid_9 r b t s o w h0 h1 h2 h3 h4 h5 h6 h7 h8 h9
  replace h9 := Decidable.not_not.1 h9
  rw [decide_eq_true (show Geo.GV r b t s o by unfold Geo.GV; omega)]; exact pvalid_10 r b t s o w h0 h1 h2 h3 h4 h5 h6 h7 h8 h9

set_option maxHeartbeats 4000000 in
set_option maxRecDepth 100000 in
theorem below_any (n l : Int) (w : World) : Calls Try.prog 108 #[.int .i64 n, .int .i64 l] w (gPost (.bool (decide (0 ≤ n ∧ n < l))) w) := by
  by_cases h0 : 0 ≤ n
  · have d0 : decide ((0 : Int) ≤ n) = true := decide_eq_true h0
    by_cases h1 : n < l
    · have d1 : decide (n < l) = true := decide_eq_true h1
      rw [decide_eq_true (show 0 ≤ n ∧ n < l from ⟨h0, h1⟩)]
      go_enter Try.func108, Try.ntmps108
      go_wp2_with fail
      go_ret
      exact ⟨rfl, Below.refl _ _⟩
    · have d1 : decide (n < l) = false := decide_eq_false h1
      rw [decide_eq_false (show ¬ (0 ≤ n ∧ n < l) from fun h => h1 h.2)]
      go_enter Try.func108, Try.ntmps108
      go_wp2_with fail
      go_ret
      exact ⟨rfl, Below.refl _ _⟩
  · have d0 : decide ((0 : Int) ≤ n) = false := decide_eq_false h0
    rw [decide_eq_false (show ¬ (0 ≤ n ∧ n < l) from fun h => h0 h.1)]
    go_enter Try.func108, Try.ntmps108
    go_wp2_with fail
    go_ret
    exact ⟨rfl, Below.refl _ _⟩

set_option maxHeartbeats 4000000 in
set_option maxRecDepth 100000 in
theorem pband_any (r b t s o : Int) (w : World) : Calls Try.prog 97 #[.agg #[.int .i64 r, .int .i64 b, .int .i64 t, .int .i64 s, .int .i64 o]] w (gPost (.int .i64 (Geo.band r b t s o)) w) := by
  have E := Lib.hid (show Geo.band r b t s o = if Geo.GV r b t s o then t * s else 0 from rfl)
  generalize Geo.band r b t s o = q at E ⊢
  obtain ⟨B0, hB0⟩ : ∃ B, w.heap.size = B := ⟨_, rfl⟩
  obtain ⟨W0, hW0⟩ : ∃ W, w.alloc (.cells #[.int .i64 r, .int .i64 b, .int .i64 t, .int .i64 s, .int .i64 o] 23) = W := ⟨_, rfl⟩
  have BW : Hid (Below w.heap.size w W0) := Lib.hid (by subst hW0; exact (Below.refl _ _).alloc (Nat.le_refl _) _)
  have R0 : Hid (Row W0 B0 23 #[.int .i64 r, .int .i64 b, .int .i64 t, .int .i64 s, .int .i64 o]) := Lib.hid (by subst hW0; exact gr_new w _ _ hB0)
  have c0 := R0.out.cell 0
  have c1 := R0.out.cell 1
  have c2 := R0.out.cell 2
  have c3 := R0.out.cell 3
  have c4 := R0.out.cell 4
  simp only [List.getElem?_toArray, List.getElem?_cons_zero, List.getElem?_cons_succ] at c0 c1 c2 c3 c4
  have HB0 := Lib.hid hB0
  have HW0 := Lib.hid hW0
  clear hB0 hW0
  go_enter Try.func97, Try.ntmps97
  go_wp2_with (first | rw [HB0.out] | rw [HW0.out])
  refine (pvalid_any r b t s o W0).mono ?_
  rintro e w1 ⟨rfl, hb⟩
  replace c0 := ce_fw c0 hb
  replace c1 := ce_fw c1 hb
  replace c2 := ce_fw c2 hb
  replace c3 := ce_fw c3 hb
  replace c4 := ce_fw c4 hb
  have B1 := Lib.hid (BW.out.trans (hb.mono BW.out.size))
  clear hb
  by_cases h : Geo.GV r b t s o
  · rw [decide_eq_true h]
    rw [if_pos h] at E
    unfold Geo.GV at h
    have hm := gm (t := t) (s := s) (a := 16) (c := 64) (by omega) (by omega) (by omega) (by omega)
    have e := E.out
    rw [← e] at hm
    have W := gw (x := t * s) (by rw [← e]; omega) (by rw [← e]; omega)
    rw [← e] at W
    go_wp2_with fail
    go_ret
    exact ⟨by rw [e]; try rw [← e]; first | rfl | (rw [W]) , B1.out⟩
  · rw [decide_eq_false h]
    rw [if_neg h] at E
    have e := E.out
    go_wp2_with fail
    go_ret
    exact ⟨by rw [e]; rfl, B1.out⟩

set_option maxHeartbeats 4000000 in
set_option maxRecDepth 100000 in
theorem psize_any (r b t s o : Int) (w : World) : Calls Try.prog 71 #[.agg #[.int .i64 r, .int .i64 b, .int .i64 t, .int .i64 s, .int .i64 o]] w (gPost (.int .i64 (Geo.size r b t s o)) w) := by
  obtain ⟨q, hq⟩ : ∃ q, Geo.size r b t s o = q := ⟨_, rfl⟩
  have E := Lib.hid hq
  rw [hq]
  clear hq
  obtain ⟨B0, hB0⟩ : ∃ B, w.heap.size = B := ⟨_, rfl⟩
  obtain ⟨W0, hW0⟩ : ∃ W, w.alloc (.cells #[.int .i64 r, .int .i64 b, .int .i64 t, .int .i64 s, .int .i64 o] 23) = W := ⟨_, rfl⟩
  have BW : Hid (Below w.heap.size w W0) := Lib.hid (by subst hW0; exact (Below.refl _ _).alloc (Nat.le_refl _) _)
  have R0 : Hid (Row W0 B0 23 #[.int .i64 r, .int .i64 b, .int .i64 t, .int .i64 s, .int .i64 o]) := Lib.hid (by subst hW0; exact gr_new w _ _ hB0)
  have c0 := R0.out.cell 0
  have c1 := R0.out.cell 1
  have c2 := R0.out.cell 2
  have c3 := R0.out.cell 3
  have c4 := R0.out.cell 4
  simp only [List.getElem?_toArray, List.getElem?_cons_zero, List.getElem?_cons_succ] at c0 c1 c2 c3 c4
  have HB0 := Lib.hid hB0
  have HW0 := Lib.hid hW0
  clear hB0 hW0
  go_enter Try.func71, Try.ntmps71
  go_wp2_with (first | rw [HB0.out] | rw [HW0.out])
  refine (pvalid_any r b t s o W0).mono ?_
  rintro e w1 ⟨rfl, hb⟩
  replace c0 := ce_fw c0 hb
  replace c1 := ce_fw c1 hb
  replace c2 := ce_fw c2 hb
  replace c3 := ce_fw c3 hb
  replace c4 := ce_fw c4 hb
  have B1 := Lib.hid (BW.out.trans (hb.mono BW.out.size))
  have R1 := Lib.hid (rw_fw R0.out hb)
  clear hb
  by_cases h : Geo.GV r b t s o
  · rw [decide_eq_true h]
    obtain ⟨m, hm⟩ : ∃ m, t * s = m := ⟨_, rfl⟩
    have EB := Lib.hid (show Geo.band r b t s o = m by rw [← hm]; exact if_pos h)
    have e := E.out
    rw [show Geo.size r b t s o = r + b * (t * s) from if_pos h, hm] at e
    have h' := h
    unfold Geo.GV at h'
    have b1 := gm (t := t) (s := s) (a := 16) (c := 64) (by omega) (by omega) (by omega) (by omega)
    rw [hm] at b1
    have b2 := gm (t := b) (s := m) (a := 64) (c := 1024) (by omega) (by omega) (by omega) (by omega)
    have w1' := gw (x := b * m) (by omega) (by omega)
    have w2' := gw (x := r + b * m) (by omega) (by omega)
    obtain ⟨p, hp⟩ : ∃ p, b * m = p := ⟨_, rfl⟩
    rw [hp] at w1' w2' e
    rw [e] at w2'
    have k1 : IntKind.i64.wrap p = p := by rw [IntKind.wrap_i64]; rw [hp] at b2; omega
    have k2 : IntKind.i64.wrap (r + p) = q := by rw [e, IntKind.wrap_i64]; rw [hp] at b2; omega
    have C0 := Lib.hid c0
    have C1 := Lib.hid c1
    clear h h' b1 b2 hm e E
    go_wp2_with fail
    clear c0 c1 c2 c3 c4

    refine wp_region_held (P := Try.prog) (S := (fun w' : World => Below w1.heap.size w1 w')) rfl ?_
    change wpAnyH _ _ _ _ _ _ _ _ w1.drew
    have hz2 : Below w1.heap.size w1 w1.drew := (Below.refl w1.heap.size w1).drew
    generalize w1.drew = wz1 at hz2 ⊢
    have R_3 := Lib.hid (rw_fw R1.out (hz2))
    have C0_4 := Lib.hid (ce_fw C0.out (hz2))
    have C1_5 := Lib.hid (ce_fw C1.out (hz2))
    have hl6 := hz2
    have HT_7 : Hid (Below w1.heap.size w1 wz1) := Lib.hid (hl6)
    refine wpAnyH_up (S' := (fun w' : World => Below wz1.heap.size wz1 w')) (fun w' h => hz2.trans (h.mono hz2.size)) ?_
    have hS8 : (fun w' : World => Below wz1.heap.size wz1 w') wz1 := Below.refl _ _
    refine takeD (i := 0) (v := .pointer (some ⟨B0, 0, none⟩)) (some 6) rfl rfl (by kernel_rfl) (by kernel_rfl) (by kernel_rfl) (fun _ _ _ h => h) (Or.inl ⟨by rfl, by rintro w' -; go_simp⟩) hS8 ?_
    simp only [Act.put, List.setIfInBounds_toArray, List.set_cons_zero, List.set_cons_succ]
    refine takeD (i := 1) (v := .int .i64 r) (some 7) rfl rfl (by kernel_rfl) (by kernel_rfl) (by kernel_rfl) (fun _ _ _ h => h) (Or.inl ⟨by rfl, by rintro w' h; have hc := ce_fw C0_4.out h; go_simp⟩) hS8 ?_
    simp only [Act.put, List.setIfInBounds_toArray, List.set_cons_zero, List.set_cons_succ]
    refine takeD (i := 2) (v := .pointer (some ⟨B0, 1, none⟩)) (some 8) rfl rfl (by kernel_rfl) (by kernel_rfl) (by kernel_rfl) (fun _ _ _ h => h) (Or.inl ⟨by rfl, by rintro w' -; go_simp⟩) hS8 ?_
    simp only [Act.put, List.setIfInBounds_toArray, List.set_cons_zero, List.set_cons_succ]
    refine takeD (i := 3) (v := .int .i64 b) (some 9) rfl rfl (by kernel_rfl) (by kernel_rfl) (by kernel_rfl) (fun _ _ _ h => h) (Or.inl ⟨by rfl, by rintro w' h; have hc := ce_fw C1_5.out h; go_simp⟩) hS8 ?_
    simp only [Act.put, List.setIfInBounds_toArray, List.set_cons_zero, List.set_cons_succ]
    refine takeD (i := 4) (v := .agg #[.int .i64 r, .int .i64 b, .int .i64 t, .int .i64 s, .int .i64 o]) (some 10) rfl rfl (by kernel_rfl) (by kernel_rfl) (by kernel_rfl) (fun _ _ _ h => h) (yieldsIf_load_mid (by rfl) _ _ rfl B0 0 rfl (#[.int .i64 r, .int .i64 b, .int .i64 t, .int .i64 s, .int .i64 o]).toList _ (fun w' h => gr_rng (rw_fw R_3.out h)) Try.underlying23 rfl (by kernel_rfl)) hS8 ?_
    simp only [Act.put, List.setIfInBounds_toArray, List.set_cons_zero, List.set_cons_succ]
    refine wpAnyH_ready (rs := [5]) (by kernel_rfl) (by simp) ?_
    refine AllReadyH.cons rfl (fun K9 hK9 => ?_) AllReadyH.nil
    have HK9 := Lib.hid hK9
    clear hK9
    rw [if_pos (by rfl)]
    go_simp
    refine (pband_any r b t s o _).mono ?_
    rintro e x10 ⟨rfl, hb11⟩
    have R_12 := Lib.hid (rw_fw R_3.out (hb11))
    have C0_13 := Lib.hid (ce_fw C0_4.out (hb11))
    have C1_14 := Lib.hid (ce_fw C1_5.out (hb11))
    have hl15 := hb11
    have HT_16 : Hid (Below w1.heap.size w1 x10) := Lib.hid (HT_7.out.trans ((hl15).mono HT_7.out.size))
    clear hb11 
    rw [EB.out]
    have hb18 : Below wz1.heap.size wz1 x10 := hl15
    have hS17 : (fun w' : World => Below wz1.heap.size wz1 w') x10 := hb18
    refine HK9.out _ _ hS17 fun _ => ?_
    try simp only [Act.put, List.setIfInBounds_toArray, List.set_cons_zero, List.set_cons_succ]
    refine wpAnyH_up (S' := (fun w' : World => Below x10.heap.size x10 w')) (fun w' h => hb18.trans (h.mono hb18.size)) ?_
    have hS19 : (fun w' : World => Below x10.heap.size x10 w') x10 := Below.refl _ _
    refine takeD (i := 6) (v := .int .i64 p) (some 12) rfl rfl (by kernel_rfl) (by kernel_rfl) (by kernel_rfl) (fun _ _ _ h => h) (Or.inl ⟨by rfl, by rintro w' -; go_simp⟩) hS19 ?_
    simp only [Act.put, List.setIfInBounds_toArray, List.set_cons_zero, List.set_cons_succ]
    refine takeD (i := 7) (v := .int .i64 q) (some 13) rfl rfl (by kernel_rfl) (by kernel_rfl) (by kernel_rfl) (fun _ _ _ h => h) (Or.inl ⟨by rfl, by rintro w' -; go_simp⟩) hS19 ?_
    simp only [Act.put, List.setIfInBounds_toArray, List.set_cons_zero, List.set_cons_succ]
    refine takeD (i := 8) (v := .int .i64 q) (some 2) rfl rfl (by kernel_rfl) (by kernel_rfl) (by kernel_rfl) (fun _ _ _ h => h) (Or.inl ⟨by rfl, by rintro w' -; go_simp⟩) hS19 ?_
    simp only [Act.put, List.setIfInBounds_toArray, List.set_cons_zero, List.set_cons_succ]
    refine wpAnyH_done (by kernel_rfl) ?_ _
    go_wp2_with fail
    go_ret
    exact ⟨rfl, B1.out.trans (HT_16.out.mono B1.out.size)⟩
  · rw [decide_eq_false h]
    have e := E.out
    rw [show Geo.size r b t s o = 0 from if_neg h] at e
    subst e
    clear h E
    go_wp2_with fail
    go_ret
    exact ⟨rfl, B1.out⟩
end Go.Proofs.Ytdjjihppaobbcaa
namespace Go.Proofs.Ytdjjihppaobbcaa
open Go Go.RowKit
set_option linter.unusedVariables false
set_option linter.unusedSimpArgs false
set_option maxHeartbeats 4000000 in
set_option maxRecDepth 100000 in
theorem paddr_bad (r b t s o x y z : Int) (w : World) (h : ¬ Geo.GV r b t s o) : Calls Try.prog 104 #[.agg #[.int .i64 r, .int .i64 b, .int .i64 t, .int .i64 s, .int .i64 o], .int .i64 x, .int .i64 y, .int .i64 z] w (gPost (.tuple #[.int .i64 0, .int .i64 1]) w) := by
  obtain ⟨B0, hB0⟩ : ∃ B, w.heap.size = B := ⟨_, rfl⟩
  obtain ⟨W0, hW0⟩ : ∃ W, w.alloc (.cells #[.int .i64 r, .int .i64 b, .int .i64 t, .int .i64 s, .int .i64 o] 23) = W := ⟨_, rfl⟩
  have BW : Hid (Below w.heap.size w W0) := Lib.hid (by subst hW0; exact (Below.refl _ _).alloc (Nat.le_refl _) _)
  have R0 : Hid (Row W0 B0 23 #[.int .i64 r, .int .i64 b, .int .i64 t, .int .i64 s, .int .i64 o]) := Lib.hid (by subst hW0; exact gr_new w _ _ hB0)
  have c0 := R0.out.cell 0
  have c1 := R0.out.cell 1
  have c2 := R0.out.cell 2
  have c3 := R0.out.cell 3
  have c4 := R0.out.cell 4
  simp only [List.getElem?_toArray, List.getElem?_cons_zero, List.getElem?_cons_succ] at c0 c1 c2 c3 c4
  have HB0 := Lib.hid hB0
  have HW0 := Lib.hid hW0
  clear hB0 hW0
  go_enter Try.func104, Try.ntmps104
  go_wp2_with (first | rw [HB0.out] | rw [HW0.out])
  refine (pvalid_any r b t s o W0).mono ?_
  rintro e w1 ⟨rfl, hb⟩
  replace c0 := ce_fw c0 hb
  replace c1 := ce_fw c1 hb
  replace c2 := ce_fw c2 hb
  replace c3 := ce_fw c3 hb
  replace c4 := ce_fw c4 hb
  have B1 := Lib.hid (BW.out.trans (hb.mono BW.out.size))
  clear hb
  rw [decide_eq_false h]
  clear h
  go_wp2_with fail
  go_ret2
  exact ⟨rfl, B1.out⟩
set_option maxHeartbeats 4000000 in
set_option maxRecDepth 100000 in
theorem paddr_o0 (r b t s o x y z : Int) (w : World) (h : Geo.GV r b t s o)  (h0 : ¬ (0 ≤ x ∧ x < b)) : Calls Try.prog 104 #[.agg #[.int .i64 r, .int .i64 b, .int .i64 t, .int .i64 s, .int .i64 o], .int .i64 x, .int .i64 y, .int .i64 z] w (gPost (.tuple #[.int .i64 0, .int .i64 2]) w) := by
  have Q0 := Lib.hid (decide_eq_false h0)
  obtain ⟨B0, hB0⟩ : ∃ B, w.heap.size = B := ⟨_, rfl⟩
  obtain ⟨W0, hW0⟩ : ∃ W, w.alloc (.cells #[.int .i64 r, .int .i64 b, .int .i64 t, .int .i64 s, .int .i64 o] 23) = W := ⟨_, rfl⟩
  have BW : Hid (Below w.heap.size w W0) := Lib.hid (by subst hW0; exact (Below.refl _ _).alloc (Nat.le_refl _) _)
  have R0 : Hid (Row W0 B0 23 #[.int .i64 r, .int .i64 b, .int .i64 t, .int .i64 s, .int .i64 o]) := Lib.hid (by subst hW0; exact gr_new w _ _ hB0)
  have c0 := R0.out.cell 0
  have c1 := R0.out.cell 1
  have c2 := R0.out.cell 2
  have c3 := R0.out.cell 3
  have c4 := R0.out.cell 4
  simp only [List.getElem?_toArray, List.getElem?_cons_zero, List.getElem?_cons_succ] at c0 c1 c2 c3 c4
  have HB0 := Lib.hid hB0
  have HW0 := Lib.hid hW0
  clear hB0 hW0
  go_enter Try.func104, Try.ntmps104
  go_wp2_with (first | rw [HB0.out] | rw [HW0.out])
  refine (pvalid_any r b t s o W0).mono ?_
  rintro e w1 ⟨rfl, hb⟩
  replace c0 := ce_fw c0 hb
  replace c1 := ce_fw c1 hb
  replace c2 := ce_fw c2 hb
  replace c3 := ce_fw c3 hb
  replace c4 := ce_fw c4 hb
  have B1 := Lib.hid (BW.out.trans (hb.mono BW.out.size))
  clear hb
  rw [decide_eq_true h]
  clear h h0
  go_wp2_with fail
  refine (below_any x b w1).mono ?_
  rw [Q0.out]
  rintro e w2 ⟨rfl, hb⟩
  replace c0 := ce_fw c0 hb
  replace c1 := ce_fw c1 hb
  replace c2 := ce_fw c2 hb
  replace c3 := ce_fw c3 hb
  replace c4 := ce_fw c4 hb
  have B2 := Lib.hid (B1.out.trans (hb.mono B1.out.size))
  clear hb
  go_wp2_with fail
  go_ret2
  exact ⟨rfl, B2.out⟩
set_option maxHeartbeats 4000000 in
set_option maxRecDepth 100000 in
theorem paddr_o1 (r b t s o x y z : Int) (w : World) (h : Geo.GV r b t s o) (h0 : (0 ≤ x ∧ x < b)) (h1 : ¬ (0 ≤ y ∧ y < t)) : Calls Try.prog 104 #[.agg #[.int .i64 r, .int .i64 b, .int .i64 t, .int .i64 s, .int .i64 o], .int .i64 x, .int .i64 y, .int .i64 z] w (gPost (.tuple #[.int .i64 0, .int .i64 2]) w) := by
  have Q0 := Lib.hid (decide_eq_true h0)
  have Q1 := Lib.hid (decide_eq_false h1)
  obtain ⟨B0, hB0⟩ : ∃ B, w.heap.size = B := ⟨_, rfl⟩
  obtain ⟨W0, hW0⟩ : ∃ W, w.alloc (.cells #[.int .i64 r, .int .i64 b, .int .i64 t, .int .i64 s, .int .i64 o] 23) = W := ⟨_, rfl⟩
  have BW : Hid (Below w.heap.size w W0) := Lib.hid (by subst hW0; exact (Below.refl _ _).alloc (Nat.le_refl _) _)
  have R0 : Hid (Row W0 B0 23 #[.int .i64 r, .int .i64 b, .int .i64 t, .int .i64 s, .int .i64 o]) := Lib.hid (by subst hW0; exact gr_new w _ _ hB0)
  have c0 := R0.out.cell 0
  have c1 := R0.out.cell 1
  have c2 := R0.out.cell 2
  have c3 := R0.out.cell 3
  have c4 := R0.out.cell 4
  simp only [List.getElem?_toArray, List.getElem?_cons_zero, List.getElem?_cons_succ] at c0 c1 c2 c3 c4
  have HB0 := Lib.hid hB0
  have HW0 := Lib.hid hW0
  clear hB0 hW0
  go_enter Try.func104, Try.ntmps104
  go_wp2_with (first | rw [HB0.out] | rw [HW0.out])
  refine (pvalid_any r b t s o W0).mono ?_
  rintro e w1 ⟨rfl, hb⟩
  replace c0 := ce_fw c0 hb
  replace c1 := ce_fw c1 hb
  replace c2 := ce_fw c2 hb
  replace c3 := ce_fw c3 hb
  replace c4 := ce_fw c4 hb
  have B1 := Lib.hid (BW.out.trans (hb.mono BW.out.size))
  clear hb
  rw [decide_eq_true h]
  clear h h0 h1
  go_wp2_with fail
  refine (below_any x b w1).mono ?_
  rw [Q0.out]
  rintro e w2 ⟨rfl, hb⟩
  replace c0 := ce_fw c0 hb
  replace c1 := ce_fw c1 hb
  replace c2 := ce_fw c2 hb
  replace c3 := ce_fw c3 hb
  replace c4 := ce_fw c4 hb
  have B2 := Lib.hid (B1.out.trans (hb.mono B1.out.size))
  clear hb
  go_wp2_with fail
  refine (below_any y t w2).mono ?_
  rw [Q1.out]
  rintro e w3 ⟨rfl, hb⟩
  replace c0 := ce_fw c0 hb
  replace c1 := ce_fw c1 hb
  replace c2 := ce_fw c2 hb
  replace c3 := ce_fw c3 hb
  replace c4 := ce_fw c4 hb
  have B3 := Lib.hid (B2.out.trans (hb.mono B2.out.size))
  clear hb
  go_wp2_with fail
  go_ret2
  exact ⟨rfl, B3.out⟩
set_option maxHeartbeats 4000000 in
set_option maxRecDepth 100000 in
theorem paddr_o2 (r b t s o x y z : Int) (w : World) (h : Geo.GV r b t s o) (h0 : (0 ≤ x ∧ x < b)) (h1 : (0 ≤ y ∧ y < t)) (h2 : ¬ (0 ≤ z ∧ z < s)) : Calls Try.prog 104 #[.agg #[.int .i64 r, .int .i64 b, .int .i64 t, .int .i64 s, .int .i64 o], .int .i64 x, .int .i64 y, .int .i64 z] w (gPost (.tuple #[.int .i64 0, .int .i64 2]) w) := by
  have Q0 := Lib.hid (decide_eq_true h0)
  have Q1 := Lib.hid (decide_eq_true h1)
  have Q2 := Lib.hid (decide_eq_false h2)
  obtain ⟨B0, hB0⟩ : ∃ B, w.heap.size = B := ⟨_, rfl⟩
  obtain ⟨W0, hW0⟩ : ∃ W, w.alloc (.cells #[.int .i64 r, .int .i64 b, .int .i64 t, .int .i64 s, .int .i64 o] 23) = W := ⟨_, rfl⟩
  have BW : Hid (Below w.heap.size w W0) := Lib.hid (by subst hW0; exact (Below.refl _ _).alloc (Nat.le_refl _) _)
  have R0 : Hid (Row W0 B0 23 #[.int .i64 r, .int .i64 b, .int .i64 t, .int .i64 s, .int .i64 o]) := Lib.hid (by subst hW0; exact gr_new w _ _ hB0)
  have c0 := R0.out.cell 0
  have c1 := R0.out.cell 1
  have c2 := R0.out.cell 2
  have c3 := R0.out.cell 3
  have c4 := R0.out.cell 4
  simp only [List.getElem?_toArray, List.getElem?_cons_zero, List.getElem?_cons_succ] at c0 c1 c2 c3 c4
  have HB0 := Lib.hid hB0
  have HW0 := Lib.hid hW0
  clear hB0 hW0
  go_enter Try.func104, Try.ntmps104
  go_wp2_with (first | rw [HB0.out] | rw [HW0.out])
  refine (pvalid_any r b t s o W0).mono ?_
  rintro e w1 ⟨rfl, hb⟩
  replace c0 := ce_fw c0 hb
  replace c1 := ce_fw c1 hb
  replace c2 := ce_fw c2 hb
  replace c3 := ce_fw c3 hb
  replace c4 := ce_fw c4 hb
  have B1 := Lib.hid (BW.out.trans (hb.mono BW.out.size))
  clear hb
  rw [decide_eq_true h]
  clear h h0 h1 h2
  go_wp2_with fail
  refine (below_any x b w1).mono ?_
  rw [Q0.out]
  rintro e w2 ⟨rfl, hb⟩
  replace c0 := ce_fw c0 hb
  replace c1 := ce_fw c1 hb
  replace c2 := ce_fw c2 hb
  replace c3 := ce_fw c3 hb
  replace c4 := ce_fw c4 hb
  have B2 := Lib.hid (B1.out.trans (hb.mono B1.out.size))
  clear hb
  go_wp2_with fail
  refine (below_any y t w2).mono ?_
  rw [Q1.out]
  rintro e w3 ⟨rfl, hb⟩
  replace c0 := ce_fw c0 hb
  replace c1 := ce_fw c1 hb
  replace c2 := ce_fw c2 hb
  replace c3 := ce_fw c3 hb
  replace c4 := ce_fw c4 hb
  have B3 := Lib.hid (B2.out.trans (hb.mono B2.out.size))
  clear hb
  go_wp2_with fail
  refine (below_any z s w3).mono ?_
  rw [Q2.out]
  rintro e w4 ⟨rfl, hb⟩
  replace c0 := ce_fw c0 hb
  replace c1 := ce_fw c1 hb
  replace c2 := ce_fw c2 hb
  replace c3 := ce_fw c3 hb
  replace c4 := ce_fw c4 hb
  have B4 := Lib.hid (B3.out.trans (hb.mono B3.out.size))
  clear hb
  go_wp2_with fail
  go_ret2
  exact ⟨rfl, B4.out⟩
set_option maxHeartbeats 4000000 in
set_option maxRecDepth 100000 in
theorem paddr_in (r b t s o x y z : Int) (w : World) (h : Geo.GV r b t s o) (h0 : (0 ≤ x ∧ x < b)) (h1 : (0 ≤ y ∧ y < t)) (h2 : (0 ≤ z ∧ z < s)) : Calls Try.prog 104 #[.agg #[.int .i64 r, .int .i64 b, .int .i64 t, .int .i64 s, .int .i64 o], .int .i64 x, .int .i64 y, .int .i64 z] w (gPost (.tuple #[.int .i64 (r + (x * t + y) * s + z), .int .i64 0]) w) := by
  obtain ⟨q, hq⟩ : ∃ q, r + (x * t + y) * s + z = q := ⟨_, rfl⟩
  rw [hq]
  have Q0 := Lib.hid (decide_eq_true h0)
  have Q1 := Lib.hid (decide_eq_true h1)
  have Q2 := Lib.hid (decide_eq_true h2)
  obtain ⟨B0, hB0⟩ : ∃ B, w.heap.size = B := ⟨_, rfl⟩
  obtain ⟨W0, hW0⟩ : ∃ W, w.alloc (.cells #[.int .i64 r, .int .i64 b, .int .i64 t, .int .i64 s, .int .i64 o] 23) = W := ⟨_, rfl⟩
  have BW : Hid (Below w.heap.size w W0) := Lib.hid (by subst hW0; exact (Below.refl _ _).alloc (Nat.le_refl _) _)
  have R0 : Hid (Row W0 B0 23 #[.int .i64 r, .int .i64 b, .int .i64 t, .int .i64 s, .int .i64 o]) := Lib.hid (by subst hW0; exact gr_new w _ _ hB0)
  have c0 := R0.out.cell 0
  have c1 := R0.out.cell 1
  have c2 := R0.out.cell 2
  have c3 := R0.out.cell 3
  have c4 := R0.out.cell 4
  simp only [List.getElem?_toArray, List.getElem?_cons_zero, List.getElem?_cons_succ] at c0 c1 c2 c3 c4
  have HB0 := Lib.hid hB0
  have HW0 := Lib.hid hW0
  clear hB0 hW0
  go_enter Try.func104, Try.ntmps104
  go_wp2_with (first | rw [HB0.out] | rw [HW0.out])
  refine (pvalid_any r b t s o W0).mono ?_
  rintro e w1 ⟨rfl, hb⟩
  replace c0 := ce_fw c0 hb
  replace c1 := ce_fw c1 hb
  replace c2 := ce_fw c2 hb
  replace c3 := ce_fw c3 hb
  replace c4 := ce_fw c4 hb
  have B1 := Lib.hid (BW.out.trans (hb.mono BW.out.size))
  clear hb
  rw [decide_eq_true h]
  unfold Geo.GV at h
  have b1 := gm (t := x) (s := t) (a := 64) (c := 16) (by omega) (by omega) (by omega) (by omega)
  obtain ⟨p1, hp1⟩ : ∃ p, x * t = p := ⟨_, rfl⟩
  rw [hp1] at b1 hq
  have b2 := gm (t := p1 + y) (s := s) (a := 1040) (c := 64) (by omega) (by omega) (by omega) (by omega)
  obtain ⟨p2, hp2⟩ : ∃ p, (p1 + y) * s = p := ⟨_, rfl⟩
  rw [hp2] at b2 hq
  go_wp2_with fail
  refine (below_any x b w1).mono ?_
  rw [Q0.out]
  rintro e w2 ⟨rfl, hb⟩
  replace c0 := ce_fw c0 hb
  replace c1 := ce_fw c1 hb
  replace c2 := ce_fw c2 hb
  replace c3 := ce_fw c3 hb
  replace c4 := ce_fw c4 hb
  have B2 := Lib.hid (B1.out.trans (hb.mono B1.out.size))
  clear hb
  go_wp2_with fail
  refine (below_any y t w2).mono ?_
  rw [Q1.out]
  rintro e w3 ⟨rfl, hb⟩
  replace c0 := ce_fw c0 hb
  replace c1 := ce_fw c1 hb
  replace c2 := ce_fw c2 hb
  replace c3 := ce_fw c3 hb
  replace c4 := ce_fw c4 hb
  have B3 := Lib.hid (B2.out.trans (hb.mono B2.out.size))
  clear hb
  go_wp2_with fail
  refine (below_any z s w3).mono ?_
  rw [Q2.out]
  rintro e w4 ⟨rfl, hb⟩
  replace c0 := ce_fw c0 hb
  replace c1 := ce_fw c1 hb
  replace c2 := ce_fw c2 hb
  replace c3 := ce_fw c3 hb
  replace c4 := ce_fw c4 hb
  have B4 := Lib.hid (B3.out.trans (hb.mono B3.out.size))
  clear hb
  go_wp2_with fail
  go_ret2
  exact ⟨by rw [← hq]; first | rfl | (simp; done), B4.out⟩
theorem paddr_any (r b t s o x y z : Int) (w : World) : Calls Try.prog 104 #[.agg #[.int .i64 r, .int .i64 b, .int .i64 t, .int .i64 s, .int .i64 o], .int .i64 x, .int .i64 y, .int .i64 z] w (gPost (.tuple #[.int .i64 (Geo.addr r b t s o x y z).1, .int .i64 (Geo.addr r b t s o x y z).2]) w) := by
  by_cases h : ¬ Geo.GV r b t s o
  · rw [Geo.addr_bad h]; exact paddr_bad r b t s o x y z w h
  replace h := Decidable.not_not.1 h
  by_cases h0 : ¬ (0 ≤ x ∧ x < b)
  · rw [Geo.addr_out h (by omega)]; exact paddr_o0 r b t s o x y z w h h0
  replace h0 := Decidable.not_not.1 h0
  by_cases h1 : ¬ (0 ≤ y ∧ y < t)
  · rw [Geo.addr_out h (by omega)]; exact paddr_o1 r b t s o x y z w h h0 h1
  replace h1 := Decidable.not_not.1 h1
  by_cases h2 : ¬ (0 ≤ z ∧ z < s)
  · rw [Geo.addr_out h (by omega)]; exact paddr_o2 r b t s o x y z w h h0 h1 h2
  replace h2 := Decidable.not_not.1 h2
  have e : Geo.addr r b t s o x y z = (r + (x * t + y) * s + z, 0) := by unfold Geo.addr; rw [if_pos h, if_pos (by omega)]
  rw [e]; exact paddr_in r b t s o x y z w h h0 h1 h2
end Go.Proofs.Ytdjjihppaobbcaa
namespace Go.Proofs.Ytdjjihppaobbcaa
open Go Go.RowKit
set_option linter.unusedVariables false
set_option linter.unusedSimpArgs false

theorem pdN {B : Nat} {a w : World} (h : Below B a w) (n : Nat) : Below B a (w.drewN n) := h.trans ⟨rfl, rfl, rfl, Nat.le_refl _, fun _ _ => rfl⟩
set_option maxHeartbeats 4000000 in
set_option maxRecDepth 100000 in
theorem ploc_bad (r b t s o a : Int) (w : World) (h : ¬ Geo.GV r b t s o) : Calls Try.prog 107 #[.agg #[.int .i64 r, .int .i64 b, .int .i64 t, .int .i64 s, .int .i64 o], .int .i64 a] w (gPost (locV (0, 0, 0, 1)) w) := by
  obtain ⟨B0, hB0⟩ : ∃ B, w.heap.size = B := ⟨_, rfl⟩
  obtain ⟨W0, hW0⟩ : ∃ W, w.alloc (.cells #[.int .i64 r, .int .i64 b, .int .i64 t, .int .i64 s, .int .i64 o] 23) = W := ⟨_, rfl⟩
  have BW : Hid (Below w.heap.size w W0) := Lib.hid (by subst hW0; exact (Below.refl _ _).alloc (Nat.le_refl _) _)
  have R0 : Hid (Row W0 B0 23 #[.int .i64 r, .int .i64 b, .int .i64 t, .int .i64 s, .int .i64 o]) := Lib.hid (by subst hW0; exact gr_new w _ _ hB0)
  have c0 := R0.out.cell 0
  have c1 := R0.out.cell 1
  have c2 := R0.out.cell 2
  have c3 := R0.out.cell 3
  have c4 := R0.out.cell 4
  simp only [List.getElem?_toArray, List.getElem?_cons_zero, List.getElem?_cons_succ] at c0 c1 c2 c3 c4
  have HB0 := Lib.hid hB0
  have HW0 := Lib.hid hW0
  clear hB0 hW0
  go_enter Try.func107, Try.ntmps107
  go_wp2_with (first | rw [HB0.out] | rw [HW0.out])
  refine (pvalid_any r b t s o W0).mono ?_
  rintro e w1 ⟨rfl, hb⟩
  replace c0 := ce_fw c0 hb
  replace c1 := ce_fw c1 hb
  replace c2 := ce_fw c2 hb
  replace c3 := ce_fw c3 hb
  replace c4 := ce_fw c4 hb
  have B1 := Lib.hid (BW.out.trans (hb.mono BW.out.size))
  have R1 := Lib.hid (rw_fw R0.out hb)
  clear hb
  rw [decide_eq_false h]
  clear h
  go_wp2_with fail
  refine bodyPost_ret (results_tmp4 rfl _ _ _) rfl ?_
  exact ⟨rfl, B1.out⟩
set_option maxHeartbeats 4000000 in
set_option maxRecDepth 100000 in
theorem ploc_low (r b t s o a : Int) (w : World) (h : Geo.GV r b t s o) (h1 : a < r) : Calls Try.prog 107 #[.agg #[.int .i64 r, .int .i64 b, .int .i64 t, .int .i64 s, .int .i64 o], .int .i64 a] w (gPost (locV (0, 0, 0, 2)) w) := by
  obtain ⟨B0, hB0⟩ : ∃ B, w.heap.size = B := ⟨_, rfl⟩
  obtain ⟨W0, hW0⟩ : ∃ W, w.alloc (.cells #[.int .i64 r, .int .i64 b, .int .i64 t, .int .i64 s, .int .i64 o] 23) = W := ⟨_, rfl⟩
  have BW : Hid (Below w.heap.size w W0) := Lib.hid (by subst hW0; exact (Below.refl _ _).alloc (Nat.le_refl _) _)
  have R0 : Hid (Row W0 B0 23 #[.int .i64 r, .int .i64 b, .int .i64 t, .int .i64 s, .int .i64 o]) := Lib.hid (by subst hW0; exact gr_new w _ _ hB0)
  have c0 := R0.out.cell 0
  have c1 := R0.out.cell 1
  have c2 := R0.out.cell 2
  have c3 := R0.out.cell 3
  have c4 := R0.out.cell 4
  simp only [List.getElem?_toArray, List.getElem?_cons_zero, List.getElem?_cons_succ] at c0 c1 c2 c3 c4
  have HB0 := Lib.hid hB0
  have HW0 := Lib.hid hW0
  clear hB0 hW0
  go_enter Try.func107, Try.ntmps107
  go_wp2_with (first | rw [HB0.out] | rw [HW0.out])
  refine (pvalid_any r b t s o W0).mono ?_
  rintro e w1 ⟨rfl, hb⟩
  replace c0 := ce_fw c0 hb
  replace c1 := ce_fw c1 hb
  replace c2 := ce_fw c2 hb
  replace c3 := ce_fw c3 hb
  replace c4 := ce_fw c4 hb
  have B1 := Lib.hid (BW.out.trans (hb.mono BW.out.size))
  have R1 := Lib.hid (rw_fw R0.out hb)
  clear hb
  rw [decide_eq_true h]
  clear h
  have d1 : decide (a < r) = true := decide_eq_true (by omega)
  go_wp2_with fail
  refine bodyPost_ret (results_tmp4 rfl _ _ _) rfl ?_
  exact ⟨rfl, B1.out⟩
set_option maxHeartbeats 4000000 in
set_option maxRecDepth 100000 in
theorem ploc_high (r b t s o a : Int) (w : World) (h : Geo.GV r b t s o) (h1 : ¬ a < r) (z : Int) (hz : Geo.size r b t s o = z) (h2 : z ≤ a) : Calls Try.prog 107 #[.agg #[.int .i64 r, .int .i64 b, .int .i64 t, .int .i64 s, .int .i64 o], .int .i64 a] w (gPost (locV (0, 0, 0, 2)) w) := by
  have ES := Lib.hid hz
  clear hz
  obtain ⟨B0, hB0⟩ : ∃ B, w.heap.size = B := ⟨_, rfl⟩
  obtain ⟨W0, hW0⟩ : ∃ W, w.alloc (.cells #[.int .i64 r, .int .i64 b, .int .i64 t, .int .i64 s, .int .i64 o] 23) = W := ⟨_, rfl⟩
  have BW : Hid (Below w.heap.size w W0) := Lib.hid (by subst hW0; exact (Below.refl _ _).alloc (Nat.le_refl _) _)
  have R0 : Hid (Row W0 B0 23 #[.int .i64 r, .int .i64 b, .int .i64 t, .int .i64 s, .int .i64 o]) := Lib.hid (by subst hW0; exact gr_new w _ _ hB0)
  have c0 := R0.out.cell 0
  have c1 := R0.out.cell 1
  have c2 := R0.out.cell 2
  have c3 := R0.out.cell 3
  have c4 := R0.out.cell 4
  simp only [List.getElem?_toArray, List.getElem?_cons_zero, List.getElem?_cons_succ] at c0 c1 c2 c3 c4
  have HB0 := Lib.hid hB0
  have HW0 := Lib.hid hW0
  clear hB0 hW0
  go_enter Try.func107, Try.ntmps107
  go_wp2_with (first | rw [HB0.out] | rw [HW0.out])
  refine (pvalid_any r b t s o W0).mono ?_
  rintro e w1 ⟨rfl, hb⟩
  replace c0 := ce_fw c0 hb
  replace c1 := ce_fw c1 hb
  replace c2 := ce_fw c2 hb
  replace c3 := ce_fw c3 hb
  replace c4 := ce_fw c4 hb
  have B1 := Lib.hid (BW.out.trans (hb.mono BW.out.size))
  have R1 := Lib.hid (rw_fw R0.out hb)
  clear hb
  rw [decide_eq_true h]
  clear h
  have d1 : decide (a < r) = false := decide_eq_false (by omega)
  have d2 : decide (z ≤ a) = true := decide_eq_true (by omega)
  go_wp2_with fail
  refine (psize_any r b t s o w1).mono ?_
  rw [show Geo.size r b t s o = z from ES.out]
  rintro e w2 ⟨rfl, hb⟩
  replace c0 := ce_fw c0 hb
  replace c1 := ce_fw c1 hb
  replace c2 := ce_fw c2 hb
  replace c3 := ce_fw c3 hb
  replace c4 := ce_fw c4 hb
  have B2 := Lib.hid (B1.out.trans (hb.mono B1.out.size))
  have R2 := Lib.hid (rw_fw R1.out hb)
  clear hb
  go_wp2_with fail
  refine bodyPost_ret (results_tmp4 rfl _ _ _) rfl ?_
  exact ⟨rfl, B2.out⟩
set_option maxHeartbeats 4000000 in
set_option maxRecDepth 100000 in
theorem ploc_in (r b t s o a : Int) (w : World) (h : Geo.GV r b t s o) (h1 : ¬ a < r) (z : Int) (hz : Geo.size r b t s o = z) (h2 : ¬ z ≤ a) : Calls Try.prog 107 #[.agg #[.int .i64 r, .int .i64 b, .int .i64 t, .int .i64 s, .int .i64 o], .int .i64 a] w (gPost (locV ((a - r) / (t * s), (a - r) / s % t, (a - r) % s, 0)) w) := by
  have ES := Lib.hid hz
  have hz2 := hz
  rw [show Geo.size r b t s o = r + b * (t * s) from if_pos h] at hz2
  have h' := h
  unfold Geo.GV at h'
  have b1 := gm (t := t) (s := s) (a := 16) (c := 64) (by omega) (by omega) (by omega) (by omega)
  have b2 := gm (t := b) (s := t * s) (a := 64) (c := 1024) (by omega) (by omega) (by omega) (by omega)
  obtain ⟨n, hn⟩ : ∃ n, a - r = n := ⟨_, rfl⟩
  have n0 : 0 ≤ n := by omega
  have n1 : n ≤ 65536 := by omega
  rw [hn, Int.mul_comm t s, ← Int.ediv_ediv_of_nonneg (show 0 ≤ s by omega)]
  have kb : 0 ≤ n / s ∧ n / s ≤ n := ⟨Int.ediv_nonneg n0 (by omega), Int.ediv_le_self _ n0⟩
  have q1b : 0 ≤ n / s / t ∧ n / s / t ≤ n / s := ⟨Int.ediv_nonneg kb.1 (by omega), Int.ediv_le_self _ kb.1⟩
  have q2b : 0 ≤ n / s % t ∧ n / s % t < t := ⟨Int.emod_nonneg _ (by omega), Int.emod_lt_of_pos _ (by omega)⟩
  have q3b : 0 ≤ n % s ∧ n % s < s := ⟨Int.emod_nonneg _ (by omega), Int.emod_lt_of_pos _ (by omega)⟩
  have t2 : n.tdiv s = n / s := Int.tdiv_eq_ediv_of_nonneg n0
  have t1 : (n / s).tdiv t = n / s / t := Int.tdiv_eq_ediv_of_nonneg kb.1
  have t3 : (n / s).tmod t = n / s % t := Int.tmod_eq_emod_of_nonneg kb.1
  have t4 : n.tmod s = n % s := Int.tmod_eq_emod_of_nonneg n0
  obtain ⟨q1, hq1⟩ : ∃ q, n / s / t = q := ⟨_, rfl⟩
  obtain ⟨q2, hq2⟩ : ∃ q, n / s % t = q := ⟨_, rfl⟩
  obtain ⟨q3, hq3⟩ : ∃ q, n % s = q := ⟨_, rfl⟩
  rw [hq1] at t1 q1b ⊢
  rw [hq2] at t3 q2b ⊢
  rw [hq3] at t4 q3b ⊢
  obtain ⟨k, hk⟩ : ∃ k, n / s = k := ⟨_, rfl⟩
  rw [hk] at t2 t3 hq2 kb t1 hq1 q1b
  have wk : IntKind.i64.wrap k = k := by rw [IntKind.wrap_i64]; omega
  have wq : IntKind.i64.wrap q1 = q1 := by rw [IntKind.wrap_i64]; omega
  have wn : IntKind.i64.wrap n = n := by rw [IntKind.wrap_i64]; omega
  have ns : ¬ s = 0 := by omega
  have nt : ¬ t = 0 := by omega
  have HN := Lib.hid hn
  clear hz hz2 b1 b2
  obtain ⟨B0, hB0⟩ : ∃ B, w.heap.size = B := ⟨_, rfl⟩
  obtain ⟨W0, hW0⟩ : ∃ W, w.alloc (.cells #[.int .i64 r, .int .i64 b, .int .i64 t, .int .i64 s, .int .i64 o] 23) = W := ⟨_, rfl⟩
  have BW : Hid (Below w.heap.size w W0) := Lib.hid (by subst hW0; exact (Below.refl _ _).alloc (Nat.le_refl _) _)
  have R0 : Hid (Row W0 B0 23 #[.int .i64 r, .int .i64 b, .int .i64 t, .int .i64 s, .int .i64 o]) := Lib.hid (by subst hW0; exact gr_new w _ _ hB0)
  have c0 := R0.out.cell 0
  have c1 := R0.out.cell 1
  have c2 := R0.out.cell 2
  have c3 := R0.out.cell 3
  have c4 := R0.out.cell 4
  simp only [List.getElem?_toArray, List.getElem?_cons_zero, List.getElem?_cons_succ] at c0 c1 c2 c3 c4
  have HB0 := Lib.hid hB0
  have HW0 := Lib.hid hW0
  clear hB0 hW0
  go_enter Try.func107, Try.ntmps107
  go_wp2_with (first | rw [HB0.out] | rw [HW0.out])
  refine (pvalid_any r b t s o W0).mono ?_
  rintro e w1 ⟨rfl, hb⟩
  replace c0 := ce_fw c0 hb
  replace c1 := ce_fw c1 hb
  replace c2 := ce_fw c2 hb
  replace c3 := ce_fw c3 hb
  replace c4 := ce_fw c4 hb
  have B1 := Lib.hid (BW.out.trans (hb.mono BW.out.size))
  have R1 := Lib.hid (rw_fw R0.out hb)
  clear hb
  rw [decide_eq_true h]
  clear h
  have d1 : decide (a < r) = false := decide_eq_false (by omega)
  have d2 : decide (z ≤ a) = false := decide_eq_false (by omega)
  go_wp2_with fail
  refine (psize_any r b t s o w1).mono ?_
  rw [show Geo.size r b t s o = z from ES.out]
  rintro e w2 ⟨rfl, hb⟩
  replace c0 := ce_fw c0 hb
  replace c1 := ce_fw c1 hb
  replace c2 := ce_fw c2 hb
  replace c3 := ce_fw c3 hb
  replace c4 := ce_fw c4 hb
  have B2 := Lib.hid (B1.out.trans (hb.mono B1.out.size))
  have R2 := Lib.hid (rw_fw R1.out hb)
  clear hb
  have C2 := Lib.hid c2
  have C3 := Lib.hid c3
  go_wp2_with (first | rw [HN.out] | (go_quiet (fail)))
  refine bodyPost_ret (results_tmp4 rfl _ _ _) rfl ?_
  exact ⟨rfl, pdN (pdN B2.out _) _⟩
theorem ploc_any (r b t s o a : Int) (w : World) : Calls Try.prog 107 #[.agg #[.int .i64 r, .int .i64 b, .int .i64 t, .int .i64 s, .int .i64 o], .int .i64 a] w (gPost (locV (Geo.loc r b t s o a)) w) := by
  by_cases h : Geo.GV r b t s o
  · by_cases h1 : a < r
    · rw [show Geo.loc r b t s o a = (0, 0, 0, 2) by unfold Geo.loc; rw [if_pos h, if_neg (by omega)]]; exact ploc_low r b t s o a w h h1
    · have hz : Geo.size r b t s o = r + b * (t * s) := if_pos h
      by_cases h2 : r + b * (t * s) ≤ a
      · rw [show Geo.loc r b t s o a = (0, 0, 0, 2) by unfold Geo.loc; rw [if_pos h, if_neg (by omega)]]; exact ploc_high r b t s o a w h h1 _ hz h2
      · rw [show Geo.loc r b t s o a = ((a - r) / (t * s), (a - r) / s % t, (a - r) % s, 0) by unfold Geo.loc; rw [if_pos h, if_pos (by omega)]]; exact ploc_in r b t s o a w h h1 _ hz h2
  · rw [Geo.loc_bad h]; exact ploc_bad r b t s o a w h
end Go.Proofs.Ytdjjihppaobbcaa
namespace Go.Proofs.Ytdjjihppaobbcaa
open Go Go.RowKit
set_option linter.unusedVariables false
set_option linter.unusedSimpArgs false

set_option maxHeartbeats 4000000 in
set_option maxRecDepth 100000 in
theorem pshadow_no (r b t s o a : Int) (w : World) (q : Int × Int × Int × Int) (hq : Geo.loc r b t s o a = q) (hne : q.2.2.2 ≠ 0) : Calls Try.prog 103 #[.agg #[.int .i64 r, .int .i64 b, .int .i64 t, .int .i64 s, .int .i64 o], .int .i64 a] w (shPostN [] w) := by
  have L := Lib.hid fun w => ploc_any r b t s o a w
  rw [hq] at L
  have d : (q.2.2.2 == 0) = false := by simpa using hne
  obtain ⟨q1, q2, q3, q4⟩ := q
  have d' : (q4 == 0) = false := d
  have d2 : ¬ q4 = 0 := hne
  unfold locV at L
  clear hq hne d
  obtain ⟨B0, hB0⟩ : ∃ B, w.heap.size = B := ⟨_, rfl⟩
  obtain ⟨W0, hW0⟩ : ∃ W, w.alloc (.cells #[.int .i64 r, .int .i64 b, .int .i64 t, .int .i64 s, .int .i64 o] 23) = W := ⟨_, rfl⟩
  have BW : Hid (Below w.heap.size w W0) := Lib.hid (by subst hW0; exact (Below.refl _ _).alloc (Nat.le_refl _) _)
  have R0 : Hid (Row W0 B0 23 #[.int .i64 r, .int .i64 b, .int .i64 t, .int .i64 s, .int .i64 o]) := Lib.hid (by subst hW0; exact gr_new w _ _ hB0)
  have c0 := R0.out.cell 0
  have c1 := R0.out.cell 1
  have c2 := R0.out.cell 2
  have c3 := R0.out.cell 3
  have c4 := R0.out.cell 4
  simp only [List.getElem?_toArray, List.getElem?_cons_zero, List.getElem?_cons_succ] at c0 c1 c2 c3 c4
  have HB0 := Lib.hid hB0
  have HW0 := Lib.hid hW0
  clear hB0 hW0
  go_enter Try.func103, Try.ntmps103
  go_wp2_with (first | rw [HB0.out] | rw [HW0.out])
  refine (L.out _).mono ?_
  rintro e w1 ⟨rfl, hb⟩
  have B1 := Lib.hid (BW.out.trans (hb.mono BW.out.size))
  clear hb
  go_wp2_with fail
  go_ret
  exact ⟨_, rfl, ⟨Sl.nil_ _, fun g hg => (by cases hg)⟩, B1.out⟩
set_option maxHeartbeats 4000000 in
set_option maxRecDepth 100000 in
theorem pshadow_in1 (R B T S O n : Nat) (w : World) (h : Geo.GV (R : Int) B T S O) (hn : n < B * (T * S)) (hc : (O : Int) ≤ (T : Int) - 1 - ((n / S % T : Nat) : Int)) : Calls Try.prog 103 #[.agg #[.int .i64 (R : Int), .int .i64 (B : Int), .int .i64 (T : Int), .int .i64 (S : Int), .int .i64 (O : Int)], .int .i64 ((R + n : Nat) : Int)] w (shPostN (Geo.shd S ((R + n : Nat) : Int) (min O (T - 1 - n / S % T))) w) := by
  have L := Lib.hid fun w => ploc_any R B T S O ((R + n : Nat) : Int) w
  rw [Geo.loc_in h hn] at L
  unfold locV at L
  have hg := Geo.gv_nat h
  have yT := Nat.mod_lt (n / S) (show T > 0 by omega)
  have sz := Geo.bts_le hg.2.2.1 hg.2.2.2.2.1 hg.2.2.2.2.2.2.1
  obtain ⟨x, hx⟩ : ∃ x, n / (T * S) = x := ⟨_, rfl⟩
  obtain ⟨y, hy⟩ : ∃ y, n / S % T = y := ⟨_, rfl⟩
  obtain ⟨z, hz⟩ : ∃ z, n % S = z := ⟨_, rfl⟩
  obtain ⟨a, ha⟩ : ∃ a, R + n = a := ⟨_, rfl⟩
  rw [hx, hy, hz, ha] at L
  rw [hy] at yT ⊢
  rw [ha]
  have yB : y ≤ 15 ∧ O ≤ 3 ∧ T ≤ 16 ∧ S ≤ 64 ∧ a ≤ 100000 := by omega
  rw [hy] at hc
  clear hx hy hz ha h hn hg sz
  obtain ⟨i0, hi, hz0, hz1, hz2⟩ := info_pt info_i8
  have I0 := Lib.hid (And.intro hi (And.intro hz0 (And.intro hz1 hz2)))
  clear hi hz0 hz1 hz2
  obtain ⟨m, hm⟩ : ∃ m, min O (T - 1 - y) = m := ⟨_, rfl⟩
  have mO : m ≤ 3 := by omega
  rw [hm]
  obtain rfl : O = m := by omega
  clear hm
  obtain ⟨B0, hB0⟩ : ∃ B, w.heap.size = B := ⟨_, rfl⟩
  obtain ⟨W0, hW0⟩ : ∃ W, w.alloc (.cells #[.int .i64 (R : Int), .int .i64 (B : Int), .int .i64 (T : Int), .int .i64 (S : Int), .int .i64 (O : Int)] 23) = W := ⟨_, rfl⟩
  have BW : Hid (Below w.heap.size w W0) := Lib.hid (by subst hW0; exact (Below.refl _ _).alloc (Nat.le_refl _) _)
  have R0 : Hid (Row W0 B0 23 #[.int .i64 (R : Int), .int .i64 (B : Int), .int .i64 (T : Int), .int .i64 (S : Int), .int .i64 (O : Int)]) := Lib.hid (by subst hW0; exact gr_new w _ _ hB0)
  have c0 := R0.out.cell 0
  have c1 := R0.out.cell 1
  have c2 := R0.out.cell 2
  have c3 := R0.out.cell 3
  have c4 := R0.out.cell 4
  simp only [List.getElem?_toArray, List.getElem?_cons_zero, List.getElem?_cons_succ] at c0 c1 c2 c3 c4
  have HB0 := Lib.hid hB0
  have HW0 := Lib.hid hW0
  clear hB0 hW0
  go_enter Try.func103, Try.ntmps103
  go_wp2_with (first | rw [HB0.out] | rw [HW0.out])
  refine (L.out _).mono ?_
  rintro e w1 ⟨rfl, hb⟩
  have B1 := Lib.hid (BW.out.trans (hb.mono BW.out.size))
  have R1 := Lib.hid (rw_fw R0.out hb)
  replace c0 := ce_fw c0 hb
  replace c1 := ce_fw c1 hb
  replace c2 := ce_fw c2 hb
  replace c3 := ce_fw c3 hb
  replace c4 := ce_fw c4 hb
  clear hb L
  go_wp2_with fail
  clear c0 c1 c2 c3 c4
  go_loopw [9, 1, 28] (fun v p i wr => ∃ k : Nat, k ≤ O ∧ i = .int .i64 (k : Int) ∧ p = .int .i64 ((a + k * S : Nat) : Int) ∧ Hid (OwnL Iv wr w1.heap.size 3 v (Geo.shd S a k) ∧ Below w1.heap.size w1 wr)) (fun _ _ i _ => O - (intOf i).toNat)
  case atStart => exact ⟨0, Nat.zero_le _, rfl, by rw [Nat.zero_mul, Nat.add_zero], Lib.hid ⟨OwnL.nil_ _ _ _, Below.refl _ _⟩⟩
  case round =>
    obtain ⟨k, hk, rfl, rfl, V⟩ := hrel
    have R2 := Lib.hid (rw_fw R1.out V.out.2)
    have c0 := R2.out.cell 0
    have c1 := R2.out.cell 1
    have c2 := R2.out.cell 2
    have c3 := R2.out.cell 3
    have c4 := R2.out.cell 4
    simp only [List.getElem?_toArray, List.getElem?_cons_zero, List.getElem?_cons_succ] at c0 c1 c2 c3 c4
    by_cases hlt : k < O
    · have kI : (k : Int) < (O : Int) := by omega
      have kS := Nat.mul_le_mul (show k + 1 ≤ 3 by omega) yB.2.2.2.1
      obtain ⟨p, hp⟩ : ∃ p, a + k * S + S = p := ⟨_, rfl⟩
      have hp2 : a + (k + 1) * S = p := by rw [← hp, Nat.add_mul, Nat.one_mul, Nat.add_assoc]
      have pB : p ≤ 200000 := by omega
      have CN := Lib.hid (show Geo.shd S (a : Int) (k + 1) = Geo.shd S a k ++ [(p : Int)] by rw [Geo.shd_succ]; congr 2; rw [← hp2]; push_cast; rfl)
      have PW := Lib.hid (show wrap64 (((a + k * S : Nat) : Int) + (S : Int)) = (p : Int) by rw [← hp]; exact gw (x := _) (by omega) (by omega))
      have P2 := Lib.hid hp2
      have OW := Lib.hid V.out.1
      have BV := Lib.hid V.out.2
      have LN := Lib.hid (Geo.shd_len S a k)
      have CL := Lib.hid (show (wr.alloc (.cells #[.int .i64 (p : Int)] 3)).cell? ⟨wr.heap.size, 0, none⟩ = some (.int .i64 (p : Int)) by rw [(gr_new wr _ _ rfl).cell]; rfl)
      have O3 := Lib.hid (OW.out.alloc (.cells #[.int .i64 (p : Int)] 3))
      have B3 := Lib.hid (BV.out.alloc BV.out.size (.cells #[.int .i64 (p : Int)] 3))
      generalize a + k * S = pr at PW hp ⊢
      clear V hp hp2 kS
      go_wp2_with (first | rw [PW.out] | (at_builtin; refine wpList_push rfl (.tmp 34) (.tmp 36) 139 rfl w1.heap.size 3 i0 (.int .i64 0) 8 Try.underlying139 I0.out.1 I0.out.2.1 I0.out.2.2.1 I0.out.2.2.2 rfl Iv.keeps u9 _ rfl O3.out k LN.out wr.heap.size (.int .i64 (p : Int)) (p : Int) rfl CL.out rfl rfl (fun _ _ => fun _ _ => rfl) (by unfold maxLen; omega) (by omega) (by have := BV.out.size; simp; omega) ?_; intro g cap w3 ho hg; have HO := Lib.hid ho; have HG := Lib.hid (B3.out.grown hg B3.out.size (fun j hj => (O3.out.own j hj).1)); clear ho hg))
      go_roundw
      case rel => exact ⟨k + 1, by omega, by go_num, by rw [P2.out], Lib.hid ⟨by rw [CN.out]; exact HO.out, HG.out⟩⟩
      case measure => simp [intOf]; omega
    · obtain rfl : k = O := by omega
      have kI : ¬ (k : Int) < (k : Int) := by omega
      have dk : decide ((k : Int) < (k : Int)) = false := decide_eq_false kI
      have OW := Lib.hid (And.intro V.out.1.sl fun g hg => Nat.le_trans B1.out.size (V.out.1.own g hg).1)
      have BV := Lib.hid (B1.out.trans (V.out.2.mono B1.out.size))
      clear V
      go_wp2_with fail
      go_ret
      exact ⟨_, rfl, OW.out, BV.out⟩
set_option maxHeartbeats 4000000 in
set_option maxRecDepth 100000 in
theorem pshadow_in2 (R B T S O n : Nat) (w : World) (h : Geo.GV (R : Int) B T S O) (hn : n < B * (T * S)) (hc : ¬ (O : Int) ≤ (T : Int) - 1 - ((n / S % T : Nat) : Int)) : Calls Try.prog 103 #[.agg #[.int .i64 (R : Int), .int .i64 (B : Int), .int .i64 (T : Int), .int .i64 (S : Int), .int .i64 (O : Int)], .int .i64 ((R + n : Nat) : Int)] w (shPostN (Geo.shd S ((R + n : Nat) : Int) (min O (T - 1 - n / S % T))) w) := by
  have L := Lib.hid fun w => ploc_any R B T S O ((R + n : Nat) : Int) w
  rw [Geo.loc_in h hn] at L
  unfold locV at L
  have hg := Geo.gv_nat h
  have yT := Nat.mod_lt (n / S) (show T > 0 by omega)
  have sz := Geo.bts_le hg.2.2.1 hg.2.2.2.2.1 hg.2.2.2.2.2.2.1
  obtain ⟨x, hx⟩ : ∃ x, n / (T * S) = x := ⟨_, rfl⟩
  obtain ⟨y, hy⟩ : ∃ y, n / S % T = y := ⟨_, rfl⟩
  obtain ⟨z, hz⟩ : ∃ z, n % S = z := ⟨_, rfl⟩
  obtain ⟨a, ha⟩ : ∃ a, R + n = a := ⟨_, rfl⟩
  rw [hx, hy, hz, ha] at L
  rw [hy] at yT ⊢
  rw [ha]
  have yB : y ≤ 15 ∧ O ≤ 3 ∧ T ≤ 16 ∧ S ≤ 64 ∧ a ≤ 100000 := by omega
  rw [hy] at hc
  clear hx hy hz ha h hn hg sz
  obtain ⟨i0, hi, hz0, hz1, hz2⟩ := info_pt info_i8
  have I0 := Lib.hid (And.intro hi (And.intro hz0 (And.intro hz1 hz2)))
  clear hi hz0 hz1 hz2
  obtain ⟨m, hm⟩ : ∃ m, min O (T - 1 - y) = m := ⟨_, rfl⟩
  have mO : m ≤ 3 := by omega
  rw [hm]
  have hc2 : (m : Int) < (O : Int) := by omega
  have MN := Lib.hid (show (T : Int) - 1 - (y : Int) = (m : Int) by omega)
  clear hm hc
  obtain ⟨B0, hB0⟩ : ∃ B, w.heap.size = B := ⟨_, rfl⟩
  obtain ⟨W0, hW0⟩ : ∃ W, w.alloc (.cells #[.int .i64 (R : Int), .int .i64 (B : Int), .int .i64 (T : Int), .int .i64 (S : Int), .int .i64 (O : Int)] 23) = W := ⟨_, rfl⟩
  have BW : Hid (Below w.heap.size w W0) := Lib.hid (by subst hW0; exact (Below.refl _ _).alloc (Nat.le_refl _) _)
  have R0 : Hid (Row W0 B0 23 #[.int .i64 (R : Int), .int .i64 (B : Int), .int .i64 (T : Int), .int .i64 (S : Int), .int .i64 (O : Int)]) := Lib.hid (by subst hW0; exact gr_new w _ _ hB0)
  have c0 := R0.out.cell 0
  have c1 := R0.out.cell 1
  have c2 := R0.out.cell 2
  have c3 := R0.out.cell 3
  have c4 := R0.out.cell 4
  simp only [List.getElem?_toArray, List.getElem?_cons_zero, List.getElem?_cons_succ] at c0 c1 c2 c3 c4
  have HB0 := Lib.hid hB0
  have HW0 := Lib.hid hW0
  clear hB0 hW0
  go_enter Try.func103, Try.ntmps103
  go_wp2_with (first | rw [HB0.out] | rw [HW0.out])
  refine (L.out _).mono ?_
  rintro e w1 ⟨rfl, hb⟩
  have B1 := Lib.hid (BW.out.trans (hb.mono BW.out.size))
  have R1 := Lib.hid (rw_fw R0.out hb)
  replace c0 := ce_fw c0 hb
  replace c1 := ce_fw c1 hb
  replace c2 := ce_fw c2 hb
  replace c3 := ce_fw c3 hb
  replace c4 := ce_fw c4 hb
  clear hb L
  go_wp2_with (first | rw [MN.out])
  clear c0 c1 c2 c3 c4
  go_loopw [9, 1, 28] (fun v p i wr => ∃ k : Nat, k ≤ m ∧ i = .int .i64 (k : Int) ∧ p = .int .i64 ((a + k * S : Nat) : Int) ∧ Hid (OwnL Iv wr w1.heap.size 3 v (Geo.shd S a k) ∧ Below w1.heap.size w1 wr)) (fun _ _ i _ => m - (intOf i).toNat)
  case atStart => exact ⟨0, Nat.zero_le _, rfl, by rw [Nat.zero_mul, Nat.add_zero], Lib.hid ⟨OwnL.nil_ _ _ _, Below.refl _ _⟩⟩
  case round =>
    obtain ⟨k, hk, rfl, rfl, V⟩ := hrel
    have R2 := Lib.hid (rw_fw R1.out V.out.2)
    have c0 := R2.out.cell 0
    have c1 := R2.out.cell 1
    have c2 := R2.out.cell 2
    have c3 := R2.out.cell 3
    have c4 := R2.out.cell 4
    simp only [List.getElem?_toArray, List.getElem?_cons_zero, List.getElem?_cons_succ] at c0 c1 c2 c3 c4
    by_cases hlt : k < m
    · have kI : (k : Int) < (m : Int) := by omega
      have kS := Nat.mul_le_mul (show k + 1 ≤ 3 by omega) yB.2.2.2.1
      obtain ⟨p, hp⟩ : ∃ p, a + k * S + S = p := ⟨_, rfl⟩
      have hp2 : a + (k + 1) * S = p := by rw [← hp, Nat.add_mul, Nat.one_mul, Nat.add_assoc]
      have pB : p ≤ 200000 := by omega
      have CN := Lib.hid (show Geo.shd S (a : Int) (k + 1) = Geo.shd S a k ++ [(p : Int)] by rw [Geo.shd_succ]; congr 2; rw [← hp2]; push_cast; rfl)
      have PW := Lib.hid (show wrap64 (((a + k * S : Nat) : Int) + (S : Int)) = (p : Int) by rw [← hp]; exact gw (x := _) (by omega) (by omega))
      have P2 := Lib.hid hp2
      have OW := Lib.hid V.out.1
      have BV := Lib.hid V.out.2
      have LN := Lib.hid (Geo.shd_len S a k)
      have CL := Lib.hid (show (wr.alloc (.cells #[.int .i64 (p : Int)] 3)).cell? ⟨wr.heap.size, 0, none⟩ = some (.int .i64 (p : Int)) by rw [(gr_new wr _ _ rfl).cell]; rfl)
      have O3 := Lib.hid (OW.out.alloc (.cells #[.int .i64 (p : Int)] 3))
      have B3 := Lib.hid (BV.out.alloc BV.out.size (.cells #[.int .i64 (p : Int)] 3))
      generalize a + k * S = pr at PW hp ⊢
      clear V hp hp2 kS
      go_wp2_with (first | rw [PW.out] | (at_builtin; refine wpList_push rfl (.tmp 34) (.tmp 36) 139 rfl w1.heap.size 3 i0 (.int .i64 0) 8 Try.underlying139 I0.out.1 I0.out.2.1 I0.out.2.2.1 I0.out.2.2.2 rfl Iv.keeps u9 _ rfl O3.out k LN.out wr.heap.size (.int .i64 (p : Int)) (p : Int) rfl CL.out rfl rfl (fun _ _ => fun _ _ => rfl) (by unfold maxLen; omega) (by omega) (by have := BV.out.size; simp; omega) ?_; intro g cap w3 ho hg; have HO := Lib.hid ho; have HG := Lib.hid (B3.out.grown hg B3.out.size (fun j hj => (O3.out.own j hj).1)); clear ho hg))
      go_roundw
      case rel => exact ⟨k + 1, by omega, by go_num, by rw [P2.out], Lib.hid ⟨by rw [CN.out]; exact HO.out, HG.out⟩⟩
      case measure => simp [intOf]; omega
    · obtain rfl : k = m := by omega
      have kI : ¬ (k : Int) < (k : Int) := by omega
      have dk : decide ((k : Int) < (k : Int)) = false := decide_eq_false kI
      have OW := Lib.hid (And.intro V.out.1.sl fun g hg => Nat.le_trans B1.out.size (V.out.1.own g hg).1)
      have BV := Lib.hid (B1.out.trans (V.out.2.mono B1.out.size))
      clear V
      go_wp2_with fail
      go_ret
      exact ⟨_, rfl, OW.out, BV.out⟩
theorem pshadow_in (R B T S O n : Nat) (w : World) (h : Geo.GV (R : Int) B T S O) (hn : n < B * (T * S)) : Calls Try.prog 103 #[.agg #[.int .i64 (R : Int), .int .i64 (B : Int), .int .i64 (T : Int), .int .i64 (S : Int), .int .i64 (O : Int)], .int .i64 ((R + n : Nat) : Int)] w (shPostN (Geo.shd S ((R + n : Nat) : Int) (min O (T - 1 - n / S % T))) w) := by
  by_cases hc : (O : Int) ≤ (T : Int) - 1 - ((n / S % T : Nat) : Int)
  · exact pshadow_in1 R B T S O n w h hn hc
  · exact pshadow_in2 R B T S O n w h hn hc
theorem pshadow_new (r b t s o a : Int) (w : World) : Calls Try.prog 103 #[.agg #[.int .i64 r, .int .i64 b, .int .i64 t, .int .i64 s, .int .i64 o], .int .i64 a] w (shPostN (Geo.shadow r b t s o a) w) := by
  by_cases hne : (Geo.loc r b t s o a).2.2.2 = 0
  · have h : Geo.GV r b t s o := by
      by_cases h : Geo.GV r b t s o
      · exact h
      · rw [Geo.loc_bad h] at hne; cases hne
    have h' := h
    unfold Geo.GV at h'
    obtain ⟨R, rfl⟩ : ∃ n : Nat, r = n := ⟨r.toNat, by omega⟩
    obtain ⟨B, rfl⟩ : ∃ n : Nat, b = n := ⟨b.toNat, by omega⟩
    obtain ⟨T, rfl⟩ : ∃ n : Nat, t = n := ⟨t.toNat, by omega⟩
    obtain ⟨S, rfl⟩ : ∃ n : Nat, s = n := ⟨s.toNat, by omega⟩
    obtain ⟨O, rfl⟩ : ∃ n : Nat, o = n := ⟨o.toNat, by omega⟩
    clear h'
    by_cases ha : a < R ∨ ((R + B * (T * S) : Nat) : Int) ≤ a
    · rw [Geo.loc_out h ha] at hne; cases hne
    · obtain ⟨n, rfl⟩ : ∃ n : Nat, a = ((R + n : Nat) : Int) := ⟨(a - R).toNat, by omega⟩
      have hn : n < B * (T * S) := by omega
      unfold Geo.shadow
      rw [Geo.shn_in h hn]
      exact pshadow_in R B T S O n w h hn
  · have e : Geo.shadow r b t s o a = [] := by unfold Geo.shadow; rw [Geo.shn_out hne]; rfl
    rw [e]
    exact pshadow_no r b t s o a w _ rfl hne
theorem pshadow_any (r b t s o a : Int) (w : World) : Calls Try.prog 103 #[.agg #[.int .i64 r, .int .i64 b, .int .i64 t, .int .i64 s, .int .i64 o], .int .i64 a] w (shPost (Geo.shadow r b t s o a) w) :=
  (pshadow_new r b t s o a w).mono fun e w1 ⟨v, h1, h2, h3⟩ => ⟨v, h1, h2.1, h3⟩
end Go.Proofs.Ytdjjihppaobbcaa
