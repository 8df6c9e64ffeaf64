/- Geometries: addresses and places; what the functions of the layer return. No import. -/
namespace Go.Proofs.Ytbaclcpnnompnaa
namespace Geo
/-- A valid geometry. -/
def GV (r b t s o : Int) : Prop := (0 ≤ r ∧ r ≤ 16384) ∧ (1 ≤ b ∧ b ≤ 64) ∧ (1 ≤ t ∧ t ≤ 16) ∧ (1 ≤ s ∧ s ≤ 64) ∧ (0 ≤ o ∧ o ≤ 3)
instance (r b t s o : Int) : Decidable (GV r b t s o) := by unfold GV; infer_instance
def band (r b t s o : Int) : Int := if GV r b t s o then t * s else 0
def size (r b t s o : Int) : Int := if GV r b t s o then r + b * (t * s) else 0
def rand (r b t s o a : Int) : Bool := decide (GV r b t s o ∧ 0 ≤ a ∧ a < r)
/-- Address: the number and the error. -/
def addr (r b t s o x y z : Int) : Int × Int := if GV r b t s o then (if 0 ≤ x ∧ x < b ∧ 0 ≤ y ∧ y < t ∧ 0 ≤ z ∧ z < s then (r + (x * t + y) * s + z, 0) else (0, 2)) else (0, 1)
/-- Locate: band, track, position, error. -/
def loc (r b t s o a : Int) : Int × Int × Int × Int := if GV r b t s o then (if r ≤ a ∧ a < r + b * (t * s) then ((a - r) / (t * s), (a - r) / s % t, (a - r) % s, 0) else (0, 0, 0, 2)) else (0, 0, 0, 1)
/-- The first k addresses of a shadow. -/
def shd (s a : Int) (k : Nat) : List Int := (List.range k).map fun i : Nat => a + ((i : Int) + 1) * s
/-- How many there are. -/
def shn (r b t s o a : Int) : Nat := if (loc r b t s o a).2.2.2 = 0 then (min o (t - 1 - (loc r b t s o a).2.1)).toNat else 0
def shadow (r b t s o a : Int) : List Int := shd s a (shn r b t s o a)
/-! ### In natural numbers -/
variable {R B T S O n : Nat}
theorem gv_nat (h : GV (R : Int) B T S O) : R ≤ 16384 ∧ 1 ≤ B ∧ B ≤ 64 ∧ 1 ≤ T ∧ T ≤ 16 ∧ 1 ≤ S ∧ S ≤ 64 ∧ O ≤ 3 := by unfold GV at h; omega
theorem ts_le (hT : T ≤ 16) (hS : S ≤ 64) : T * S ≤ 1024 := Nat.le_trans (Nat.mul_le_mul hT hS) (by decide)
theorem bts_le (hB : B ≤ 64) (hT : T ≤ 16) (hS : S ≤ 64) : B * (T * S) ≤ 65536 := Nat.le_trans (Nat.mul_le_mul hB (ts_le hT hS)) (by decide)
theorem ts_pos (hT : 1 ≤ T) (hS : 1 ≤ S) : 0 < T * S := Nat.mul_pos hT hS
theorem div_lt (hn : n < B * (T * S)) : n / (T * S) < B := Nat.div_lt_of_lt_mul (by rw [Nat.mul_comm]; exact hn)
theorem parts (T S n : Nat) : (n / (T * S) * T + n / S % T) * S + n % S = n := by
  have h1 : n / (T * S) = n / S / T := by rw [Nat.mul_comm, Nat.div_div_eq_div_mul]
  rw [h1]
  have h2 : n / S / T * T + n / S % T = n / S := by rw [Nat.mul_comm]; exact Nat.div_add_mod _ _
  rw [h2, Nat.mul_comm]; exact Nat.div_add_mod _ _
/-- The place of the number (x T + y) S + z. -/
theorem place {x y z : Nat} (hy : y < T) (hz : z < S) : ((x * T + y) * S + z) / (T * S) = x ∧ ((x * T + y) * S + z) / S % T = y ∧ ((x * T + y) * S + z) % S = z := by
  have hS : 0 < S := by omega
  have hT : 0 < T := by omega
  have h1 : ((x * T + y) * S + z) / S = x * T + y := by
    rw [Nat.add_comm, Nat.add_mul_div_right _ _ hS, Nat.div_eq_of_lt hz, Nat.zero_add]
  have h2 : (x * T + y) / T = x := by rw [Nat.add_comm, Nat.add_mul_div_right _ _ hT, Nat.div_eq_of_lt hy, Nat.zero_add]
  refine ⟨?_, ?_, ?_⟩
  · rw [Nat.mul_comm T S, ← Nat.div_div_eq_div_mul, h1, h2]
  · rw [h1, Nat.add_comm, Nat.add_mul_mod_self_right, Nat.mod_eq_of_lt hy]
  · rw [Nat.add_comm, Nat.add_mul_mod_self_right, Nat.mod_eq_of_lt hz]
theorem num_lt {x y z : Nat} (hx : x < B) (hy : y < T) (hz : z < S) : (x * T + y) * S + z < B * (T * S) := by
  have h1 : x * T + y + 1 ≤ B * T := by
    have := Nat.mul_le_mul_right T (show x + 1 ≤ B from hx)
    rw [Nat.add_mul, Nat.one_mul] at this; omega
  have h2 := Nat.mul_le_mul_right S h1
  rw [Nat.add_mul, Nat.one_mul, Nat.mul_assoc] at h2
  omega
theorem size_nat (h : GV (R : Int) B T S O) : size R B T S O = ((R + B * (T * S) : Nat) : Int) := by unfold size; rw [if_pos h]; push_cast; rfl
theorem band_nat (h : GV (R : Int) B T S O) : band R B T S O = ((T * S : Nat) : Int) := by unfold band; rw [if_pos h]; push_cast; rfl
theorem loc_in (h : GV (R : Int) B T S O) (hn : n < B * (T * S)) : loc R B T S O ((R + n : Nat) : Int) = (((n / (T * S) : Nat) : Int), ((n / S % T : Nat) : Int), ((n % S : Nat) : Int), 0) := by
  unfold loc
  have e : ((R + n : Nat) : Int) - (R : Int) = (n : Int) := by omega
  have e2 : (R : Int) + (B : Int) * ((T : Int) * (S : Int)) = ((R + B * (T * S) : Nat) : Int) := by push_cast; rfl
  rw [if_pos h, e2, if_pos (by omega), e]
  rfl
theorem loc_out {a : Int} (h : GV (R : Int) B T S O) (ha : a < R ∨ ((R + B * (T * S) : Nat) : Int) ≤ a) : loc R B T S O a = (0, 0, 0, 2) := by
  unfold loc
  have e2 : (R : Int) + (B : Int) * ((T : Int) * (S : Int)) = ((R + B * (T * S) : Nat) : Int) := by push_cast; rfl
  rw [if_pos h, e2, if_neg (by omega)]
theorem loc_bad {r b t s o a : Int} (h : ¬ GV r b t s o) : loc r b t s o a = (0, 0, 0, 1) := by unfold loc; exact if_neg h
theorem addr_in {x y z : Nat} (h : GV (R : Int) B T S O) (hx : x < B) (hy : y < T) (hz : z < S) : addr R B T S O x y z = (((R + ((x * T + y) * S + z) : Nat) : Int), 0) := by
  unfold addr
  rw [if_pos h, if_pos (by omega)]
  congr 1
  push_cast
  rw [Int.add_assoc]
theorem addr_out {r b t s o x y z : Int} (h : GV r b t s o) (hn : ¬ (0 ≤ x ∧ x < b ∧ 0 ≤ y ∧ y < t ∧ 0 ≤ z ∧ z < s)) : addr r b t s o x y z = (0, 2) := by unfold addr; rw [if_pos h, if_neg hn]
theorem addr_bad {r b t s o x y z : Int} (h : ¬ GV r b t s o) : addr r b t s o x y z = (0, 1) := by unfold addr; exact if_neg h
theorem shn_in (h : GV (R : Int) B T S O) (hn : n < B * (T * S)) : shn R B T S O ((R + n : Nat) : Int) = min O (T - 1 - n / S % T) := by
  have hT := (gv_nat h).2.2.2.1
  have hm := Nat.mod_lt (n / S) (show T > 0 by omega)
  unfold shn
  rw [loc_in h hn, if_pos rfl]
  show (min (O : Int) ((T : Int) - 1 - ((n / S % T : Nat) : Int))).toNat = _
  generalize n / S % T = m at hm
  omega
theorem shn_out {r b t s o a : Int} (h : (loc r b t s o a).2.2.2 ≠ 0) : shn r b t s o a = 0 := by unfold shn; exact if_neg h
theorem shd_len (s a : Int) (k : Nat) : (shd s a k).length = k := by simp [shd]
theorem shd_at (s a : Int) {k i : Nat} (h : i < k) : (shd s a k)[i]? = some (a + ((i : Int) + 1) * s) := by simp [shd, h]
theorem shd_succ (s a : Int) (k : Nat) : shd s a (k + 1) = shd s a k ++ [a + ((k : Int) + 1) * s] := by simp [shd, List.range_succ]
/-- A shadow's sector is that of a later track. -/
theorem shd_num (n k : Nat) : n + k * S = (n / (T * S) * T + (n / S % T + k)) * S + n % S := by
  have h := parts T S n
  have h2 : (n / (T * S) * T + (n / S % T + k)) * S = (n / (T * S) * T + n / S % T) * S + k * S := by rw [← Nat.add_assoc, Nat.add_mul]
  rw [h2]; omega
end Geo
end Go.Proofs.Ytbaclcpnnompnaa
