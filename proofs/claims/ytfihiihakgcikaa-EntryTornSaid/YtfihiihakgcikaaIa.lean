/- Encodings of numbers: groups of seven bits, the lowest first; read back; integers. -/
namespace Go.Proofs.Ytfihiihakgcikaa
namespace Cod
/-- The encoding of a natural number. -/
def enc (n : Nat) : List Nat := if h : n < 128 then [n] else (n % 128 + 128) :: enc (n / 128)
termination_by n
decreasing_by omega
theorem enc_small {n : Nat} (h : n < 128) : enc n = [n] := by rw [enc, dif_pos h]
theorem enc_big {n : Nat} (h : ¬ n < 128) : enc n = (n % 128 + 128) :: enc (n / 128) := by rw [enc, dif_neg h]
theorem enc_lt : ∀ (n : Nat) {x : Nat}, x ∈ enc n → x < 256 := by
  intro n
  induction n using Nat.strongRecOn with
  | _ n ih =>
    intro x hx
    by_cases h : n < 128
    · rw [enc_small h] at hx; simp at hx; omega
    · rw [enc_big h] at hx
      rcases List.mem_cons.1 hx with rfl | h2
      · omega
      · exact ih (n / 128) (by omega) h2
theorem enc_len_pos (n : Nat) : 0 < (enc n).length := by
  by_cases h : n < 128
  · rw [enc_small h]; exact Nat.one_pos
  · rw [enc_big h]; exact Nat.succ_pos _
/-- Reading at group i: the number from this group on, and what is left. -/
def dec : Nat → List Nat → Option (Nat × List Nat)
  | _, [] => none
  | i, c :: t => if 10 ≤ i then none else if i = 9 ∧ 1 < c then none else if c < 128 then (if 0 < i ∧ c = 0 then none else some (c, t)) else match dec (i + 1) t with
    | none => none
    | some (m, r) => some (c % 128 + 128 * m, r)
theorem enc_len {k n : Nat} (hk : 0 < k) (h : n < 128 ^ k) : (enc n).length ≤ k := by
  induction k generalizing n with
  | zero => omega
  | succ k ih =>
    by_cases h1 : n < 128
    · rw [enc_small h1]; simp
    · rw [enc_big h1]
      rcases Nat.eq_zero_or_pos k with h0 | h0
      · subst h0; simp at h; omega
      · have := ih (n := n / 128) h0 (by rw [Nat.pow_succ, Nat.mul_comm] at h; exact Nat.div_lt_of_lt_mul h)
        simpa using this
theorem enc_len10 {n : Nat} (h : n < 2 ^ 64) : (enc n).length ≤ 10 := enc_len (by decide) (Nat.lt_of_lt_of_le h (by decide))
theorem dec_enc : ∀ (n i : Nat) (r : List Nat), i ≤ 9 → n < 2 ^ (64 - 7 * i) → (i = 0 ∨ 0 < n) → dec i (enc n ++ r) = some (n, r) := by
  intro n
  induction n using Nat.strongRecOn with
  | _ n ih =>
    intro i r hi hn h0
    by_cases h : n < 128
    · rw [enc_small h]
      show dec i (n :: r) = _
      unfold dec
      rw [if_neg (by omega), if_neg, if_pos h, if_neg (by omega)]
      rintro ⟨rfl, h2⟩
      omega
    · rw [enc_big h]
      show dec i ((n % 128 + 128) :: (enc (n / 128) ++ r)) = _
      have i9 : i < 9 := by
        rcases Nat.lt_or_ge i 9 with h9 | h9
        · exact h9
        · obtain rfl : i = 9 := by omega
          omega
      have hp : n / 128 < 2 ^ (64 - 7 * (i + 1)) := by
        rw [show 64 - 7 * i = 7 + (64 - 7 * (i + 1)) by omega, Nat.pow_add] at hn
        exact Nat.div_lt_of_lt_mul hn
      unfold dec
      rw [if_neg (by omega), if_neg (by omega), if_neg (by omega), ih (n / 128) (by omega) (i + 1) r (by omega) hp (Or.inr (by omega))]
      simp only [Option.some.injEq, Prod.mk.injEq, and_true]
      omega
theorem dec_spec : ∀ (l : List Nat) (i n : Nat) (r : List Nat), (∀ x ∈ l, x < 256) → dec i l = some (n, r) → l = enc n ++ r ∧ i ≤ 9 ∧ n < 2 ^ (64 - 7 * i) ∧ (i = 0 ∨ 0 < n) := by
  intro l
  induction l with
  | nil => intro i n r _ h; simp [dec] at h
  | cons c t ih =>
    intro i n r hb h
    unfold dec at h
    by_cases h10 : 10 ≤ i
    · rw [if_pos h10] at h; cases h
    rw [if_neg h10] at h
    by_cases h9 : i = 9 ∧ 1 < c
    · rw [if_pos h9] at h; cases h
    rw [if_neg h9] at h
    by_cases hc : c < 128
    · rw [if_pos hc] at h
      by_cases h0 : 0 < i ∧ c = 0
      · rw [if_pos h0] at h; cases h
      rw [if_neg h0] at h
      simp only [Option.some.injEq, Prod.mk.injEq] at h
      obtain ⟨rfl, rfl⟩ := h
      refine ⟨by rw [enc_small hc]; rfl, by omega, ?_, by omega⟩
      rcases Nat.lt_or_ge i 9 with hi | hi
      · exact Nat.lt_of_lt_of_le hc (Nat.le_trans (show 128 ≤ 2 ^ 7 by decide) (Nat.pow_le_pow_right (by decide) (by omega)))
      · obtain rfl : i = 9 := by omega
        have : c ≤ 1 := by omega
        exact Nat.lt_of_le_of_lt this (by decide)
    · rw [if_neg hc] at h
      cases hd : dec (i + 1) t with
      | none => rw [hd] at h; cases h
      | some p =>
        obtain ⟨m, q⟩ := p
        rw [hd] at h
        simp only [Option.some.injEq, Prod.mk.injEq] at h
        obtain ⟨rfl, rfl⟩ := h
        obtain ⟨e, hi, hm, h1⟩ := ih (i + 1) m q (fun x hx => hb x (List.mem_cons_of_mem _ hx)) hd
        have c256 := hb c List.mem_cons_self
        have m0 : 0 < m := by omega
        refine ⟨?_, by omega, ?_, by omega⟩
        · rw [enc_big (by omega), show (c % 128 + 128 * m) % 128 + 128 = c by omega, show (c % 128 + 128 * m) / 128 = m by omega, e]; rfl
        · rw [show 64 - 7 * i = 7 + (64 - 7 * (i + 1)) by omega, Nat.pow_add]
          have : m + 1 ≤ 2 ^ (64 - 7 * (i + 1)) := hm
          have h2 := Nat.mul_le_mul_left 128 this
          omega
theorem dec_enc0 {n : Nat} (h : n < 2 ^ 64) (r : List Nat) : dec 0 (enc n ++ r) = some (n, r) := dec_enc n 0 r (by decide) h (Or.inl rfl)
theorem dec_spec0 {l r : List Nat} {n : Nat} (hb : ∀ x ∈ l, x < 256) (h : dec 0 l = some (n, r)) : l = enc n ++ r ∧ n < 2 ^ 64 := by
  obtain ⟨h1, _, h2, _⟩ := dec_spec l 0 n r hb h
  exact ⟨h1, h2⟩
/-- No encoding is the beginning of another one. -/
theorem enc_prefix {m n : Nat} (hm : m < 2 ^ 64) (hn : n < 2 ^ 64) : (enc m).take (min (enc m).length (enc n).length) = (enc n).take (min (enc m).length (enc n).length) ↔ m = n := by
  constructor
  · intro h
    have key : ∀ {a b : Nat}, a < 2 ^ 64 → b < 2 ^ 64 → (enc a).length ≤ (enc b).length → enc a = (enc b).take (enc a).length → a = b := by
      intro a b ha hb hl he
      have h1 : enc a ++ (enc b).drop (enc a).length = enc b := by
        have h1 : (enc b).take (enc a).length ++ (enc b).drop (enc a).length = enc b := List.take_append_drop _ _
        rw [← he] at h1; exact h1
      have h2 := dec_enc0 ha ((enc b).drop (enc a).length)
      have h3 := dec_enc0 hb []
      rw [h1] at h2
      rw [List.append_nil, h2] at h3
      simp only [Option.some.injEq, Prod.mk.injEq] at h3
      exact h3.1
    rcases Nat.le_total (enc m).length (enc n).length with hl | hl
    · rw [Nat.min_eq_left hl, List.take_length] at h; exact key hm hn hl h
    · rw [Nat.min_eq_right hl, List.take_length] at h; exact (key hn hm hl h.symm).symm
  · rintro rfl; rfl
/-- Integers as natural numbers. -/
def zig (n : Int) : Nat := if 0 ≤ n then (2 * n).toNat else (-2 * n - 1).toNat
def zag (m : Nat) : Int := if m % 2 = 0 then (m / 2 : Nat) else -((m / 2 : Nat) : Int) - 1
theorem zag_zig (n : Int) : zag (zig n) = n := by
  unfold zig zag
  split <;> split <;> omega
theorem zig_zag (m : Nat) : zig (zag m) = m := by
  unfold zig zag
  split <;> split <;> omega
theorem zig_lt {n : Int} (h1 : -(2 ^ 63) ≤ n) (h2 : n < 2 ^ 63) : zig n < 2 ^ 64 := by
  unfold zig; split <;> omega
theorem zag_in {m : Nat} (h : m < 2 ^ 64) : -(2 ^ 63) ≤ zag m ∧ zag m < 2 ^ 63 := by
  unfold zag; split <;> omega
theorem zig_inj {a b : Int} (h : zig a = zig b) : a = b := by rw [← zag_zig a, ← zag_zig b, h]
end Cod
end Go.Proofs.Ytfihiihakgcikaa
