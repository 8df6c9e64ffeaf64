/- The field of 256 elements, on natural numbers: plain mathematics. -/
namespace Go.Proofs.Ytfihiihakgcikaa.Gf

/-- The product of `a` and x. -/
def tx (a : Nat) : Nat := ((2 * a) % 256) ^^^ (29 * (a / 128))

/-- The loop of the product: at most `f` rounds. -/
def mulF : Nat → Nat → Nat → Nat → Nat
  | 0, _, _, s => s
  | f + 1, a, b, s => mulF f (tx a) (b / 2) (s ^^^ (a * (b % 2)))

def mul (a b : Nat) : Nat := mulF 8 a b 0

/-- The product by whole polynomials, and the remainder. -/
def clF : Nat → Nat → Nat → Nat → Nat
  | 0, _, _, p => p
  | f + 1, a, b, p => clF f (2 * a) (b / 2) (p ^^^ (a * (b % 2)))
def redF : Nat → Nat → Nat
  | 0, p => p
  | f + 1, p => redF f (p ^^^ (285 * 2 ^ f) * (p / 2 ^ (f + 8) % 2))
def rmul (a b : Nat) : Nat := redF 7 (clF 8 a b 0)

theorem two_xor (a b : Nat) : 2 * (a ^^^ b) = (2 * a) ^^^ (2 * b) := by
  have := Nat.shiftLeft_xor_distrib (i := 1) (a := a) (b := b)
  simpa [Nat.shiftLeft_eq, Nat.mul_comm] using this
theorem div_xor (a b k : Nat) : (a ^^^ b) / 2 ^ k = (a / 2 ^ k) ^^^ (b / 2 ^ k) := by
  have := Nat.shiftRight_xor_distrib (i := k) (a := a) (b := b)
  simpa [Nat.shiftRight_eq_div_pow] using this
theorem mod_xor (a b k : Nat) : (a ^^^ b) % 2 ^ k = (a % 2 ^ k) ^^^ (b % 2 ^ k) := Nat.xor_mod_two_pow
theorem bit_mul (c x y : Nat) (hx : x < 2) (hy : y < 2) : c * (x ^^^ y) = (c * x) ^^^ (c * y) := by
  have : x = 0 ∨ x = 1 := by omega
  have : y = 0 ∨ y = 1 := by omega
  rcases ‹x = 0 ∨ x = 1› with rfl | rfl <;> rcases ‹y = 0 ∨ y = 1› with rfl | rfl <;> simp
theorem mul_bit (a b x : Nat) (hx : x < 2) : (a ^^^ b) * x = (a * x) ^^^ (b * x) := by
  have : x = 0 ∨ x = 1 := by omega
  rcases this with rfl | rfl <;> simp
theorem xor4 (a b c d : Nat) : (a ^^^ b) ^^^ (c ^^^ d) = (a ^^^ c) ^^^ (b ^^^ d) := by
  rw [Nat.xor_assoc, Nat.xor_assoc, ← Nat.xor_assoc b, ← Nat.xor_assoc c, Nat.xor_comm b c]

theorem tx_xor (a b : Nat) (ha : a < 256) (hb : b < 256) : tx (a ^^^ b) = tx a ^^^ tx b := by
  unfold tx
  have h1 := mod_xor (2 * a) (2 * b) 8
  have h2 := div_xor a b 7
  simp only [show (2:Nat) ^ 8 = 256 from rfl, show (2:Nat) ^ 7 = 128 from rfl] at h1 h2
  rw [two_xor, h1, h2, bit_mul 29 _ _ (by omega) (by omega), xor4]
theorem tx_lt (a : Nat) (ha : a < 256) : tx a < 256 := by
  unfold tx
  have : 29 * (a / 128) < 2 ^ 8 := by omega
  exact Nat.xor_lt_two_pow (n := 8) (by omega) this
theorem xor_lt (a b : Nat) (ha : a < 256) (hb : b < 256) : a ^^^ b < 256 := Nat.xor_lt_two_pow (n := 8) ha hb

theorem mulF_s (f : Nat) : ∀ a b s t : Nat, mulF f a b (s ^^^ t) = s ^^^ mulF f a b t := by
  induction f with
  | zero => intros; rfl
  | succ f ih => intro a b s t; simp only [mulF]; rw [Nat.xor_assoc, ih]
theorem mulF_zero_b (f : Nat) : ∀ a s : Nat, mulF f a 0 s = s := by
  induction f with
  | zero => intros; rfl
  | succ f ih => intro a s; simp only [mulF]; rw [ih]; simp
theorem mulF_left (f : Nat) : ∀ a a' b s s' : Nat, a < 256 → a' < 256 → mulF f (a ^^^ a') b (s ^^^ s') = mulF f a b s ^^^ mulF f a' b s' := by
  induction f with
  | zero => intros; rfl
  | succ f ih =>
    intro a a' b s s' ha ha'
    simp only [mulF]
    rw [tx_xor a a' ha ha', mul_bit _ _ _ (by omega), xor4, ih _ _ _ _ _ (tx_lt a ha) (tx_lt a' ha')]
theorem mulF_right (f : Nat) : ∀ a b b' s s' : Nat, mulF f a (b ^^^ b') (s ^^^ s') = mulF f a b s ^^^ mulF f a b' s' := by
  induction f with
  | zero => intros; rfl
  | succ f ih =>
    intro a b b' s s'
    simp only [mulF]
    have h1 := div_xor b b' 1
    have h2 := mod_xor b b' 1
    simp only [Nat.pow_one] at h1 h2
    rw [h1, h2, bit_mul _ _ _ (by omega) (by omega), xor4, ih]
theorem mulF_lt (f : Nat) : ∀ a b s : Nat, a < 256 → s < 256 → mulF f a b s < 256 := by
  induction f with
  | zero => intro a b s _ hs; exact hs
  | succ f ih =>
    intro a b s ha hs
    simp only [mulF]
    refine ih _ _ _ (tx_lt a ha) (xor_lt _ _ hs ?_)
    have : b % 2 = 0 ∨ b % 2 = 1 := by omega
    rcases this with h | h <;> rw [h] <;> omega

theorem mul_xor_left (a a' b : Nat) (ha : a < 256) (ha' : a' < 256) : mul (a ^^^ a') b = mul a b ^^^ mul a' b := by
  have := mulF_left 8 a a' b 0 0 ha ha'; simpa [mul] using this
theorem mul_xor_right (a b b' : Nat) : mul a (b ^^^ b') = mul a b ^^^ mul a b' := by
  have := mulF_right 8 a b b' 0 0; simpa [mul] using this
theorem mul_lt (a b : Nat) (ha : a < 256) : mul a b < 256 := mulF_lt 8 a b 0 ha (by decide)

/-- What is linear on bytes and agrees at the powers of 2 agrees. -/
theorem split_bit (n a : Nat) (ha : a < 2 ^ (n + 1)) : a = (a % 2 ^ n) ^^^ (2 ^ n * (a / 2 ^ n)) := by
  have h1 : a / 2 ^ n < 2 := Nat.div_lt_of_lt_mul (by rw [Nat.pow_succ] at ha; omega)
  have h2 : a % 2 ^ n < 2 ^ n := Nat.mod_lt _ (Nat.two_pow_pos n)
  have e : (a % 2 ^ n) ^^^ (2 ^ n * (a / 2 ^ n)) = 2 ^ n * (a / 2 ^ n) + a % 2 ^ n := by
    rw [Nat.xor_comm, Nat.two_pow_add_eq_or_of_lt h2]
    apply Nat.eq_of_testBit_eq
    intro i
    rw [Nat.testBit_xor, Nat.testBit_or, Nat.testBit_two_pow_mul, Nat.testBit_mod_two_pow]
    by_cases hi : i < n
    · have hn : ¬ n ≤ i := by omega
      simp [hi, hn]
    · simp [hi]
  rw [e]; exact (Nat.div_add_mod a (2 ^ n)).symm
theorem linear_ext (f g : Nat → Nat) (hf : ∀ a b, a < 256 → b < 256 → f (a ^^^ b) = f a ^^^ f b) (hg : ∀ a b, a < 256 → b < 256 → g (a ^^^ b) = g a ^^^ g b)
    (h : ∀ i, i < 8 → f (2 ^ i) = g (2 ^ i)) : ∀ a, a < 256 → f a = g a := by
  have z : ∀ f : Nat → Nat, (∀ a b, a < 256 → b < 256 → f (a ^^^ b) = f a ^^^ f b) → f 0 = 0 := fun f hf => by
    have := hf 0 0 (by decide) (by decide); simpa using this
  have key : ∀ n, n ≤ 8 → ∀ a, a < 2 ^ n → f a = g a := by
    intro n
    induction n with
    | zero => intro _ a ha; obtain rfl : a = 0 := by simpa using ha
              rw [z f hf, z g hg]
    | succ n ih =>
      intro hn a ha
      have h8 : (2 : Nat) ^ (n + 1) ≤ 2 ^ 8 := Nat.pow_le_pow_right (by decide) hn
      have h8' : (2 : Nat) ^ n ≤ 2 ^ 7 := Nat.pow_le_pow_right (by decide) (by omega)
      have hp : (2 : Nat) ^ n < 2 ^ (n + 1) := Nat.pow_lt_pow_right (by decide) (by omega)
      have h2 : a % 2 ^ n < 2 ^ n := Nat.mod_lt _ (Nat.two_pow_pos n)
      have h1 : a / 2 ^ n < 2 := Nat.div_lt_of_lt_mul (by rw [Nat.pow_succ] at ha; omega)
      rw [split_bit n a ha]
      have h01 : a / 2 ^ n = 0 ∨ a / 2 ^ n = 1 := by generalize a / 2 ^ n = q at h1; omega
      have hb : 2 ^ n * (a / 2 ^ n) < 256 := by
        rcases h01 with h | h <;> rw [h] <;> omega
      rw [hf _ _ (by omega) hb, hg _ _ (by omega) hb, ih (by omega) _ h2]
      rcases h01 with h' | h' <;> rw [h']
      · simp [z f hf, z g hg]
      · rw [Nat.mul_one, h n (by omega)]
  exact fun a ha => key 8 (Nat.le_refl _) a ha

theorem clF_right (f : Nat) : ∀ a b b' s s' : Nat, clF f a (b ^^^ b') (s ^^^ s') = clF f a b s ^^^ clF f a b' s' := by
  induction f with
  | zero => intros; rfl
  | succ f ih =>
    intro a b b' s s'
    simp only [clF]
    have h1 := div_xor b b' 1
    have h2 := mod_xor b b' 1
    simp only [Nat.pow_one] at h1 h2
    rw [h1, h2, bit_mul _ _ _ (by omega) (by omega), xor4, ih]
theorem clF_left (f : Nat) : ∀ a a' b s s' : Nat, clF f (a ^^^ a') b (s ^^^ s') = clF f a b s ^^^ clF f a' b s' := by
  induction f with
  | zero => intros; rfl
  | succ f ih =>
    intro a a' b s s'
    simp only [clF]
    rw [two_xor, mul_bit _ _ _ (by omega), xor4, ih]
theorem redF_xor (f : Nat) : ∀ p q : Nat, redF f (p ^^^ q) = redF f p ^^^ redF f q := by
  induction f with
  | zero => intros; rfl
  | succ f ih =>
    intro p q
    simp only [redF]
    have h1 := div_xor p q (f + 8)
    have h2 := mod_xor (p / 2 ^ (f + 8)) (q / 2 ^ (f + 8)) 1
    simp only [Nat.pow_one] at h2
    rw [h1, h2, bit_mul _ _ _ (by omega) (by omega), xor4, ih]
theorem rmul_xor_left (a a' b : Nat) : rmul (a ^^^ a') b = rmul a b ^^^ rmul a' b := by
  have := clF_left 8 a a' b 0 0; simp only [Nat.xor_self] at this; rw [rmul, this, redF_xor]; rfl
theorem rmul_xor_right (a b b' : Nat) : rmul a (b ^^^ b') = rmul a b ^^^ rmul a b' := by
  have := clF_right 8 a b b' 0 0; simp only [Nat.xor_self] at this; rw [rmul, this, redF_xor]; rfl

theorem rmul_basis : ∀ i, i < 8 → ∀ j, j < 8 → mul (2 ^ i) (2 ^ j) = rmul (2 ^ i) (2 ^ j) := by decide +kernel
theorem pow_byte (i : Nat) (h : i < 8) : 2 ^ i < 256 := Nat.pow_lt_pow_right (m := i) (n := 8) (a := 2) (by decide) h
theorem mul_eq_rmul (a b : Nat) (ha : a < 256) (hb : b < 256) : mul a b = rmul a b := by
  refine linear_ext (fun a => mul a b) (fun a => rmul a b) (fun x y hx hy => mul_xor_left x y b hx hy) (fun x y _ _ => rmul_xor_left x y b) (fun i hi => ?_) a ha
  exact linear_ext (fun b => mul (2 ^ i) b) (fun b => rmul (2 ^ i) b) (fun x y _ _ => mul_xor_right _ x y) (fun x y _ _ => rmul_xor_right _ x y) (fun j hj => rmul_basis i hi j hj) b hb
theorem comm_basis : ∀ i, i < 8 → ∀ j, j < 8 → mul (2 ^ i) (2 ^ j) = mul (2 ^ j) (2 ^ i) := by decide +kernel
theorem mul_comm (a b : Nat) (ha : a < 256) (hb : b < 256) : mul a b = mul b a := by
  refine linear_ext (fun a => mul a b) (fun a => mul b a) (fun x y hx hy => mul_xor_left x y b hx hy) (fun x y _ _ => mul_xor_right b x y) (fun i hi => ?_) a ha
  exact linear_ext (fun b => mul (2 ^ i) b) (fun b => mul b (2 ^ i)) (fun x y _ _ => mul_xor_right _ x y) (fun x y hx hy => mul_xor_left x y _ hx hy) (fun j hj => comm_basis i hi j hj) b hb
theorem assoc_basis : ∀ i, i < 8 → ∀ j, j < 8 → ∀ k, k < 8 → mul (mul (2 ^ i) (2 ^ j)) (2 ^ k) = mul (2 ^ i) (mul (2 ^ j) (2 ^ k)) := by decide +kernel
theorem mul_assoc (a b c : Nat) (ha : a < 256) (hb : b < 256) (hc : c < 256) : mul (mul a b) c = mul a (mul b c) := by
  refine linear_ext (fun a => mul (mul a b) c) (fun a => mul a (mul b c)) (fun x y hx hy => by rw [mul_xor_left x y b hx hy, mul_xor_left _ _ _ (mul_lt _ _ hx) (mul_lt _ _ hy)]) (fun x y hx hy => mul_xor_left x y _ hx hy) (fun i hi => ?_) a ha
  have hi' := pow_byte i hi
  refine linear_ext (fun b => mul (mul (2 ^ i) b) c) (fun b => mul (2 ^ i) (mul b c)) (fun x y hx hy => by rw [mul_xor_right, mul_xor_left _ _ _ (mul_lt _ _ hi') (mul_lt _ _ hi')]) (fun x y hx hy => by rw [mul_xor_left _ _ _ hx hy, mul_xor_right]) (fun j hj => ?_) b hb
  exact linear_ext (fun c => mul (mul (2 ^ i) (2 ^ j)) c) (fun c => mul (2 ^ i) (mul (2 ^ j) c)) (fun x y hx hy => by rw [mul_xor_right]) (fun x y hx hy => by rw [mul_xor_right, mul_xor_right]) (fun k hk => assoc_basis i hi j hj k hk) c hc
theorem mul_zero (a : Nat) : mul a 0 = 0 := mulF_zero_b 8 a 0
theorem zero_mul (b : Nat) : mul 0 b = 0 := by
  have := mul_xor_left 0 0 b (by decide) (by decide); simpa using this
theorem one_basis : ∀ i, i < 8 → mul (2 ^ i) 1 = 2 ^ i := by decide +kernel
theorem mul_one (a : Nat) (ha : a < 256) : mul a 1 = a :=
  linear_ext (fun a => mul a 1) (fun a => a) (fun x y hx hy => mul_xor_left x y 1 hx hy) (fun _ _ _ _ => rfl) one_basis a ha
theorem one_mul (a : Nat) (ha : a < 256) : mul 1 a = a := by rw [mul_comm _ _ (by decide) ha, mul_one a ha]

/-- Powers. -/
def gpow (a : Nat) : Nat → Nat
  | 0 => 1
  | n + 1 => mul (gpow a n) a
theorem gpow_lt (a n : Nat) (_ha : a < 256) : gpow a n < 256 := by
  induction n with
  | zero => exact Nat.lt_of_sub_eq_succ (rfl : 256 - 1 = 255)
  | succ n ih => exact mul_lt _ _ ih
theorem gpow_add (a n m : Nat) (ha : a < 256) : gpow a (n + m) = mul (gpow a n) (gpow a m) := by
  induction m with
  | zero => exact (mul_one _ (gpow_lt a n ha)).symm
  | succ m ih =>
    show mul (gpow a (n + m)) a = mul (gpow a n) (mul (gpow a m) a)
    rw [ih, mul_assoc _ _ _ (gpow_lt a n ha) (gpow_lt a m ha) ha]
theorem gpow_one (a : Nat) (ha : a < 256) : gpow a 1 = a := one_mul a ha
theorem gpow_two (a : Nat) (ha : a < 256) : gpow a 2 = mul a a := by show mul (gpow a 1) a = _; rw [gpow_one a ha]
theorem gpow_mul (a n m : Nat) (ha : a < 256) : gpow a (n * m) = gpow (gpow a n) m := by
  induction m with
  | zero => rfl
  | succ m ih => rw [Nat.mul_succ, gpow_add _ _ _ ha, ih]; rfl
theorem gpow_prod (a b n : Nat) (ha : a < 256) (hb : b < 256) : gpow (mul a b) n = mul (gpow a n) (gpow b n) := by
  induction n with
  | zero => exact (by decide : 1 = mul 1 1)
  | succ n ih =>
    have h1 := gpow_lt a n ha
    have h2 := gpow_lt b n hb
    show mul (gpow (mul a b) n) (mul a b) = mul (mul (gpow a n) a) (mul (gpow b n) b)
    rw [ih, mul_assoc _ _ _ h1 h2 (mul_lt _ _ ha), ← mul_assoc (gpow b n) a b h2 ha hb, mul_comm (gpow b n) a h2 ha, mul_assoc a (gpow b n) b ha h2 hb,
      ← mul_assoc (gpow a n) a _ h1 ha (mul_lt _ _ h2)]
theorem gpow_zero_base (n : Nat) : gpow 0 (n + 1) = 0 := mul_zero _

/-- The loop of powers. -/
def powF : Nat → Nat → Nat → Nat → Nat
  | 0, _, _, p => p
  | f + 1, a, n, p => powF f (mul a a) (n / 2) (if n % 2 = 1 then mul p a else p)
theorem powF_eq (f : Nat) : ∀ a n p : Nat, a < 256 → p < 256 → n < 2 ^ f → powF f a n p = mul p (gpow a n) := by
  induction f with
  | zero => intro a n p ha hp hn; obtain rfl : n = 0 := by simpa using hn
            exact (mul_one p hp).symm
  | succ f ih =>
    intro a n p ha hp hn
    have hm := mul_lt a a ha
    have h2 : gpow (mul a a) (n / 2) = gpow a (2 * (n / 2)) := by rw [gpow_mul _ _ _ ha, gpow_two a ha]
    have hn2 : n / 2 < 2 ^ f := by rw [Nat.pow_succ] at hn; omega
    simp only [powF]
    by_cases h : n % 2 = 1
    · rw [if_pos h, ih _ _ _ hm (mul_lt _ _ hp) hn2, h2, mul_assoc _ _ _ hp ha (gpow_lt _ _ ha)]
      have e : n = 1 + 2 * (n / 2) := by omega
      have := gpow_add a 1 (2 * (n / 2)) ha
      rw [← e, gpow_one a ha] at this
      rw [this]
    · rw [if_neg h, ih _ _ _ hm hp hn2, h2]
      have e : 2 * (n / 2) = n := by omega
      rw [e]

theorem gpow_255_0 : (List.range 255).all (fun i => powF 8 (i + 1) 255 1 == 1) = true := by decide +kernel
theorem gpow_255 (a : Nat) (h0 : a ≠ 0) (ha : a < 256) : gpow a 255 = 1 := by
  have := List.all_eq_true.1 gpow_255_0 (a - 1) (List.mem_range.2 (by omega))
  have e : a - 1 + 1 = a := by omega
  rw [e] at this
  have h := eq_of_beq this
  rw [powF_eq 8 a 255 1 ha (by decide) (by decide), one_mul _ (gpow_lt _ _ ha)] at h
  exact h
theorem gpow_mod (a n : Nat) (h0 : a ≠ 0) (ha : a < 256) : gpow a (n % 255) = gpow a n := by
  have h := gpow_add a (255 * (n / 255)) (n % 255) ha
  have h1 : ∀ m, gpow 1 m = 1 := by
    intro m
    induction m with
    | zero => rfl
    | succ m ih => show mul (gpow 1 m) 1 = 1; rw [ih]; decide
  rw [Nat.div_add_mod, gpow_mul a 255 _ ha, gpow_255 a h0 ha, h1, one_mul _ (gpow_lt _ _ ha)] at h
  exact h.symm
theorem mul_eq_zero (a b : Nat) (ha : a < 256) (hb : b < 256) (h0 : a ≠ 0) (h : mul a b = 0) : b = 0 := by
  have h1 := gpow_add a 254 1 ha
  rw [gpow_255 a h0 ha, gpow_one a ha] at h1
  have h2 := mul_assoc (gpow a 254) a b (gpow_lt _ _ ha) ha hb
  rw [← h1, one_mul b hb, h, mul_zero] at h2
  exact h2
theorem gpow_ne (a n : Nat) (ha : a < 256) (h0 : a ≠ 0) : gpow a n ≠ 0 := by
  induction n with
  | zero => exact Nat.one_ne_zero
  | succ n ih => exact fun h => h0 (mul_eq_zero _ _ (gpow_lt _ _ ha) ha ih h)
/-- The inverse. -/
def inv (a : Nat) : Nat := gpow a 254
theorem mul_inv (a : Nat) (ha : a < 256) (h0 : a ≠ 0) : mul a (inv a) = 1 := by
  have h1 := gpow_add a 1 254 ha
  rw [gpow_255 a h0 ha, gpow_one a ha] at h1
  exact h1.symm
theorem inv_unique (a b : Nat) (ha : a < 256) (hb : b < 256) (h0 : a ≠ 0) (h : mul a b = 1) : b = inv a := by
  have hi : inv a < 256 := gpow_lt _ _ ha
  have h1 := mul_assoc (inv a) a b hi ha hb
  rw [mul_comm (inv a) a hi ha, mul_inv a ha h0, one_mul b hb, h, mul_one _ hi] at h1
  exact h1

/-- Logarithms. -/
def stepsF : Nat → Nat → List Nat
  | 0, _ => []
  | f + 1, p => p :: stepsF f (tx p)
theorem log_0 : (List.range 255).all (fun i => (stepsF 255 1).contains (i + 1)) = true := by decide +kernel
theorem two_tx_basis : ∀ i, i < 8 → mul (2 ^ i) 2 = tx (2 ^ i) := by decide +kernel
theorem mul_two (a : Nat) (ha : a < 256) : mul a 2 = tx a :=
  linear_ext (fun a => mul a 2) tx (fun x y hx hy => mul_xor_left x y 2 hx hy) tx_xor two_tx_basis a ha
theorem mem_steps (f : Nat) : ∀ n x : Nat, x ∈ stepsF f (gpow 2 n) → ∃ k, n ≤ k ∧ k < n + f ∧ gpow 2 k = x := by
  induction f with
  | zero => intro n x h; cases h
  | succ f ih =>
    intro n x h
    rcases List.mem_cons.1 h with h | h
    · exact ⟨n, Nat.le_refl _, by omega, h.symm⟩
    · have e : tx (gpow 2 n) = gpow 2 (n + 1) := (mul_two _ (gpow_lt _ _ (by decide))).symm
      rw [e] at h
      obtain ⟨k, h1, h2, h3⟩ := ih (n + 1) x h
      exact ⟨k, by omega, by omega, h3⟩
theorem has_log (a : Nat) (h0 : a ≠ 0) (ha : a < 256) : ∃ k, k < 255 ∧ gpow 2 k = a := by
  have := List.all_eq_true.1 log_0 (a - 1) (List.mem_range.2 (by omega))
  have e : a - 1 + 1 = a := by omega
  simp only [e] at this
  have h := List.contains_iff_mem.1 this
  obtain ⟨k, _, h2, h3⟩ := mem_steps 255 0 a h
  exact ⟨k, by omega, h3⟩

/-- The powers of 2 below 255 differ. -/
theorem one_at (f : Nat) : ∀ n k : Nat, (stepsF f (gpow 2 n)).contains 1 = false → n ≤ k → k < n + f → gpow 2 k ≠ 1 := by
  induction f with
  | zero => intro n k _ h1 h2; omega
  | succ f ih =>
    intro n k h h1 h2
    have e : tx (gpow 2 n) = gpow 2 (n + 1) := (mul_two _ (gpow_lt _ _ (by decide))).symm
    simp only [stepsF, List.contains_cons, Bool.or_eq_false_iff] at h
    rw [e] at h
    rcases Nat.lt_or_ge n k with hl | hg
    · exact ih (n + 1) k h.2 (by omega) (by omega)
    · obtain rfl : n = k := by omega
      intro e1
      rw [e1] at h
      exact absurd h.1 (by decide)
theorem one_0 : (stepsF 254 2).contains 1 = false := by decide +kernel
theorem gpow_two_ne (k : Nat) (h1 : 1 ≤ k) (h2 : k < 255) : gpow 2 k ≠ 1 := one_at 254 1 k one_0 h1 (by omega)
/-- The powers of 2 with exponents below 255 are all different. -/
theorem log_inj (i j : Nat) (hi : i < 255) (hj : j < 255) (h : gpow 2 i = gpow 2 j) : i = j := by
  have key : ∀ i j, i < 255 → j < 255 → i < j → gpow 2 i ≠ gpow 2 j := by
    intro i j hi hj hlt h
    have h1 := gpow_add 2 i (255 - i) (by decide)
    have h2 := gpow_add 2 j (255 - i) (by decide)
    rw [← h, ← h1, show i + (255 - i) = 255 by omega, gpow_255 2 (by decide) (by decide), show j + (255 - i) = 255 + (j - i) by omega,
      gpow_add 2 255 _ (by decide), gpow_255 2 (by decide) (by decide), one_mul _ (gpow_lt _ _ (by decide))] at h2
    exact gpow_two_ne (j - i) (by omega) (by omega) h2
  rcases Nat.lt_trichotomy i j with hl | he | hg
  · exact absurd h (key i j hi hj hl)
  · exact he
  · exact absurd h.symm (key j i hj hi hg)
end Go.Proofs.Ytfihiihakgcikaa.Gf
