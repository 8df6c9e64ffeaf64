/- Joined: Com Cob Coe. -/
import Derived.Test.YtnnacofjogfkeaaDoorUm
namespace Go.Proofs.YtnnacofjogfkeaaDoor
namespace Co
set_option linter.unusedVariables false
set_option linter.unusedSimpArgs false

def ch : Nat → Nat → Nat
  | _, 0 => 1
  | 0, _ + 1 => 0
  | n + 1, k + 1 => ch n k + ch n (k + 1)
theorem ch_0 (n : Nat) : ch n 0 = 1 := by cases n <;> rfl
theorem ch_big : ∀ {n k : Nat}, n < k → ch n k = 0
  | 0, _ + 1, _ => rfl
  | n + 1, k + 1, h => by rw [ch, ch_big (by omega : n < k), ch_big (by omega : n < k + 1)]
theorem ch_self : ∀ n, ch n n = 1
  | 0 => rfl
  | n + 1 => by rw [ch, ch_self n, ch_big (Nat.lt_succ_self n)]
theorem ch_pos : ∀ {n k : Nat}, k ≤ n → 0 < ch n k
  | n, 0, _ => by rw [ch_0]; exact Nat.one_pos
  | n + 1, k + 1, h => by rw [ch]; have := ch_pos (show k ≤ n by omega); omega
/-- (k + 1) of n + 1 times k + 1. -/
theorem ch_mul : ∀ n k, ch (n + 1) (k + 1) * (k + 1) = (n + 1) * ch n k
  | 0, 0 => rfl
  | 0, k + 1 => by simp [ch]
  | n + 1, 0 => by
    have := ch_mul n 0
    rw [ch_0] at this ⊢
    rw [ch, ch_0]; omega
  | n + 1, k + 1 => by
    have h1 := ch_mul n k
    have h2 := ch_mul n (k + 1)
    rw [ch, Nat.add_mul, h2, Nat.mul_succ, h1]
    rw [show ch (n + 1) (k + 1) = ch n k + ch n (k + 1) from rfl]
    rw [Nat.mul_add (n + 1 + 1), Nat.succ_mul (n + 1), Nat.succ_mul (n + 1)]
    omega
/-- The step that counts: (k + 1) of n times k + 1. -/
theorem ch_step (n k : Nat) : ch n (k + 1) * (k + 1) = ch n k * (n - k) := by
  induction n generalizing k with
  | zero => rw [ch]; simp
  | succ n ih =>
    cases k with
    | zero => rw [ch_mul, ch_0, ch_0]; omega
    | succ k =>
      rcases Nat.lt_or_ge k n with hlt | hge
      · have h1 := ih k
        have h2 := ih (k + 1)
        have h3 : ch (n + 1) (k + 1) = ch n k + ch n (k + 1) := rfl
        have h4 : ch (n + 1) (k + 1 + 1) = ch n (k + 1) + ch n (k + 1 + 1) := rfl
        rw [h3, h4, Nat.add_mul, h2, Nat.add_mul]
        obtain ⟨d, rfl⟩ : ∃ d, n = k + 1 + d := ⟨n - (k + 1), by omega⟩
        rw [show k + 1 + d - (k + 1) = d by omega, show k + 1 + d + 1 - (k + 1) = d + 1 by omega]
        rw [show k + 1 + d - k = d + 1 by omega] at h1
        rw [← h1]
        rw [Nat.mul_succ, Nat.mul_succ (ch (k + 1 + d) (k + 1)) d]
        omega
      · rw [ch_big (show n + 1 < k + 1 + 1 by omega), show n + 1 - (k + 1) = 0 by omega]; simp
theorem ch_sym : ∀ a b, ch (a + b) a = ch (a + b) b
  | 0, b => by rw [ch_0, Nat.zero_add, ch_self]
  | a + 1, 0 => by rw [Nat.add_zero, ch_self, ch_0]
  | a + 1, b + 1 => by
    have h1 := ch_sym a (b + 1)
    have h2 := ch_sym (a + 1) b
    rw [show a + (b + 1) = a + b + 1 by omega] at h1
    rw [show a + 1 + b = a + b + 1 by omega] at h2
    rw [show a + 1 + (b + 1) = (a + b + 1) + 1 by omega]
    have h3 : ch (a + b + 1 + 1) (a + 1) = ch (a + b + 1) a + ch (a + b + 1) (a + 1) := rfl
    have h4 : ch (a + b + 1 + 1) (b + 1) = ch (a + b + 1) b + ch (a + b + 1) (b + 1) := rfl
    rw [h3, h4, h1, h2, Nat.add_comm]
/-- k < n sets of k numbers are at least n. -/
theorem ch_ge : ∀ n k, 1 ≤ k → k < n → n ≤ ch n k
  | n + 1, k + 1, _, h => by
    rw [ch]
    rcases Nat.eq_zero_or_pos k with rfl | hk
    · rw [ch_0]
      show n + 1 ≤ 1 + ch n 1
      rcases Nat.lt_or_ge 1 n with h1 | h1
      · have := ch_ge n 1 (Nat.le_refl 1) h1; omega
      · have : n = 1 := by omega
        subst this; decide
    · have h1 := ch_ge n k hk (by omega)
      have h2 := ch_pos (show k + 1 ≤ n by omega)
      omega

/-- The sets of k of the numbers from v - d on, below v. -/
def comb (v : Nat) : Nat → Nat → List (List Nat)
  | _, 0 => [[]]
  | 0, _ + 1 => []
  | d + 1, k + 1 => (comb v d k).map (fun t => (v - (d + 1)) :: t) ++ comb v d (k + 1)
theorem comb_0 (v d : Nat) : comb v d 0 = [[]] := by cases d <;> rfl
theorem comb_nil (v : Nat) : ∀ {d k : Nat}, d < k → comb v d k = []
  | 0, _ + 1, _ => rfl
  | d + 1, k + 1, h => by rw [comb, comb_nil v (by omega : d < k), comb_nil v (by omega : d < k + 1)]; rfl
theorem comb_len (v : Nat) : ∀ d k, (comb v d k).length = ch d k
  | d, 0 => by rw [comb_0, ch_0]; rfl
  | 0, k + 1 => rfl
  | d + 1, k + 1 => by rw [comb, ch, List.length_append, List.length_map, comb_len v d k, comb_len v d (k + 1)]
/-- Strictly increasing from x on. -/
def inc : Nat → List Nat → Prop
  | _, [] => True
  | x, a :: t => x ≤ a ∧ inc (a + 1) t
theorem inc_mono : ∀ {l : List Nat} {x y : Nat}, x ≤ y → inc y l → inc x l
  | [], _, _, _, _ => trivial
  | _ :: _, _, _, h, ⟨h1, h2⟩ => ⟨Nat.le_trans h h1, h2⟩
theorem inc_mem : ∀ {l : List Nat} {x a : Nat}, inc x l → a ∈ l → x ≤ a
  | b :: t, x, a, ⟨h1, h2⟩, h => by
    rcases List.mem_cons.1 h with rfl | h
    · exact h1
    · have := inc_mem h2 h; omega
theorem comb_mem (v : Nat) : ∀ {d k : Nat} {l : List Nat}, d ≤ v → l ∈ comb v d k → l.length = k ∧ inc (v - d) l ∧ ∀ a ∈ l, a < v
  | d, 0, l, _, h => by
    rw [comb_0, List.mem_singleton] at h; subst h
    exact ⟨rfl, trivial, by simp⟩
  | 0, k + 1, l, _, h => by simp [comb] at h
  | d + 1, k + 1, l, hd, h => by
    rw [comb, List.mem_append, List.mem_map] at h
    rcases h with ⟨t, ht, rfl⟩ | h
    · obtain ⟨h1, h2, h3⟩ := comb_mem v (by omega) ht
      refine ⟨by simp [h1], ⟨Nat.le_refl _, inc_mono (by omega) h2⟩, fun a ha => ?_⟩
      rcases List.mem_cons.1 ha with rfl | ha
      · omega
      · exact h3 a ha
    · obtain ⟨h1, h2, h3⟩ := comb_mem v (by omega) h
      exact ⟨h1, inc_mono (by omega) h2, h3⟩

/-! ### The next set -/
def nextC (v : Nat) : List Nat → Option (List Nat)
  | [] => none
  | a :: t => match nextC v t with
    | some t' => some (a :: t')
    | none => if a + t.length + 1 < v then some (List.range' (a + 1) (t.length + 1)) else none
theorem comb_head (v : Nat) : ∀ {d k : Nat}, k ≤ d → d ≤ v → (comb v d k).head? = some (List.range' (v - d) k)
  | d, 0, _, _ => by rw [comb_0]; rfl
  | d + 1, k + 1, h, hd => by
    have := comb_head v (show k ≤ d by omega) (by omega)
    rw [comb, List.head?_append, List.head?_map, this]
    simp only [Option.map_some, Option.some_or]
    rw [List.range'_succ, show v - (d + 1) + 1 = v - d by omega]
theorem comb_last (v : Nat) : ∀ {d k : Nat}, k ≤ d → d ≤ v → (comb v d k).getLast? = some (List.range' (v - k) k)
  | d, 0, _, _ => by rw [comb_0]; rfl
  | d + 1, k + 1, h, hd => by
    rw [comb, List.getLast?_append]
    rcases Nat.lt_or_ge d (k + 1) with hlt | hge
    · rw [comb_nil v hlt, List.getLast?_nil, Option.none_or, List.getLast?_map, comb_last v (show k ≤ d by omega) (by omega)]
      simp only [Option.map_some]
      rw [List.range'_succ, show v - (d + 1) = v - (k + 1) by omega, show v - (k + 1) + 1 = v - k by omega]
    · rw [comb_last v hge (by omega)]; rfl
theorem next_last (v : Nat) : ∀ {k : Nat}, k ≤ v → nextC v (List.range' (v - k) k) = none
  | 0, _ => rfl
  | k + 1, h => by
    have := next_last v (show k ≤ v by omega)
    rw [List.range'_succ, nextC, show v - (k + 1) + 1 = v - k by omega, this, if_neg (by rw [List.length_range']; omega)]
def linked (f : List Nat → Option (List Nat)) : List (List Nat) → Prop
  | a :: b :: t => f a = some b ∧ linked f (b :: t)
  | _ => True
theorem linked_append {f : List Nat → Option (List Nat)} : ∀ {l m : List (List Nat)}, linked f l → linked f m → (∀ a b, l.getLast? = some a → m.head? = some b → f a = some b) → linked f (l ++ m)
  | [], m, _, hm, _ => hm
  | [a], [], _, _, _ => trivial
  | [a], b :: m, _, hm, hj => ⟨hj a b rfl rfl, hm⟩
  | a :: b :: l, m, ⟨h1, h2⟩, hm, hj => ⟨h1, linked_append h2 hm fun x y hx hy => hj x y (by rw [← hx]; simp [List.getLast?_cons_cons]) hy⟩
theorem linked_map {f : List Nat → Option (List Nat)} {g : List Nat → List Nat} (h : ∀ a b, f a = some b → f (g a) = some (g b)) : ∀ {l : List (List Nat)}, linked f l → linked f (l.map g)
  | [], _ => trivial
  | [a], _ => trivial
  | a :: b :: l, ⟨h1, h2⟩ => ⟨h a b h1, linked_map h h2⟩
theorem linked_at {f : List Nat → Option (List Nat)} : ∀ {l : List (List Nat)} {i : Nat} (h : linked f l) (hi : i + 1 < l.length), f l[i] = some l[i + 1]
  | a :: b :: l, 0, ⟨h1, _⟩, _ => h1
  | a :: b :: l, i + 1, ⟨_, h2⟩, hi => linked_at h2 (by simpa using hi)
theorem comb_linked (v : Nat) : ∀ d k, d ≤ v → linked (nextC v) (comb v d k)
  | d, 0, _ => by rw [comb_0]; trivial
  | 0, k + 1, _ => trivial
  | d + 1, k + 1, hd => by
    rw [comb]
    refine linked_append (linked_map (fun a b h => by rw [nextC, h]) (comb_linked v d k (by omega))) (comb_linked v d (k + 1) (by omega)) fun a b ha hb => ?_
    rcases Nat.lt_or_ge d (k + 1) with hlt | hge
    · rw [comb_nil v hlt] at hb; cases hb
    · rw [comb_head v hge (by omega)] at hb
      rw [List.getLast?_map, comb_last v (show k ≤ d by omega) (by omega)] at ha
      simp only [Option.map_some, Option.some.injEq] at ha hb
      rw [← ha, ← hb, nextC, next_last v (by omega), if_pos (by rw [List.length_range']; omega), List.length_range', show v - (d + 1) + 1 = v - d by omega]
/-- Position i of the last set. -/
theorem next_none {v : Nat} : ∀ {l : List Nat}, l.length ≤ v → (∀ j (h : j < l.length), l[j] = v - l.length + j) → nextC v l = none
  | [], _, _ => rfl
  | a :: t, hl, h => by
    have h0 := h 0 (by simp)
    simp only [List.length_cons] at hl h0
    rw [nextC, next_none (by omega) fun j hj => ?_, if_neg (by simp at h0; omega)]
    have := h (j + 1) (by simpa using hj)
    simp only [List.length_cons, List.getElem_cons_succ] at this
    rw [this]; omega
theorem next_some {v : Nat} : ∀ {l : List Nat} {i : Nat} (hl : l.length ≤ v) (hi : i < l.length) (hlt : l[i] < v - l.length + i) (h : ∀ j (h : j < l.length), i < j → l[j] = v - l.length + j), nextC v l = some (l.take i ++ List.range' (l[i] + 1) (l.length - i))
  | a :: t, 0, hl, _, hlt, h => by
    simp only [List.length_cons] at hl hlt
    rw [nextC, next_none (by omega) fun j hj => ?_]
    · simp only [List.getElem_cons_zero] at hlt ⊢
      rw [if_pos (by omega)]; rfl
    · have := h (j + 1) (by simpa using hj) (by omega)
      simp only [List.length_cons, List.getElem_cons_succ] at this
      rw [this]; omega
  | a :: t, i + 1, hl, hi, hlt, h => by
    simp only [List.length_cons] at hl hi hlt
    simp only [List.getElem_cons_succ] at hlt
    rw [nextC, next_some (i := i) (by omega) (by omega) (by omega) fun j hj hij => ?_]
    · simp
    · have := h (j + 1) (by simpa using hj) (by omega)
      simp only [List.length_cons, List.getElem_cons_succ] at this
      rw [this]; omega
theorem inc_at : ∀ {l : List Nat} {x v : Nat}, inc x l → (∀ a ∈ l, a < v) → ∀ i (h : i < l.length), x + i ≤ l[i] ∧ l[i] + (l.length - i) ≤ v
  | a :: t, x, v, ⟨h1, h2⟩, hv, 0, _ => by
    refine ⟨h1, ?_⟩
    simp only [List.getElem_cons_zero, List.length_cons, Nat.sub_zero]
    cases t with
    | nil => have := hv a (by simp); simp; omega
    | cons b t =>
      have := (inc_at h2 (fun c hc => hv c (by simp [hc])) 0 (by simp)).2
      simp only [List.getElem_cons_zero, List.length_cons] at this ⊢
      have := h2.1
      omega
  | a :: t, x, v, ⟨h1, h2⟩, hv, i + 1, h => by
    have := inc_at h2 (fun c hc => hv c (by simp [hc])) i (by simpa using h)
    simp only [List.getElem_cons_succ, List.length_cons]
    omega
end Co
end Go.Proofs.YtnnacofjogfkeaaDoor
namespace Go.Proofs.YtnnacofjogfkeaaDoor
namespace Co
open Pl
set_option linter.unusedVariables false
set_option linter.unusedSimpArgs false

/-- How many groups there are with a; with a and b. -/
def deg (G : List (List Nat)) (a : Nat) : Nat := (G.filter fun l => has l a).length
def prs (G : List (List Nat)) (a b : Nat) : Nat := (G.filter fun l => has l a && has l b).length
theorem has_cons (x a : Nat) (t : List Nat) : has (x :: t) a = ((x == a) || has t a) := rfl
theorem deg_append (G H : List (List Nat)) (a : Nat) : deg (G ++ H) a = deg G a + deg H a := by unfold deg; rw [List.filter_append, List.length_append]
theorem prs_append (G H : List (List Nat)) (a b : Nat) : prs (G ++ H) a b = prs G a b + prs H a b := by unfold prs; rw [List.filter_append, List.length_append]
theorem prs_comm (G : List (List Nat)) (a b : Nat) : prs G a b = prs G b a := by unfold prs; congr 2; funext l; rw [Bool.and_comm]
theorem prs_self (G : List (List Nat)) (a : Nat) : prs G a a = deg G a := by unfold prs deg; congr 2; funext l; rw [Bool.and_self]
theorem has_low {x a : Nat} {l : List Nat} (h : inc x l) (ha : a < x) : has l a = false := by
  cases e : has l a
  · rfl
  · have := inc_mem h (has_iff.1 e); omega
theorem filter_none {α : Type} {p : α → Bool} {l : List α} (h : ∀ x ∈ l, p x = false) : (l.filter p).length = 0 := by
  rw [List.filter_eq_nil_iff.2 fun x hx => by rw [h x hx]; decide]; rfl
theorem filter_all {α : Type} {p : α → Bool} {l : List α} (h : ∀ x ∈ l, p x = true) : (l.filter p).length = l.length := by
  rw [List.filter_eq_self.2 h]
theorem filter_map_len {α β : Type} (g : α → β) (p : β → Bool) (l : List α) : ((l.map g).filter p).length = (l.filter fun x => p (g x)).length := by
  rw [List.filter_map, List.length_map]; rfl
theorem deg_comb (v : Nat) : ∀ d k a, d + 1 ≤ v → v - (d + 1) ≤ a → a < v → deg (comb v (d + 1) (k + 1)) a = ch d k
  | 0, k, a, hd, h1, h2 => by
    have : a = v - 1 := by omega
    subst this
    cases k with
    | zero => simp [comb, deg, has, ch]
    | succ k => simp [comb, deg, ch]
  | d + 1, k, a, hd, h1, h2 => by
    rw [comb, deg_append]
    by_cases e : a = v - (d + 1 + 1)
    · have e1 : deg ((comb v (d + 1) k).map fun t => (v - (d + 1 + 1)) :: t) a = ch (d + 1) k := by
        unfold deg
        rw [filter_map_len, filter_all fun t _ => by rw [has_cons, e]; simp, comb_len]
      have e2 : deg (comb v (d + 1) (k + 1)) a = 0 := by
        unfold deg
        exact filter_none fun l hl => has_low (comb_mem v (by omega) hl).2.1 (by omega)
      rw [e1, e2]; rfl
    · have e1 : deg ((comb v (d + 1) k).map fun t => (v - (d + 1 + 1)) :: t) a = deg (comb v (d + 1) k) a := by
        unfold deg
        rw [filter_map_len]
        congr 2
        funext t
        rw [has_cons]
        have : ((v - (d + 1 + 1)) == a) = false := by rw [beq_eq_false_iff_ne]; exact fun h => e h.symm
        rw [this]; rfl
      rw [e1, deg_comb v d k a (by omega) (by omega) h2]
      cases k with
      | zero => rw [comb_0, ch_0, ch_0]; rfl
      | succ k => rw [deg_comb v d k a (by omega) (by omega) h2]; rfl
theorem prs_comb (v : Nat) : ∀ d k a b, d + 2 ≤ v → v - (d + 2) ≤ a → a < b → b < v → prs (comb v (d + 2) (k + 2)) a b = ch d k
  | d, k, a, b, hd, h1, h2, h3 => by
    rw [comb, prs_append]
    by_cases e : a = v - (d + 1 + 1)
    · have e1 : prs ((comb v (d + 1) (k + 1)).map fun t => (v - (d + 1 + 1)) :: t) a b = deg (comb v (d + 1) (k + 1)) b := by
        unfold prs deg
        rw [filter_map_len]
        congr 2
        funext t
        rw [has_cons, has_cons, e]
        have : ((v - (d + 1 + 1)) == b) = false := by rw [beq_eq_false_iff_ne]; omega
        rw [this]; simp
      have e2 : prs (comb v (d + 1) (k + 2)) a b = 0 := by
        unfold prs
        exact filter_none fun l hl => by rw [has_low (comb_mem v (by omega) hl).2.1 (by omega)]; rfl
      rw [e1, e2, deg_comb v d k b (by omega) (by omega) h3]; rfl
    · have e1 : prs ((comb v (d + 1) (k + 1)).map fun t => (v - (d + 1 + 1)) :: t) a b = prs (comb v (d + 1) (k + 1)) a b := by
        unfold prs
        rw [filter_map_len]
        congr 2
        funext t
        rw [has_cons, has_cons]
        have i1 : ((v - (d + 1 + 1)) == a) = false := by rw [beq_eq_false_iff_ne]; exact fun h => e h.symm
        have i2 : ((v - (d + 1 + 1)) == b) = false := by rw [beq_eq_false_iff_ne]; omega
        rw [i1, i2]; rfl
      obtain ⟨c, rfl⟩ : ∃ c, d = c + 1 := ⟨d - 1, by omega⟩
      rw [e1, prs_comb v c k a b (by omega) (by omega) h2 h3]
      cases k with
      | zero =>
        have : prs (comb v (c + 1 + 1) (0 + 1)) a b = 0 := by
          unfold prs
          refine filter_none fun l hl => ?_
          obtain ⟨hl1, _, _⟩ := comb_mem v (by omega) hl
          match l, hl1 with
          | [x], _ =>
            rw [has_cons, has_cons]
            cases e1 : (x == a)
            · rfl
            · cases e2 : (x == b)
              · rfl
              · rw [beq_iff_eq] at e1 e2; omega
        rw [this, ch_0, ch_0]
      | succ k => rw [prs_comb v c k a b (by omega) (by omega) h2 h3]; rfl

/-- A balanced design with width k. -/
structure Bal (D : Nat) (G : List (List Nat)) (k r lam : Nat) : Prop where
  disks : 2 ≤ D ∧ D ≤ 60
  groups : 1 ≤ G.length ∧ G.length ≤ 4096
  width : 2 ≤ k
  form : ∀ l ∈ G, l.length = k ∧ inc 0 l ∧ ∀ a ∈ l, a < D
  deg : ∀ a, a < D → Co.deg G a = r
  prs : ∀ a b, a < D → b < D → a ≠ b → Co.prs G a b = lam
  pos : 1 ≤ lam
theorem bal_comb {v k : Nat} (hv : 2 ≤ v) (h60 : v ≤ 60) (hk : 2 ≤ k) (hkv : k ≤ v) (hc : ch v k ≤ 4096) : Bal v (comb v v k) k (ch (v - 1) (k - 1)) (ch (v - 2) (k - 2)) := by
  obtain ⟨d, rfl⟩ : ∃ d, v = d + 2 := ⟨v - 2, by omega⟩
  obtain ⟨j, rfl⟩ : ∃ j, k = j + 2 := ⟨k - 2, by omega⟩
  refine ⟨⟨hv, h60⟩, ⟨by rw [comb_len]; exact ch_pos hkv, by rw [comb_len]; exact hc⟩, hk, fun l hl => ?_, fun a ha => ?_, fun a b ha hb hne => ?_, ch_pos (by omega)⟩
  · obtain ⟨h1, h2, h3⟩ := comb_mem (d + 2) (Nat.le_refl _) hl
    exact ⟨h1, inc_mono (Nat.zero_le _) h2, h3⟩
  · exact deg_comb (d + 2) (d + 1) (j + 1) a (by omega) (by omega) ha
  · rcases Nat.lt_or_gt_of_ne hne with h | h
    · exact prs_comb (d + 2) d j a b (by omega) (by omega) h hb
    · rw [prs_comm]; exact prs_comb (d + 2) d j b a (by omega) (by omega) h ha
/-- b k = v r and r (k - 1) = lambda (v - 1) of the complete design. -/
theorem comb_eqs {v k : Nat} (hk : 2 ≤ k) (hkv : k ≤ v) : ch v k * k = v * ch (v - 1) (k - 1) ∧ ch (v - 1) (k - 1) * (k - 1) = ch (v - 2) (k - 2) * (v - 1) := by
  obtain ⟨d, rfl⟩ : ∃ d, v = d + 2 := ⟨v - 2, by omega⟩
  obtain ⟨j, rfl⟩ : ∃ j, k = j + 2 := ⟨k - 2, by omega⟩
  exact ⟨ch_mul (d + 1) (j + 1), by rw [Nat.mul_comm (ch _ _) (d + 2 - 1)]; exact ch_mul d j⟩
end Co
end Go.Proofs.YtnnacofjogfkeaaDoor
namespace Go.Proofs.YtnnacofjogfkeaaDoor
namespace Co
set_option linter.unusedVariables false

theorem getD_at {l : List Nat} {j : Nat} (h : j < l.length) : l.getD j 0 = l[j] := by simp [List.getD, h]
theorem comb_at {v k m : Nat} (hm : m < (comb v v k).length) : (comb v v k)[m].length = k ∧ inc 0 (comb v v k)[m] ∧ ∀ a ∈ (comb v v k)[m], a < v := by
  obtain ⟨h1, h2, h3⟩ := comb_mem v (Nat.le_refl v) (List.getElem_mem hm)
  exact ⟨h1, inc_mono (Nat.zero_le _) h2, h3⟩
theorem comb_next {v k m : Nat} (hm : m + 1 < (comb v v k).length) : nextC v (comb v v k)[m] = some (comb v v k)[m + 1] := linked_at (comb_linked v v k (Nat.le_refl v)) hm
theorem comb_end {v k m : Nat} (hk : k ≤ v) (hm : m < (comb v v k).length) (h : m + 1 = (comb v v k).length) : nextC v (comb v v k)[m] = none := by
  have h1 := comb_last v hk (Nat.le_refl v)
  rw [List.getLast?_eq_getElem?, show (comb v v k).length - 1 = m by omega, List.getElem?_eq_getElem hm] at h1
  rw [Option.some.inj h1]
  exact next_last v hk
/-- All positions are at their ends: it is the last set. -/
theorem seq_last {v k m : Nat} (hk : k ≤ v) (hm : m < (comb v v k).length) (h : ∀ j, j < k → (comb v v k)[m].getD j 0 = v - k + j) : m + 1 = (comb v v k).length := by
  obtain ⟨h1, h2, h3⟩ := comb_at hm
  apply Classical.byContradiction
  intro hne
  have hn := comb_next (v := v) (k := k) (m := m) (by omega)
  rw [next_none (by rw [h1]; exact hk) fun j hj => by rw [← getD_at hj, h1]; exact h j (by omega)] at hn
  cases hn
theorem nxt_at {c : List Nat} {p k x j : Nat} (h1 : c.length = k) (hp : p < k) (hj : j < k) : (c.take p ++ List.range' x (k - p)).getD j 0 = if j < p then c.getD j 0 else x + (j - p) := by
  have hl : (c.take p).length = p := by rw [List.length_take]; omega
  unfold List.getD
  by_cases e : j < p
  · rw [if_pos e, List.getElem?_append_left (by omega), List.getElem?_take_of_lt e]
  · rw [if_neg e, List.getElem?_append_right (by omega), hl, List.getElem?_range' (by omega)]
    simp
/-- Position p is not. -/
theorem seq_next {v k m p : Nat} (hk : k ≤ v) (hm : m < (comb v v k).length) (hp : p < k) (hne : (comb v v k)[m].getD p 0 ≠ v - k + p) (h : ∀ j, p < j → j < k → (comb v v k)[m].getD j 0 = v - k + j) :
    ∃ hm' : m + 1 < (comb v v k).length, ∀ j, j < k → (comb v v k)[m + 1].getD j 0 = if j < p then (comb v v k)[m].getD j 0 else (comb v v k)[m].getD p 0 + 1 + (j - p) := by
  obtain ⟨h1, h2, h3⟩ := comb_at hm
  have hb := (inc_at h2 h3 p (by omega)).2
  rw [getD_at (show p < _ by omega)] at hne
  have hs := next_some (v := v) (l := (comb v v k)[m]) (i := p) (by omega) (by omega) (by omega) fun j hj hpj => by rw [← getD_at hj, h1]; exact h j hpj (by omega)
  have hm' : m + 1 < (comb v v k).length := by
    apply Classical.byContradiction
    intro hge
    rw [comb_end hk hm (by omega)] at hs
    cases hs
  refine ⟨hm', fun j hj => ?_⟩
  rw [comb_next hm'] at hs
  rw [Option.some.inj hs]
  have e1 : (comb v v k)[m].length - p = k - p := by rw [h1]
  rw [e1, nxt_at h1 hp hj, getD_at (show p < _ by omega)]
theorem comb_first {v k : Nat} (hk : k ≤ v) (h0 : 0 < (comb v v k).length) : ∀ j, j < k → (comb v v k)[0].getD j 0 = j := by
  intro j hj
  have h1 := comb_head v hk (Nat.le_refl v)
  rw [List.head?_eq_getElem?, List.getElem?_eq_getElem h0, Nat.sub_self] at h1
  rw [Option.some.inj h1]
  simp [List.getD, hj]
end Co
end Go.Proofs.YtnnacofjogfkeaaDoor
