/- The reference's Uint. -/
import Derived.Test.YtfihiihakgcikaaIe
namespace Go.Proofs.Ytfihiihakgcikaa
open Go Go.RowKit
set_option linter.unusedVariables false
set_option linter.unusedSimpArgs false
namespace Cod
/-- i groups have been read; they are the number n. -/
def Inv (l : List Nat) (i n : Nat) : Prop := i ≤ 10 ∧ i ≤ l.length ∧ n < 2 ^ (7 * i) ∧ dec 0 l = (dec i (l.drop i)).map fun p => (n + 2 ^ (7 * i) * p.1, p.2)
theorem inv_0 (l : List Nat) : Inv l 0 0 := by
  refine ⟨by omega, by omega, by decide, ?_⟩
  rw [List.drop_zero]
  cases dec 0 l with
  | none => rfl
  | some p => simp
theorem drop_at {l : List Nat} {i : Nat} (h : i < l.length) : l.drop i = l.getD i 0 :: l.drop (i + 1) := by
  rw [List.drop_eq_getElem_cons h]; congr 1; simp [List.getD, List.getElem?_eq_getElem h]
theorem inv_big {l : List Nat} {i n : Nat} (h : Inv l i n) (hl : i < l.length) (h9 : i = 9) (hc : 1 < l.getD i 0) : dec 0 l = none := by
  rw [h.2.2.2, drop_at hl]
  unfold dec
  rw [if_neg (by omega), if_pos ⟨h9, hc⟩]; rfl
theorem inv_long {l : List Nat} {i n : Nat} (h : Inv l i n) (hl : i < l.length) (hi : i < 10) (h9 : ¬ (i = 9 ∧ 1 < l.getD i 0)) (h0 : 0 < i) (hc : l.getD i 0 = 0) : dec 0 l = none := by
  rw [h.2.2.2, drop_at hl]
  unfold dec
  rw [if_neg (by omega), if_neg h9, if_pos (by omega), if_pos ⟨h0, hc⟩]; rfl
theorem inv_last {l : List Nat} {i n : Nat} (h : Inv l i n) (hl : i < l.length) (hi : i < 10) (h9 : ¬ (i = 9 ∧ 1 < l.getD i 0)) (hc : l.getD i 0 < 128) (h0 : ¬ (0 < i ∧ l.getD i 0 = 0)) : dec 0 l = some (n + 2 ^ (7 * i) * l.getD i 0, l.drop (i + 1)) := by
  rw [h.2.2.2, drop_at hl]
  conv => lhs; unfold dec
  rw [if_neg (by omega), if_neg h9, if_pos hc, if_neg h0]; rfl
theorem inv_sum {l : List Nat} {i n : Nat} (h : Inv l i n) (hi : i < 10) (h9 : ¬ (i = 9 ∧ 1 < l.getD i 0)) : 2 ^ (7 * i) * (l.getD i 0 % 128) < 2 ^ 64 ∧ n + 2 ^ (7 * i) * (l.getD i 0 % 128) < 2 ^ 64 := by
  have hn := h.2.2.1
  rcases Nat.lt_or_ge i 9 with h8 | h8
  · have h1 : l.getD i 0 % 128 ≤ 127 := by omega
    have h2 : 2 ^ (7 * i) ≤ 2 ^ 56 := Nat.pow_le_pow_right (by decide) (by omega)
    have h3 := Nat.mul_le_mul_left (2 ^ (7 * i)) h1
    omega
  · obtain rfl : i = 9 := by omega
    have h1 : l.getD 9 0 % 128 ≤ 1 := by
      have : ¬ 1 < l.getD 9 0 := fun h => h9 ⟨rfl, h⟩
      omega
    have h3 := Nat.mul_le_mul_left (2 ^ (7 * 9)) h1
    omega
theorem inv_next {l : List Nat} {i n : Nat} (h : Inv l i n) (hl : i < l.length) (hi : i < 10) (h9 : ¬ (i = 9 ∧ 1 < l.getD i 0)) (hc : ¬ l.getD i 0 < 128) : Inv l (i + 1) (n + 2 ^ (7 * i) * (l.getD i 0 % 128)) := by
  have e : 2 ^ (7 * (i + 1)) = 2 ^ (7 * i) * 128 := by rw [show 7 * (i + 1) = 7 * i + 7 by omega, Nat.pow_add]
  refine ⟨by omega, by omega, ?_, ?_⟩
  · have h1 : l.getD i 0 % 128 ≤ 127 := by omega
    have h3 := Nat.mul_le_mul_left (2 ^ (7 * i)) h1
    have := h.2.2.1
    rw [e]; omega
  · rw [h.2.2.2, drop_at hl]
    conv => lhs; unfold dec
    rw [if_neg (by omega), if_neg h9, if_neg hc]
    cases dec (i + 1) (l.drop (i + 1)) with
    | none => rfl
    | some p =>
      simp only [Option.map_some, Option.some.injEq, Prod.mk.injEq, and_true]
      rw [e, Nat.mul_add, Nat.mul_assoc, Nat.add_assoc]
theorem inv_end {l : List Nat} {i n : Nat} (h : Inv l i n) (he : ¬ i < l.length ∨ ¬ i < 10) : dec 0 l = none := by
  rw [h.2.2.2]
  rcases he with he | he
  · rw [List.drop_eq_nil_of_le (by omega)]; simp [dec]
  · cases hd : l.drop i with
    | nil => simp [dec]
    | cons c t => unfold dec; rw [if_pos (by omega)]; rfl
theorem rU_none {l : List Nat} {bad : Bool} (h : dec 0 l = none) : rU l bad = (0, 5, [], true) := by unfold rU; rw [h]
theorem rU_some {l r : List Nat} {bad : Bool} {n : Nat} (h : dec 0 l = some (n, r)) : rU l bad = (n, 0, r, bad) := by unfold rU; rw [h]
end Cod
/-- How a method's call ends: what it returns, and the reader afterwards. -/
def uPost (l : List Nat) (bad : Bool) (R : World → List Nat → Bool → Prop) (o : Nat → Prop) (w : World) (e : Ending) (w' : World) : Prop :=
  e = .returned (.tuple #[.int .u64 ((Cod.rU l bad).1 : Int), .int .i64 ((Cod.rU l bad).2.1 : Int)]) ∧ R w' (Cod.rU l bad).2.2.1 (Cod.rU l bad).2.2.2 ∧ Chg o w w'
theorem Bs.nth {w : World} {v : Value} {l : List Nat} {A : Option Addr} {n c : Nat} (h : Bs w v l) (e : v = .slice A n c) {k : Nat} (hk : k < n) : ∃ b off, A = some ⟨b, off, none⟩ ∧ w.cell? ⟨b, off + k, none⟩ = some (.int .u8 ((l.getD k 0 : Nat) : Int)) := by
  obtain ⟨A', c', h1, -, -, -, h2⟩ := h
  rw [e] at h1
  injection h1 with h3 h4 h5
  obtain ⟨b, off, h6, h7⟩ := h2 (by omega)
  exact ⟨b, off, by rw [h3, h6], h7 k (by omega)⟩
theorem bs_drop {w : World} {b o N c k : Nat} {l : List Nat} (h : Bs w (.slice (some ⟨b, o, none⟩) N c) l) (hk : k ≤ N) : (c = k → Bs w (.slice (some ⟨b, o, none⟩) (N - k) 0) (l.drop k)) ∧ (¬ c = k → Bs w (.slice (some ⟨b, o + k, none⟩) (N - k) (c - k)) (l.drop k)) := by
  obtain ⟨A', c', e, hm, hl, -, hcell⟩ := h
  injection e with e1 e2 e3
  subst e3 e2
  refine ⟨fun h => ?_, fun h => ?_⟩
  · have e0 : l.drop k = [] := List.drop_eq_nil_of_le (by omega)
    rw [e0]
    exact ⟨some ⟨b, o, none⟩, 0, by rw [show l.length - k = 0 by omega]; rfl, ⟨Nat.le_refl 0, Nat.zero_le _⟩, fun _ h => (by cases h), fun h => rfl, fun h => absurd h (by simp)⟩
  · refine ⟨some ⟨b, o + k, none⟩, c - k, by rw [List.length_drop], by rw [List.length_drop]; omega, fun x hx => hl x (List.mem_of_mem_drop hx), fun h => (by cases h), fun h => ⟨b, o + k, rfl, fun j hj => ?_⟩⟩
    rw [List.length_drop] at hj h
    obtain ⟨b', o', h6, hq⟩ := hcell (by omega)
    rw [← e1] at h6
    cases h6
    rw [Nat.add_assoc, hq (k + j) (by omega)]
    congr 3
    rw [getD_in (by omega), getD_in (by rw [List.length_drop]; omega), List.getElem_drop]
theorem u_sum {n k x : Nat} (h : 2 ^ (7 * k) * (x % 128) < 2 ^ 64 ∧ n + 2 ^ (7 * k) * (x % 128) < 2 ^ 64) : IntKind.u64.wrap ((n : Int) + IntKind.u64.wrap ((x : Int) % 128 * 2 ^ (7 * k))) = ((n + 2 ^ (7 * k) * (x % 128) : Nat) : Int) := by
  have e : (x : Int) % 128 * 2 ^ (7 * k) = ((2 ^ (7 * k) * (x % 128) : Nat) : Int) := by push_cast; rw [Int.mul_comm]
  rw [e]
  generalize 2 ^ (7 * k) * (x % 128) = y at h
  rw [IntKind.wrap_u64, IntKind.wrap_u64]; omega
/-- A slice from k on. -/
theorem slice_from (A : Option Addr) (m c k : Nat) (hk : k ≤ m) (hm : m ≤ c) : ∃ B d, (∀ w, (Instr.slice 27 (.slice A m c) (some (.int .i64 (k : Int))) none none).run Try.prog w = .ok (.slice B (m - k) d) w) ∧ (∀ w, (Instr.sliceAt 27 (.slice A m c) (some (.int .i64 (k : Int))) none none).run Try.prog w = .ok (.slice B (m - k) d) w) ∧ (∀ w l, Bs w (.slice A m c) l → Bs w (.slice B (m - k) d) (l.drop k)) ∧ (∀ g, (Value.slice B (m - k) d).ownBlock = some g → (Value.slice A m c).ownBlock = some g) := by
  have hel : Try.prog.elem 27 = 5 := by kernel_rfl
  have hu : Try.prog.underlying 27 = some (.slice (Try.prog.elem 27)) := by rw [hel]; exact Try.underlying27
  obtain ⟨i, hi, hzz⟩ := Option.map_eq_some_iff.1 info_u8
  simp only [Prod.mk.injEq] at hzz
  have key : ∀ w, (Instr.slice 27 (.slice A m c) (some (.int .i64 (k : Int))) none none).run Try.prog w = .ok (.slice (if c = k then A else A.map (fun a => Addr.add a (k * 1))) (m - k) (c - k)) w := fun w => by
    rw [run_slice_l w 27 A m c hu .i64 (k : Int) (by omega) (by omega), hel]
    simp [sizeOf, typeInfo, hi, hzz.2.1, Result.andThen, sliced]
  refine ⟨if c = k then A else A.map (fun a => Addr.add a (k * 1)), c - k, key, fun w => by rw [run_sliceAt_slice w _ _ _ _ _ hu]; exact key w, ?_, ?_⟩
  · rintro w l ⟨A', c', e, hc, hl, hn, hcell⟩
    injection e with e1 e2 e3
    subst e1 e3
    refine ⟨_, c - k, by rw [List.length_drop, ← e2], by rw [List.length_drop]; omega, fun x hx => hl x (List.mem_of_mem_drop hx), fun h => ?_, fun h => ?_⟩
    · by_cases h0 : c = k
      · omega
      · rw [if_neg h0] at h
        cases A with
        | none => have := hn rfl; omega
        | some a => cases h
    · rw [List.length_drop] at h
      obtain ⟨b, off, rfl, hq⟩ := hcell (by omega)
      refine ⟨b, off + k, ?_, fun j hj => ?_⟩
      · rw [if_neg (by omega)]
        show some (Addr.add ⟨b, off, none⟩ (k * 1)) = _
        rw [Go.WideShapes.add_plain, Nat.mul_one]
      · rw [List.length_drop] at hj
        rw [Nat.add_assoc, hq (k + j) (by omega)]
        congr 3
        rw [getD_in (by omega), getD_in (by rw [List.length_drop]; omega), List.getElem_drop]
  · intro g hg
    cases A with
    | none => split at hg <;> cases hg
    | some a =>
      obtain ⟨b, off, sp⟩ := a
      split at hg
      · exact hg
      · cases sp <;> (simp [Value.ownBlock, Addr.add] at hg ⊢; split at hg <;> exact hg)
end Go.Proofs.Ytfihiihakgcikaa

