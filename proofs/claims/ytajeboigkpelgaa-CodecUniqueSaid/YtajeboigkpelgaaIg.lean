/- The reference's Uint. -/
import Derived.Test.YtajeboigkpelgaaIe
namespace Go.Proofs.Ytajeboigkpelgaa
open Go Go.RowKit
set_option linter.unusedVariables false
set_option linter.unusedSimpArgs false
namespace Cod
/-- i groups have been read; they are the number n. -/
def Inv (l : List Nat) (i n : Nat) : Prop := i ≤ 10 ∧ i ≤ l.length ∧ n < 2 ^ (7 * i) ∧ dec 0 l = (dec i (l.drop i)).map fun p => (n + 2 ^ (7 * i) * p.1, p.2)
theorem inv_0 (l : List Nat) : Inv l 0 0 := by
  refine ⟨by omega, by omega, by decide, ?_⟩
  rw [List.drop_zero]
  cases dec 0 l with
  | none => rfl
  | some p => simp
theorem drop_at {l : List Nat} {i : Nat} (h : i < l.length) : l.drop i = l.getD i 0 :: l.drop (i + 1) := by
  rw [List.drop_eq_getElem_cons h]; congr 1; simp [List.getD, List.getElem?_eq_getElem h]
theorem inv_big {l : List Nat} {i n : Nat} (h : Inv l i n) (hl : i < l.length) (h9 : i = 9) (hc : 1 < l.getD i 0) : dec 0 l = none := by
  rw [h.2.2.2, drop_at hl]
  unfold dec
  rw [if_neg (by omega), if_pos ⟨h9, hc⟩]; rfl
theorem inv_long {l : List Nat} {i n : Nat} (h : Inv l i n) (hl : i < l.length) (hi : i < 10) (h9 : ¬ (i = 9 ∧ 1 < l.getD i 0)) (h0 : 0 < i) (hc : l.getD i 0 = 0) : dec 0 l = none := by
  rw [h.2.2.2, drop_at hl]
  unfold dec
  rw [if_neg (by omega), if_neg h9, if_pos (by omega), if_pos ⟨h0, hc⟩]; rfl
theorem inv_last {l : List Nat} {i n : Nat} (h : Inv l i n) (hl : i < l.length) (hi : i < 10) (h9 : ¬ (i = 9 ∧ 1 < l.getD i 0)) (hc : l.getD i 0 < 128) (h0 : ¬ (0 < i ∧ l.getD i 0 = 0)) : dec 0 l = some (n + 2 ^ (7 * i) * l.getD i 0, l.drop (i + 1)) := by
  rw [h.2.2.2, drop_at hl]
  conv => lhs; unfold dec
  rw [if_neg (by omega), if_neg h9, if_pos hc, if_neg h0]; rfl
theorem inv_sum {l : List Nat} {i n : Nat} (h : Inv l i n) (hi : i < 10) (h9 : ¬ (i = 9 ∧ 1 < l.getD i 0)) : 2 ^ (7 * i) * (l.getD i 0 % 128) < 2 ^ 64 ∧ n + 2 ^ (7 * i) * (l.getD i 0 % 128) < 2 ^ 64 := by
  have hn := h.2.2.1
  rcases Nat.lt_or_ge i 9 with h8 | h8
  · have h1 : l.getD i 0 % 128 ≤ 127 := by omega
    have h2 : 2 ^ (7 * i) ≤ 2 ^ 56 := Nat.pow_le_pow_right (by decide) (by omega)
    have h3 := Nat.mul_le_mul_left (2 ^ (7 * i)) h1
    omega
  · obtain rfl : i = 9 := by omega
    have h1 : l.getD 9 0 % 128 ≤ 1 := by
      have : ¬ 1 < l.getD 9 0 := fun h => h9 ⟨rfl, h⟩
      omega
    have h3 := Nat.mul_le_mul_left (2 ^ (7 * 9)) h1
    omega
theorem inv_next {l : List Nat} {i n : Nat} (h : Inv l i n) (hl : i < l.length) (hi : i < 10) (h9 : ¬ (i = 9 ∧ 1 < l.getD i 0)) (hc : ¬ l.getD i 0 < 128) : Inv l (i + 1) (n + 2 ^ (7 * i) * (l.getD i 0 % 128)) := by
  have e : 2 ^ (7 * (i + 1)) = 2 ^ (7 * i) * 128 := by rw [show 7 * (i + 1) = 7 * i + 7 by omega, Nat.pow_add]
  refine ⟨by omega, by omega, ?_, ?_⟩
  · have h1 : l.getD i 0 % 128 ≤ 127 := by omega
    have h3 := Nat.mul_le_mul_left (2 ^ (7 * i)) h1
    have := h.2.2.1
    rw [e]; omega
  · rw [h.2.2.2, drop_at hl]
    conv => lhs; unfold dec
    rw [if_neg (by omega), if_neg h9, if_neg hc]
    cases dec (i + 1) (l.drop (i + 1)) with
    | none => rfl
    | some p =>
      simp only [Option.map_some, Option.some.injEq, Prod.mk.injEq, and_true]
      rw [e, Nat.mul_add, Nat.mul_assoc, Nat.add_assoc]
theorem inv_end {l : List Nat} {i n : Nat} (h : Inv l i n) (he : ¬ i < l.length ∨ ¬ i < 10) : dec 0 l = none := by
  rw [h.2.2.2]
  rcases he with he | he
  · rw [List.drop_eq_nil_of_le (by omega)]; simp [dec]
  · cases hd : l.drop i with
    | nil => simp [dec]
    | cons c t => unfold dec; rw [if_pos (by omega)]; rfl
theorem rU_none {l : List Nat} {bad : Bool} (h : dec 0 l = none) : rU l bad = (0, 5, [], true) := by unfold rU; rw [h]
theorem rU_some {l r : List Nat} {bad : Bool} {n : Nat} (h : dec 0 l = some (n, r)) : rU l bad = (n, 0, r, bad) := by unfold rU; rw [h]
end Cod
/-- How a method's call ends: what it returns, and the reader afterwards. -/
def uPost (l : List Nat) (bad : Bool) (R : World → List Nat → Bool → Prop) (o : Nat → Prop) (w : World) (e : Ending) (w' : World) : Prop :=
  e = .returned (.tuple #[.int .u64 ((Cod.rU l bad).1 : Int), .int .i64 ((Cod.rU l bad).2.1 : Int)]) ∧ R w' (Cod.rU l bad).2.2.1 (Cod.rU l bad).2.2.2 ∧ Chg o w w'
theorem Bs.nth {w : World} {v : Value} {l : List Nat} {A : Option Addr} {n c : Nat} (h : Bs w v l) (e : v = .slice A n c) {k : Nat} (hk : k < n) : ∃ b off, A = some ⟨b, off, none⟩ ∧ w.cell? ⟨b, off + k, none⟩ = some (.int .u8 ((l.getD k 0 : Nat) : Int)) := by
  obtain ⟨A', c', h1, -, -, -, h2⟩ := h
  rw [e] at h1
  injection h1 with h3 h4 h5
  obtain ⟨b, off, h6, h7⟩ := h2 (by omega)
  exact ⟨b, off, by rw [h3, h6], h7 k (by omega)⟩
theorem bs_drop {w : World} {b o N c k : Nat} {l : List Nat} (h : Bs w (.slice (some ⟨b, o, none⟩) N c) l) (hk : k ≤ N) : (c = k → Bs w (.slice (some ⟨b, o, none⟩) (N - k) 0) (l.drop k)) ∧ (¬ c = k → Bs w (.slice (some ⟨b, o + k, none⟩) (N - k) (c - k)) (l.drop k)) := by
  obtain ⟨A', c', e, hm, hl, -, hcell⟩ := h
  injection e with e1 e2 e3
  subst e3 e2
  refine ⟨fun h => ?_, fun h => ?_⟩
  · have e0 : l.drop k = [] := List.drop_eq_nil_of_le (by omega)
    rw [e0]
    exact ⟨some ⟨b, o, none⟩, 0, by rw [show l.length - k = 0 by omega]; rfl, ⟨Nat.le_refl 0, Nat.zero_le _⟩, fun _ h => (by cases h), fun h => rfl, fun h => absurd h (by simp)⟩
  · refine ⟨some ⟨b, o + k, none⟩, c - k, by rw [List.length_drop], by rw [List.length_drop]; omega, fun x hx => hl x (List.mem_of_mem_drop hx), fun h => (by cases h), fun h => ⟨b, o + k, rfl, fun j hj => ?_⟩⟩
    rw [List.length_drop] at hj h
    obtain ⟨b', o', h6, hq⟩ := hcell (by omega)
    rw [← e1] at h6
    cases h6
    rw [Nat.add_assoc, hq (k + j) (by omega)]
    congr 3
    rw [getD_in (by omega), getD_in (by rw [List.length_drop]; omega), List.getElem_drop]
theorem u_sum {n k x : Nat} (h : 2 ^ (7 * k) * (x % 128) < 2 ^ 64 ∧ n + 2 ^ (7 * k) * (x % 128) < 2 ^ 64) : IntKind.u64.wrap ((n : Int) + IntKind.u64.wrap ((x : Int) % 128 * 2 ^ (7 * k))) = ((n + 2 ^ (7 * k) * (x % 128) : Nat) : Int) := by
  have e : (x : Int) % 128 * 2 ^ (7 * k) = ((2 ^ (7 * k) * (x % 128) : Nat) : Int) := by push_cast; rw [Int.mul_comm]
  rw [e]
  generalize 2 ^ (7 * k) * (x % 128) = y at h
  rw [IntKind.wrap_u64, IntKind.wrap_u64]; omega
/-- A slice from k on. -/
theorem slice_from (A : Option Addr) (m c k : Nat) (hk : k ≤ m) (hm : m ≤ c) : ∃ B d, (∀ w, (Instr.slice 22 (.slice A m c) (some (.int .i64 (k : Int))) none none).run Try.prog w = .ok (.slice B (m - k) d) w) ∧ (∀ w, (Instr.sliceAt 22 (.slice A m c) (some (.int .i64 (k : Int))) none none).run Try.prog w = .ok (.slice B (m - k) d) w) ∧ (∀ w l, Bs w (.slice A m c) l → Bs w (.slice B (m - k) d) (l.drop k)) ∧ (∀ g, (Value.slice B (m - k) d).ownBlock = some g → (Value.slice A m c).ownBlock = some g) := by
  have hel : Try.prog.elem 22 = 5 := by kernel_rfl
  have hu : Try.prog.underlying 22 = some (.slice (Try.prog.elem 22)) := by rw [hel]; exact Try.underlying22
  obtain ⟨i, hi, hzz⟩ := Option.map_eq_some_iff.1 info_u8
  simp only [Prod.mk.injEq] at hzz
  have key : ∀ w, (Instr.slice 22 (.slice A m c) (some (.int .i64 (k : Int))) none none).run Try.prog w = .ok (.slice (if c = k then A else A.map (fun a => Addr.add a (k * 1))) (m - k) (c - k)) w := fun w => by
    rw [run_slice_l w 22 A m c hu .i64 (k : Int) (by omega) (by omega), hel]
    simp [sizeOf, typeInfo, hi, hzz.2.1, Result.andThen, sliced]
  refine ⟨if c = k then A else A.map (fun a => Addr.add a (k * 1)), c - k, key, fun w => by rw [run_sliceAt_slice w _ _ _ _ _ hu]; exact key w, ?_, ?_⟩
  · rintro w l ⟨A', c', e, hc, hl, hn, hcell⟩
    injection e with e1 e2 e3
    subst e1 e3
    refine ⟨_, c - k, by rw [List.length_drop, ← e2], by rw [List.length_drop]; omega, fun x hx => hl x (List.mem_of_mem_drop hx), fun h => ?_, fun h => ?_⟩
    · by_cases h0 : c = k
      · omega
      · rw [if_neg h0] at h
        cases A with
        | none => have := hn rfl; omega
        | some a => cases h
    · rw [List.length_drop] at h
      obtain ⟨b, off, rfl, hq⟩ := hcell (by omega)
      refine ⟨b, off + k, ?_, fun j hj => ?_⟩
      · rw [if_neg (by omega)]
        show some (Addr.add ⟨b, off, none⟩ (k * 1)) = _
        rw [Go.WideShapes.add_plain, Nat.mul_one]
      · rw [List.length_drop] at hj
        rw [Nat.add_assoc, hq (k + j) (by omega)]
        congr 3
        rw [getD_in (by omega), getD_in (by rw [List.length_drop]; omega), List.getElem_drop]
  · intro g hg
    cases A with
    | none => split at hg <;> cases hg
    | some a =>
      obtain ⟨b, off, sp⟩ := a
      split at hg
      · exact hg
      · cases sp <;> (simp [Value.ownBlock, Addr.add] at hg ⊢; split at hg <;> exact hg)
set_option maxHeartbeats 4000000 in
set_option maxRecDepth 100000 in
theorem ruint_any (S : Nat) (l : List Nat) (bad : Bool) (o : Nat → Prop) (w : World) (h : RdR w S l bad o) :
    Calls Try.prog 35 #[.pointer (some ⟨S, 0, none⟩)] w (uPost l bad (fun w' r b => RdR w' S r b o) o w) := by
  obtain ⟨A, c, hc, hbs, hown⟩ := h.c0
  have HR := Lib.hid h
  have HBS := Lib.hid hbs
  have FZ := h.frz 0
  have FL := Lib.hid (rfail_any S l bad o w h)
  have CAP := Lib.hid (show l.length ≤ c ∧ l.length ≤ 9223372036854775807 by
    obtain ⟨A', c', e, hm, -⟩ := hbs
    injection e with e1 e2 e3
    have := hm.2; unfold maxLen at this; omega)
  have SET := Lib.hid fun (u : Value) (r : List Nat) (hu : Bs w u r) (hg : ∀ g, u.ownBlock = some g → (Value.slice A l.length c).ownBlock = some g) => (show RdR (w.setCell ⟨S, 0, none⟩ u) S r bad o ∧ Chg o w (w.setCell ⟨S, 0, none⟩ u) from ⟨h.set hu fun g h2 => hown g (hg g h2), (Chg.refl o w).setCell (p := ⟨S, 0, none⟩) h.1 u⟩)
  obtain ⟨N, hN⟩ : ∃ N, l.length = N := ⟨_, rfl⟩
  rw [hN] at hc
  have HN := Lib.hid hN
  clear h hbs hown
  go_enter Try.func35, Try.ntmps35
  go_wp2_with fail
  go_loop [4, 5] (fun v i => ∃ (k n : Nat), i = .int .i64 (k : Int) ∧ v = .int .u64 (n : Int) ∧ Hid (Cod.Inv l k n)) (fun _ i => 10 - (intOf i).toNat)
  case atStart => exact ⟨0, 0, rfl, rfl, Lib.hid (Cod.inv_0 l)⟩
  case round =>
    obtain ⟨k, n, rfl, rfl, V⟩ := hrel
    by_cases hk : k < N
    · have hkI : (k : Int) < (N : Int) := by omega
      have hd1 : decide ((k : Int) < (N : Int)) = true := by simp; omega
      by_cases hi : k < 10
      · have hd2 : decide ((k : Int) < 10) = true := by simp; omega
        have hl : k < l.length := by omega
        obtain ⟨b1, o1, rfl, hx⟩ := Bs.nth (n := l.length) HBS.out rfl hl
        have c256 : l.getD k 0 < 256 := HBS.out.getD_lt k
        obtain ⟨x, ex⟩ : ∃ x, l.getD k 0 = x := ⟨_, rfl⟩
        rw [ex] at hx c256
        by_cases h9 : k = 9 ∧ 1 < x
        · obtain ⟨rfl, h1⟩ := h9
          have g1 : (((9 : Nat) : Int) == 9) = true := rfl
          have g2 : decide ((1 : Int) < (x : Int)) = true := by simp; omega
          have DN := Lib.hid (Cod.rU_none (bad := bad) (Cod.inv_big V.out hl rfl (by rw [ex]; exact h1)))
          clear ex V hl h1 hi
          go_wp2_with fail
          refine FL.out.mono ?_
          rintro e w' ⟨rfl, hr, hch⟩
          go_wp2_with fail
          go_ret2
          exact ⟨by rw [DN.out]; rfl, by rw [DN.out]; exact hr, hch⟩
        · have gx : x < 128 → decide ((x : Int) < 128) = true := fun h => by simp; omega
          by_cases h9' : k = 9
          · obtain rfl := h9'
            have g1 : (((9 : Nat) : Int) == 9) = true := rfl
            have g2 : decide ((1 : Int) < (x : Int)) = false := by simp; omega
            have hx1 : x < 128 := by omega
            have hxI := gx hx1
            have hd3 : decide ((0 : Int) < ((9 : Nat) : Int)) = true := rfl
            clear gx
            by_cases h0 : 0 < 9 ∧ x = 0
            · have g4 : ((x : Int) == 0) = true := by simp; omega
              have DN := Lib.hid (Cod.rU_none (bad := bad) (Cod.inv_long V.out hl hi (by rw [ex]; exact h9) h0.1 (by rw [ex]; exact h0.2)))
              clear ex V hl h9 h0 hx1
              go_wp2_with fail
              refine FL.out.mono ?_
              rintro e w' ⟨rfl, hr, hch⟩
              go_wp2_with fail
              go_ret2
              exact ⟨by rw [DN.out]; rfl, by rw [DN.out]; exact hr, hch⟩
            · have g4 : ((x : Int) == 0) = false := by simp; omega
              have DN := Lib.hid (Cod.rU_some (bad := bad) (Cod.inv_last V.out hl hi (by rw [ex]; exact h9) (by rw [ex]; exact hx1) (by rw [ex]; exact h0)))
              rw [ex] at DN
              have W := Lib.hid (u_sum (x := x) (by rw [← ex]; exact Cod.inv_sum V.out hi (by rw [ex]; exact h9)))
              rw [Nat.mod_eq_of_lt hx1] at W
              have BA := Lib.hid (bs_drop (w := w) (b := b1) (o := o1) (N := N) (c := c) (l := l) (k := 9 + 1) (by rw [← HN.out]; exact HBS.out) (by omega))
              have FIN := Lib.hid fun off cc (hu : Bs w (.slice (some ⟨b1, off, none⟩) (N - (9 + 1)) cc) (l.drop (9 + 1))) => (show uPost l bad (fun w' r b => RdR w' S r b o) o w (.returned (.tuple #[.int .u64 (IntKind.u64.wrap ((n : Int) + IntKind.u64.wrap ((x : Int) % 128 * 2 ^ (7 * 9)))), .int .i64 0])) (w.setCell ⟨S, 0, none⟩ (.slice (some ⟨b1, off, none⟩) (N - (9 + 1)) cc)) from by
                have h1 := SET.out _ _ hu (fun g hg => hg)
                refine ⟨?_, by rw [DN.out]; exact h1.1, h1.2⟩
                rw [DN.out]
                exact congrArg (fun t => Ending.returned (.tuple #[.int .u64 t, .int .i64 0])) W.out)
              clear ex V hl h9 h0 hx1 W DN
              go_wp2_with fail
              all_goals go_ret2
              all_goals first
                | exact FIN.out _ _ (BA.out.1 (by assumption))
                | exact FIN.out _ _ (BA.out.1 rfl)
                | exact FIN.out _ _ (BA.out.2 (by assumption))
                | exact FIN.out _ _ (BA.out.2 (by omega))
          · have g1 : ((k : Int) == 9) = false := by simp; omega
            by_cases hx1 : x < 128
            · have hxI := gx hx1
              clear gx h9'
              by_cases h0 : 0 < k ∧ x = 0
              · have hd3 : (0 : Int) < (k : Int) := by omega
                have g4 : ((x : Int) == 0) = true := by simp; omega
                have DN := Lib.hid (Cod.rU_none (bad := bad) (Cod.inv_long V.out hl hi (by rw [ex]; exact h9) h0.1 (by rw [ex]; exact h0.2)))
                clear ex V hl h9 h0 hx1
                go_wp2_with fail
                refine FL.out.mono ?_
                rintro e w' ⟨rfl, hr, hch⟩
                go_wp2_with fail
                go_ret2
                exact ⟨by rw [DN.out]; rfl, by rw [DN.out]; exact hr, hch⟩
              · by_cases hk0 : 0 < k
                · have hd3 : (0 : Int) < (k : Int) := by omega
                  have g4 : ((x : Int) == 0) = false := by simp; omega
                  have DN := Lib.hid (Cod.rU_some (bad := bad) (Cod.inv_last V.out hl hi (by rw [ex]; exact h9) (by rw [ex]; exact hx1) (by rw [ex]; exact h0)))
                  rw [ex] at DN
                  have W := Lib.hid (u_sum (x := x) (by rw [← ex]; exact Cod.inv_sum V.out hi (by rw [ex]; exact h9)))
                  rw [Nat.mod_eq_of_lt hx1] at W
                  have BA := Lib.hid (bs_drop (w := w) (b := b1) (o := o1) (N := N) (c := c) (l := l) (k := k + 1) (by rw [← HN.out]; exact HBS.out) (by omega))
                  have FIN := Lib.hid fun off cc (hu : Bs w (.slice (some ⟨b1, off, none⟩) (N - (k + 1)) cc) (l.drop (k + 1))) => (show uPost l bad (fun w' r b => RdR w' S r b o) o w (.returned (.tuple #[.int .u64 (IntKind.u64.wrap ((n : Int) + IntKind.u64.wrap ((x : Int) % 128 * 2 ^ (7 * k)))), .int .i64 0])) (w.setCell ⟨S, 0, none⟩ (.slice (some ⟨b1, off, none⟩) (N - (k + 1)) cc)) from by
                    have h1 := SET.out _ _ hu (fun g hg => hg)
                    refine ⟨?_, by rw [DN.out]; exact h1.1, h1.2⟩
                    rw [DN.out]
                    exact congrArg (fun t => Ending.returned (.tuple #[.int .u64 t, .int .i64 0])) W.out)
                  clear ex V hl h9 h0 hx1 W DN
                  go_wp2_with fail
                  all_goals go_ret2
                  all_goals first
                    | exact FIN.out _ _ (BA.out.1 (by assumption))
                    | exact FIN.out _ _ (BA.out.1 rfl)
                    | exact FIN.out _ _ (BA.out.2 (by assumption))
                    | exact FIN.out _ _ (BA.out.2 (by omega))
                · have hd3 : decide ((0 : Int) < (k : Int)) = false := by simp; omega
                  have DN := Lib.hid (Cod.rU_some (bad := bad) (Cod.inv_last V.out hl hi (by rw [ex]; exact h9) (by rw [ex]; exact hx1) (by rw [ex]; exact h0)))
                  rw [ex] at DN
                  have W := Lib.hid (u_sum (x := x) (by rw [← ex]; exact Cod.inv_sum V.out hi (by rw [ex]; exact h9)))
                  rw [Nat.mod_eq_of_lt hx1] at W
                  have BA := Lib.hid (bs_drop (w := w) (b := b1) (o := o1) (N := N) (c := c) (l := l) (k := k + 1) (by rw [← HN.out]; exact HBS.out) (by omega))
                  have FIN := Lib.hid fun off cc (hu : Bs w (.slice (some ⟨b1, off, none⟩) (N - (k + 1)) cc) (l.drop (k + 1))) => (show uPost l bad (fun w' r b => RdR w' S r b o) o w (.returned (.tuple #[.int .u64 (IntKind.u64.wrap ((n : Int) + IntKind.u64.wrap ((x : Int) % 128 * 2 ^ (7 * k)))), .int .i64 0])) (w.setCell ⟨S, 0, none⟩ (.slice (some ⟨b1, off, none⟩) (N - (k + 1)) cc)) from by
                    have h1 := SET.out _ _ hu (fun g hg => hg)
                    refine ⟨?_, by rw [DN.out]; exact h1.1, h1.2⟩
                    rw [DN.out]
                    exact congrArg (fun t => Ending.returned (.tuple #[.int .u64 t, .int .i64 0])) W.out)
                  clear ex V hl h9 h0 hx1 W DN
                  go_wp2_with fail
                  all_goals go_ret2
                  all_goals first
                    | exact FIN.out _ _ (BA.out.1 (by assumption))
                    | exact FIN.out _ _ (BA.out.1 rfl)
                    | exact FIN.out _ _ (BA.out.2 (by assumption))
                    | exact FIN.out _ _ (BA.out.2 (by omega))
            · have hxI : decide ((x : Int) < 128) = false := by simp; omega
              have NX := Lib.hid (Cod.inv_next V.out hl hi (by rw [ex]; exact h9) (by rw [ex]; exact hx1))
              have W := Lib.hid (u_sum (x := x) (by rw [← ex]; exact Cod.inv_sum V.out hi (by rw [ex]; exact h9)))
              rw [ex] at NX
              clear gx h9' ex V hl h9
              obtain ⟨m, em⟩ : ∃ m, n + 2 ^ (7 * k) * (x % 128) = m := ⟨_, rfl⟩
              rw [em] at NX W
              clear em
              go_wp2_with fail
              rw [W.out]
              go_round
              case rel => exact ⟨k + 1, m, by go_num, rfl, NX⟩
              case measure => simp [intOf]; omega
      · have hd2 : decide ((k : Int) < 10) = false := by simp; omega
        have DN := Lib.hid (Cod.rU_none (bad := bad) (Cod.inv_end V.out (Or.inr hi)))
        clear V
        go_wp2_with fail
        refine FL.out.mono ?_
        rintro e w' ⟨rfl, hr, hch⟩
        go_wp2_with fail
        go_ret2
        exact ⟨by rw [DN.out]; rfl, by rw [DN.out]; exact hr, hch⟩
    · have hd1 : decide ((k : Int) < (N : Int)) = false := by simp; omega
      have DN := Lib.hid (Cod.rU_none (bad := bad) (Cod.inv_end V.out (Or.inl (by omega))))
      clear V
      go_wp2_with fail
      refine FL.out.mono ?_
      rintro e w' ⟨rfl, hr, hch⟩
      go_wp2_with fail
      go_ret2
      exact ⟨by rw [DN.out]; rfl, by rw [DN.out]; exact hr, hch⟩
end Go.Proofs.Ytajeboigkpelgaa

