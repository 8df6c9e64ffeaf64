/- Contracts: Add, Mul, Neg, Inv. WRITTEN BY gen_Sj.py. -/
import Derived.Test.YtjbgfpbidjhlkaaDoorSi
namespace Go.Proofs.YtjbgfpbidjhlkaaDoor
open Go Go.RowKit
set_option linter.unusedVariables false

theorem Fd.fq {q : Nat} {v : Value} {w : World} (hq : q ∈ Sf.sizes) (h : Fd w v q) : Fq w v q := Or.inr ⟨(Sf.prm_ok hq).2.2.1, h⟩
theorem Fq.nil_ (w : World) : Fq w (.pointer none) 0 := Or.inl ⟨rfl, rfl⟩
theorem TTop.at_ {w : World} {B q a : Nat} (h : TTop w B q q) (ha : a < q) : w.cell? ⟨B, a, none⟩ = some (.slice (some ⟨B + 1 + a, 0, none⟩) q q) := by
  have := World.rowIs.cell h ha
  rwa [if_pos ha] at this
theorem TRow.at_ {w : World} {B q i : Nat} {f : Nat → Nat} (h : TRow w B q i f) {b : Nat} (hb : b < q) : w.cell? ⟨B + 1 + i, b, none⟩ = some (.int .i64 ((f b : Nat) : Int)) := World.rowIs.cell h hb

set_option maxHeartbeats 2000000 in
theorem add_ok (q a b : Nat) (v : Value) (w : World) (hq : q ∈ Sf.sizes) (h : Fd w v q) (ha : a < q) (hb : b < q) : Calls Tryd.prog 32 #[v, .int .i64 a, .int .i64 b] w (still (.int .i64 (Sf.addF q a b : Nat)) w) := by
  have H1 := Lib.hid ((has_any q v a w (h.fq hq)).mono fun e w' he => (⟨by rw [he.1, decide_eq_true (by omega)], he.2⟩ : e = .returned (.bool true) ∧ w' = w))
  have H2 := Lib.hid ((has_any q v b w (h.fq hq)).mono fun e w' he => (⟨by rw [he.1, decide_eq_true (by omega)], he.2⟩ : e = .returned (.bool true) ∧ w' = w))
  obtain ⟨B, s1, s2, rfl, c0, c1, c2, ⟨B1, rfl, t1, r1⟩, ⟨B2, rfl, t2, r2⟩⟩ := h
  have d1 := t1.at_ ha
  have d2 := (r1 a ha).at_ hb
  generalize Sf.addF q a b = y at d2 ⊢
  have q9 := (Sf.prm_ok hq).2.2.1
  have haI : (a : Int) < (q : Int) := by omega
  have hbI : (b : Int) < (q : Int) := by omega
  clear t1 r1 t2 r2 hq c0
  go_enter Tryd.func32, Tryd.ntmps32
  go_wp2_with fail
  refine H1.out.mono ?_
  rintro e w1 ⟨rfl, rfl⟩
  go_wp2_with fail
  refine H2.out.mono ?_
  rintro e w2 ⟨rfl, rfl⟩
  go_wp2_with fail
  go_ret
  exact ⟨rfl, rfl⟩
set_option maxHeartbeats 2000000 in
theorem add_out (q : Nat) (a b : Int) (v : Value) (w : World) (h : Fq w v q) (ho : ¬ ((0 ≤ a ∧ a < q) ∧ (0 ≤ b ∧ b < q))) : Calls Tryd.prog 32 #[v, .int .i64 a, .int .i64 b] w (still (.int .i64 (-1)) w) := by
  have H1 := Lib.hid (has_any q v a w h)
  have H2 := Lib.hid (has_any q v b w h)
  clear h
  by_cases ha : 0 ≤ a ∧ a < q
  · rw [decide_eq_true ha] at H1
    rw [decide_eq_false fun hb => ho ⟨ha, hb⟩] at H2
    clear ha ho
    go_enter Tryd.func32, Tryd.ntmps32
    go_wp2_with fail
    refine H1.out.mono ?_
    rintro e w1 ⟨rfl, rfl⟩
    go_wp2_with fail
    refine H2.out.mono ?_
    rintro e w2 ⟨rfl, rfl⟩
    go_wp2_with fail
    go_ret
    exact ⟨rfl, rfl⟩
  · rw [decide_eq_false ha] at H1
    clear H2 ha ho
    go_enter Tryd.func32, Tryd.ntmps32
    go_wp2_with (go_at_call 40; (refine H1.out.mono ?_; rintro e w' ⟨rfl, rfl⟩))
    go_ret
    exact ⟨rfl, rfl⟩

set_option maxHeartbeats 2000000 in
theorem mul_ok (q a b : Nat) (v : Value) (w : World) (hq : q ∈ Sf.sizes) (h : Fd w v q) (ha : a < q) (hb : b < q) : Calls Tryd.prog 33 #[v, .int .i64 a, .int .i64 b] w (still (.int .i64 (Sf.mulF q a b : Nat)) w) := by
  have H1 := Lib.hid ((has_any q v a w (h.fq hq)).mono fun e w' he => (⟨by rw [he.1, decide_eq_true (by omega)], he.2⟩ : e = .returned (.bool true) ∧ w' = w))
  have H2 := Lib.hid ((has_any q v b w (h.fq hq)).mono fun e w' he => (⟨by rw [he.1, decide_eq_true (by omega)], he.2⟩ : e = .returned (.bool true) ∧ w' = w))
  obtain ⟨B, s1, s2, rfl, c0, c1, c2, ⟨B1, rfl, t1, r1⟩, ⟨B2, rfl, t2, r2⟩⟩ := h
  have d1 := t2.at_ ha
  have d2 := (r2 a ha).at_ hb
  generalize Sf.mulF q a b = y at d2 ⊢
  have q9 := (Sf.prm_ok hq).2.2.1
  have haI : (a : Int) < (q : Int) := by omega
  have hbI : (b : Int) < (q : Int) := by omega
  clear t1 r1 t2 r2 hq c0
  go_enter Tryd.func33, Tryd.ntmps33
  go_wp2_with fail
  refine H1.out.mono ?_
  rintro e w1 ⟨rfl, rfl⟩
  go_wp2_with fail
  refine H2.out.mono ?_
  rintro e w2 ⟨rfl, rfl⟩
  go_wp2_with fail
  go_ret
  exact ⟨rfl, rfl⟩
set_option maxHeartbeats 2000000 in
theorem mul_out (q : Nat) (a b : Int) (v : Value) (w : World) (h : Fq w v q) (ho : ¬ ((0 ≤ a ∧ a < q) ∧ (0 ≤ b ∧ b < q))) : Calls Tryd.prog 33 #[v, .int .i64 a, .int .i64 b] w (still (.int .i64 (-1)) w) := by
  have H1 := Lib.hid (has_any q v a w h)
  have H2 := Lib.hid (has_any q v b w h)
  clear h
  by_cases ha : 0 ≤ a ∧ a < q
  · rw [decide_eq_true ha] at H1
    rw [decide_eq_false fun hb => ho ⟨ha, hb⟩] at H2
    clear ha ho
    go_enter Tryd.func33, Tryd.ntmps33
    go_wp2_with fail
    refine H1.out.mono ?_
    rintro e w1 ⟨rfl, rfl⟩
    go_wp2_with fail
    refine H2.out.mono ?_
    rintro e w2 ⟨rfl, rfl⟩
    go_wp2_with fail
    go_ret
    exact ⟨rfl, rfl⟩
  · rw [decide_eq_false ha] at H1
    clear H2 ha ho
    go_enter Tryd.func33, Tryd.ntmps33
    go_wp2_with (go_at_call 40; (refine H1.out.mono ?_; rintro e w' ⟨rfl, rfl⟩))
    go_ret
    exact ⟨rfl, rfl⟩

set_option maxHeartbeats 2000000 in
theorem neg_ok (q a r : Nat) (v : Value) (w : World) (hq : q ∈ Sf.sizes) (h : Fd w v q) (ha : a < q) (hr : r ≤ q) (hno : ∀ j, j < r → Sf.addF q a j ≠ 0) (hyes : r < q → Sf.addF q a r = 0) : Calls Tryd.prog 56 #[v, .int .i64 a] w (still (.int .i64 (if r < q then (r : Int) else -1)) w) := by
  have H1 := Lib.hid ((has_any q v a w (h.fq hq)).mono fun e w' he => (⟨by rw [he.1, decide_eq_true (by omega)], he.2⟩ : e = .returned (.bool true) ∧ w' = w))
  obtain ⟨B, s1, s2, rfl, c0, c1, c2, ⟨B1, rfl, t1, r1⟩, ⟨B2, rfl, t2, r2⟩⟩ := h
  have d1 := t1.at_ ha
  have HP := Lib.hid (pos_any (B1 + 1 + a) q (Sf.addF q a) 0 w r (Sf.prm_ok hq).2.2.1 (fun j hj => (r1 a ha).at_ hj) hr (fun j hj => by have := hno j hj; omega) (fun hr => by have := hyes hr; omega))
  generalize (if r < q then (r : Int) else -1) = y at HP ⊢
  have q9 := (Sf.prm_ok hq).2.2.1
  have haI : (a : Int) < (q : Int) := by omega
  clear t1 r1 t2 r2 hq c0 hno hyes hr
  go_enter Tryd.func56, Tryd.ntmps56
  go_wp2_with (first | (go_at_call 40; refine H1.out.mono ?_; rintro e w' ⟨rfl, rfl⟩) | (go_at_call 55; refine HP.out.mono ?_; rintro e w' ⟨rfl, rfl⟩))
  go_ret
  exact ⟨rfl, rfl⟩
set_option maxHeartbeats 2000000 in
theorem neg_out (q : Nat) (a : Int) (v : Value) (w : World) (h : Fq w v q) (ho : ¬ (0 ≤ a ∧ a < q)) : Calls Tryd.prog 56 #[v, .int .i64 a] w (still (.int .i64 (-1)) w) := by
  have H1 := Lib.hid (has_any q v a w h)
  rw [decide_eq_false ho] at H1
  clear h ho
  go_enter Tryd.func56, Tryd.ntmps56
  go_wp2_with (go_at_call 40; (refine H1.out.mono ?_; rintro e w' ⟨rfl, rfl⟩))
  go_ret
  exact ⟨rfl, rfl⟩

set_option maxHeartbeats 2000000 in
theorem inv_ok (q a r : Nat) (v : Value) (w : World) (hq : q ∈ Sf.sizes) (h : Fd w v q) (ha : a < q) (hr : r ≤ q) (hno : ∀ j, j < r → Sf.mulF q a j ≠ 1) (hyes : r < q → Sf.mulF q a r = 1) : Calls Tryd.prog 49 #[v, .int .i64 a] w (still (.int .i64 (if r < q then (r : Int) else -1)) w) := by
  have H1 := Lib.hid ((has_any q v a w (h.fq hq)).mono fun e w' he => (⟨by rw [he.1, decide_eq_true (by omega)], he.2⟩ : e = .returned (.bool true) ∧ w' = w))
  obtain ⟨B, s1, s2, rfl, c0, c1, c2, ⟨B1, rfl, t1, r1⟩, ⟨B2, rfl, t2, r2⟩⟩ := h
  have d1 := t2.at_ ha
  have HP := Lib.hid (pos_any (B2 + 1 + a) q (Sf.mulF q a) 1 w r (Sf.prm_ok hq).2.2.1 (fun j hj => (r2 a ha).at_ hj) hr (fun j hj => by have := hno j hj; omega) (fun hr => by have := hyes hr; omega))
  generalize (if r < q then (r : Int) else -1) = y at HP ⊢
  have q9 := (Sf.prm_ok hq).2.2.1
  have haI : (a : Int) < (q : Int) := by omega
  clear t1 r1 t2 r2 hq c0 hno hyes hr
  go_enter Tryd.func49, Tryd.ntmps49
  go_wp2_with (first | (go_at_call 40; refine H1.out.mono ?_; rintro e w' ⟨rfl, rfl⟩) | (go_at_call 55; refine HP.out.mono ?_; rintro e w' ⟨rfl, rfl⟩))
  go_ret
  exact ⟨rfl, rfl⟩
set_option maxHeartbeats 2000000 in
theorem inv_out (q : Nat) (a : Int) (v : Value) (w : World) (h : Fq w v q) (ho : ¬ (0 ≤ a ∧ a < q)) : Calls Tryd.prog 49 #[v, .int .i64 a] w (still (.int .i64 (-1)) w) := by
  have H1 := Lib.hid (has_any q v a w h)
  rw [decide_eq_false ho] at H1
  clear h ho
  go_enter Tryd.func49, Tryd.ntmps49
  go_wp2_with (go_at_call 40; (refine H1.out.mono ?_; rintro e w' ⟨rfl, rfl⟩))
  go_ret
  exact ⟨rfl, rfl⟩

theorem neg_el (q a : Nat) (v : Value) (w : World) (hq : q ∈ Sf.sizes) (h : Fd w v q) (ha : a < q) : Calls Tryd.prog 56 #[v, .int .i64 a] w (still (.int .i64 (Sf.negF q a : Nat)) w) := by
  obtain ⟨n1, n2, n3⟩ := Sf.neg_ok hq ha
  have := neg_ok q a (Sf.negF q a) v w hq h ha (Nat.le_of_lt n1) (fun j hj e => by have := n3 j (by omega) e; omega) (fun _ => n2)
  rwa [if_pos n1] at this
theorem inv_el (q a : Nat) (v : Value) (w : World) (hq : q ∈ Sf.sizes) (h : Fd w v q) (ha : a < q) (h0 : a ≠ 0) : Calls Tryd.prog 49 #[v, .int .i64 a] w (still (.int .i64 (Sf.invF q a : Nat)) w) := by
  obtain ⟨n1, -, n2, n3⟩ := Sf.inv_ok hq ha h0
  have := inv_ok q a (Sf.invF q a) v w hq h ha (Nat.le_of_lt n1) (fun j hj e => by have := n3 j (by omega) e; omega) (fun _ => n2)
  rwa [if_pos n1] at this
theorem inv_0 (q : Nat) (v : Value) (w : World) (hq : q ∈ Sf.sizes) (h : Fd w v q) : Calls Tryd.prog 49 #[v, .int .i64 0] w (still (.int .i64 (-1)) w) := by
  have h2 := (Sf.prm_ok hq).2.2.2.1
  have := inv_ok q 0 q v w hq h (by omega) (Nat.le_refl _) (fun j hj => Sf.inv_zero hq hj) (fun h => absurd h (Nat.lt_irrefl _))
  rwa [if_neg (Nat.lt_irrefl _)] at this
end Go.Proofs.YtjbgfpbidjhlkaaDoor
