/- Contracts: the methods of a field. -/
import Derived.Test.YtjbgfpbidjhlkaaDoorSh
namespace Go.Proofs.YtjbgfpbidjhlkaaDoor
open Go Go.RowKit
set_option linter.unusedVariables false

/-- A call that answers v, and leaves the world. -/
def still (v : Value) (w : World) (e : Ending) (w' : World) : Prop := e = .returned v ∧ w' = w


theorem size_ok (q : Nat) (v : Value) (w : World) (hq : q ≤ 9) (h : Fd w v q) : Calls Tryd.prog 48 #[v] w (still (.int .i64 q) w) := by
  obtain ⟨B, s1, s2, rfl, c0, c1, c2, ⟨B1, rfl, t1, r1⟩, ⟨B2, rfl, t2, r2⟩⟩ := h
  clear t1 r1 t2 r2
  go_enter Tryd.func48, Tryd.ntmps48
  go_wp2
  go_ret
  exact ⟨rfl, rfl⟩
theorem size_nil (w : World) : Calls Tryd.prog 48 #[.pointer none] w (still (.int .i64 0) w) := by
  go_enter Tryd.func48, Tryd.ntmps48
  go_wp2
  go_ret
  exact ⟨rfl, rfl⟩
/-- A value that is no field or a field of q elements: what Size answers. -/
def Fq (w : World) (v : Value) (q : Nat) : Prop := (v = .pointer none ∧ q = 0) ∨ (q ≤ 9 ∧ Fd w v q)
theorem size_any (q : Nat) (v : Value) (w : World) (h : Fq w v q) : Calls Tryd.prog 48 #[v] w (still (.int .i64 q) w) := by
  rcases h with ⟨rfl, rfl⟩ | ⟨hq, h⟩
  · exact size_nil w
  · exact size_ok q v w hq h
theorem has_any (q : Nat) (v : Value) (a : Int) (w : World) (h : Fq w v q) : Calls Tryd.prog 40 #[v, .int .i64 a] w (still (.bool (decide (0 ≤ a ∧ a < q))) w) := by
  have HS := Lib.hid (size_any q v w h)
  by_cases h0 : 0 ≤ a
  · by_cases h1 : a < q
    · rw [decide_eq_true ⟨h0, h1⟩]
      clear h
      go_enter Tryd.func40, Tryd.ntmps40
      go_wp2_with (go_at_call 48; refine HS.out.mono ?_; rintro e w' ⟨rfl, rfl⟩)
      go_ret
      exact ⟨rfl, rfl⟩
    · rw [decide_eq_false fun h => h1 h.2]
      clear h
      go_enter Tryd.func40, Tryd.ntmps40
      go_wp2_with (go_at_call 48; refine HS.out.mono ?_; rintro e w' ⟨rfl, rfl⟩)
      go_ret
      exact ⟨by show Ending.returned (.bool (decide (a < (q : Int)))) = _; rw [decide_eq_false (show ¬ a < (q : Int) by omega)], rfl⟩
  · rw [decide_eq_false fun h => h0 h.1]
    clear h
    go_enter Tryd.func40, Tryd.ntmps40
    go_wp2
    go_ret
    exact ⟨rfl, rfl⟩

set_option maxRecDepth 100000 in
theorem pos_any (B q : Nat) (f : Nat → Nat) (x : Int) (w : World) (r : Nat) (hq : q ≤ 9) (hc : ∀ j, j < q → w.cell? ⟨B, j, none⟩ = some (.int .i64 ((f j : Nat) : Int))) (hr : r ≤ q) (hno : ∀ j, j < r → (f j : Int) ≠ x) (hyes : r < q → (f r : Int) = x) :
    Calls Tryd.prog 55 #[.slice (some ⟨B, 0, none⟩) q q, .int .i64 x] w (still (.int .i64 (if r < q then (r : Int) else -1)) w) := by
  have HC := Lib.hid hc
  have HN := Lib.hid hno
  have HY := Lib.hid hyes
  obtain ⟨R, hR⟩ : ∃ R : Int, (if r < q then (r : Int) else -1) = R := ⟨_, rfl⟩
  rw [hR]
  have RR := Lib.hid hR
  clear hc hno hyes hR
  go_enter Tryd.func55, Tryd.ntmps55
  go_wp2_with fail
  go_loopw [5, 6, 9] (fun _ _ i wr => wr = w ∧ ∃ k : Nat, k ≤ r ∧ i = .int .i64 (k : Int)) (fun _ _ i _ => q - (intOf i).toNat)
  case atStart => exact ⟨rfl, 0, Nat.zero_le _, rfl⟩
  case round =>
    obtain ⟨rfl, k, hk, rfl⟩ := hrel
    by_cases hlt : k < q
    · have hkI : (k : Int) < (q : Int) := by omega
      have c1 := HC.out k hlt
      by_cases he : k = r
      · have e := HY.out (by omega)
        rw [← he] at e
        obtain ⟨y, hy⟩ : ∃ y, f k = y := ⟨_, rfl⟩
        rw [hy] at c1 e
        have g : ((y : Int) == x) = true := by simp [e]
        have HE := Lib.hid he
        clear e he hy
        go_wp2
        go_ret
        exact ⟨by rw [← RR.out, ← HE.out, if_pos hlt]; rfl, rfl⟩
      · have e := HN.out k (by omega)
        obtain ⟨y, hy⟩ : ∃ y, f k = y := ⟨_, rfl⟩
        rw [hy] at c1 e
        have g : ((y : Int) == x) = false := by simp [e]
        clear e hy
        go_wp2
        go_roundw
        case rel => exact ⟨trivial, k + 1, by omega, by go_num⟩
        case measure => simp [intOf]; omega
    · go_wp2
      go_ret
      exact ⟨by rw [← RR.out, if_neg (by omega)]; rfl, rfl⟩
end Go.Proofs.YtjbgfpbidjhlkaaDoor
