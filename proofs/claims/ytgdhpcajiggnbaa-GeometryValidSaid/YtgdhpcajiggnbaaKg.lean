/- The reference's Ints; lists of integers that a call appends to. -/
import Derived.Test.YtgdhpcajiggnbaaKd
import Derived.Test.YtgdhpcajiggnbaaGA
import Derived.BigQuiet
namespace Go.Proofs.Ytgdhpcajiggnbaa
open Go Go.RowKit
set_option linter.unusedVariables false
set_option linter.unusedSimpArgs false
theorem is_form {w : World} {v : Value} {l : List Int} (h : Is w v l) : ∃ A c, v = .slice A l.length c := by obtain ⟨A, c, h, _⟩ := h; exact ⟨A, c, h⟩
theorem is_fw {w w' : World} {v : Value} {l : List Int} (h : Is w v l) (hb : Below w.heap.size w w') : Is w' v l := Sl.keeps Iv.keeps _ _ _ _ h (Below.toSame hb)
theorem is_nth {w : World} {A : Option Addr} {n c : Nat} {l : List Int} (h : Is w (.slice A n c) l) {k : Nat} (hk : k < n) : ∃ b off, A = some ⟨b, off, none⟩ ∧ w.cell? ⟨b, off + k, none⟩ = some (.int .i64 (l.getD k 0)) := by
  obtain ⟨A', c', e, -, -, hc⟩ := h
  injection e with e1 e2 e3
  obtain ⟨b, off, h1, h2⟩ := hc (by omega)
  obtain ⟨u, hu, hr⟩ := h2 k (by omega)
  refine ⟨b, off, by rw [e1, h1], ?_⟩
  rw [hu, hr, getD_in (by omega)]
theorem is_len {w : World} {A : Option Addr} {n c : Nat} {l : List Int} (h : Is w (.slice A n c) l) : l.length = n ∧ n ≤ 9223372036854775807 := by
  obtain ⟨A', c', e, hm, -, -⟩ := h
  injection e with e1 e2 e3
  refine ⟨e2.symm, ?_⟩
  have := hm.2; unfold maxLen at this; omega
theorem list_eq_of {a b : List Int} {n : Nat} (ha : a.length = n) (hb : b.length = n) (h : ∀ k, k < n → a.getD k 0 = b.getD k 0) : a = b := by
  refine List.ext_getElem (by omega) fun k h1 h2 => ?_
  have := h k (by omega)
  rw [getD_in h1, getD_in h2] at this; exact this
set_option maxHeartbeats 2000000 in
set_option maxRecDepth 100000 in
theorem rints_any (v0 v1 : Value) (a b : List Int) (w : World) (h0 : Is w v0 a) (h1 : Is w v1 b) :
    Calls Try.prog 23 #[v0, v1] w (gPost (.bool (decide (a = b))) w) := by
  obtain ⟨A0, c0, e0⟩ := is_form h0
  obtain ⟨A1, c1, e1⟩ := is_form h1
  rw [e0] at h0 ⊢
  rw [e1] at h1 ⊢
  clear e0 e1
  have m0 := (is_len h0).2
  have m1 := (is_len h1).2
  obtain ⟨n0, en0⟩ : ∃ n, a.length = n := ⟨_, rfl⟩
  obtain ⟨n1, en1⟩ : ∃ n, b.length = n := ⟨_, rfl⟩
  rw [en0] at h0 m0 ⊢
  rw [en1] at h1 m1 ⊢
  have H0 := Lib.hid h0
  have H1 := Lib.hid h1
  have E0 := Lib.hid en0
  have E1 := Lib.hid en1
  clear h0 h1 en0 en1
  by_cases hl : n0 = n1
  · subst hl
    have g0 : ((n0 : Int) != (n0 : Int)) = false := by simp
    go_enter Try.func23, Try.ntmps23
    go_wp2_with fail
    go_loopw [5] (fun i wr => ∃ k : Nat, k ≤ n0 ∧ i = .int .i64 (k : Int) ∧ Hid (Below w.heap.size w wr ∧ ∀ j, j < k → a.getD j 0 = b.getD j 0)) (fun i _ => n0 - (intOf i).toNat)
    case atStart => exact ⟨0, Nat.zero_le _, rfl, Lib.hid ⟨Below.refl _ _, fun j hj => absurd hj (Nat.not_lt_zero j)⟩⟩
    case round =>
      obtain ⟨k, hk, rfl, V⟩ := hrel
      obtain ⟨hbel, hall⟩ := V.out
      have BL := Lib.hid hbel
      by_cases hlt : k < n0
      · have kI : (k : Int) < (n0 : Int) := by omega
        obtain ⟨b0, o0, rfl, q0'⟩ := is_nth (is_fw H0.out hbel) hlt
        obtain ⟨b1, o1, rfl, q1'⟩ := is_nth (is_fw H1.out hbel) hlt
        obtain ⟨x, ex⟩ : ∃ x, a.getD k 0 = x := ⟨_, rfl⟩
        obtain ⟨y, ey⟩ : ∃ y, b.getD k 0 = y := ⟨_, rfl⟩
        rw [ex] at q0'
        rw [ey] at q1'
        have EX := Lib.hid (And.intro ex ey)
        have HA := Lib.hid hall
        clear ex ey hall V hbel
        by_cases hxy : x = y
        · subst hxy
          have g1 : (x != x) = false := by simp
          go_wp2_with fail
          go_quiet (fail)
          go_wp2_with fail
          go_roundw
          case rel => exact ⟨k + 1, by omega, by go_num, Lib.hid ⟨below_drewN BL.out nq, fun j hj => by
            rcases Nat.lt_or_ge j k with h | h
            · exact HA.out j h
            · obtain rfl : j = k := by omega
              rw [EX.out.1, EX.out.2]⟩⟩
          case measure => simp [intOf]; omega
        · have g1 : (x != y) = true := by simpa using hxy
          have NE := Lib.hid (show decide (a = b) = false from decide_eq_false fun h => hxy (by rw [← EX.out.1, ← EX.out.2, h]))
          clear hxy
          go_wp2_with fail
          go_quiet (fail)
          go_wp2_with fail
          go_ret
          exact ⟨by rw [NE.out]; rfl, below_drewN BL.out nq⟩
      · obtain rfl : k = n0 := by omega
        have NE := Lib.hid (show decide (a = b) = true from decide_eq_true (list_eq_of E0.out E1.out hall))
        clear V hall hbel
        go_wp2_with fail
        go_ret
        exact ⟨by rw [NE.out]; rfl, BL.out⟩
  · have g0 : ((n0 : Int) != (n1 : Int)) = true := by simp; omega
    have NE := Lib.hid (show decide (a = b) = false from decide_eq_false fun h => hl (by rw [← E0.out, ← E1.out, h]))
    go_enter Try.func23, Try.ntmps23
    go_wp2_with fail
    go_ret
    exact ⟨by rw [NE.out]; rfl, Below.refl _ _⟩
end Go.Proofs.Ytgdhpcajiggnbaa
