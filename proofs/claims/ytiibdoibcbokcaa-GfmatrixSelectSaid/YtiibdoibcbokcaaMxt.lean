/- Contracts: allBelow and Select. -/
import Derived.Test.YtiibdoibcbokcaaMxj
import Derived.StillTailTactics
namespace Go.Proofs.Ytiibdoibcbokcaa
open Go Go.RowKit Lin
set_option linter.unusedVariables false

def belowB (l : List Int) (L : Int) : Bool := l.all fun x => decide (0 ≤ x) && decide (x < L)
theorem belowB_iff (l : List Int) (L : Int) : belowB l L = true ↔ ∀ k, k < l.length → 0 ≤ l.getD k 0 ∧ l.getD k 0 < L := by
  unfold belowB
  rw [List.all_eq_true]
  constructor
  · intro h k hk
    have := h (l[k]) (List.getElem_mem hk)
    rw [getD_in hk]
    simpa using this
  · intro h x hx
    obtain ⟨k, hk, rfl⟩ := List.mem_iff_getElem.1 hx
    have := h k hk
    rw [getD_in hk] at this
    simpa using this
set_option maxHeartbeats 2000000 in
set_option maxRecDepth 100000 in
theorem allBelow_any (v : Value) (l : List Int) (L : Nat) (w : World) (h : Is w v l) : Calls Try.prog 38 #[v, .int .i64 (L : Int)] w fun e w' => e = .returned (.bool (belowB l L)) ∧ w = w' := by
  have V := Lib.hid (belowB_iff l L)
  have hc := fun hn => Is.at_ h hn
  have hml := h.len
  obtain ⟨A, c, rfl⟩ := Sl.form h
  have HC := Lib.hid hc
  obtain ⟨n, hn⟩ : ∃ n, l.length = n := ⟨_, rfl⟩
  rw [hn] at hml ⊢
  have N := Lib.hid hn
  have hm' : (n : Int) ≤ 9223372036854775807 := by unfold maxLen at hml; omega
  clear h hn hc hml
  go_enter Try.func38, Try.ntmps38
  go_wp2
  go_loop [6, 9] (fun _ i => ∃ k : Nat, k ≤ n ∧ i = .int .i64 (k : Int) ∧ Hid (∀ j, j < k → 0 ≤ l.getD j 0 ∧ l.getD j 0 < L)) (fun _ i => n - (intOf i).toNat)
  case atStart => exact ⟨0, Nat.zero_le _, rfl, Lib.hid fun j hj => absurd hj (Nat.not_lt_zero j)⟩
  case round =>
    obtain ⟨k, hk, rfl, H⟩ := hrel
    by_cases hlt : k < n
    · obtain ⟨b, off, c', hv, -, hcell⟩ := HC.out (by rw [N.out]; omega)
      injection hv with hv1 hv2 hv3
      subst hv1
      have p1 := hcell k (by rw [N.out]; exact hlt)
      obtain ⟨x, ex⟩ : ∃ x, l.getD k 0 = x := ⟨_, rfl⟩
      rw [ex] at p1
      have EX := Lib.hid ex
      clear hcell hv2 hv3 ex
      by_cases h0 : x < 0
      · have g0 : decide (x < 0) = true := by simpa using h0
        go_wp2
        go_ret
        refine ⟨ret_bool (Bool.eq_false_iff.2 fun hb => ?_).symm, rfl⟩
        have := ((V.out.1 hb) k (by rw [N.out]; exact hlt)).1
        rw [EX.out] at this
        omega
      · have g0 : decide (x < 0) = false := by simpa using h0
        by_cases h1 : x < (L : Int)
        · have g1 : decide ((L : Int) ≤ x) = false := by simpa using h1
          have hx0 : 0 ≤ x := by omega
          go_wp2
          go_round
          case rel =>
            refine ⟨k + 1, by omega, by go_num, Lib.hid fun j hj => ?_⟩
            rcases Nat.lt_or_ge j k with h | h
            · exact H.out j h
            · obtain rfl : j = k := by omega
              rw [EX.out]; exact ⟨hx0, h1⟩
          case measure => simp [intOf]; omega
        · have g1 : decide ((L : Int) ≤ x) = true := by simp; omega
          go_wp2
          go_ret
          refine ⟨ret_bool (Bool.eq_false_iff.2 fun hb => ?_).symm, rfl⟩
          have := ((V.out.1 hb) k (by rw [N.out]; exact hlt)).2
          rw [EX.out] at this
          omega
    · go_wp2
      go_ret
      refine ⟨ret_bool (V.out.2 fun j hj => H.out j (by rw [N.out] at hj; omega)).symm, rfl⟩
theorem below_b (v : Value) (l : List Int) (L : Nat) (b : Bool) (w : World) (h : Is w v l) (hb : belowB l L = b) : Calls Try.prog 38 #[v, .int .i64 (L : Int)] w fun e w' => e = .returned (.bool b) ∧ w = w' :=
  (allBelow_any v l L w h).mono fun _ _ ⟨he, hw⟩ => ⟨by rw [he, hb], hw⟩
set_option maxHeartbeats 2000000 in
set_option maxRecDepth 100000 in
theorem sel_inv (v v1 v2 : Value) (m : List (List Nat)) (ri ci : List Int) (w : World) (h : Ms w v m) (h1 : Is w v1 ri) (h2 : Is w v2 ci) (hv : validB m = false) :
    Calls Try.prog 25 #[v, v1, v2] w (errPost (.tuple #[.slice none 0 0, .int .i64 1]) w) := by
  have VA := Lib.hid (valid_false v m w h hv)
  clear hv h h1 h2
  go_enter Try.func25, Try.ntmps25
  go_wp2_with fail
  refine (VA.out).mono ?_
  rintro e w' ⟨rfl, rfl⟩
  go_wp2_with fail
  go_ret2
  exact ⟨rfl, rfl⟩
set_option maxHeartbeats 2000000 in
set_option maxRecDepth 100000 in
theorem sel_rows (v v1 v2 : Value) (m : List (List Nat)) (ri ci : List Int) (w : World) (h : Ms w v m) (h1 : Is w v1 ri) (h2 : Is w v2 ci) {r n : Nat} (hR : Rect r n m) (h0 : 0 < r) (hn0 : 0 < n) (hr64 : r ≤ 64) (hn64 : n ≤ 64) (hl : ri.length < 1 ∨ 64 < ri.length) :
    Calls Try.prog 25 #[v, v1, v2] w (errPost (.tuple #[.slice none 0 0, .int .i64 1]) w) := by
  have VA := Lib.hid (valid_true v m w h hR h0 hn0 hr64 hn64)
  have I1 := Lib.hid h1
  have I2 := Lib.hid h2
  obtain ⟨ba, oa, ca, rfl, hm, hat⟩ := Ms.open_ h hR h0 hn0
  obtain ⟨b1, o1, c1, z1, -⟩ := hat 0 h0
  rw [Nat.add_zero] at z1
  have hrI : (0 : Int) < (r : Int) := by omega
  obtain ⟨A1, c1, rfl⟩ := Sl.form h1
  obtain ⟨A2, c2, rfl⟩ := Sl.form h2
  obtain ⟨p, ep⟩ : ∃ p, ri.length = p := ⟨_, rfl⟩
  obtain ⟨q, eq⟩ : ∃ q, ci.length = q := ⟨_, rfl⟩
  rw [ep] at I1 hl ⊢
  rw [eq] at I2 ⊢
  have HL : Hid ((p : Int) < 1 ∨ 64 < (p : Int)) := Lib.hid (by omega)
  clear hl
  clear hat h h1 h2 hm hR ep eq
  go_enter Try.func25, Try.ntmps25
  go_wp2_with fail
  refine (VA.out).mono ?_
  rintro e w' ⟨rfl, rfl⟩
  go_wp2_with fail
  refine (side_f _ _ HL.out).mono ?_
  rintro e w' ⟨rfl, rfl⟩
  go_wp2_with fail
  go_ret2
  exact ⟨rfl, rfl⟩
set_option maxHeartbeats 2000000 in
set_option maxRecDepth 100000 in
theorem sel_cols (v v1 v2 : Value) (m : List (List Nat)) (ri ci : List Int) (w : World) (h : Ms w v m) (h1 : Is w v1 ri) (h2 : Is w v2 ci) {r n : Nat} (hR : Rect r n m) (h0 : 0 < r) (hn0 : 0 < n) (hr64 : r ≤ 64) (hn64 : n ≤ 64) (hl : 1 ≤ ri.length ∧ ri.length ≤ 64) (hl2 : ci.length < 1 ∨ 64 < ci.length) :
    Calls Try.prog 25 #[v, v1, v2] w (errPost (.tuple #[.slice none 0 0, .int .i64 1]) w) := by
  have VA := Lib.hid (valid_true v m w h hR h0 hn0 hr64 hn64)
  have I1 := Lib.hid h1
  have I2 := Lib.hid h2
  obtain ⟨ba, oa, ca, rfl, hm, hat⟩ := Ms.open_ h hR h0 hn0
  obtain ⟨b1, o1, c1, z1, -⟩ := hat 0 h0
  rw [Nat.add_zero] at z1
  have hrI : (0 : Int) < (r : Int) := by omega
  obtain ⟨A1, c1, rfl⟩ := Sl.form h1
  obtain ⟨A2, c2, rfl⟩ := Sl.form h2
  obtain ⟨p, ep⟩ : ∃ p, ri.length = p := ⟨_, rfl⟩
  obtain ⟨q, eq⟩ : ∃ q, ci.length = q := ⟨_, rfl⟩
  rw [ep] at I1 hl ⊢
  rw [eq] at I2 hl2 ⊢
  have HL : Hid ((q : Int) < 1 ∨ 64 < (q : Int)) := Lib.hid (by omega)
  obtain ⟨hl, hl'⟩ := hl
  clear hl2
  clear hat h h1 h2 hm hR ep eq
  go_enter Try.func25, Try.ntmps25
  go_wp2_with fail
  refine (VA.out).mono ?_
  rintro e w' ⟨rfl, rfl⟩
  go_wp2_with fail
  refine (side_t _ _ (by omega) (by omega)).mono ?_
  rintro e w' ⟨rfl, rfl⟩
  go_wp2_with fail
  refine (side_f _ _ HL.out).mono ?_
  rintro e w' ⟨rfl, rfl⟩
  go_wp2_with fail
  go_ret2
  exact ⟨rfl, rfl⟩
set_option maxHeartbeats 2000000 in
set_option maxRecDepth 100000 in
theorem sel_range1 (v v1 v2 : Value) (m : List (List Nat)) (ri ci : List Int) (w : World) (h : Ms w v m) (h1 : Is w v1 ri) (h2 : Is w v2 ci) {r n : Nat} (hR : Rect r n m) (h0 : 0 < r) (hn0 : 0 < n) (hr64 : r ≤ 64) (hn64 : n ≤ 64) (hl : 1 ≤ ri.length ∧ ri.length ≤ 64) (hl2 : 1 ≤ ci.length ∧ ci.length ≤ 64) (hb : belowB ri r = false) :
    Calls Try.prog 25 #[v, v1, v2] w (errPost (.tuple #[.slice none 0 0, .int .i64 2]) w) := by
  have VA := Lib.hid (valid_true v m w h hR h0 hn0 hr64 hn64)
  have I1 := Lib.hid h1
  have I2 := Lib.hid h2
  obtain ⟨ba, oa, ca, rfl, hm, hat⟩ := Ms.open_ h hR h0 hn0
  obtain ⟨b1, o1, c1, z1, -⟩ := hat 0 h0
  rw [Nat.add_zero] at z1
  have hrI : (0 : Int) < (r : Int) := by omega
  obtain ⟨A1, c1, rfl⟩ := Sl.form h1
  obtain ⟨A2, c2, rfl⟩ := Sl.form h2
  obtain ⟨p, ep⟩ : ∃ p, ri.length = p := ⟨_, rfl⟩
  obtain ⟨q, eq⟩ : ∃ q, ci.length = q := ⟨_, rfl⟩
  rw [ep] at I1 hl ⊢
  rw [eq] at I2 hl2 ⊢
  obtain ⟨hl, hl'⟩ := hl
  obtain ⟨hl2, hl2'⟩ := hl2
  have HBB := Lib.hid hb
  clear hb
  clear hat h h1 h2 hm hR ep eq
  go_enter Try.func25, Try.ntmps25
  go_wp2_with fail
  refine (VA.out).mono ?_
  rintro e w' ⟨rfl, rfl⟩
  go_wp2_with fail
  refine (side_t _ _ (by omega) (by omega)).mono ?_
  rintro e w' ⟨rfl, rfl⟩
  go_wp2_with fail
  refine (side_t _ _ (by omega) (by omega)).mono ?_
  rintro e w' ⟨rfl, rfl⟩
  go_wp2_with fail
  refine (below_b _ ri r false _ I1.out HBB.out).mono ?_
  rintro e w' ⟨rfl, rfl⟩
  go_wp2_with fail
  go_ret2
  exact ⟨rfl, rfl⟩
set_option maxHeartbeats 2000000 in
set_option maxRecDepth 100000 in
theorem sel_range2 (v v1 v2 : Value) (m : List (List Nat)) (ri ci : List Int) (w : World) (h : Ms w v m) (h1 : Is w v1 ri) (h2 : Is w v2 ci) {r n : Nat} (hR : Rect r n m) (h0 : 0 < r) (hn0 : 0 < n) (hr64 : r ≤ 64) (hn64 : n ≤ 64) (hl : 1 ≤ ri.length ∧ ri.length ≤ 64) (hl2 : 1 ≤ ci.length ∧ ci.length ≤ 64) (ha : belowB ri r = true) (hb : belowB ci n = false) :
    Calls Try.prog 25 #[v, v1, v2] w (errPost (.tuple #[.slice none 0 0, .int .i64 2]) w) := by
  have VA := Lib.hid (valid_true v m w h hR h0 hn0 hr64 hn64)
  have I1 := Lib.hid h1
  have I2 := Lib.hid h2
  obtain ⟨ba, oa, ca, rfl, hm, hat⟩ := Ms.open_ h hR h0 hn0
  obtain ⟨b1, o1, c1, z1, -⟩ := hat 0 h0
  rw [Nat.add_zero] at z1
  have hrI : (0 : Int) < (r : Int) := by omega
  obtain ⟨A1, c1, rfl⟩ := Sl.form h1
  obtain ⟨A2, c2, rfl⟩ := Sl.form h2
  obtain ⟨p, ep⟩ : ∃ p, ri.length = p := ⟨_, rfl⟩
  obtain ⟨q, eq⟩ : ∃ q, ci.length = q := ⟨_, rfl⟩
  rw [ep] at I1 hl ⊢
  rw [eq] at I2 hl2 ⊢
  obtain ⟨hl, hl'⟩ := hl
  obtain ⟨hl2, hl2'⟩ := hl2
  have HAA := Lib.hid ha
  have HBB := Lib.hid hb
  clear hb ha
  clear hat h h1 h2 hm hR ep eq
  go_enter Try.func25, Try.ntmps25
  go_wp2_with fail
  refine (VA.out).mono ?_
  rintro e w' ⟨rfl, rfl⟩
  go_wp2_with fail
  refine (side_t _ _ (by omega) (by omega)).mono ?_
  rintro e w' ⟨rfl, rfl⟩
  go_wp2_with fail
  refine (side_t _ _ (by omega) (by omega)).mono ?_
  rintro e w' ⟨rfl, rfl⟩
  go_wp2_with fail
  refine (below_b _ ri r true _ I1.out HAA.out).mono ?_
  rintro e w' ⟨rfl, rfl⟩
  go_wp2_with fail
  refine (below_b _ ci n false _ I2.out HBB.out).mono ?_
  rintro e w' ⟨rfl, rfl⟩
  go_wp2_with fail
  go_ret2
  exact ⟨rfl, rfl⟩
end Go.Proofs.Ytiibdoibcbokcaa
