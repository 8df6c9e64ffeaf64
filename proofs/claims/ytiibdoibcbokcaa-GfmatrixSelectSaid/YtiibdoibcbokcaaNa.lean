/- The walks of the laws on Valid and Identity, and on products. -/
import Derived.Test.YtiibdoibcbokcaaMxp
namespace Go.Proofs.Ytiibdoibcbokcaa
open Go Go.RowKit Lin

theorem bt {w a b : World} (h1 : Below w.heap.size w a) (h2 : Below a.heap.size a b) : Below w.heap.size w b := h1.trans (h2.mono h1.size)
theorem bd {w a : World} {B : Nat} (h1 : Below B w a) (q : Nat) : Below B w (a.drewN q) := h1.trans (Dr.below ⟨q, rfl⟩ _)
theorem Ms.to {w w' : World} {v : Value} {m : List (List Nat)} (h : Ms w v m) (hb : Below w.heap.size w w') : Ms w' v m := Sl.keeps Bs.keeps _ _ _ _ h (Below.toSame hb)
theorem Is.to {w w' : World} {v : Value} {m : List Int} (h : Is w v m) (hb : Below w.heap.size w w') : Is w' v m := Sl.keeps Iv.keeps _ _ _ _ h (Below.toSame hb)
theorem Bs.to {w w' : World} {v : Value} {l : List Nat} (h : Bs w v l) (hb : Below w.heap.size w w') : Bs w' v l := h.below hb
theorem bd2 {w a a' : World} {B : Nat} (h1 : Below B w a) (h2 : Dr a a') : Below B w a' := h1.trans (h2.below _)
theorem Ms.dr {w w' : World} {v : Value} {m : List (List Nat)} (h : Ms w v m) (hd : Dr w w') : Ms w' v m := Sl.keeps Bs.keeps _ _ _ _ h hd.same
theorem Is.dr {w w' : World} {v : Value} {m : List Int} (h : Is w v m) (hd : Dr w w') : Is w' v m := Sl.keeps Iv.keeps _ _ _ _ h hd.same
theorem Bs.dr {w w' : World} {v : Value} {l : List Nat} (h : Bs w v l) (hd : Dr w w') : Bs w' v l := h.keep hd.same.2
theorem valid_b (v : Value) (m : List (List Nat)) (w : World) (b : Bool) (h : Ms w v m) (hb : validB m = b) : Calls Try.prog 13 #[v] w fun e w' => e = .returned (.bool b) ∧ w = w' :=
  (valid_any v m w h).mono fun _ _ ⟨he, hw⟩ => ⟨by rw [he, hb], hw⟩
theorem rvalid_b (v : Value) (m : List (List Nat)) (w : World) (b : Bool) (h : Ms w v m) (hb : validB m = b) : Calls Try.prog 14 #[v] w (drPost (.bool b) w) :=
  (rvalid_any v m w h).mono fun _ _ ⟨he, hw⟩ => ⟨by rw [he, hb], hw⟩
theorem small_b (v : Value) (m : List (List Nat)) (w : World) (b : Bool) (h : Ms w v m) (hb : smallB m = b) : Calls Try.prog 17 #[v] w fun e w' => e = .returned (.bool b) ∧ w = w' :=
  (small_any v m w h).mono fun _ _ ⟨he, hw⟩ => ⟨by rw [he, hb], hw⟩
theorem idL_valid (n : Nat) (h1 : 1 ≤ n) (h2 : n ≤ 64) : validB (idL n) = true :=
  (validB_iff _).2 ⟨by rw [(idL_rect n).len]; omega, by rw [(idL_rect n).len]; omega, by rw [((idL_rect n).row 0 h1).1]; omega, by rw [((idL_rect n).row 0 h1).1]; omega, fun i hi => by rw [(idL_rect n).len] at hi; rw [((idL_rect n).row i hi).1, ((idL_rect n).row 0 h1).1]⟩

set_option maxHeartbeats 4000000 in
set_option maxRecDepth 100000 in
theorem validlaw_long (v : Value) (m : List (List Nat)) (n : Int) (w : World) (h : Ms w v m) (hl : 100 < m.length) : Calls Try.prog 3 #[v, .int .i64 n] w (lawPost w) := by
  obtain ⟨A, c, rfl⟩ := Sl.form h
  clear h
  generalize m.length = q at *
  have hd : decide ((100 : Int) < (q : Int)) = true := by simp; omega
  go_enter Try.func3, Try.ntmps3
  go_wp2_with fail
  refine (awake_any _).mono ?_
  rintro e w1 ⟨rfl, hb⟩
  have HB := Lib.hid hb
  clear hb
  go_wp2_with fail
  go_ret
  exact ⟨rfl, HB.out⟩
set_option maxHeartbeats 4000000 in
set_option maxRecDepth 100000 in
theorem validlaw_err (v : Value) (m : List (List Nat)) (n : Int) (w : World) (h : Ms w v m) (hl : m.length ≤ 100) (hn : n < 1 ∨ 64 < n) : Calls Try.prog 3 #[v, .int .i64 n] w (lawPost w) := by
  have H := Lib.hid h
  obtain ⟨b, hv⟩ : ∃ b, validB m = b := ⟨_, rfl⟩
  have V := Lib.hid hv
  obtain ⟨A, c, rfl⟩ := Sl.form h
  have HN := Lib.hid hn
  have IE := Lib.hid (fun w => identity_err n w hn)
  have hd : decide ((100 : Int) < (m.length : Int)) = false := by simp; omega
  clear h hv hl
  obtain ⟨q, hq⟩ : ∃ q, m.length = q := ⟨_, rfl⟩
  rw [hq] at H hd ⊢
  clear hq
  rcases hn with hn | hn
  · have hd1 : decide (n < 1) = true := by simpa using hn
    go_enter Try.func3, Try.ntmps3
    go_wp2_with fail
    refine (awake_any _).mono ?_
    rintro e w1 ⟨rfl, hb⟩
    have HB := Lib.hid hb
    clear hb
    go_wp2_with fail
    refine (IE.out _).mono ?_
    rintro e w' ⟨rfl, rfl⟩
    go_wp2_with fail
    refine (valid_b _ m _ b (H.out.to HB.out) V.out).mono ?_
    rintro e w' ⟨rfl, rfl⟩
    go_wp2_with fail
    refine (rvalid_b _ m _ b (H.out.to HB.out) V.out).mono ?_
    rintro e w' ⟨rfl, q, rfl⟩
    go_wp2_with fail
    go_ret
    exact ⟨by first | rfl | simp, bd HB.out _⟩
  · have hd1 : decide (n < 1) = false := by simp; omega
    have hd2 : decide (64 < n) = true := by simpa using hn
    go_enter Try.func3, Try.ntmps3
    go_wp2_with fail
    refine (awake_any _).mono ?_
    rintro e w1 ⟨rfl, hb⟩
    have HB := Lib.hid hb
    clear hb
    go_wp2_with fail
    refine (IE.out _).mono ?_
    rintro e w' ⟨rfl, rfl⟩
    go_wp2_with fail
    refine (valid_b _ m _ b (H.out.to HB.out) V.out).mono ?_
    rintro e w' ⟨rfl, rfl⟩
    go_wp2_with fail
    refine (rvalid_b _ m _ b (H.out.to HB.out) V.out).mono ?_
    rintro e w' ⟨rfl, q, rfl⟩
    go_wp2_with fail
    go_ret
    exact ⟨by first | rfl | simp, bd HB.out _⟩
set_option maxHeartbeats 4000000 in
set_option maxRecDepth 100000 in
theorem validlaw_ok (v : Value) (m : List (List Nat)) (n : Nat) (w : World) (h : Ms w v m) (hl : m.length ≤ 100) (h1 : 1 ≤ n) (h2 : n ≤ 64) : Calls Try.prog 3 #[v, .int .i64 (n : Int)] w (lawPost w) := by
  have H := Lib.hid h
  obtain ⟨b, hv⟩ : ∃ b, validB m = b := ⟨_, rfl⟩
  have V := Lib.hid hv
  obtain ⟨A, c, rfl⟩ := Sl.form h
  have hd : decide ((100 : Int) < (m.length : Int)) = false := by simp; omega
  clear h hv hl
  obtain ⟨q, hq⟩ : ∃ q, m.length = q := ⟨_, rfl⟩
  rw [hq] at H hd ⊢
  clear hq
  have hd1 : decide ((n : Int) < 1) = false := by simp; omega
  have hd2 : decide (64 < (n : Int)) = false := by simp; omega
  go_enter Try.func3, Try.ntmps3
  go_wp2_with fail
  refine (awake_any _).mono ?_
  rintro e w1 ⟨rfl, hb⟩
  have HB := Lib.hid hb
  clear hb
  go_wp2_with fail
  refine (identity_ok n _ h1 h2).mono ?_
  rintro e w2 ⟨vi, rfl, hi, hb2⟩
  have HI := Lib.hid hi
  have HB2 := Lib.hid (bt HB.out hb2)
  clear hi hb2
  go_wp2_with fail
  refine (ridentity_any n _ h2).mono ?_
  rintro e w3 ⟨vr, rfl, hr, hb3⟩
  have HI3 := Lib.hid (HI.out.to hb3)
  have HR := Lib.hid hr.sl
  have HB3 := Lib.hid (bt HB2.out hb3)
  clear hr hb3
  go_wp2_with fail
  refine (msame_c _ _ (idL n) _ HI3.out HR.out).mono ?_
  rintro e w' ⟨rfl, q, rfl⟩
  go_wp2_with fail
  refine (valid_b _ (idL n) _ true (HI3.out.dr ⟨_, rfl⟩) (idL_valid n h1 h2)).mono ?_
  rintro e w' ⟨rfl, rfl⟩
  go_wp2_with fail
  refine (valid_b _ m _ b (H.out.to (bd HB3.out _)) V.out).mono ?_
  rintro e w' ⟨rfl, rfl⟩
  go_wp2_with fail
  refine (rvalid_b _ m _ b (H.out.to (bd HB3.out _)) V.out).mono ?_
  rintro e w' ⟨rfl, q, rfl⟩
  go_wp2_with fail
  go_ret
  exact ⟨by first | rfl | simp, bd HB3.out _⟩
theorem validlaw_walk (v : Value) (m : List (List Nat)) (n : Int) (w : World) (h : Ms w v m) : Calls Try.prog 3 #[v, .int .i64 n] w (lawPost w) := by
  by_cases hl : 100 < m.length
  · exact validlaw_long v m n w h hl
  · by_cases hn : n < 1 ∨ 64 < n
    · exact validlaw_err v m n w h (by omega) hn
    · obtain ⟨k, rfl⟩ : ∃ k : Nat, n = k := ⟨n.toNat, by omega⟩
      exact validlaw_ok v m k w h (by omega) (by omega) (by omega)
end Go.Proofs.Ytiibdoibcbokcaa
