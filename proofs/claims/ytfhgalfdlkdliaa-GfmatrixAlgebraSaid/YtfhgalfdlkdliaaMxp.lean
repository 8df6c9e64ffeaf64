/- The examples of the document hold: 'awake' answers true. -/
import Derived.Test.YtfhgalfdlkdliaaMxo
import Derived.Test.YtfhgalfdlkdliaaOpen
import Derived.Test.YtfhgalfdlkdliaaLit
namespace Go.Proofs.Ytfhgalfdlkdliaa
open Go Go.RowKit Lin

theorem Same.allocR {a b : World} (h : Same a b) (o : Obj) : Same a (b.alloc o) := h.trans (alloc_same b o)
theorem Same.drewN {a b : World} (h : Same a b) (q : Nat) : Same a (b.drewN q) := h
theorem is_lit (w : World) (n : Nat) (hn : w.heap.size = n) : Is (w.alloc (.cells #[.int .i64 0, .int .i64 2] 3)) (.slice (some ⟨n, 0, none⟩) 2 2) (natsI [0, 2]) := by
  subst hn
  refine ⟨_, 2, rfl, ⟨by decide, by decide⟩, fun h => (by cases h), fun _ => ⟨w.heap.size, 0, rfl, fun k hk => ?_⟩⟩
  rw [cell_of_row _ _ _ _ _ _ (heap_alloc_new w _)]
  match k, hk with
  | 0, _ => exact ⟨_, rfl, rfl⟩
  | 1, _ => exact ⟨_, rfl, rfl⟩

theorem rect_ex1 : Rect 2 2 [[1, 1], [1, 2]] := ⟨rfl, by decide⟩
theorem rect_ex2 : Rect 3 2 [[1, 1], [2, 2], [0, 3]] := ⟨rfl, by decide⟩
theorem ex1 : (reduceF (augF 2 [[1, 1], [1, 2]]) 2).2.length = 2 := by decide +kernel
theorem ex1v : invF 2 [[1, 1], [1, 2]] = [[245, 244], [244, 244]] := by decide +kernel
theorem ex2 : (reduceF [[1, 1], [2, 2], [0, 3]] 2).2.length = 2 := by decide +kernel
theorem ex3 : pivT 3 2 [[1, 1], [2, 2], [0, 3]] = [0, 2] := by decide +kernel
theorem ex3i : (reduceF (augF 2 (rowsL [[1, 1], [2, 2], [0, 3]] (pivT 3 2 [[1, 1], [2, 2], [0, 3]]))) 2).2.length = 2 := by decide +kernel
theorem ex3v : invF 2 (rowsL [[1, 1], [2, 2], [0, 3]] (pivT 3 2 [[1, 1], [2, 2], [0, 3]])) = [[1, 244], [0, 244]] := by decide +kernel

def mPost (f : Value → Value) (m : List (List Nat)) (w : World) (e : Ending) (w' : World) : Prop := ∃ v, e = .returned (f v) ∧ Ms w' v m ∧ Below w.heap.size w w'
theorem inv_ex (w : World) (v : Value) (h : Ms w v [[1, 1], [1, 2]]) : Calls Try.prog 28 #[v] w (mPost (fun u => .tuple #[u, .int .i64 0]) [[245, 244], [244, 244]] w) :=
  (inverse_ok v _ w h rect_ex1 (by decide) (by decide) ex1).mono fun _ _ ⟨g, cap, he, _, hw, hb⟩ => ⟨_, he, by have := hw.sl; rw [ex1v] at this; rw [ex1v]; exact this, hb⟩
theorem rank_ex (w : World) (v : Value) (h : Ms w v [[1, 1], [2, 2], [0, 3]]) : Calls Try.prog 29 #[v] w (belowPost (.tuple #[.int .i64 2, .int .i64 0]) w) :=
  (rank_ok v _ w h rect_ex2 (by decide) (by decide) (by decide) (by decide)).mono fun _ _ ⟨he, hb⟩ => ⟨by rw [he, ex2]; rfl, hb⟩
def lPost (w : World) (e : Ending) (w' : World) : Prop := ∃ v vp, e = .returned (.tuple #[v, vp, .int .i64 0]) ∧ Ms w' v [[1, 244], [0, 244]] ∧ Is w' vp (natsI [0, 2]) ∧ Below w.heap.size w w'
theorem left_ex (w : World) (v : Value) (h : Ms w v [[1, 1], [2, 2], [0, 3]]) : Calls Try.prog 30 #[v] w (lPost w) :=
  (left_ok v _ w h rect_ex2 (by decide) (by decide) (by decide) (by decide) (by rw [ex3]; rfl) ex3i).mono fun _ _ ⟨v', vp, he, hm, hi, hb⟩ => ⟨v', vp, he, by rw [ex3v] at hm; exact hm, by rw [ex3] at hi; exact hi, hb⟩
theorem msame_c (v1 v2 : Value) (m : List (List Nat)) (w : World) (h1 : Ms w v1 m) (h2 : Ms w v2 m) : Calls Try.prog 15 #[v1, v2] w (drPost (.bool true) w) :=
  (msame_any v1 v2 m m w h1 h2).mono fun _ _ ⟨he, hw⟩ => ⟨by rw [he]; simp, hw⟩
theorem isame_c (v1 v2 : Value) (m : List Int) (w : World) (h1 : Is w v1 m) (h2 : Is w v2 m) : Calls Try.prog 31 #[v1, v2] w (drPost (.bool true) w) :=
  (isame_any v1 v2 m m w h1 h2).mono fun _ _ ⟨he, hw⟩ => ⟨by rw [he]; simp, hw⟩

/-- Below B all is as in a, and there are at least B blocks. -/
def Bz (B : Nat) (a W : World) : Prop := Below B a W ∧ B ≤ W.heap.size
theorem Bz.refl {B : Nat} {a : World} (h : B ≤ a.heap.size) : Bz B a a := ⟨Below.refl _ _, h⟩
theorem Bz.left {B : Nat} {a W : World} (h : Bz B a W) : Below B a W := h.1
theorem Bz.alloc {B : Nat} {a W : World} (h : Bz B a W) (o : Obj) : Bz B a (W.alloc o) := ⟨h.1.alloc h.2 o, by have := h.2; simp; omega⟩
theorem Bz.drewN {B : Nat} {a W : World} (h : Bz B a W) (q : Nat) : Bz B a (W.drewN q) := ⟨h.1.trans (Dr.below ⟨q, rfl⟩ _), h.2⟩

def awakePost (w : World) (e : Ending) (w' : World) : Prop := e = .returned (.bool true) ∧ Below w.heap.size w w'
set_option maxHeartbeats 4000000 in
set_option maxRecDepth 100000 in
theorem awake_any (w : World) : Calls Try.prog 12 #[] w (awakePost w) := by
  go_enter Try.func12, Try.ntmps12
  go_wp2_with fail
  refine (inv_ex _ _ (ms_lit2 w w.heap.size rfl 1 1 1 2 (by decide) (by decide) (by decide) (by decide))).mono ?_
  rintro e w1 ⟨va, rfl, ha, hb⟩
  have HA := Lib.hid ha
  have HB : Hid (Below w.heap.size w w1) := Lib.hid ((((((Below.refl w.heap.size w).alloc (Nat.le_refl _) _).alloc (by simp) _).alloc (by simp; omega) _)).trans (hb.mono (by simp; omega)))
  clear ha hb
  go_wp2_with fail
  have M3 := Lib.hid (ms_lit3 w1 w1.heap.size rfl 1 1 2 2 0 3 (by decide) (by decide) (by decide) (by decide) (by decide) (by decide))
  refine (rank_ex _ _ M3.out).mono ?_
  rintro e w2 ⟨rfl, hb2⟩
  have M4 := Lib.hid (Sl.keeps Bs.keeps _ _ _ _ M3.out (Below.toSame hb2))
  have SZ : Hid (w1.heap.size ≤ w2.heap.size ∧ Below w1.heap.size w1 w2) := Lib.hid ⟨by have := hb2.size; simp at this; omega, (((((Below.refl w1.heap.size w1).alloc (Nat.le_refl _) _).alloc (by simp) _).alloc (by simp; omega) _).alloc (by simp; omega) _).trans (hb2.mono (by simp; omega))⟩
  clear hb2 M3
  go_wp2_with fail
  refine (left_ex _ _ M4.out).mono ?_
  rintro e w3 ⟨vl, vp, rfl, hl, hp, hb3⟩
  have B13 := Lib.hid (SZ.out.2.trans (hb3.mono SZ.out.1))
  have HA3 := Lib.hid (Sl.keeps Bs.keeps _ _ _ _ HA.out (Below.toSame B13.out))
  have HL := Lib.hid hl
  have HP := Lib.hid hp
  have HB3 : Hid (Below w.heap.size w w3) := Lib.hid (HB.out.trans (B13.out.mono HB.out.size))
  clear hl hp hb3 M4 SZ HA HB
  go_wp2_with fail
  refine (msame_c _ _ [[245, 244], [244, 244]] _ ?_ ?_).mono ?_
  · exact Sl.keeps Bs.keeps _ _ _ _ HA3.out ((((Same.refl _).allocR _).allocR _).allocR _)
  · exact ms_lit2 w3 w3.heap.size rfl 245 244 244 244 (by decide) (by decide) (by decide) (by decide)
  rintro e w4 ⟨rfl, q, rfl⟩
  go_wp2_with fail
  refine (isame_c _ _ (natsI [0, 2]) _ ?_ ?_).mono ?_
  · exact Sl.keeps Iv.keeps _ _ _ _ HP.out (by repeat (first | exact Same.refl _ | refine Same.drewN ?_ _ | refine Same.allocR ?_ _))
  · first | exact is_lit _ _ (by simp) | exact Sl.keeps Iv.keeps _ _ _ _ (is_lit _ _ (by simp)) (Same.drewN (Same.refl _) _)
  rintro e w5 ⟨rfl, q2, rfl⟩
  go_wp2_with fail
  refine (msame_c _ _ [[1, 244], [0, 244]] _ ?_ ?_).mono ?_
  · exact Sl.keeps Bs.keeps _ _ _ _ HL.out (by repeat (first | exact Same.refl _ | refine Same.drewN ?_ _ | refine Same.allocR ?_ _))
  · first | exact ms_lit2 _ _ (by simp) 1 244 0 244 (by decide) (by decide) (by decide) (by decide) | exact Sl.keeps Bs.keeps _ _ _ _ (ms_lit2 _ _ (by simp) 1 244 0 244 (by decide) (by decide) (by decide) (by decide)) (Same.drewN (Same.refl _) _)
  rintro e w6 ⟨rfl, q3, rfl⟩
  go_wp2_with fail
  go_ret
  refine ⟨rfl, HB3.out.trans ?_⟩
  have hs := HB3.out.size
  refine Bz.left (W := _) ?_
  repeat (first | exact Bz.refl hs | refine Bz.drewN ?_ _ | refine Bz.alloc ?_ _)
end Go.Proofs.Ytfhgalfdlkdliaa
