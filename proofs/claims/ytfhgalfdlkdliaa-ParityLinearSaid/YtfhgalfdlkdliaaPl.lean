/- The contracts of layer 3 in the words of its laws; the examples of the document hold: 'awake' answers true. -/
import Derived.Test.YtfhgalfdlkdliaaPg
import Derived.Test.YtfhgalfdlkdliaaPh
import Derived.Test.YtfhgalfdlkdliaaPi
import Derived.Test.YtfhgalfdlkdliaaLit
namespace Go.Proofs.Ytfhgalfdlkdliaa
open Go Go.RowKit
set_option linter.unusedVariables false

theorem al1 {w w' : World} {o : Obj} (h : Below (w.alloc o).heap.size (w.alloc o) w') : Below w.heap.size w w' := ((Below.refl w.heap.size w).alloc (Nat.le_refl _) o).trans (h.mono (by simp))
theorem Bl.to {w w' : World} {v : Value} {D : List (List Nat)} (h : Bl w v D) (hb : Below w.heap.size w w') : Bl w' v D := h.below hb (Nat.le_refl _)
theorem OwnB.to {w w' : World} {base : Nat} {v : Value} {D : List (List Nat)} (h : OwnB w base v D) (hb : Below w.heap.size w w') : OwnB w' base v D := h.below hb (Nat.le_refl _)
/-- The call answers v, and all that stood stands. -/
def bPost (v : Value) (w : World) (e : Ending) (w' : World) : Prop := e = .returned v ∧ Below w.heap.size w w'
theorem Msto {w w' : World} {v : Value} {m : List (List Nat)} (h : Ms w v m) (hb : Below w.heap.size w w') : Ms w' v m := Sl.keeps Bs.keeps _ _ _ _ h (Below.toSame hb)
theorem same_b (v1 v2 : Value) (D1 D2 : List (List Nat)) (b : Bool) (w : World) (h1 : Bl w v1 D1) (h2 : Bl w v2 D2) (hb : decide (D1 = D2) = b) : Calls Try.prog 21 #[v1, v2] w (bPost (.bool b) w) :=
  (same_bl v1 v2 D1 D2 w h1 h2).mono fun _ _ ⟨he, hd⟩ => ⟨by rw [he, hb], hd.below _⟩
theorem msame_b (v1 v2 : Value) (m1 m2 : List (List Nat)) (b : Bool) (w : World) (h1 : Ms w v1 m1) (h2 : Ms w v2 m2) (hb : decide (m1 = m2) = b) : Calls Try.prog 15 #[v1, v2] w (bPost (.bool b) w) :=
  (msame_any v1 v2 m1 m2 w h1 h2).mono fun _ _ ⟨he, hd⟩ => ⟨by rw [he, hb], hd.below _⟩
theorem check_b (v : Value) (D : List (List Nat)) (b : Bool) (w : World) (h : Bl w v D) (hb : chk D = b) : Calls Try.prog 24 #[v] w (bPost (.bool b) w) :=
  (check_any v D w h).mono fun _ _ ⟨he, hd⟩ => ⟨by rw [he, hb], hd⟩
theorem rcheck_b (v : Value) (D : List (List Nat)) (b : Bool) (w : World) (h : Bl w v D) (hb : chk D = b) : Calls Try.prog 25 #[v] w (bPost (.bool b) w) :=
  (rcheck_any v D w h).mono fun _ _ ⟨he, hd⟩ => ⟨by rw [he, hb], hd⟩
/-- Encode's three blocks. -/
def encL (P : List (List Nat)) (w : World) (e : Ending) (w' : World) : Prop := ∃ g, e = .returned (.tuple #[.slice (some ⟨g, 0, none⟩) 3 3, .int .i64 0]) ∧ w.heap.size ≤ g ∧ Bl w' (.slice (some ⟨g, 0, none⟩) 3 3) P ∧ Below w.heap.size w w'
theorem encode_b (v : Value) (D P : List (List Nat)) (w : World) (h : Bl w v D) (h1 : 1 ≤ D.length) (h13 : D.length ≤ 13) (hP : parL D = P) : Calls Try.prog 20 #[v] w (encL P w) :=
  (encode_ok v D w h h1 h13).mono fun _ _ ⟨g, he, hg, hr, hb⟩ => ⟨g, he, hg, hP ▸ Bl.par hr, hb⟩
theorem bl_lit (w : World) (cs : Array Value) (D : List (List Nat)) (n : Nat) (hc : cs = bcs D.flatten) (hD : D.all (fun d => d.length == 8 && d.all (· < 256)) = true) (hn : D.length = n) (hm : n ≤ 1000) : Bl (w.alloc (.cells cs 44)) (.slice (some ⟨w.heap.size, 0, none⟩) n n) D := by
  refine Bl.of_row (t := 44) (by rw [hc]; exact row_new w _ _) (fun d hd => ?_) hn (Nat.le_refl _) (by unfold maxLen; omega)
  have := List.all_eq_true.1 hD d hd
  rw [Bool.and_eq_true, beq_iff_eq, List.all_eq_true] at this
  exact ⟨this.1, fun x hx => by simpa using this.2 x hx⟩
def mat2 : List (List Nat) := [[1, 1], [1, 2], [1, 4]]
theorem mat2_eq : gridL 3 2 (fun j i => Gf.gpow 2 (j * i)) = mat2 := by decide +kernel
def exD : List (List Nat) := [[3, 0, 0, 0, 0, 0, 0, 0], [5, 0, 0, 0, 0, 0, 0, 0]]
def exP : List (List Nat) := [[6, 0, 0, 0, 0, 0, 0, 0], [9, 0, 0, 0, 0, 0, 0, 0], [23, 0, 0, 0, 0, 0, 0, 0]]
def exG : List (List Nat) := [[3, 0, 0, 0, 0, 0, 0, 0], [5, 0, 0, 0, 0, 0, 0, 0], [6, 0, 0, 0, 0, 0, 0, 0], [9, 0, 0, 0, 0, 0, 0, 0], [23, 0, 0, 0, 0, 0, 0, 0]]
def exF : List (List Nat) := [[3, 0, 0, 0, 0, 0, 0, 0], [5, 0, 0, 0, 0, 0, 0, 0], [6, 0, 0, 0, 0, 0, 0, 0], [9, 0, 0, 0, 0, 0, 0, 0], [24, 0, 0, 0, 0, 0, 0, 0]]
theorem exP_eq : parL exD = exP := by decide +kernel
theorem exG_eq : chk exG = true := by decide +kernel
theorem exF_eq : chk exF = false := by decide +kernel
set_option maxHeartbeats 4000000 in
set_option maxRecDepth 100000 in
theorem pawake_any (w : World) : Calls Try.prog 17 #[] w (bPost (.bool true) w) := by
  go_enter Try.func17, Try.ntmps17
  go_wp2_with fail
  refine (matrix_ok 2 w (by decide) (by decide)).mono ?_
  rintro e w1 ⟨rfl, hg, hb⟩
  have HM : Hid (Ms w1 (.slice (some ⟨w.heap.size, 0, none⟩) 3 3) mat2) := Lib.hid (by
    have := (hg.wk (by decide) (by decide)).sl
    rw [mat2_eq] at this
    exact this)
  have HB := Lib.hid hb
  clear hg hb
  go_wp2_with fail
  refine (encode_b _ exD exP _ (bl_lit w1 _ exD 2 rfl (by decide) rfl (by decide)) (by decide) (by decide) exP_eq).mono ?_
  rintro e w2 ⟨g, rfl, hge, hp, hb⟩
  have HP := Lib.hid hp
  have HM2 := Lib.hid (Msto HM.out (al1 hb))
  have HB2 : Hid (Below w.heap.size w w2) := Lib.hid (HB.out.trans ((al1 hb).mono HB.out.size))
  clear hp hb hge HB HM
  go_wp2_with fail
  have A4 := fun (o1 o2 o3 o4 : Obj) => ((((Below.refl w2.heap.size w2).alloc (Nat.le_refl _) o1).alloc (by simp) o2).alloc (by simp; omega) o3).alloc (by simp; omega) o4
  refine (msame_b _ _ mat2 mat2 true _ (Msto HM2.out (A4 _ _ _ _)) (ms_lit3 w2 w2.heap.size rfl 1 1 1 2 1 4 (by decide) (by decide) (by decide) (by decide) (by decide) (by decide)) (by decide)).mono ?_
  rintro e w3 ⟨rfl, hb⟩
  have hb := (A4 _ _ _ _).trans (hb.mono (A4 _ _ _ _).size)
  have HP3 := Lib.hid (HP.out.to hb)
  have HB3 : Hid (Below w.heap.size w w3) := Lib.hid (HB2.out.trans (hb.mono HB2.out.size))
  clear hb HP HM2 HB2 A4
  go_wp2_with fail
  refine (same_b _ _ exP exP true _ (HP3.out.to ((Below.refl w3.heap.size w3).alloc (Nat.le_refl _) _)) (bl_lit w3 _ exP 3 rfl (by decide) rfl (by decide)) (by decide)).mono ?_
  rintro e w4 ⟨rfl, hb⟩
  have HB4 : Hid (Below w.heap.size w w4) := Lib.hid (HB3.out.trans ((al1 hb).mono HB3.out.size))
  clear hb HB3 HP3
  go_wp2_with fail
  refine (check_b _ exG true _ (bl_lit w4 _ exG 5 rfl (by decide) rfl (by decide)) exG_eq).mono ?_
  rintro e w5 ⟨rfl, hb⟩
  have HB5 : Hid (Below w.heap.size w w5) := Lib.hid (HB4.out.trans ((al1 hb).mono HB4.out.size))
  clear hb HB4
  go_wp2_with fail
  refine (check_b _ exF false _ (bl_lit w5 _ exF 5 rfl (by decide) rfl (by decide)) exF_eq).mono ?_
  rintro e w6 ⟨rfl, hb⟩
  have HB6 : Hid (Below w.heap.size w w6) := Lib.hid (HB5.out.trans ((al1 hb).mono HB5.out.size))
  clear hb HB5
  go_wp2_with fail
  go_ret
  exact ⟨rfl, HB6.out⟩
end Go.Proofs.Ytfhgalfdlkdliaa
