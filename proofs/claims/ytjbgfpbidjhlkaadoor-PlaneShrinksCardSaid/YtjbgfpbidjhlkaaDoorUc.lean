/- Contracts: cross of a space. WRITTEN BY gen_Uc.py. -/
import Derived.Test.YtjbgfpbidjhlkaaDoorUb
import Derived.Test.YtjbgfpbidjhlkaaDoorRr
namespace Go.Proofs.YtjbgfpbidjhlkaaDoor
open Go Go.RowKit Pl
set_option linter.unusedVariables false
set_option linter.unusedSimpArgs false

theorem At3.d1 {w : World} {b : Nat} {c : C3} (h : At3 w b 0 c) : w.cell? ⟨b, 1, none⟩ = some (.int .i64 (c.2.1 : Int)) := h.c1
theorem At3.d2 {w : World} {b : Nat} {c : C3} (h : At3 w b 0 c) : w.cell? ⟨b, 2, none⟩ = some (.int .i64 (c.2.2 : Int)) := h.c2
theorem Row.go {w w' : World} {g : Nat} {t : TypeId} {cs : Array Value} (h : Row w g t cs) (hb : Below w.heap.size w w') : Row w' g t cs := h.below hb h.lt
theorem Row.thr {w : World} {g : Nat} {t : TypeId} {cs : Array Value} (h : Row w g t cs) {n : Nat} (hs : n ≤ cs.size) : w.there g 0 n := fun j hj =>
  ⟨by rw [Nat.zero_add, h.cell, Array.getElem?_eq_getElem (by omega)]; rfl, h.frozen _⟩
theorem Row.oth {w : World} {g : Nat} {t : TypeId} {cs : Array Value} (h : Row w g t cs) {k : Nat} (hk : g ≠ k) (i : Nat) (u : Value) : Row (w.setCell ⟨k, i, none⟩ u) g t cs := (Below.heap_setCell w ⟨k, i, none⟩ u g hk).trans h
/-- Coordinates go into a row of three cells. -/
theorem Row.put3 {w : World} {g : Nat} {t : TypeId} {cs : Array Value} (h : Row w g t cs) (hs : cs.size = 3) (c : C3) : Row (w.setCells g 0 (ka c).toList) g t (ka c) := by
  obtain ⟨a0, a1, a2, rfl⟩ : ∃ a0 a1 a2, cs = #[a0, a1, a2] := ⟨cs[0], cs[1], cs[2], Array.ext (by simp [hs]) (by intro i h1 h2; rcases (show i = 0 ∨ i = 1 ∨ i = 2 by omega) with rfl | rfl | rfl <;> rfl)⟩
  exact ((h.store 0 (.int .i64 (c.1 : Int))).store 1 (.int .i64 (c.2.1 : Int))).store 2 (.int .i64 (c.2.2 : Int))
theorem below_set3 {B : Nat} {w w' : World} (h : Below B w w') {g : Nat} (hg : B ≤ g) (c : C3) : Below B w (w'.setCells g 0 (ka c).toList) :=
  ((h.setCell (p := ⟨g, 0, none⟩) hg _).setCell (p := ⟨g, 1, none⟩) hg _).setCell (p := ⟨g, 2, none⟩) hg _
theorem At3.apart {w : World} {b o g : Nat} {c : C3} (h : At3 w b o c) (hne : b ≠ g) (d : C3) : At3 (w.setCells g 0 (ka d).toList) b o c := fun j v hv => by
  have hb : ∀ (w : World) i x, (w.setCell ⟨g, i, none⟩ x).cell? ⟨b, o + j, none⟩ = w.cell? ⟨b, o + j, none⟩ := fun w i x => World.cell?_of_block (Below.heap_setCell w ⟨g, i, none⟩ x b hne)
  exact ((hb _ _ _).trans ((hb _ _ _).trans (hb _ _ _))).trans (h j v hv)
theorem ka_one (c : C3) : (ka c).all (·.oneCell') = true := by simp [ka, Value.oneCell']

set_option maxHeartbeats 4000000 in
set_option maxRecDepth 100000 in
theorem cross_pre (q S a0 a1 a2 b0 b1 b2 : Nat) (u : Value) (w : World) (hq : q ∈ szs) (h : Fs w S u q) (ha0 : a0 < q) (ha1 : a1 < q) (ha2 : a2 < q) (hb0 : b0 < q) (hb1 : b1 < q) (hb2 : b2 < q) : Calls Tryd.prog 43 #[.pointer (some ⟨S, 0, none⟩), .agg (ka (a0, a1, a2)), .agg (ka (b0, b1, b2))] w (bel (.agg (ka (cross q (a0, a1, a2) (b0, b1, b2)))) w) := by
  obtain ⟨B, hB⟩ : ∃ B, w.heap.size = B := ⟨_, rfl⟩
  obtain ⟨W, hW⟩ : ∃ W, ((w.alloc (.cells (ka (a0, a1, a2)) 53)).alloc (.cells (ka (b0, b1, b2)) 53)).alloc (.cells #[.int .i64 0, .int .i64 0, .int .i64 0] 53) = W := ⟨_, rfl⟩
  have b1' : Below w.heap.size w W := by subst hW; exact (((Below.refl w.heap.size w).alloc (Nat.le_refl _) _).alloc (by simp) _).alloc (by simp; omega) _
  have r1 : At3 W B 0 (a0, a1, a2) := by
    subst hW hB; exact ((row_new' w _ _).at3).to (((Below.refl _ _).alloc (Nat.le_refl _) _).alloc (by simp) _)
  have r2 : At3 W (B + 1) 0 (b0, b1, b2) := by
    have := (row_new' (w.alloc (.cells (ka (a0, a1, a2)) 53)) (ka (b0, b1, b2)) 53).at3
    rw [World.size_alloc, hB] at this
    subst hW
    exact this.to ((Below.refl _ _).alloc (Nat.le_refl _) _)
  have r3 : Row W (B + 1 + 1) 53 #[.int .i64 0, .int .i64 0, .int .i64 0] := by
    have := row_new' ((w.alloc (.cells (ka (a0, a1, a2)) 53)).alloc (.cells (ka (b0, b1, b2)) 53)) #[.int .i64 0, .int .i64 0, .int .i64 0] 53
    rw [World.size_alloc, World.size_alloc, hB] at this
    subst hW; exact this
  have f1 := h.to b1'
  have MN := Lib.hid fun x y z t W' (h : Fs W' S u q) (hx : x < q) (hy : y < q) (hz : z < q) (ht : t < q) => (minor_any q x y z t S u W' hq h hx hy hz ht).mono fun e w' he => (⟨he.1, by obtain ⟨n, hn⟩ := he.2; rw [hn]; exact below_drewN (Below.refl _ _) n⟩ : bel (.int .i64 (minor q x y z t : Nat)) W' e w')
  have F := Lib.hid f1
  have A := Lib.hid r1
  have C := Lib.hid r2
  have R := Lib.hid r3
  have HB := Lib.hid b1'
  have HE := Lib.hid hB
  have HW := Lib.hid hW
  clear f1 r1 r2 r3 b1' hB hW h
  show Calls _ _ _ _ (bel (.agg (ka (minor q a1 a2 b1 b2, minor q a2 a0 b2 b0, minor q a0 a1 b0 b1))) w)
  obtain ⟨m0, h0⟩ : ∃ m, minor q a1 a2 b1 b2 = m := ⟨_, rfl⟩
  obtain ⟨m1, h1⟩ : ∃ m, minor q a2 a0 b2 b0 = m := ⟨_, rfl⟩
  obtain ⟨m2, h2⟩ : ∃ m, minor q a0 a1 b0 b1 = m := ⟨_, rfl⟩
  have M0 := Lib.hid fun W' hf => (MN.out a1 a2 b1 b2 W' hf (by assumption) (by assumption) (by assumption) (by assumption))
  have M1 := Lib.hid fun W' hf => (MN.out a2 a0 b2 b0 W' hf (by assumption) (by assumption) (by assumption) (by assumption))
  have M2 := Lib.hid fun W' hf => (MN.out a0 a1 b0 b1 W' hf (by assumption) (by assumption) (by assumption) (by assumption))
  rw [h0] at M0 ⊢
  rw [h1] at M1 ⊢
  rw [h2] at M2 ⊢
  clear h0 h1 h2 MN hq ha0 ha1 ha2 hb0 hb1 hb2
  go_enter Tryd.func43, Tryd.ntmps43
  go_wp2_with fail
  rw [HE.out]
  rw [HW.out]
  refine wp_region_held (P := Tryd.prog) (S := (fun w' : World => At3 w' B 0 (a0, a1, a2) ∧ At3 w' (B + 1) 0 (b0, b1, b2))) rfl ?_
  change wpAnyH _ _ _ _ _ _ _ _ W.drew
  have hz2 : Below W.heap.size W W.drew := (Below.refl W.heap.size W).drew
  generalize W.drew = wz1 at hz2 ⊢
  have hq3 : Below W.heap.size W wz1 := hz2
  have A_4 := Lib.hid (At3.to A.out hq3)
  have C_5 := Lib.hid (At3.to C.out hq3)
  have F_6 := Lib.hid (Fs.to F.out hq3)
  have R_7 := Lib.hid (Row.go R.out hq3)
  have HB_8 : Hid (Below w.heap.size w wz1) := Lib.hid (HB.out.trans (hq3.mono HB.out.size))
  clear hq3
  clear hz2
  have hS9 : (fun w' : World => At3 w' B 0 (a0, a1, a2) ∧ At3 w' (B + 1) 0 (b0, b1, b2)) wz1 := ⟨A_4.out, C_5.out⟩
  refine takeD (i := 0) (v := .pointer (some ⟨S, 0, none⟩)) (some 7) rfl rfl (by kernel_rfl) (by kernel_rfl) (by kernel_rfl) (fun _ _ _ h => h) (Or.inl ⟨by rfl, by rintro w' -; go_simp⟩) hS9 ?_
  simp only [Act.put, List.setIfInBounds_toArray, List.set_cons_zero, List.set_cons_succ]
  refine takeD (i := 1) (v := .pointer (some ⟨B, 1, none⟩)) (some 8) rfl rfl (by kernel_rfl) (by kernel_rfl) (by kernel_rfl) (fun _ _ _ h => h) (Or.inl ⟨by rfl, by rintro w' -; go_simp⟩) hS9 ?_
  simp only [Act.put, List.setIfInBounds_toArray, List.set_cons_zero, List.set_cons_succ]
  refine takeD (i := 2) (v := .int .i64 (a1 : Int)) (some 9) rfl rfl (by kernel_rfl) (by kernel_rfl) (by kernel_rfl) (fun _ _ _ h => h) (Or.inl ⟨by rfl, by rintro w' h; have hc := h.1.d1; go_simp⟩) hS9 ?_
  simp only [Act.put, List.setIfInBounds_toArray, List.set_cons_zero, List.set_cons_succ]
  refine takeD (i := 3) (v := .pointer (some ⟨B, 2, none⟩)) (some 10) rfl rfl (by kernel_rfl) (by kernel_rfl) (by kernel_rfl) (fun _ _ _ h => h) (Or.inl ⟨by rfl, by rintro w' -; go_simp⟩) hS9 ?_
  simp only [Act.put, List.setIfInBounds_toArray, List.set_cons_zero, List.set_cons_succ]
  refine takeD (i := 4) (v := .int .i64 (a2 : Int)) (some 11) rfl rfl (by kernel_rfl) (by kernel_rfl) (by kernel_rfl) (fun _ _ _ h => h) (Or.inl ⟨by rfl, by rintro w' h; have hc := h.1.d2; go_simp⟩) hS9 ?_
  simp only [Act.put, List.setIfInBounds_toArray, List.set_cons_zero, List.set_cons_succ]
  refine takeD (i := 5) (v := .pointer (some ⟨B + 1, 1, none⟩)) (some 12) rfl rfl (by kernel_rfl) (by kernel_rfl) (by kernel_rfl) (fun _ _ _ h => h) (Or.inl ⟨by rfl, by rintro w' -; go_simp⟩) hS9 ?_
  simp only [Act.put, List.setIfInBounds_toArray, List.set_cons_zero, List.set_cons_succ]
  refine takeD (i := 6) (v := .int .i64 (b1 : Int)) (some 13) rfl rfl (by kernel_rfl) (by kernel_rfl) (by kernel_rfl) (fun _ _ _ h => h) (Or.inl ⟨by rfl, by rintro w' h; have hc := h.2.d1; go_simp⟩) hS9 ?_
  simp only [Act.put, List.setIfInBounds_toArray, List.set_cons_zero, List.set_cons_succ]
  refine takeD (i := 7) (v := .pointer (some ⟨B + 1, 2, none⟩)) (some 14) rfl rfl (by kernel_rfl) (by kernel_rfl) (by kernel_rfl) (fun _ _ _ h => h) (Or.inl ⟨by rfl, by rintro w' -; go_simp⟩) hS9 ?_
  simp only [Act.put, List.setIfInBounds_toArray, List.set_cons_zero, List.set_cons_succ]
  refine takeD (i := 8) (v := .int .i64 (b2 : Int)) (some 15) rfl rfl (by kernel_rfl) (by kernel_rfl) (by kernel_rfl) (fun _ _ _ h => h) (Or.inl ⟨by rfl, by rintro w' h; have hc := h.2.d2; go_simp⟩) hS9 ?_
  simp only [Act.put, List.setIfInBounds_toArray, List.set_cons_zero, List.set_cons_succ]
  refine takeD (i := 10) (v := .pointer (some ⟨S, 0, none⟩)) (some 17) rfl rfl (by kernel_rfl) (by kernel_rfl) (by kernel_rfl) (fun _ _ _ h => h) (Or.inl ⟨by rfl, by rintro w' -; go_simp⟩) hS9 ?_
  simp only [Act.put, List.setIfInBounds_toArray, List.set_cons_zero, List.set_cons_succ]
  refine takeD (i := 11) (v := .pointer (some ⟨B, 2, none⟩)) (some 18) rfl rfl (by kernel_rfl) (by kernel_rfl) (by kernel_rfl) (fun _ _ _ h => h) (Or.inl ⟨by rfl, by rintro w' -; go_simp⟩) hS9 ?_
  simp only [Act.put, List.setIfInBounds_toArray, List.set_cons_zero, List.set_cons_succ]
  refine takeD (i := 12) (v := .int .i64 (a2 : Int)) (some 19) rfl rfl (by kernel_rfl) (by kernel_rfl) (by kernel_rfl) (fun _ _ _ h => h) (Or.inl ⟨by rfl, by rintro w' h; have hc := h.1.d2; go_simp⟩) hS9 ?_
  simp only [Act.put, List.setIfInBounds_toArray, List.set_cons_zero, List.set_cons_succ]
  refine takeD (i := 13) (v := .pointer (some ⟨B, 0, none⟩)) (some 20) rfl rfl (by kernel_rfl) (by kernel_rfl) (by kernel_rfl) (fun _ _ _ h => h) (Or.inl ⟨by rfl, by rintro w' -; go_simp⟩) hS9 ?_
  simp only [Act.put, List.setIfInBounds_toArray, List.set_cons_zero, List.set_cons_succ]
  refine takeD (i := 14) (v := .int .i64 (a0 : Int)) (some 21) rfl rfl (by kernel_rfl) (by kernel_rfl) (by kernel_rfl) (fun _ _ _ h => h) (Or.inl ⟨by rfl, by rintro w' h; have hc := h.1.c0; go_simp⟩) hS9 ?_
  simp only [Act.put, List.setIfInBounds_toArray, List.set_cons_zero, List.set_cons_succ]
  refine takeD (i := 15) (v := .pointer (some ⟨B + 1, 2, none⟩)) (some 22) rfl rfl (by kernel_rfl) (by kernel_rfl) (by kernel_rfl) (fun _ _ _ h => h) (Or.inl ⟨by rfl, by rintro w' -; go_simp⟩) hS9 ?_
  simp only [Act.put, List.setIfInBounds_toArray, List.set_cons_zero, List.set_cons_succ]
  refine takeD (i := 16) (v := .int .i64 (b2 : Int)) (some 23) rfl rfl (by kernel_rfl) (by kernel_rfl) (by kernel_rfl) (fun _ _ _ h => h) (Or.inl ⟨by rfl, by rintro w' h; have hc := h.2.d2; go_simp⟩) hS9 ?_
  simp only [Act.put, List.setIfInBounds_toArray, List.set_cons_zero, List.set_cons_succ]
  refine takeD (i := 17) (v := .pointer (some ⟨B + 1, 0, none⟩)) (some 24) rfl rfl (by kernel_rfl) (by kernel_rfl) (by kernel_rfl) (fun _ _ _ h => h) (Or.inl ⟨by rfl, by rintro w' -; go_simp⟩) hS9 ?_
  simp only [Act.put, List.setIfInBounds_toArray, List.set_cons_zero, List.set_cons_succ]
  refine takeD (i := 18) (v := .int .i64 (b0 : Int)) (some 25) rfl rfl (by kernel_rfl) (by kernel_rfl) (by kernel_rfl) (fun _ _ _ h => h) (Or.inl ⟨by rfl, by rintro w' h; have hc := h.2.c0; go_simp⟩) hS9 ?_
  simp only [Act.put, List.setIfInBounds_toArray, List.set_cons_zero, List.set_cons_succ]
  refine takeD (i := 20) (v := .pointer (some ⟨S, 0, none⟩)) (some 27) rfl rfl (by kernel_rfl) (by kernel_rfl) (by kernel_rfl) (fun _ _ _ h => h) (Or.inl ⟨by rfl, by rintro w' -; go_simp⟩) hS9 ?_
  simp only [Act.put, List.setIfInBounds_toArray, List.set_cons_zero, List.set_cons_succ]
  refine takeD (i := 21) (v := .pointer (some ⟨B, 0, none⟩)) (some 28) rfl rfl (by kernel_rfl) (by kernel_rfl) (by kernel_rfl) (fun _ _ _ h => h) (Or.inl ⟨by rfl, by rintro w' -; go_simp⟩) hS9 ?_
  simp only [Act.put, List.setIfInBounds_toArray, List.set_cons_zero, List.set_cons_succ]
  refine takeD (i := 22) (v := .int .i64 (a0 : Int)) (some 29) rfl rfl (by kernel_rfl) (by kernel_rfl) (by kernel_rfl) (fun _ _ _ h => h) (Or.inl ⟨by rfl, by rintro w' h; have hc := h.1.c0; go_simp⟩) hS9 ?_
  simp only [Act.put, List.setIfInBounds_toArray, List.set_cons_zero, List.set_cons_succ]
  refine takeD (i := 23) (v := .pointer (some ⟨B, 1, none⟩)) (some 30) rfl rfl (by kernel_rfl) (by kernel_rfl) (by kernel_rfl) (fun _ _ _ h => h) (Or.inl ⟨by rfl, by rintro w' -; go_simp⟩) hS9 ?_
  simp only [Act.put, List.setIfInBounds_toArray, List.set_cons_zero, List.set_cons_succ]
  refine takeD (i := 24) (v := .int .i64 (a1 : Int)) (some 31) rfl rfl (by kernel_rfl) (by kernel_rfl) (by kernel_rfl) (fun _ _ _ h => h) (Or.inl ⟨by rfl, by rintro w' h; have hc := h.1.d1; go_simp⟩) hS9 ?_
  simp only [Act.put, List.setIfInBounds_toArray, List.set_cons_zero, List.set_cons_succ]
  refine takeD (i := 25) (v := .pointer (some ⟨B + 1, 0, none⟩)) (some 32) rfl rfl (by kernel_rfl) (by kernel_rfl) (by kernel_rfl) (fun _ _ _ h => h) (Or.inl ⟨by rfl, by rintro w' -; go_simp⟩) hS9 ?_
  simp only [Act.put, List.setIfInBounds_toArray, List.set_cons_zero, List.set_cons_succ]
  refine takeD (i := 26) (v := .int .i64 (b0 : Int)) (some 33) rfl rfl (by kernel_rfl) (by kernel_rfl) (by kernel_rfl) (fun _ _ _ h => h) (Or.inl ⟨by rfl, by rintro w' h; have hc := h.2.c0; go_simp⟩) hS9 ?_
  simp only [Act.put, List.setIfInBounds_toArray, List.set_cons_zero, List.set_cons_succ]
  refine takeD (i := 27) (v := .pointer (some ⟨B + 1, 1, none⟩)) (some 34) rfl rfl (by kernel_rfl) (by kernel_rfl) (by kernel_rfl) (fun _ _ _ h => h) (Or.inl ⟨by rfl, by rintro w' -; go_simp⟩) hS9 ?_
  simp only [Act.put, List.setIfInBounds_toArray, List.set_cons_zero, List.set_cons_succ]
  refine takeD (i := 28) (v := .int .i64 (b1 : Int)) (some 35) rfl rfl (by kernel_rfl) (by kernel_rfl) (by kernel_rfl) (fun _ _ _ h => h) (Or.inl ⟨by rfl, by rintro w' h; have hc := h.2.d1; go_simp⟩) hS9 ?_
  simp only [Act.put, List.setIfInBounds_toArray, List.set_cons_zero, List.set_cons_succ]
  refine wpAnyH_ready (rs := [9]) (by kernel_rfl) (by simp) ?_
  refine AllReadyH.cons rfl (fun K10 hK10 => ?_) AllReadyH.nil
  have HK10 := Lib.hid hK10
  clear hK10
  rw [if_pos (by rfl)]
  go_simp
  refine (M0.out _ F_6.out).mono ?_
  rintro e x11 ⟨rfl, hb⟩
  have hq12 : Below wz1.heap.size wz1 x11 := hb
  have A_13 := Lib.hid (At3.to A_4.out hq12)
  have C_14 := Lib.hid (At3.to C_5.out hq12)
  have F_15 := Lib.hid (Fs.to F_6.out hq12)
  have R_16 := Lib.hid (Row.go R_7.out hq12)
  have HB_17 : Hid (Below w.heap.size w x11) := Lib.hid (HB_8.out.trans (hq12.mono HB_8.out.size))
  clear hq12
  clear hb
  have hS18 : (fun w' : World => At3 w' B 0 (a0, a1, a2) ∧ At3 w' (B + 1) 0 (b0, b1, b2)) x11 := ⟨A_13.out, C_14.out⟩
  refine HK10.out _ _ hS18 fun _ => ?_
  try simp only [Act.put, List.setIfInBounds_toArray, List.set_cons_zero, List.set_cons_succ]
  refine wpAnyH_ready (rs := [19]) (by kernel_rfl) (by simp) ?_
  refine AllReadyH.cons rfl (fun K19 hK19 => ?_) AllReadyH.nil
  have HK19 := Lib.hid hK19
  clear hK19
  rw [if_pos (by rfl)]
  go_simp
  refine (M1.out _ F_15.out).mono ?_
  rintro e x20 ⟨rfl, hb⟩
  have hq21 : Below x11.heap.size x11 x20 := hb
  have A_22 := Lib.hid (At3.to A_13.out hq21)
  have C_23 := Lib.hid (At3.to C_14.out hq21)
  have F_24 := Lib.hid (Fs.to F_15.out hq21)
  have R_25 := Lib.hid (Row.go R_16.out hq21)
  have HB_26 : Hid (Below w.heap.size w x20) := Lib.hid (HB_17.out.trans (hq21.mono HB_17.out.size))
  clear hq21
  clear hb
  have hS27 : (fun w' : World => At3 w' B 0 (a0, a1, a2) ∧ At3 w' (B + 1) 0 (b0, b1, b2)) x20 := ⟨A_22.out, C_23.out⟩
  refine HK19.out _ _ hS27 fun _ => ?_
  try simp only [Act.put, List.setIfInBounds_toArray, List.set_cons_zero, List.set_cons_succ]
  refine wpAnyH_ready (rs := [29]) (by kernel_rfl) (by simp) ?_
  refine AllReadyH.cons rfl (fun K28 hK28 => ?_) AllReadyH.nil
  have HK28 := Lib.hid hK28
  clear hK28
  rw [if_pos (by rfl)]
  go_simp
  refine (M2.out _ F_24.out).mono ?_
  rintro e x29 ⟨rfl, hb⟩
  have hq30 : Below x20.heap.size x20 x29 := hb
  have A_31 := Lib.hid (At3.to A_22.out hq30)
  have C_32 := Lib.hid (At3.to C_23.out hq30)
  have F_33 := Lib.hid (Fs.to F_24.out hq30)
  have R_34 := Lib.hid (Row.go R_25.out hq30)
  have HB_35 : Hid (Below w.heap.size w x29) := Lib.hid (HB_26.out.trans (hq30.mono HB_26.out.size))
  clear hq30
  clear hb
  have hS36 : (fun w' : World => At3 w' B 0 (a0, a1, a2) ∧ At3 w' (B + 1) 0 (b0, b1, b2)) x29 := ⟨A_31.out, C_32.out⟩
  refine HK28.out _ _ hS36 fun _ => ?_
  try simp only [Act.put, List.setIfInBounds_toArray, List.set_cons_zero, List.set_cons_succ]
  refine takeD (i := 30) (v := .agg #[.int .i64 (m0 : Int), .int .i64 (m1 : Int), .int .i64 (m2 : Int)]) (some 37) rfl rfl (by kernel_rfl) (by kernel_rfl) (by kernel_rfl) (fun _ _ _ h => h) (Or.inl ⟨by rfl, by rintro w' -; go_simp⟩) hS36 ?_
  simp only [Act.put, List.setIfInBounds_toArray, List.set_cons_zero, List.set_cons_succ]
  refine wpAnyH_ready (rs := [31]) (by kernel_rfl) (by simp) ?_
  refine AllReadyH.cons rfl (fun K37 hK37 => ?_) AllReadyH.nil
  have HK37 := Lib.hid hK37
  clear hK37
  rw [if_pos (by rfl)]
  refine wp_store_mid _ _ _ rfl (B + 1 + 1) 0 (ka (m0, m1, m2)) rfl rfl (R_34.out.thr (n := 3) (by simp)) (si3 (m0, m1, m2)) (ka_one _) ?_
  have ZB := Lib.hid (below_set3 HB_35.out (g := B + 1 + 1) (by rw [HE.out]; omega) (m0, m1, m2))
  have ZR := Lib.hid (R_34.out.put3 rfl (m0, m1, m2))
  have ZA := Lib.hid (A_31.out.apart (by omega : B ≠ B + 1 + 1) (m0, m1, m2))
  have ZC := Lib.hid (C_32.out.apart (by omega : B + 1 ≠ B + 1 + 1) (m0, m1, m2))
  generalize hww : x29.setCells (B + 1 + 1) 0 (ka (m0, m1, m2)).toList = W9 at ZB ZR ZA ZC ⊢
  clear hww
  have hS38 : (fun w' : World => At3 w' B 0 (a0, a1, a2) ∧ At3 w' (B + 1) 0 (b0, b1, b2)) W9 := ⟨ZA.out, ZC.out⟩
  refine HK37.out _ _ hS38 fun _ => ?_
  refine wpAnyH_done (by kernel_rfl) ?_ _
  go_wp2_with fail
  refine bodyPost_ret (results_cell_row (g := B + 1 + 1) (t := 53) (fr := (0, 0)) rfl _ _ _ _ rfl ZR.out Tryd.underlying53 rfl (si3 (m0, m1, m2))) rfl ?_
  exact ⟨rfl, ZB.out⟩
theorem cross_any (q S : Nat) (u : Value) (a b : C3) (w : World) (hq : q ∈ szs) (h : Fs w S u q) (ha : El q a) (hb : El q b) : Calls Tryd.prog 43 #[.pointer (some ⟨S, 0, none⟩), .agg (ka a), .agg (ka b)] w (bel (.agg (ka (cross q a b))) w) :=
  cross_pre q S a.1 a.2.1 a.2.2 b.1 b.2.1 b.2.2 u w hq h ha.1 ha.2.1 ha.2.2 hb.1 hb.2.1 hb.2.2
end Go.Proofs.YtjbgfpbidjhlkaaDoor
