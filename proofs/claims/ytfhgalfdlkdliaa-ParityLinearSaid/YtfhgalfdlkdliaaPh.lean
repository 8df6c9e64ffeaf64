/- parity's Update. -/
import Derived.Test.YtfhgalfdlkdliaaPn
import Derived.Test.YtfhgalfdlkdliaaBe
namespace Go.Proofs.Ytfhgalfdlkdliaa
open Go Go.RowKit
set_option linter.unusedVariables false
set_option linter.unusedSimpArgs false

/-- Parity block j after a change of data piece i from a to b. -/
def updX (D : List (List Nat)) (hD : ∀ d ∈ D, B8 d) (a b : Blk) (i j : Nat) : Blk := ⟨pmB (nth D hD j).1 (pmB a.1 b.1 1) (Gf.gpow 2 (j * i)), pmB_ok (nth D hD j).2 (pmB_ok a.2 b.2 (by decide)) (gp_lt _)⟩
def updPost (L : List Nat) (w : World) (e : Ending) (w' : World) : Prop := ∃ g, e = .returned (.tuple #[.slice (some ⟨g, 0, none⟩) 3 3, .int .i64 0]) ∧ w.heap.size ≤ g ∧ Row w' g 44 (bcs L) ∧ Below w.heap.size w w'
theorem below2 {w w' : World} {o o' : Obj} (h : Below ((w.alloc o).alloc o').heap.size ((w.alloc o).alloc o') w') : Below w.heap.size w w' := (((Below.refl w.heap.size w).alloc (Nat.le_refl _) o).alloc (by simp) o').trans (h.mono (by simp; omega))
theorem rep24 : List.replicate 24 0 = cat3 (fun _ => zeroB) := by decide
theorem make_blk3z (w : World) : (Instr.makeSlice 37 (.int .i64 3) (.int .i64 3)).run Try.prog w = .ok (.slice (some ⟨w.heap.size, 0, none⟩) 3 3) (w.alloc (.cells (bcs (cat3 fun _ => zeroB)) 44)) := by rw [← rep24]; exact make_blk3 w
set_option maxHeartbeats 4000000 in
set_option maxRecDepth 100000 in
theorem update_ok (v : Value) (D : List (List Nat)) (hD : ∀ d ∈ D, B8 d) (a b : Blk) (i : Nat) (w : World) (h : Bl w v D) (h3 : D.length = 3) (hi : i ≤ 12) :
    Calls Try.prog 23 #[v, .int .i64 (i : Int), .agg (bcs a.1), .agg (bcs b.1)] w (updPost (cat3 (updX D hD a b i)) w) := by
  obtain ⟨bd, od, c, rfl, hm, hb, hr⟩ := h.at_ (by omega)
  have DR : Hid (∀ j, j < 3 → At8 w bd (od + j * 8) (nth D hD j).1) := Lib.hid fun j hj => by
    have hj' : j < D.length := by omega
    have := range_at8 hr hD hj'
    rw [show (nth D hD j).1 = D[j] from getD_in hj']
    exact this
  rw [h3] at hm ⊢
  obtain ⟨ch, hch⟩ : ∃ ch : Blk, ch = ⟨pmB a.1 b.1 1, pmB_ok a.2 b.2 (by decide)⟩ := ⟨_, rfl⟩
  have CH : Hid (pmB a.1 b.1 1 = ch.1) := Lib.hid (by rw [hch])
  have hmk := make_blk3z
  have g1 : decide ((i : Int) < 0) = false := decide_eq_false (by omega)
  have g2 : decide ((13 : Int) ≤ (i : Int)) = false := decide_eq_false (by omega)
  have TH := Lib.hid fun w' : World => (row_new w' #[.int .u8 0, .int .u8 0, .int .u8 0, .int .u8 0, .int .u8 0, .int .u8 0, .int .u8 0, .int .u8 0] 44).there (n := (bcs ch.1).size) (by rw [bcs_size, ch.2.1]; exact Nat.le_refl _)
  have PU := Lib.hid fun w' : World => (row_new w' #[.int .u8 0, .int .u8 0, .int .u8 0, .int .u8 0, .int .u8 0, .int .u8 0, .int .u8 0, .int .u8 0] 44).put rfl ch.2.1
  have SA := Lib.hid (size8 a.2.1)
  have SB := Lib.hid (size8 b.2.1)
  have SC := Lib.hid (size8 ch.2.1)
  have RA : Hid (Row ((w.alloc (.cells (bcs a.1) 44)).alloc (.cells (bcs b.1) 44)) w.heap.size 44 (bcs a.1)) := Lib.hid ((row_new _ _ _).alloc _)
  have RB : Hid (Row ((w.alloc (.cells (bcs a.1) 44)).alloc (.cells (bcs b.1) 44)) (w.heap.size + 1) 44 (bcs b.1)) := Lib.hid (row_at (by simp) _ _)
  have HB0 : Hid (Below w.heap.size w ((w.alloc (.cells (bcs a.1) 44)).alloc (.cells (bcs b.1) 44))) := Lib.hid (((Below.refl w.heap.size w).alloc (Nat.le_refl _) _).alloc (by simp) _)
  have PM := Lib.hid fun w' => pm_any a.1 b.1 1 w' a.2 b.2 (by decide)
  clear h hr hch
  go_enter Try.func23, Try.ntmps23
  go_wp2_with (first
    | (refine wpList_load_row rfl _ _ rfl _ rfl _ _ (0, 0) _ RA.out Try.underlying44 rfl SA.out ?_)
    | (refine wpList_load_row rfl _ _ rfl _ rfl _ _ (0, 0) _ RB.out Try.underlying44 rfl SB.out ?_))
  refine (PM.out _).mono ?_
  rintro e w1 ⟨rfl, hb1⟩
  have HB1 := Lib.hid (below2 hb1)
  have hbk : bk (pmB a.1 b.1 1) = .agg (bcs ch.1) := by rw [bk, CH.out]
  rw [hbk]
  clear hb1 hbk RA RB HB0 PM SA SB
  go_wp2_with (refine wpList_store8 rfl _ _ _ rfl _ 0 _ rfl rfl (TH.out _) SC.out ?_)
  obtain ⟨W2, hW2⟩ : ∃ W2, (w1.alloc (.cells #[.int .u8 0, .int .u8 0, .int .u8 0, .int .u8 0, .int .u8 0, .int .u8 0, .int .u8 0, .int .u8 0] 44)).setCells w1.heap.size 0 (ch.1.map bv) = W2 := ⟨_, rfl⟩
  have k1 : Below w.heap.size w W2 := by rw [← hW2]; exact below_setCells (HB1.out.alloc HB1.out.size _) _ _ _ HB1.out.size
  have k2 : Row W2 w1.heap.size 44 (bcs ch.1) := by rw [← hW2]; exact PU.out _
  have k3 : w.heap.size ≤ w1.heap.size := HB1.out.size
  rw [hW2]
  clear hW2 HB1 TH PU
  obtain ⟨C, hC⟩ : ∃ C, w1.heap.size = C := ⟨_, rfl⟩
  have k4 : w1.heap.size < W2.heap.size := k2.lt
  rw [hC] at k2 k3 k4 ⊢
  clear hC w1
  obtain ⟨W3, hW3⟩ : ∃ W3, W2.alloc (.cells (bcs (cat3 fun _ => zeroB)) 44) = W3 := ⟨_, rfl⟩
  have m1 : Below w.heap.size w W3 := by rw [← hW3]; exact k1.alloc (by omega) _
  have m2 : Row W3 C 44 (bcs ch.1) := by rw [← hW3]; exact k2.alloc _
  have m3 : Row W3 W2.heap.size 44 (bcs (cat3 fun _ => zeroB)) := by rw [← hW3]; exact row_new _ _ _
  rw [hW3]
  clear hW3 k1 k2
  obtain ⟨U, hU⟩ : ∃ U, W2.heap.size = U := ⟨_, rfl⟩
  rw [hU] at m3 k4 ⊢
  clear hU W2
  have M := Lib.hid (And.intro m1 (And.intro m2 m3))
  clear m1 m2 m3
  obtain ⟨X, hX⟩ : ∃ X, updX D hD a b i = X := ⟨_, rfl⟩
  have HX := Lib.hid hX
  rw [hX]
  clear hX
  go_loopw [12, 30] (fun _ q wr => ∃ j : Nat, j ≤ 3 ∧ q = .int .i64 (j : Int) ∧ Hid (Below w.heap.size w wr ∧ Row wr C 44 (bcs ch.1) ∧ Row wr U 44 (bcs (cat3 fun i => if i < j then X i else zeroB)))) (fun _ q _ => 3 - (intOf q).toNat)
  case atStart => exact ⟨0, Nat.zero_le _, rfl, M⟩
  case round =>
    obtain ⟨j, hj, rfl, H⟩ := hrel
    by_cases hlt : j < 3
    · have hjI : (j : Int) < 3 := by omega
      have er : Gf.gpow 2 (red ((j * i : Nat) : Int)) = Gf.gpow 2 (j * i) := by
        have : j * i ≤ 2 * 12 := Nat.mul_le_mul (by omega) (by omega)
        rw [red_small _ (by omega)]
      have CO := Lib.hid (coef_any j i (by omega) (by omega))
      rw [er] at CO
      obtain ⟨x, hx⟩ : ∃ x, Gf.gpow 2 (j * i) = x := ⟨_, rfl⟩
      rw [hx] at CO
      have hxb : x < 256 := by rw [← hx]; exact gp_lt _
      obtain ⟨d, hd⟩ : ∃ d, nth D hD j = d := ⟨_, rfl⟩
      have EX : Hid (X j = ⟨pmB d.1 ch.1 x, pmB_ok d.2 ch.2 hxb⟩) := Lib.hid (Subtype.ext (by
        rw [← HX.out]
        show pmB (nth D hD j).1 (pmB a.1 b.1 1) (Gf.gpow 2 (j * i)) = pmB d.1 ch.1 x
        rw [hd, hx, CH.out]))
      have dr := DR.out j hlt
      rw [hd] at dr
      have PM := Lib.hid fun w' => pm_any d.1 ch.1 x w' d.2 ch.2 hxb
      obtain ⟨h1, h2, h3'⟩ := H.out
      have HS : (fun w' : World => At8 w' bd (od + j * 8) d.1 ∧ At8 w' C 0 ch.1) wr.drew := ⟨fun q u hu => dr.below h1 hb q u hu, h2.at8⟩
      have DA := Lib.hid (fun w' (hB : Below w.heap.size w w') => dr.below hB hb)
      have H1 := Lib.hid h1
      have H2 := Lib.hid h2
      have H3 := Lib.hid h3'
      clear er hx hd dr h1 h2 h3'
      go_wp2_with fail
      refine wp_region_held (S := fun w' : World => At8 w' bd (od + j * 8) d.1 ∧ At8 w' C 0 ch.1) rfl ?_
      change wpAnyH _ _ _ _ _ _ _ _ wr.drew
      refine takeD (i := 0) (v := .slice (some ⟨U, 0, none⟩) 3 3) (some 33) rfl rfl (by kernel_rfl) (by kernel_rfl) (by kernel_rfl) (fun _ _ _ h => h) (Or.inl ⟨by rfl, by rintro w' -; go_simp⟩) HS ?_
      simp only [Act.put, List.setIfInBounds_toArray, List.set_cons_zero, List.set_cons_succ]
      refine takeD (i := 1) (v := .int .i64 (j : Int)) (some 34) rfl rfl (by kernel_rfl) (by kernel_rfl) (by kernel_rfl) (fun _ _ _ h => h) (Or.inl ⟨by rfl, by rintro w' -; go_simp⟩) HS ?_
      simp only [Act.put, List.setIfInBounds_toArray, List.set_cons_zero, List.set_cons_succ]
      refine takeD (i := 2) (v := .slice (some ⟨bd, od, none⟩) 3 c) (some 35) rfl rfl (by kernel_rfl) (by kernel_rfl) (by kernel_rfl) (fun _ _ _ h => h) (Or.inl ⟨by rfl, by rintro w' -; go_simp⟩) HS ?_
      simp only [Act.put, List.setIfInBounds_toArray, List.set_cons_zero, List.set_cons_succ]
      refine takeD (i := 3) (v := .int .i64 (j : Int)) (some 36) rfl rfl (by kernel_rfl) (by kernel_rfl) (by kernel_rfl) (fun _ _ _ h => h) (Or.inl ⟨by rfl, by rintro w' -; go_simp⟩) HS ?_
      simp only [Act.put, List.setIfInBounds_toArray, List.set_cons_zero, List.set_cons_succ]
      refine takeD (i := 4) (v := .pointer (some ⟨bd, od + j * 8, none⟩)) (some 37) rfl rfl (by kernel_rfl) (by kernel_rfl) (by kernel_rfl) (fun _ _ _ h => h) (Or.inl ⟨by rfl, by rintro w' -; go_simp⟩) HS ?_
      simp only [Act.put, List.setIfInBounds_toArray, List.set_cons_zero, List.set_cons_succ]
      refine takeD (i := 5) (v := .agg (bcs d.1)) (some 38) rfl rfl (by kernel_rfl) (by kernel_rfl) (by kernel_rfl) (fun _ _ _ h => h) (yieldsIf_load8 (by rfl) _ _ rfl _ _ rfl _ _ (fun w' h => h.1) Try.underlying44 rfl (size8 d.2.1)) HS ?_
      simp only [Act.put, List.setIfInBounds_toArray, List.set_cons_zero, List.set_cons_succ]
      refine takeD (i := 6) (v := .agg (bcs ch.1)) (some 39) rfl rfl (by kernel_rfl) (by kernel_rfl) (by kernel_rfl) (fun _ _ _ h => h) (yieldsIf_load8 (by rfl) _ _ rfl _ _ rfl _ _ (fun w' h => h.2) Try.underlying44 rfl (size8 ch.2.1)) HS ?_
      simp only [Act.put, List.setIfInBounds_toArray, List.set_cons_zero, List.set_cons_succ]
      refine takeD (i := 7) (v := .int .i64 (j : Int)) (some 40) rfl rfl (by kernel_rfl) (by kernel_rfl) (by kernel_rfl) (fun _ _ _ h => h) (Or.inl ⟨by rfl, by rintro w' -; go_simp⟩) HS ?_
      simp only [Act.put, List.setIfInBounds_toArray, List.set_cons_zero, List.set_cons_succ]
      refine takeD (i := 8) (v := .int .i64 (i : Int)) (some 41) rfl rfl (by kernel_rfl) (by kernel_rfl) (by kernel_rfl) (fun _ _ _ h => h) (Or.inl ⟨by rfl, by rintro w' -; go_simp⟩) HS ?_
      simp only [Act.put, List.setIfInBounds_toArray, List.set_cons_zero, List.set_cons_succ]
      refine wpAnyH_ready (rs := [9]) (by kernel_rfl) (by simp) ?_
      refine AllReadyH.cons rfl (fun K9 hK9 => ?_) AllReadyH.nil
      have HK9 := Lib.hid hK9
      clear hK9
      rw [if_pos (by rfl)]
      go_simp
      go_at_call 38
      refine (CO.out _).mono ?_
      rintro e w' ⟨rfl, rfl⟩
      refine HK9.out _ _ HS fun _ => ?_
      refine wpAnyH_ready (rs := [10]) (by kernel_rfl) (by simp) ?_
      refine AllReadyH.cons rfl (fun K10 hK10 => ?_) AllReadyH.nil
      have HK10 := Lib.hid hK10
      clear hK10
      rw [if_pos (by rfl)]
      go_simp
      go_at_call 41
      refine (PM.out _).mono ?_
      rintro e w4 ⟨rfl, hpm⟩
      have hpm := (Below.refl wr.heap.size wr).drew.trans hpm
      have lC := H2.out.lt
      have lU := H3.out.lt
      have j1 := H1.out.trans (hpm.mono H1.out.size)
      have j2 := H2.out.below hpm lC
      have j3 := H3.out.below hpm lU
      have HS2 : (fun w' : World => At8 w' bd (od + j * 8) d.1 ∧ At8 w' C 0 ch.1) w4 := ⟨DA.out _ j1, j2.at8⟩
      refine HK10.out _ _ HS2 fun _ => ?_
      obtain ⟨nb, hnb⟩ : ∃ nb : Blk, X j = nb := ⟨_, rfl⟩
      have hbk : bk (pmB d.1 ch.1 x) = .agg (bcs nb.1) := by rw [← hnb, EX.out]; rfl
      rw [hbk]
      have th : w4.there U (j * 8) (bcs nb.1).size := by rw [bcs_size, nb.2.1]; exact j3.there3 hlt
      refine takeD (i := 11) (v := .pointer (some ⟨U, j * 8, none⟩)) (some 44) rfl rfl (by kernel_rfl) (by kernel_rfl) (by kernel_rfl) (fun _ _ _ h => h) (Or.inl ⟨by rfl, by rintro w' -; go_simp⟩) HS2 ?_
      simp only [Act.put, List.setIfInBounds_toArray, List.set_cons_zero, List.set_cons_succ]
      refine wpAnyH_ready (rs := [12]) (by kernel_rfl) (by simp) ?_
      refine AllReadyH.cons rfl (fun K12 hK12 => ?_) AllReadyH.nil
      have HK12 := Lib.hid hK12
      clear hK12
      rw [if_pos (by rfl)]
      refine wp_store8 _ _ _ rfl _ _ nb.1 rfl rfl th (size8 nb.2.1) ?_
      have HS3 : (fun w' : World => At8 w' bd (od + j * 8) d.1 ∧ At8 w' C 0 ch.1) (w4.setCells U (j * 8) (nb.1.map bv)) := ⟨World.rangeAt_setCells_apart HS2.1 U (j * 8) (nb.1.map bv) (Or.inl (by omega)), (j2.otherCells (by omega) _ _).at8⟩
      refine HK12.out _ _ HS3 fun _ => ?_
      refine wpAnyH_done (by kernel_rfl) ?_ _
      have J1 := Lib.hid (below_setCells j1 (nb.1.map bv) U (j * 8) (by omega))
      have J2 := Lib.hid (j2.otherCells (show C ≠ U by omega) (nb.1.map bv) (j * 8))
      have J3 := Lib.hid (j3.put3 hlt nb)
      have NB := Lib.hid hnb
      clear HS HS2 HS3 hpm j1 j2 j3 th hbk hnb
      go_wp2
      go_roundw
      case rel =>
        refine ⟨j + 1, by omega, by go_num, Lib.hid ⟨J1.out, J2.out, ?_⟩⟩
        have e : upd (fun i => if i < j then X i else zeroB) j nb = fun i => if i < j + 1 then X i else zeroB := by
          funext m
          unfold upd
          by_cases e : m = j
          · rw [if_pos e, if_pos (by omega), e, NB.out]
          · rw [if_neg e]
            show (if m < j then X m else zeroB) = _
            by_cases e2 : m < j
            · rw [if_pos e2, if_pos (by omega)]
            · rw [if_neg e2, if_neg (by omega)]
        have := J3.out
        rw [e] at this
        exact this
      case measure => simp [intOf]; omega
    · go_wp2
      go_ret2
      obtain ⟨h1, h2, h3'⟩ := H.out
      obtain rfl : j = 3 := by omega
      have e3 : cat3 (fun i => if i < 3 then X i else zeroB) = cat3 X := rfl
      rw [e3] at h3'
      exact ⟨U, rfl, by omega, by rw [HX.out]; exact h3', h1⟩
set_option maxHeartbeats 400000 in
theorem update_err (v : Value) (D : List (List Nat)) (a b : Blk) (i : Int) (w : World) (h : Bl w v D) (he : D.length ≠ 3 ∨ i < 0 ∨ 12 < i) :
    Calls Try.prog 23 #[v, .int .i64 i, .agg (bcs a.1), .agg (bcs b.1)] w fun e w' => e = .returned (.tuple #[.slice none 0 0, .int .i64 1]) ∧ Below w.heap.size w w' := by
  obtain ⟨A, c, rfl⟩ := h.form
  have HB0 : Hid (Below w.heap.size w ((w.alloc (.cells (bcs a.1) 44)).alloc (.cells (bcs b.1) 44))) := Lib.hid (((Below.refl w.heap.size w).alloc (Nat.le_refl _) _).alloc (by simp) _)
  by_cases h3 : D.length = 3
  · rw [h3] at he ⊢
    by_cases hi : i < 0
    · have g1 : decide (i < 0) = true := decide_eq_true hi
      clear h h3 he
      go_enter Try.func23, Try.ntmps23
      go_wp2
      go_ret2
      exact ⟨rfl, HB0.out⟩
    · have g1 : decide (i < 0) = false := decide_eq_false hi
      have g2 : decide (13 ≤ i) = true := decide_eq_true (by omega)
      clear h h3 he
      go_enter Try.func23, Try.ntmps23
      go_wp2
      go_ret2
      exact ⟨rfl, HB0.out⟩
  · generalize D.length = n at *
    have g0 : ((n : Int) != 3) = true := by simp; omega
    clear h he
    go_enter Try.func23, Try.ntmps23
    go_wp2
    go_ret2
    exact ⟨rfl, HB0.out⟩
end Go.Proofs.Ytfhgalfdlkdliaa
