/- Contracts: Projective. WRITTEN BY gen_Ug.py. -/
import Derived.Test.YtnnacofjogfkeaaDoorUr
namespace Go.Proofs.YtnnacofjogfkeaaDoor
open Go Go.RowKit Pl
set_option linter.unusedVariables false
set_option linter.unusedSimpArgs false

def lnTo (q n : Nat) : List (List Nat) := (List.range (cN q)).map fun i => if i < n then line q i else []
theorem lnTo_len (q n : Nat) : (lnTo q n).length = cN q := by simp [lnTo]
theorem lnTo_succ (q n : Nat) : (lnTo q n).set n (line q n) = lnTo q (n + 1) := by
  refine List.ext_getElem (by simp [lnTo]) fun k h1 h2 => ?_
  simp only [lnTo, List.getElem_set, List.getElem_map, List.getElem_range]
  by_cases e : n = k
  · subst e; rw [if_pos rfl, if_pos (by omega)]
  · rw [if_neg e]; (repeat' split) <;> first | rfl | omega
theorem lnTo_all (q : Nat) : lnTo q (cN q) = (List.range (cN q)).map (line q) := by
  unfold lnTo; exact List.map_congr_left fun k hk => by rw [if_pos (by simpa using hk)]
theorem lnTo_at {q n : Nat} (hn : n < cN q) : (lnTo q n)[n]? = some [] := by simp [lnTo, hn]
theorem Row.cellSet {w : World} {g : Nat} {t : TypeId} {cs : Array Value} {n : Nat} {v : Value} (h : Row w g t (cs.setIfInBounds n v)) (hn : n < cs.size) : w.cell? ⟨g, n, none⟩ = some v := by
  rw [h.cell, Array.getElem?_setIfInBounds_self_of_lt hn]
theorem Row.storeSet {w : World} {g : Nat} {t : TypeId} {cs : Array Value} {n : Nat} {v : Value} (h : Row w g t (cs.setIfInBounds n v)) (u : Value) : Row (w.setCell ⟨g, n, none⟩ u) g t (cs.setIfInBounds n u) := by
  have := h.store n u
  rwa [Array.setIfInBounds_setIfInBounds] at this
theorem Row.sameNil {w : World} {g : Nat} {t : TypeId} {cs : Array Value} {n : Nat} {v : Value} (h : Row w g t cs) (hn : cs[n]? = some v) : Row w g t (cs.setIfInBounds n v) := by
  have : cs.setIfInBounds n v = cs := by
    refine Array.ext_getElem? fun i => ?_
    by_cases e : n = i
    · subst e
      rw [Array.getElem?_setIfInBounds_self_of_lt (Array.getElem?_eq_some_iff.1 hn).1, hn]
    · rw [Array.getElem?_setIfInBounds_ne e]
  rw [this]; exact h
/-- The table of the lines below n; what is behind them is nil. -/
def Ln (B : Nat) (w : World) (g N q n : Nat) : Prop := ∃ cs, Row w g 40 cs ∧ cs.size = N ∧ Wk (NsB B) w g 40 N (lnTo q n) ∧ ∀ i, n ≤ i → i < N → cs[i]? = some (.slice none 0 0)
theorem Ln.to {B : Nat} {w w' : World} {g N q n : Nat} (h : Ln B w g N q n) (hb : Below w.heap.size w w') : Ln B w' g N q n := by
  obtain ⟨cs, h1, h2, h3, h4⟩ := h
  exact ⟨cs, h1.go hb, h2, h3.gto hb, h4⟩
theorem Ln.made (B : Nat) {w : World} {N q : Nat} (hN : cN q = N) (h57 : N ≤ 57) : Ln B (w.alloc (.cells (madeCells #[.slice none 0 0] N) 40)) w.heap.size N q 0 := by
  have hc : ∀ i, i < N → (madeCells #[.slice none 0 0] N)[i]? = some (.slice none 0 0) := fun i hi => by simp [madeCells, hi, Nat.mod_one]
  refine ⟨_, row_new' _ _ _, by simp [madeCells], ⟨_, row_new' _ _ _, by simp [madeCells], by unfold maxLen; omega, by rw [lnTo_len]; omega, fun k hk => ?_⟩, fun i _ hi => hc i hi⟩
  refine ⟨_, hc k (by rw [lnTo_len] at hk; omega), ?_⟩
  simp only [lnTo, List.getElem_map, List.getElem_range, Nat.not_lt_zero, if_false]
  exact fun _ _ w'' _ => Sl.nil_ w''
theorem info_rows : (Tryd.prog.info? 40).map (fun i => (i.zero, i.size, i.bytes)) = some (some (.slice none 0 0), 1, 24) := by kernel_rfl
def dsFx (n : Nat) (L : List (List Nat)) (w : World) (e : Ending) (w' : World) : Prop := ∃ v, e = .returned (.tuple #[dv n v, .int .i64 0]) ∧ Fx w.heap.size w' v L ∧ Below w.heap.size w w'
def dsPost (n : Nat) (L : List (List Nat)) (w : World) (e : Ending) (w' : World) : Prop := ∃ v, e = .returned (.tuple #[dv n v, .int .i64 0]) ∧ Gs w' v L ∧ Below w.heap.size w w'

set_option maxHeartbeats 4000000 in
set_option maxRecDepth 100000 in
theorem proj_arg (q : Int) (w : World) (hK : Kd w) (hq : ∀ k, k < 7 → (kS k : Int) ≠ q) : Calls Tryd.prog 30 #[.int .i64 q] w (bel (.tuple #[dv 0 (.slice none 0 0), .int .i64 1]) w) := by
  obtain ⟨B, hB⟩ : ∃ B, w.heap.size = B := ⟨_, rfl⟩
  obtain ⟨W, hW⟩ : ∃ W, w.alloc (.cells #[.int .i64 0, .slice none 0 0] 25) = W := ⟨_, rfl⟩
  have b0 : Below w.heap.size w W := by rw [← hW]; exact (Below.refl _ _).alloc (Nat.le_refl _) _
  have r0 : Row W B 25 #[.int .i64 0, .slice none 0 0] := by rw [← hW, ← hB]; exact row_new' _ _ _
  have NE := Lib.hid (ns_arg q W (hK.below b0) hq)
  have B0 := Lib.hid b0
  have R0 := Lib.hid r0
  have HW := Lib.hid hW
  have HE := Lib.hid hB
  clear hq hK b0 r0 hW hB 
  go_enter Tryd.func30, Tryd.ntmps30
  go_wp2_with fail
  rw [HE.out, HW.out]
  refine NE.out.mono ?_
  rintro e w1 ⟨rfl, hb⟩
  have HB := Lib.hid (B0.out.trans (hb.mono B0.out.size))
  have R1 := Lib.hid (R0.out.go hb)
  have c0 := R1.out.cell 0
  have c1 := R1.out.cell 1
  have f0 := R1.out.frozen 0
  have f1 := R1.out.frozen 1
  have R2 := Lib.hid ((R1.out.store 0 (.int .i64 0)).store 1 (.slice none 0 0))
  have HB2 := Lib.hid ((HB.out.setCell (p := ⟨B, 0, none⟩) (Nat.le_of_eq HE.out) (.int .i64 0)).setCell (p := ⟨B, 1, none⟩) (Nat.le_of_eq HE.out) (.slice none 0 0))
  clear hb
  go_wp2_with fail
  refine bodyPost_ret (results_cell_tmp (g := B) (t := 25) (fr := (0, 0)) rfl _ _ _ _ rfl R2.out Tryd.underlying25 rfl (by kernel_rfl)) rfl ?_
  exact ⟨rfl, HB2.out⟩
set_option maxHeartbeats 4000000 in
set_option maxRecDepth 100000 in
theorem proj_limit (q : Nat) (w : World) (hK : Kd w) (hq : q ∈ Sf.sizes) (h8 : q ∉ szs) : Calls Tryd.prog 30 #[.int .i64 (q : Int)] w (bel (.tuple #[dv 0 (.slice none 0 0), .int .i64 7]) w) := by
  obtain ⟨B, hB⟩ : ∃ B, w.heap.size = B := ⟨_, rfl⟩
  obtain ⟨W, hW⟩ : ∃ W, w.alloc (.cells #[.int .i64 0, .slice none 0 0] 25) = W := ⟨_, rfl⟩
  have b0 : Below w.heap.size w W := by rw [← hW]; exact (Below.refl _ _).alloc (Nat.le_refl _) _
  have r0 : Row W B 25 #[.int .i64 0, .slice none 0 0] := by rw [← hW, ← hB]; exact row_new' _ _ _
  have NE := Lib.hid (ns_limit q W (hK.below b0) hq h8)
  have B0 := Lib.hid b0
  have R0 := Lib.hid r0
  have HW := Lib.hid hW
  have HE := Lib.hid hB
  clear hq hK b0 r0 hW hB h8
  go_enter Tryd.func30, Tryd.ntmps30
  go_wp2_with fail
  rw [HE.out, HW.out]
  refine NE.out.mono ?_
  rintro e w1 ⟨rfl, hb⟩
  have HB := Lib.hid (B0.out.trans (hb.mono B0.out.size))
  have R1 := Lib.hid (R0.out.go hb)
  have c0 := R1.out.cell 0
  have c1 := R1.out.cell 1
  have f0 := R1.out.frozen 0
  have f1 := R1.out.frozen 1
  have R2 := Lib.hid ((R1.out.store 0 (.int .i64 0)).store 1 (.slice none 0 0))
  have HB2 := Lib.hid ((HB.out.setCell (p := ⟨B, 0, none⟩) (Nat.le_of_eq HE.out) (.int .i64 0)).setCell (p := ⟨B, 1, none⟩) (Nat.le_of_eq HE.out) (.slice none 0 0))
  clear hb
  go_wp2_with fail
  refine bodyPost_ret (results_cell_tmp (g := B) (t := 25) (fr := (0, 0)) rfl _ _ _ _ rfl R2.out Tryd.underlying25 rfl (by kernel_rfl)) rfl ?_
  exact ⟨rfl, HB2.out⟩
set_option maxHeartbeats 4000000 in
set_option maxRecDepth 100000 in
theorem proj_fx (q : Nat) (w : World) (hK : Kd w) (hq : q ∈ szs) : Calls Tryd.prog 30 #[.int .i64 (q : Int)] w (dsFx (cN q) ((List.range (cN q)).map (line q)) w) := by
  obtain ⟨B, hB⟩ : ∃ B, w.heap.size = B := ⟨_, rfl⟩
  obtain ⟨W, hW⟩ : ∃ W, w.alloc (.cells #[.int .i64 0, .slice none 0 0] 25) = W := ⟨_, rfl⟩
  have b0 : Below w.heap.size w W := by rw [← hW]; exact (Below.refl _ _).alloc (Nat.le_refl _) _
  have r0 : Row W B 25 #[.int .i64 0, .slice none 0 0] := by rw [← hW, ← hB]; exact row_new' _ _ _
  have NE := Lib.hid (ns_ok q W (hK.below b0) hq)
  have B0 := Lib.hid b0
  have R0 := Lib.hid r0
  have HW := Lib.hid hW
  have HE := Lib.hid hB
  have QS := Lib.hid hq
  have h57 := (szs_ok hq).2.2.2.1
  rw [← lnTo_all]
  obtain ⟨N, hN⟩ : ∃ N, cN q = N := ⟨_, rfl⟩
  rw [hN] at h57 ⊢
  have HN := Lib.hid hN
  obtain ⟨i0, hi, hz0, hz1, hz2⟩ := info_parts info_int
  have I0 := Lib.hid (And.intro hi (And.intro hz0 (And.intro hz1 hz2)))
  have hm1 := run_make_row' (P := Tryd.prog) 23 40 _ _ Tryd.underlying23 info_rows rfl .i64 .i64 N (by omega) (by omega)
  clear hi hz0 hz1 hz2 hq hK b0 r0 hW hB hN
  go_enter Tryd.func30, Tryd.ntmps30
  go_wp2_with fail
  rw [HE.out, HW.out]
  refine NE.out.mono ?_
  rintro e w1 ⟨S, rfl, hs, hb⟩
  obtain ⟨u, g, cap, M, hF, hc1, hc2, hcap, hcs, hm⟩ := hs
  rw [HN.out] at hc1 hcap hcs
  have B1 := Lib.hid (B0.out.trans (hb.mono B0.out.size))
  have R1 := Lib.hid (R0.out.go hb)
  have F1 := Lib.hid hF
  have C1 := Lib.hid hc1
  have K1 := Lib.hid hcs
  have LN0 := Lib.hid (Ln.made B (w := w1) HN.out h57)
  obtain ⟨gl, hgl⟩ : ∃ gl, w1.heap.size = gl := ⟨_, rfl⟩
  have HG := Lib.hid hgl
  have cc := hc1
  have cc2 : ∀ o, (w1.alloc o).cell? ⟨S, 1, none⟩ = some (.slice (some ⟨g, 0, none⟩) N cap) := fun o => cell_to hc1 ((Below.refl _ _).alloc (Nat.le_refl _) o)
  rw [hgl] at LN0
  clear hb hF hc1 hc2 hcap hcs hm hgl
  go_wp2_with fail
  rw [HG.out]
  go_loopw [7, 8, 9, 10, 31] (fun _ _ _ _ i wr => ∃ n : Nat, n ≤ N ∧ i = .int .i64 (n : Int) ∧ Hid (Below w1.heap.size w1 wr ∧ Ln B wr gl N q n)) (fun _ _ _ _ i _ => N - (intOf i).toNat)
  case atStart => exact ⟨0, by omega, rfl, Lib.hid ⟨(Below.refl _ _).alloc (Nat.le_refl _) _, LN0.out⟩⟩
  case round =>
    obtain ⟨n, hn, rfl, H⟩ := hrel
    by_cases hlt : n < N
    · skip
      have hkI : (n : Int) < (N : Int) := by omega
      have HB := Lib.hid H.out.1
      have HL := Lib.hid H.out.2
      have ZF := Lib.hid (F1.out.to HB.out)
      have ZC := Lib.hid (cell_to C1.out HB.out)
      have ZK := Lib.hid (K1.out.to HB.out)
      have AT := Lib.hid (ZK.out n hlt)
      have PE := pt_el QS.out (show n < cN q by rw [HN.out]; exact hlt)
      have SUCN := Lib.hid (lnTo_succ q n)
      have LNE : Hid (line q n = lineTo q (pt q n) N) := Lib.hid (by unfold line; rw [HN.out])
      obtain ⟨c, hc⟩ : ∃ c, pt q n = c := ⟨_, rfl⟩
      rw [hc] at AT PE LNE
      have EC := Lib.hid PE.1
      clear H hc PE
      have R0 := row_new' wr #[.int .i64 0, .int .i64 0, .int .i64 0] 82
      have hbn : Below wr.heap.size wr ((wr.alloc (.cells #[.int .i64 0, .int .i64 0, .int .i64 0] 82)).setCells wr.heap.size 0 (ka c).toList) := below_set3 ((Below.refl _ _).alloc (Nat.le_refl _) _) (Nat.le_refl _) c
      have TH := Lib.hid (R0.thr (n := 3) (by simp))
      have RN := Lib.hid (R0.put3 rfl c).at3
      have cc := cell_to ZC.out hbn
      have HL2 := Lib.hid (HL.out.to hbn)
      have HB2 := Lib.hid (HB.out.trans (hbn.mono HB.out.size))
      have AT' : Hid (wr.rangeAt g (n * 3) (kl c)) := AT
      have NGL0 : gl < wr.heap.size := by obtain ⟨_, h, _⟩ := HL.out; exact h.lt
      clear R0 HL ZF ZC ZK AT hbn
      go_wp2_with (first | (refine wpList_load_mid rfl _ _ rfl g (n * 3) rfl (kl c) _ AT'.out Tryd.underlying82 rfl (si3 c) ?_) | (refine wpList_store_mid rfl _ _ _ rfl wr.heap.size 0 (ka c) rfl rfl TH.out (si3 c) (ka_one _) ?_))
      obtain ⟨nb, hnb⟩ : ∃ nb, wr.heap.size = nb := ⟨_, rfl⟩
      rw [hnb] at RN HL2 HB2 cc NGL0 ⊢
      have NGL := Lib.hid NGL0
      clear NGL0
      obtain ⟨wo, hwo⟩ : ∃ wo, (wr.alloc (.cells #[.int .i64 0, .int .i64 0, .int .i64 0] 82)).setCells nb 0 (ka c).toList = wo := ⟨_, rfl⟩
      rw [hwo] at RN HL2 HB2 cc ⊢
      clear hwo TH AT' hnb HB
      obtain ⟨cs, rc, sc, wk, nils⟩ := HL2.out
      have RC := Lib.hid rc
      have SC := Lib.hid sc
      have WK := Lib.hid wk
      have NILS := Lib.hid nils
      have GLT := Lib.hid rc.lt
      have RN0 := Lib.hid RN.out.lt
      clear rc sc wk nils HL2 cc
      go_loopw [9, 10, 41] (fun _ _ k wq => ∃ p : Nat, p ≤ N ∧ k = .int .i64 (p : Int) ∧ ∃ v, Hid (SameOff gl wo wq ∧ Below w1.heap.size w1 wq ∧ Row wq gl 40 (cs.setIfInBounds n v) ∧ OwnL Nv wq wo.heap.size 3 v (lineTo q c p) ∧ At3 wq nb 0 c)) (fun _ _ k _ => N - (intOf k).toNat)
      case atStart => exact ⟨0, by omega, rfl, .slice none 0 0, Lib.hid ⟨SameOff.refl _ _, HB2.out, RC.out.sameNil (NILS.out n (Nat.le_refl _) hlt), OwnL.nil_ _ _ _, RN.out⟩⟩
      case round =>
        obtain ⟨p, hp, rfl, v, I⟩ := hrel
        by_cases hp2 : p < N
        · skip
          have pI : (p : Int) < (N : Int) := by omega
          have IB := Lib.hid I.out.2.1
          have IF := Lib.hid (F1.out.to IB.out)
          have IC := Lib.hid (cell_to C1.out IB.out)
          have IK := Lib.hid (K1.out.to IB.out)
          have IR := Lib.hid (R1.out.go IB.out)
          have IS := Lib.hid I.out.1
          have IL := Lib.hid I.out.2.2.1
          have IO := Lib.hid I.out.2.2.2.1
          have IA := Lib.hid I.out.2.2.2.2
          have hel := (pt_el QS.out (show p < cN q by rw [HN.out]; exact hp2)).1
          have ED := Lib.hid (fun W' (h : Fs W' S u q) => dot_any q S u c (pt q p) W' QS.out h EC.out hel)
          have SUC := Lib.hid (lineTo_succ q c p)
          have LLE := Lib.hid (lineTo_len q c p)
          have AT := Lib.hid (IK.out p hp2)
          obtain ⟨d, hd⟩ : ∃ d, pt q p = d := ⟨_, rfl⟩
          rw [hd] at ED SUC AT
          clear hd hel I
          obtain ⟨x, hx⟩ : ∃ x, dot q c d = x := ⟨_, rfl⟩
          rw [hx] at ED SUC
          clear hx
          obtain ⟨l, hl⟩ : ∃ l, lineTo q c p = l := ⟨_, rfl⟩
          rw [hl] at SUC IO LLE
          clear hl
          obtain ⟨A, cp, rfl⟩ := slform IO.out.sl
          obtain ⟨m, hm⟩ : ∃ m, l.length = m := ⟨_, rfl⟩
          rw [hm] at LLE
          have m57 : m ≤ 57 := by have := LLE.out; omega
          rw [hm] at IL IO
          have LM := Lib.hid hm
          clear hm LLE
          have R0 := row_new' wr #[.int .i64 0, .int .i64 0, .int .i64 0] 82
          have hbn : Below wr.heap.size wr ((wr.alloc (.cells #[.int .i64 0, .int .i64 0, .int .i64 0] 82)).setCells wr.heap.size 0 (ka d).toList) := below_set3 ((Below.refl _ _).alloc (Nat.le_refl _) _) (Nat.le_refl _) d
          have TH := Lib.hid (R0.thr (n := 3) (by simp))
          have RN := Lib.hid (R0.put3 rfl d).at3
          clear R0
          have AT' : Hid (wr.rangeAt g (p * 3) (kl d)) := AT
          have IA2 : Hid (((wr.alloc (.cells #[.int .i64 0, .int .i64 0, .int .i64 0] 82)).setCells wr.heap.size 0 (ka d).toList).rangeAt nb 0 (kl c)) := Lib.hid (IA.out.to hbn)
          have RN2 : Hid (((wr.alloc (.cells #[.int .i64 0, .int .i64 0, .int .i64 0] 82)).setCells wr.heap.size 0 (ka d).toList).rangeAt wr.heap.size 0 (kl d)) := RN
          go_wp2_with (first | (refine wpList_load_mid rfl _ _ rfl g (p * 3) rfl (kl d) _ AT'.out Tryd.underlying82 rfl (si3 d) ?_) | (refine wpList_store_mid rfl _ _ _ rfl wr.heap.size 0 (ka d) rfl rfl TH.out (si3 d) (ka_one _) ?_) | (refine wpList_load_mid rfl _ _ rfl nb 0 rfl (kl c) _ IA2.out Tryd.underlying82 rfl (si3 c) ?_) | (refine wpList_load_mid rfl _ _ rfl wr.heap.size 0 rfl (kl d) _ RN2.out Tryd.underlying82 rfl (si3 d) ?_))
          obtain ⟨y0, hy0⟩ : ∃ y0, (wr.alloc (.cells #[.int .i64 0, .int .i64 0, .int .i64 0] 82)).setCells wr.heap.size 0 (ka d).toList = y0 := ⟨_, rfl⟩
          rw [hy0] at hbn ⊢
          obtain ⟨pb, hpb⟩ : ∃ pb, wr.heap.size = pb := ⟨_, rfl⟩
          rw [hpb]
          clear hy0 hpb TH AT' AT IA2 RN2 RN
          have yhq1 : Below wr.heap.size wr y0 := hbn
          have yF_2 := Lib.hid (Fs.to IF.out yhq1)
          have yS_3 := Lib.hid (SameOff.gto IS.out yhq1)
          have yL_4 := Lib.hid (Row.go IL.out yhq1)
          have yO_5 := Lib.hid (OwnL.gto IO.out yhq1)
          have yA_6 := Lib.hid (At3.to IA.out yhq1)
          have yHB_7 : Hid (Below w1.heap.size w1 y0) := Lib.hid (IB.out.trans (yhq1.mono IB.out.size))
          clear yhq1
          clear hbn IF IC IK IR IS IL IO IA
          by_cases x0 : x = 0
          · subst x0
            refine (ED.out _ yF_2.out).mono ?_
            rintro e yx8 ⟨rfl, hb⟩
            have yhq9 : Below y0.heap.size y0 yx8 := hb
            have yS_10 := Lib.hid (SameOff.gto yS_3.out yhq9)
            have yL_11 := Lib.hid (Row.go yL_4.out yhq9)
            have yO_12 := Lib.hid (OwnL.gto yO_5.out yhq9)
            have yA_13 := Lib.hid (At3.to yA_6.out yhq9)
            have yHB_14 : Hid (Below w1.heap.size w1 yx8) := Lib.hid (yHB_7.out.trans (yhq9.mono yHB_7.out.size))
            clear yhq9
            clear hb
            have cc := yL_11.out.cellSet (by rw [SC.out]; exact hlt)
            have LIT : Hid ((yx8.alloc (.cells #[.int .i64 (p : Int)] 3)).cell? ⟨yx8.heap.size, 0, none⟩ = some (.int .i64 (p : Int))) := Lib.hid ((row_new' _ _ _).cell 0)
            have hbx : Below yx8.heap.size yx8 (yx8.alloc (.cells #[.int .i64 (p : Int)] 3)) := (Below.refl _ _).alloc (Nat.le_refl _) _
            have yhq15 : Below yx8.heap.size yx8 (yx8.alloc (.cells #[.int .i64 (p : Int)] 3)) := hbx
            have yS_16 := Lib.hid (SameOff.gto yS_10.out yhq15)
            have yL_17 := Lib.hid (Row.go yL_11.out yhq15)
            have yO_18 := Lib.hid (OwnL.gto yO_12.out yhq15)
            have yA_19 := Lib.hid (At3.to yA_13.out yhq15)
            have yHB_20 : Hid (Below w1.heap.size w1 (yx8.alloc (.cells #[.int .i64 (p : Int)] 3))) := Lib.hid (yHB_14.out.trans (yhq15.mono yHB_14.out.size))
            clear yhq15
            go_wp2_with (first | (at_builtin; refine wpList_push_n rfl (.tmp 56) (.tmp 58) rfl wo.heap.size (.slice A m cp) l m p yx8.heap.size rfl yO_18.out LM.out rfl LIT.out (by omega) (by have := yS_16.out.1; omega) ?_; intro gs cq x9 ho hg hat hlt2; have ZB2 : Hid (Below w1.heap.size w1 x9) := Lib.hid (yHB_20.out.grown hg yHB_20.out.size (fun k e => by have h1 := (yO_18.out.own k e).1; have h2 := HB2.out.size; omega)); have ZL2 := Lib.hid (yL_17.out.gr hg (fun e => by have := (yO_18.out.own _ e.symm).1; have := GLT.out; omega)); have ZS2 := Lib.hid (yS_16.out.gr hg (fun k e => (yO_18.out.own k e).1)); have ZO2 := Lib.hid ho; have ZA2 := Lib.hid (yA_19.out.gr hg (fun e => by have := (yO_18.out.own _ e.symm).1; have := RN0.out; omega)); have ZB3 := Lib.hid (ZB2.out.setCell (p := ⟨gl, n, none⟩) (Nat.le_of_eq HG.out) (.slice (some ⟨gs, 0, none⟩) (m + 1) cq)); have ZL3 := Lib.hid (ZL2.out.storeSet (.slice (some ⟨gs, 0, none⟩) (m + 1) cq)); have ZS3 := Lib.hid (ZS2.out.trans (setCell_off x9 gl n (.slice (some ⟨gs, 0, none⟩) (m + 1) cq))); have ZO3 := Lib.hid (ZO2.out.nOff (grown_set x9 gl n (.slice (some ⟨gs, 0, none⟩) (m + 1) cq)) GLT.out); have ZA3 := Lib.hid (At3.gr ZA2.out (grown_set x9 gl n (.slice (some ⟨gs, 0, none⟩) (m + 1) cq)) (by intro e; injection e with e; have := NGL.out; omega)); have cc9 := ZL2.out.cellSet (by rw [SC.out]; exact hlt); have ff9 := ZL2.out.frozen n; clear ho hg hat hlt2 cc))
            go_roundw
            case rel => exact ⟨p + 1, by omega, by go_num, _, Lib.hid ⟨ZS3.out, ZB3.out, ZL3.out, by rw [SUC.out, if_pos trivial]; exact ZO3.out, ZA3.out⟩⟩
            case measure => simp [intOf]; omega
          · have x0I : ¬ ((x : Int) = 0) := by omega
            refine (ED.out _ yF_2.out).mono ?_
            rintro e yx8 ⟨rfl, hb⟩
            have yhq9 : Below y0.heap.size y0 yx8 := hb
            have yS_10 := Lib.hid (SameOff.gto yS_3.out yhq9)
            have yL_11 := Lib.hid (Row.go yL_4.out yhq9)
            have yO_12 := Lib.hid (OwnL.gto yO_5.out yhq9)
            have yA_13 := Lib.hid (At3.to yA_6.out yhq9)
            have yHB_14 : Hid (Below w1.heap.size w1 yx8) := Lib.hid (yHB_7.out.trans (yhq9.mono yHB_7.out.size))
            clear yhq9
            clear hb
            go_wp2_with fail
            go_roundw
            case rel => exact ⟨p + 1, by omega, by go_num, _, Lib.hid ⟨yS_10.out, yHB_14.out, yL_11.out, by rw [SUC.out, if_neg x0]; exact yO_12.out, yA_13.out⟩⟩
            case measure => simp [intOf]; omega
        · have ep : p = N := by omega
          rw [ep] at I
          have HL9 : Hid (Ln B wr gl N q (n + 1)) := Lib.hid (by
            refine ⟨_, I.out.2.2.1, by simp [SC.out], ?_, fun i h1 h2 => ?_⟩
            · have h9 := WK.out.row RC.out I.out.1 I.out.2.2.1 (I.out.2.2.2.1.nsOff2 GLT.out (Nat.lt_of_lt_of_le R1.out.lt HB2.out.size))
              rw [← LNE.out, SUCN.out] at h9
              exact h9
            · rw [Array.getElem?_setIfInBounds_ne (by omega)]
              exact NILS.out i (by omega) h2)
          have HB9 := Lib.hid I.out.2.1
          have pI : ¬ (p : Int) < (N : Int) := by omega
          clear I ep
          go_wp2_with fail
          go_roundw
          case rel => exact ⟨n + 1, by omega, by go_num, Lib.hid ⟨HB9.out, HL9.out⟩⟩
          case measure => simp [intOf]; omega
    · obtain rfl : n = N := by omega
      have C9 := cell_to C1.out H.out.1
      have R9 := Lib.hid (R1.out.go H.out.1)
      have c0 := R9.out.cell 0
      have c1 := R9.out.cell 1
      have f0 := R9.out.frozen 0
      have f1 := R9.out.frozen 1
      have GS := Lib.hid (show Sl (NsB B) wr (.slice (some ⟨gl, 0, none⟩) n n) (lnTo q n) by
        obtain ⟨cs, h1, h2, h3, h4⟩ := H.out.2
        have := h3.sl
        rw [lnTo_len, HN.out] at this
        exact this)
      have R2 := Lib.hid ((R9.out.store 0 (.int .i64 (n : Int))).store 1 (.slice (some ⟨gl, 0, none⟩) n n))
      have HB8 := Lib.hid (B1.out.trans (H.out.1.mono B1.out.size))
      have HB2 := Lib.hid ((HB8.out.setCell (p := ⟨B, 0, none⟩) (Nat.le_of_eq HE.out) (.int .i64 (n : Int))).setCell (p := ⟨B, 1, none⟩) (Nat.le_of_eq HE.out) (.slice (some ⟨gl, 0, none⟩) n n))
      have SO := Lib.hid (((SameOff.refl B wr).trans (setCell_off wr B 0 (.int .i64 (n : Int)))).trans (setCell_off _ B 1 (.slice (some ⟨gl, 0, none⟩) n n)))
      have NB9 : Hid (B < gl) := Lib.hid (by have := R1.out.lt; have := HG.out; omega)
      clear H
      go_wp2_with fail
      refine bodyPost_ret (results_cell_tmp (g := B) (t := 25) (fr := (0, 0)) rfl _ _ _ _ rfl R2.out Tryd.underlying25 rfl (by kernel_rfl)) rfl ?_
      exact ⟨_, rfl, by rw [HE.out]; exact NsB.fx GS.out SO.out NB9.out, HB2.out⟩
theorem proj_ok (q : Nat) (w : World) (hK : Kd w) (hq : q ∈ szs) : Calls Tryd.prog 30 #[.int .i64 (q : Int)] w (dsPost (cN q) ((List.range (cN q)).map (line q)) w) :=
  (proj_fx q w hK hq).mono fun e w' ⟨v, he, hf, hb⟩ => ⟨v, he, hf.gs, hb⟩
end Go.Proofs.YtnnacofjogfkeaaDoor
