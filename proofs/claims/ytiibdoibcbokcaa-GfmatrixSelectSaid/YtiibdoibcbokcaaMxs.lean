/- Contract of the reference's Independent. -/
import Derived.Test.YtiibdoibcbokcaaMxr
namespace Go.Proofs.Ytiibdoibcbokcaa
open Go Go.RowKit Lin

theorem bt' {w a b : World} (h1 : Below w.heap.size w a) (h2 : Below a.heap.size a b) : Below w.heap.size w b := h1.trans (h2.mono h1.size)
def indPost (C R : Nat) (m : List (List Nat)) (w : World) (e : Ending) (w' : World) : Prop :=
  ∃ v, e = .returned v ∧ Is w' v (natsI (indF C (el m) R)) ∧ Below w.heap.size w w'
/-- What stands behind i rows. -/
def indRel (C i base : Nat) (m : List (List Nat)) (w wr : World) (vr vb : Value) : Prop :=
  Below w.heap.size w wr ∧ base ≤ wr.heap.size ∧ OwnL Iv wr base 3 vr (natsI (indF C (el m) i)) ∧ ∃ b l k, Rect k C b ∧ BI C i (el m) (el b) k l ∧ (indF C (el m) i).length = k ∧ OwnX Bs wr base 31 vb vr.ownBlock b
theorem residL_getD {C k R : Nat} {m b : List (List Nat)} {l : Nat → Nat} {i : Nat} (hm : Rect R C m) (hb : Rect k C b) (j : Nat) : (residL C k b l (m.getD i [])).getD j 0 = resid k (el b) l (el m i) j := by
  rcases Nat.lt_or_ge j C with h | h
  · unfold residL; rw [range_getD _ _ _ _ h]; rfl
  · rw [getD_out (by simpa [residL] using h)]
    unfold resid
    rw [hm.out_col i h, xs_zero _ _ fun n _ => by rw [hb.out_col n h, Gf.mul_zero]]
    rfl
/-- The basis with the new row. -/
def basisF (b : List (List Nat)) (row : List Nat) (q : Nat) : List (List Nat) := (b.map fun r => fused r (normF row q) (r.getD q 0)) ++ [normF row q]
theorem getD_app {α : Type} (a c : List α) (i : Nat) (d : α) : (a ++ c).getD i d = if i < a.length then a.getD i d else c.getD (i - a.length) d := by
  rw [List.getD_eq_getElem?_getD, List.getElem?_append]
  split <;> rw [List.getD_eq_getElem?_getD]
theorem basis_getD {k C : Nat} {b : List (List Nat)} (hb : Rect k C b) (row : List Nat) (q i : Nat) : (basisF b row q).getD i [] = if i < k then fused (b.getD i []) (normF row q) (el b i q) else if i = k then normF row q else [] := by
  unfold basisF
  rw [getD_app, List.length_map, hb.len]
  by_cases h : i < k
  · rw [if_pos h, if_pos h, getD_in (l := List.map _ _) (by rw [List.length_map, hb.len]; exact h)]
    simp only [List.getElem_map]
    unfold el
    rw [getD_in (l := b) (by rw [hb.len]; exact h)]
  · rw [if_neg h, if_neg h]
    by_cases e : i = k
    · rw [if_pos e, e, Nat.sub_self]; rfl
    · rw [if_neg e, getD_out (by simp; omega)]
theorem basis_el {k C : Nat} {b : List (List Nat)} (hb : Rect k C b) {row : List Nat} (hl : row.length = C) (q : Nat) (r : Nat → Nat) (hr : ∀ j, row.getD j 0 = r j) : el (basisF b row q) = pushed (el b) k q r := by
  funext i j
  have hn : ∀ j, (normF row q).getD j 0 = Gf.mul (Gf.inv (r q)) (r j) := fun j => by rw [normF_at, hr, hr]
  have e : el (basisF b row q) i j = ((basisF b row q).getD i []).getD j 0 := rfl
  rw [e, basis_getD hb]
  unfold pushed
  rcases Nat.lt_trichotomy i k with h | h | h
  · rw [if_pos h, if_neg (by omega), fused_getD _ _ _ _ (by rw [(hb.row i h).1, normF_len, hl]), hn]; rfl
  · rw [if_neg (by omega), if_pos h, if_pos h]; exact hn j
  · rw [if_neg (by omega), if_neg (by omega), if_neg (by omega), hb.out_row (by omega), hb.out_row (by omega), Gf.zero_mul]; rfl
theorem basis_rect {k C : Nat} {b : List (List Nat)} (hb : Rect k C b) {row : List Nat} (hl : row.length = C) (hrb : ∀ x ∈ row, x < 256) (q : Nat) : Rect (k + 1) C (basisF b row q) := by
  refine ⟨by simp [basisF, hb.len], fun i hi => ?_⟩
  rw [basis_getD hb]
  by_cases h : i < k
  · rw [if_pos h]
    exact ⟨by rw [fused_len]; exact (hb.row i h).1, fused_bytes _ _ _ (hb.row i h).2 (hb.by i q)⟩
  · rw [if_neg h, if_pos (by omega)]
    exact ⟨by rw [normF_len, hl], normF_bytes _ _ hrb⟩

set_option maxHeartbeats 8000000 in
set_option maxRecDepth 100000 in
theorem independent_any (v : Value) (m : List (List Nat)) (w : World) {R C : Nat} (h : Ms w v m) (hR : Rect R C m) (h0 : 0 < R) (hn0 : 0 < C) (hr64 : R ≤ 64) (hn64 : C ≤ 64) :
    Calls Try.prog 27 #[v] w (indPost C R m w) := by
  obtain ⟨ba, oa, ca, rfl, hm, hat⟩ := Ms.open_ h hR h0 hn0
  have HA := Lib.hid hat
  have RL := Lib.hid hR
  obtain ⟨i0, hi, hz0, hz1, hz2⟩ := info_parts info_int
  have I0 := Lib.hid (And.intro hi (And.intro hz0 (And.intro hz1 hz2)))
  clear hi hz0 hz1 hz2
  obtain ⟨i1, hi, hz0, hz1, hz2⟩ := info_parts info_bytes
  have I1 := Lib.hid (And.intro hi (And.intro hz0 (And.intro hz1 hz2)))
  have hmk := run_make_row' (P := Try.prog) 31 5 _ _ Try.underlying31 info_u8 rfl .i64 .i64 C (by omega) (by omega)
  clear hi hz0 hz1 hz2 hat h hm hR
  go_enter Try.func27, Try.ntmps27
  go_wp2
  go_loopw [3, 4, 5, 6, 7, 8, 9, 10] (fun vr vb q _ _ _ _ _ wr => ∃ i : Nat, i ≤ R ∧ q = .int .i64 (i : Int) ∧ Hid (indRel C i w.heap.size m w wr vr vb)) (fun _ _ q _ _ _ _ _ _ => R - (intOf q).toNat)
  case atStart => exact ⟨0, Nat.zero_le _, rfl, Lib.hid ⟨Below.refl _ _, Nat.le_refl _, OwnL.nil_ _ _ _, [], fun _ => 0, 0, ⟨rfl, fun i hi => absurd hi (Nat.not_lt_zero i)⟩, BI.nil_ RL.out.by (fun _ _ => by simp [el]), rfl, Or.inl ⟨rfl, rfl⟩⟩⟩
  case round =>
    obtain ⟨i, hk, rfl, H⟩ := hrel
    obtain ⟨wo, rfl⟩ : ∃ wo, wo = wr := ⟨_, rfl⟩
    by_cases hlt : i < R
    · have hiI : (i : Int) < (R : Int) := by omega
      obtain ⟨hbel, hbs, hvr, b, l, k, hRb, hBI, hlen, hvb⟩ := H.out
      have hk64 : k ≤ 64 := by rw [← hlen]; have := List.length_filter_le (isInd C (el m)) (List.range i); unfold indF; simp at this; omega
      obtain ⟨b1, o1, c1, q1, r1, -, -⟩ := HA.out i hlt
      have q1' := (hbel.cell (World.block_lt_of_cell? w _ q1)).trans q1
      have RD := Lib.hid (rreduced_any _ u4 (m.getD i []) b l wo (r1.below hbel) (RL.out.row i hlt).1 hvb.ownL.sl hRb hBI.ech hk64 hn0 hn64)
      have RG := Lib.hid (fun j => residL_getD (i := i) (l := l) RL.out hRb j)
      have RLEN : Hid ((residL C k b l (m.getD i [])).length = C) := Lib.hid (by simp [residL])
      obtain ⟨row, erow⟩ : ∃ row, residL C k b l (m.getD i []) = row := ⟨_, rfl⟩
      rw [erow] at RD RG RLEN
      have HB := Lib.hid hbel
      have HS := Lib.hid hbs
      have VR := Lib.hid hvr
      have RB := Lib.hid hRb
      have BB := Lib.hid hBI
      have LE := Lib.hid hlen
      have VB := Lib.hid hvb
      clear hbel hbs hvr hRb hBI hlen hvb q1 r1 erow H
      go_wp2_with fail
      refine RD.out.mono ?_
      rintro e w1 ⟨vrow, rfl, hrow, hrn, hb1⟩
      have ROW := Lib.hid hrow
      have RN := Lib.hid hrn
      have B1 := Lib.hid hb1
      clear hrow hrn hb1
      by_cases hz : ∀ j, j < C → resid k (el b) l (el m i) j = 0
      · have LF := Lib.hid (lead_f vrow row w1 ROW.out fun j hj => by rw [RG.out]; exact hz j (by rw [← RLEN.out]; exact hj))
        have SK := Lib.hid (BB.out.skip hz)
        clear hz
        go_wp2_with fail
        refine LF.out.mono ?_
        rintro e w' ⟨rfl, rfl⟩
        go_wp2_with fail
        go_roundw
        case rel =>
          refine ⟨i + 1, by omega, by go_num, Lib.hid ⟨bt' HB.out B1.out, Nat.le_trans HS.out B1.out.size, ?_, b, l, k, RB.out, SK.out.1, ?_, VB.out.below B1.out (Nat.le_refl _)⟩⟩
          · rw [indF_out C (el m) i SK.out.2]; exact VR.out.below B1.out (Nat.le_refl _)
          · rw [indF_out C (el m) i SK.out.2]; exact LE.out
        case measure => simp [intOf]; omega
      · obtain ⟨q, hq⟩ := leadOf C (resid k (el b) l (el m i)) (Classical.byContradiction fun hn => hz fun j hj => Classical.byContradiction fun hne => hn ⟨j, hj, hne⟩)
        have PU := Lib.hid (BB.out.push hq)
        obtain ⟨hq1, hq2, hq3⟩ := hq
        have hrq : row.getD q 0 ≠ 0 := by rw [RG.out]; exact hq2
        have LT := Lib.hid (lead_t vrow row q w1 ROW.out (by rw [RLEN.out]; exact hq1) hrq fun j hj => by rw [RG.out]; exact hq3 j hj)
        obtain ⟨bR, oR, cR, hvR, -, hcR⟩ := Bs.at_ ROW.out (by rw [RLEN.out]; exact hn0)
        subst hvR
        rw [RLEN.out] at hcR LT ⊢
        have pR := hcR q hq1
        have hxb := ROW.out.getD_lt q
        have IN := Lib.hid (rinv_nz (row.getD q 0) hxb hrq w1)
        have hil := inv_lt (row.getD q 0) hxb
        have hrow2 := ROW.out
        rw [RLEN.out] at hrow2
        have RF := Lib.hid (rfused_new (.slice (some ⟨w1.heap.size, 0, none⟩) C C) (.slice (some ⟨bR, oR, none⟩) C cR) (List.replicate C 0) row (Gf.inv (row.getD q 0)) (w1.alloc (.cells (madeCells #[.int .u8 0] C) 5)) (bs_zeros w1 C (by unfold maxLen; omega)) (hrow2.alloc _) (by rw [RLEN.out]; simp) hil (by simp; omega))
        have NF : Hid (fused (List.replicate C 0) row (Gf.inv (row.getD q 0)) = normF row q) := Lib.hid (by unfold normF; rw [RLEN.out])
        have RBY := Lib.hid ROW.out.lt
        have ST := Lib.hid (basis_el RB.out RLEN.out q _ RG.out)
        have SR := Lib.hid (basis_rect RB.out RLEN.out RBY.out q)
        have NL : Hid ((normF row q).length = C) := Lib.hid (by rw [normF_len, RLEN.out])
        have hqI : (q : Int) < (C : Int) := by omega
        obtain ⟨x, ex⟩ : ∃ x, row.getD q 0 = x := ⟨_, rfl⟩
        rw [ex] at pR IN hil
        obtain ⟨rf, erf⟩ : ∃ rf, fused (List.replicate C 0) row (Gf.inv (row.getD q 0)) = rf := ⟨_, rfl⟩
        have RF2 : Hid (Calls Try.prog 44 #[.slice (some ⟨w1.heap.size, 0, none⟩) C C, .slice (some ⟨bR, oR, none⟩) C cR, .int .u8 ((Gf.inv x : Nat) : Int)] (w1.alloc (.cells (madeCells #[.int .u8 0] C) 5)) (madeRow (normF row q) (w1.alloc (.cells (madeCells #[.int .u8 0] C) 5)))) := Lib.hid (by
          have h := RF.out
          rw [ex] at h
          refine h.mono ?_
          rintro e w' ⟨v, he, hb, hn, hw⟩
          have hb' : Bs w' v (normF row q) := by rw [← NF.out, ex]; exact hb
          exact ⟨v, he, hb', hn, hw⟩)
        clear hz hq2 hq3 hrq hcR hxb hrow2 ex erf RF NF rf
        go_wp2_with fail
        refine LT.out.mono ?_
        rintro e w' ⟨rfl, rfl⟩
        go_wp2_with fail
        refine IN.out.mono ?_
        rintro e w' ⟨rfl, rfl⟩
        go_wp2_with fail
        refine RF2.out.mono ?_
        rintro e w2 ⟨vn, rfl, hnb, hnn, hb2⟩
        have BN := Lib.hid (bt' ((Below.refl w1.heap.size w1).alloc (Nat.le_refl _) _) hb2)
        have hnn' : ∀ q, vn.ownBlock = some q → w1.heap.size ≤ q := fun q hq => by have := hnn q hq; simp at this; omega
        have NN := Lib.hid hnn'
        obtain ⟨An, cn, rfl⟩ := hnb.form
        rw [NL.out] at hnb NN ⊢
        have NB := Lib.hid hnb
        have B2 := Lib.hid (bt' B1.out BN.out)
        clear hnb hnn hnn' hb2 RF2 IN LT RD pR hil
        have VB2 := Lib.hid (VB.out.below B2.out (Nat.le_refl _))
        have OWN := Lib.hid VB.out.own
        have OWR := Lib.hid VR.out.own
        have ONEW : Hid (OffS Bs w2 (fun x => u4.ownBlock = some x ∨ u3.ownBlock = some x) (.slice An C cn) (normF row q)) := Lib.hid (NB.out.offS_of fun g hg hS => by
          have h1 := NN.out g hg
          have h2 := B1.out.size
          rcases hS with hS | hS
          · have := (OWN.out g hS).2.1; omega
          · have := (OWR.out g hS).2; omega)
        have VR2 := Lib.hid (VR.out.below B2.out (Nat.le_refl _))
        obtain ⟨A4, c4, h4⟩ := VB.out.ownL.sl.form
        rw [RB.out.len] at h4
        subst h4
        go_wp2_with fail
        go_loopw [10] (fun z wr => ∃ n : Nat, n ≤ k ∧ z = .int .i64 (n : Int) ∧ Hid (Below w.heap.size w wr ∧ wo.heap.size ≤ wr.heap.size ∧ OwnL Iv wr w.heap.size 3 u3 (natsI (indF C (el m) i)) ∧ OffS Bs wr (fun x => (Value.slice A4 k c4).ownBlock = some x ∨ u3.ownBlock = some x) (.slice An C cn) (normF row q) ∧
          ∃ X, Rect k C X ∧ OwnX Bs wr w.heap.size 31 (.slice A4 k c4) u3.ownBlock X ∧ ∀ j, j < k → X.getD j [] = if j < n then fused (b.getD j []) (normF row q) (el b j q) else b.getD j [])) (fun z _ => k - (intOf z).toNat)
        case atStart => exact ⟨0, Nat.zero_le _, rfl, Lib.hid ⟨HB.out.trans (B2.out.mono HB.out.size), B2.out.size, VR2.out, ONEW.out, b, RB.out, VB2.out, fun j _ => by rw [if_neg (Nat.not_lt_zero j)]⟩⟩
        case round =>
          obtain ⟨n, hn, rfl, H3⟩ := hrel
          by_cases hlt3 : n < k
          · have hnI : (n : Int) < (k : Int) := by omega
            obtain ⟨g1, g2, g3, g4, X, hRX, hX, hXe⟩ := H3.out
            rcases hX with ⟨hX, _⟩ | ⟨g, cap, hv4, hgb, hpg, hX⟩
            · exfalso
              injection hX with _ e _
              omega
            · rw [hRX.len] at hv4
              injection hv4 with e1 e2 e3
              subst e1 e3
              obtain ⟨u2, p1, ho2⟩ := hX.cell (k := n) (by rw [hRX.len]; exact hlt3)
              have e2 : X[n]'(by rw [hRX.len]; exact hlt3) = b.getD n [] := by rw [← getD_in (x := []), hXe n hlt3, if_neg (Nat.lt_irrefl n)]
              rw [e2] at ho2
              have hb2 := ho2.here
              obtain ⟨b2, o2, c2, rfl, -, hcell2⟩ := Bs.at_ hb2 (by rw [(RB.out.row n hlt3).1]; exact hn0)
              rw [(RB.out.row n hlt3).1] at p1 hcell2 hb2
              have p2 := hcell2 q hq1
              have hx2 : el b n q < 256 := RB.out.by n q
              have CB := Lib.hid (rfused_new _ _ (b.getD n []) (normF row q) (el b n q) wr.drew (hb2.keep fun _ _ => rfl) (g4.here.keep fun _ _ => rfl) (by rw [(RB.out.row n hlt3).1, NL.out]) hx2 (by rw [(RB.out.row n hlt3).1]; omega))
              have CB2 : Hid (Calls Try.prog 44 #[.slice (some ⟨b2, o2, none⟩) C c2, .slice An C cn, .int .u8 ((el b n q : Nat) : Int)] wr.drew (madeRow (fused (b.getD n []) (normF row q) (el b n q)) wr.drew)) := CB
              have FL : Hid ((fused (b.getD n []) (normF row q) (el b n q)).length = C) := Lib.hid (by rw [fused_len, (RB.out.row n hlt3).1])
              have FB := Lib.hid (fused_bytes _ (normF row q) _ (RB.out.row n hlt3).2 hx2)
              have hgl := hX.lt
              have fz : wr.frozen? ⟨g, n, none⟩ = false := hX.frozen n
              have GL := Lib.hid hgl
              have HXX := Lib.hid (And.intro hRX (And.intro hX hXe))
              have GG := Lib.hid (And.intro g1 (And.intro g2 (And.intro g3 g4)))
              have HP := Lib.hid (And.intro hgb hpg)
              obtain ⟨x, ex⟩ : ∃ x, el b n q = x := ⟨_, rfl⟩
              have p2' : wr.cell? ⟨b2, o2 + q, none⟩ = some (.int .u8 (x : Int)) := by rw [← ex]; exact p2
              rw [ex] at CB2 FL FB
              have EX := Lib.hid ex
              obtain ⟨fr, efr⟩ : ∃ fr, fused (b.getD n []) (normF row q) x = fr := ⟨_, rfl⟩
              rw [efr] at CB2 FL FB
              have EFR := Lib.hid efr
              clear hRX hX hXe ho2 e2 hb2 hcell2 p2 hx2 CB hgl g1 g2 g3 g4 hgb hpg ex efr
              go_wp2
              go_region_with (go_at_call 44; refine CB2.out.mono ?_; rintro e w4 ⟨nv, rfl, nb, nn, nw⟩; have y1 := (nw.cell (p := ⟨g, n, none⟩) GL.out).trans p1; have y2 := (nw.frozen (p := ⟨g, n, none⟩) GL.out).trans fz; have NB4 := Lib.hid nb; have NN4 := Lib.hid nn; have NW4 := Lib.hid nw; obtain ⟨A7, c7, rfl⟩ := nb.form; clear nb nn nw)
              all_goals
                go_wp2
                go_roundw
                case rel =>
                  obtain ⟨hRX, hX, hXe⟩ := HXX.out
                  obtain ⟨g1, g2, g3, g4⟩ := GG.out
                  obtain ⟨hgb, hpg⟩ := HP.out
                  have hO : wr.grownBy w4 (some g) := only_trans (only_drew g wr) (only_of_below NW4.out)
                  have hO2 := only_trans hO (only_set g n w4 (.slice A7 fr.length c7))
                  have hS : SameBut (fun x => (Value.slice (some ⟨g, 0, none⟩) k c4).ownBlock = some x ∨ u3.ownBlock = some x) wr (w4.setCell ⟨g, n, none⟩ (.slice A7 fr.length c7)) := ⟨hO2.size, fun p hp hn => World.cell?_of_block (hO2.block p.block hp fun e => hn (Or.inl e.symm))⟩
                  have hoff4 := NB4.out.offS_of (S := fun x => (Value.slice (some ⟨g, 0, none⟩) k c4).ownBlock = some x ∨ u3.ownBlock = some x) fun y hy hS => by
                    have h1 := NN4.out y hy
                    have h3 : wr.drew.heap.size = wr.heap.size := rfl
                    rcases hS with hS | hS
                    · injection hS with hS
                      have hS : g = y := hS
                      have := GL.out; omega
                    · have := (g3.own y hS).2; omega
                  refine ⟨n + 1, by omega, by go_num, Lib.hid ⟨(((g1.drew).trans (NW4.out.mono g1.size))).setCell hgb _, Nat.le_trans g2 hO2.size, g3.plain1 (fun _ _ _ _ h => h) fun y hy => hO2.block y (g3.own y hy).2 fun e => hpg (by rw [← e]; exact hy), g4.go hS, X.set n fr, hRX.set n FL.out FB.out, Or.inr ⟨g, c4, by rw [List.length_set, hRX.len], hgb, hpg, ((hX.drew).below NW4.out (Nat.le_refl _)).store (Or.inl rfl) n hoff4⟩, fun j hj => ?_⟩⟩
                  rw [getD_set]
                  by_cases e : n = j
                  · subst e; rw [if_pos ⟨rfl, by rw [hRX.len]; exact hlt3⟩, if_pos (by omega), EX.out, EFR.out]
                  · rw [if_neg fun hh => e hh.1, hXe j hj]; (repeat' split) <;> first | rfl | omega
                case measure => simp [intOf]; omega
          · have en : n = k := by omega
            obtain ⟨g1, g2, g3, g4, X, hRX, hX, hXe⟩ := H3.out
            have hXB : X = b.map fun r => fused r (normF row q) (r.getD q 0) := by
              refine list_ext [] (by rw [hRX.len, List.length_map, RB.out.len]) fun j hj => ?_
              rw [hRX.len] at hj
              rw [hXe j hj, if_pos (by omega), getD_in (l := List.map _ _) (by rw [List.length_map, RB.out.len]; exact hj)]
              simp only [List.getElem_map]
              unfold el
              rw [getD_in (l := b) (by rw [RB.out.len]; exact hj)]
            have LK : Hid (X.length = k) := Lib.hid hRX.len
            have XB := Lib.hid hXB
            have hr3 := g3.own
            have PX : Hid (OwnX Bs (wr.alloc (.cells #[.slice An C cn] 31)) w.heap.size 31 (.slice A4 k c4) u3.ownBlock X ∧ (wr.alloc (.cells #[.slice An C cn] 31)).cell? ⟨wr.heap.size, 0, none⟩ = some (.slice An C cn) ∧ OffS Bs (wr.alloc (.cells #[.slice An C cn] 31)) (fun x => (Value.slice A4 k c4).ownBlock = some x ∨ u3.ownBlock = some x) (.slice An C cn) (normF row q) ∧ (∀ x, u3.ownBlock = some x → x < (wr.alloc (.cells #[.slice An C cn] 31)).heap.size)) :=
              Lib.hid ⟨hX.alloc _, cell_new wr _ _ _ rfl, g4.go ⟨by simp, fun p hp _ => World.cell?_alloc_lt wr _ p hp⟩, fun x hx => by have := (hr3 x hx).2; simp; omega⟩
            have L : Hid (k + 1 ≤ maxLen ∧ (k + 1) * 24 ≤ 140737488355328 ∧ (k + 1) * 8 ≤ 140737488355328) := Lib.hid ⟨by unfold maxLen; omega, by omega, by omega⟩
            have hS1 : w.heap.size ≤ wr.heap.size := g1.size
            have HS1 := Lib.hid hS1
            have G := Lib.hid (And.intro g1 g3)
            have XOWN := Lib.hid hX.own
            have LI : Hid ((natsI (indF C (el m) i)).length = k) := Lib.hid (by rw [natsI_len, LE.out])
            obtain ⟨A3, c3, h3⟩ := g3.sl.form
            rw [LI.out] at h3
            subst h3
            clear g1 g2 g3 g4 hRX hX hXe hXB hr3 hS1
            go_wp2_with (first
              | (at_builtin; refine wpList_pushX rfl (.tmp 63) (.tmp 65) 22 rfl w.heap.size 31 i1 (.slice none 0 0) 24 Try.underlying22 I1.out.1 I1.out.2.1 I1.out.2.2.1 I1.out.2.2.2 rfl (.slice A4 k c4) (Value.slice A3 k c3).ownBlock X rfl PX.out.1 PX.out.2.2.2 k LK.out wr.heap.size (.slice An C cn) (normF row q) rfl PX.out.2.1 rfl PX.out.2.2.1 L.out.1 L.out.2.1 (by simp; have := HS1.out; omega) ?_
                 intro g7 cap7 w7 hown7 hgrow7 hat7
                 have O7 := Lib.hid hown7; have G7 := Lib.hid hgrow7; have A7 := Lib.hid hat7
                 have R7 : Hid (OwnL Iv w7 w.heap.size 3 (.slice A3 k c3) (natsI (indF C (el m) i))) := Lib.hid ((G.out.2.alloc (.cells #[.slice An C cn] 31)).plain1 (fun _ _ _ _ h => h) fun y hy => hgrow7.block y (by have := (G.out.2.own y hy).2; simp; omega) fun e => (XOWN.out y e.symm).2.2 hy)
                 have S7 := Lib.hid (show wr.heap.size ≤ w7.heap.size by have := hgrow7.size; simp at this; omega)
                 have F := Lib.hid (push_plain R7.out (Below.refl w7.heap.size w7) (fun _ => (rfl : Iv _ (.int .i64 (i : Int)) (i : Int))) 3 w7.heap.size rfl)
                 clear hown7 hgrow7 hat7)
              | (at_builtin; refine wpList_push_at rfl (.tmp 67) (.tmp 69) 45 rfl w.heap.size 3 i0 (.int .i64 0) 8 Try.underlying45 I0.out.1 I0.out.2.1 I0.out.2.2.1 I0.out.2.2.2 rfl Iv.keeps (.slice A3 k c3) _ rfl F.out.1 k LI.out w7.heap.size (.int .i64 (i : Int)) (i : Int) rfl F.out.2.1 rfl F.out.2.2.1 F.out.2.2.2 L.out.1 L.out.2.2 (by simp; have := HS1.out; have := S7.out; omega) ?_; intro g8 cap8 w8 hown8 hgrow8 hat8))
            have O8 := Lib.hid hown8
            have G8 := Lib.hid hgrow8
            have A8 := Lib.hid hat8
            clear hown8 hgrow8 hat8
            go_wp2
            go_roundw
            case rel =>
              have hs1 := HS1.out
              have hs7 := S7.out
              have hnot := PU.out.2
              have hi1 : indF C (el m) (i + 1) = indF C (el m) i ++ [i] := indF_in C (el m) i hnot
              refine ⟨i + 1, by omega, by go_num, Lib.hid ⟨?_, ?_, ?_, basisF b row q, (fun i => if i = k then q else l i), k + 1, SR.out, ?_, ?_, ?_⟩⟩
              · have b7 := (G.out.1.alloc hs1 (.cells #[.slice An C cn] 31)).grown G7.out (by simp; omega) fun y hy => (XOWN.out y hy).1
                exact (b7.alloc (by omega) (.cells #[.int .i64 (i : Int)] 3)).grown G8.out (by simp; omega) fun y hy => (R7.out.own y hy).1
              · have := G8.out.size; simp at this; omega
              · rw [hi1]
                have e : natsI (indF C (el m) i ++ [i]) = natsI (indF C (el m) i) ++ [(i : Int)] := by simp [natsI]
                rw [e]; exact O8.out
              · rw [ST.out]; exact PU.out.1
              · rw [hi1, List.length_append, LE.out]; rfl
              · have h7 := O7.out
                rw [XB.out] at h7
                exact (h7.alloc (.cells #[.int .i64 (i : Int)] 3)).other G8.out A8.out
            case measure => simp [intOf]; omega
    · go_wp2
      go_ret
      obtain ⟨hbel, hbs, hvr, b, l, k, hRb, hBI, hlen, hvb⟩ := H.out
      obtain rfl : i = R := by omega
      exact ⟨_, rfl, hvr.sl, hbel⟩
end Go.Proofs.Ytiibdoibcbokcaa
