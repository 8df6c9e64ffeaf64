/- What the laws over groups and losses share; the walk of DecodeRestores. WRITTEN BY gen_Ve.py. -/
import Derived.Test.YtheijobnmdbodaaDo
import Derived.Test.YtheijobnmdbodaaGJ
import Derived.Test.YtheijobnmdbodaaOpq
namespace Go.Proofs.Ytheijobnmdbodaa
open Go Go.RowKit Lin
set_option linter.unusedVariables false
set_option linter.unusedSimpArgs false

theorem At8.left {w : World} {b o : Nat} {l1 l2 : List Nat} (h : At8 w b o (l1 ++ l2)) : At8 w b o l1 := fun j v hv => h j v (by
  rw [List.map_append, List.getElem?_append_left (List.getElem?_eq_some_iff.1 hv).1]; exact hv)
theorem At8.right {w : World} {b o : Nat} {l1 l2 : List Nat} (h : At8 w b o (l1 ++ l2)) : At8 w b (o + l1.length) l2 := fun j v hv => by
  rw [Nat.add_assoc]
  refine h (l1.length + j) v ?_
  rw [List.map_append, List.getElem?_append_right (by simp), List.length_map, Nat.add_sub_cancel_left]; exact hv
theorem lost_which {w : World} {b : Nat} {K : List Nat} {C : List (List Nat)} (h : At8 w b 0 (lostL K C)) : At8 w b 0 K := h.left
theorem lost_at {w : World} {b : Nat} {K : List Nat} {C : List (List Nat)} (h : At8 w b 0 (lostL K C)) (hK : K.length = 3) (hC : ∀ d ∈ C, B8 d) {i : Nat} (hi : i < C.length) : At8 w b (3 + i * 8) (C.getD i []) := by
  have h2 := h.right
  rw [hK, Nat.zero_add] at h2
  rw [getD_in hi]
  exact range_at8 h2 hC hi
theorem lost_size {K : List Nat} {C : List (List Nat)} (hK : K.length = 3) (hC : ∀ d ∈ C, B8 d) (hl : C.length = 3) : (lostL K C).length = 27 := by
  unfold lostL; rw [List.length_append, flat_len (fun d hd => (hC d hd).1), hK, hl]
theorem lgroup_N (D : List (List Nat)) (a m N : Nat) (w : World) (h : D.length = 13) (hD : ∀ d ∈ D, B8 d) (ha : a < 256) (hm : m = 1 + a % 13) (hN : N = m + 3) : Calls Try.prog 17 #[.agg (bcs D.flatten), .int .u8 (a : Int)] w (lgPost (grpG D m) N w) := by
  subst hN; exact lgroup_any D a m w h hD ha hm
theorem size13 {D : List (List Nat)} (h : D.length = 13) (hD : ∀ d ∈ D, B8 d) : (Try.prog.info? 38).map (·.size) = some (bcs D.flatten).size := by
  rw [bcs_size, flat_len (fun d hd => (hD d hd).1), h]; kernel_rfl
theorem size3 {K : List Nat} (h : K.length = 3) : (Try.prog.info? 39).map (·.size) = some (bcs K).size := by rw [bcs_size, h]; kernel_rfl
/-- A consistent group of which marked pieces are replaced by anything is restored. -/
theorem restore_mk {D : List (List Nat)} (hD : ∀ d ∈ D, B8 d) (h13 : D.length = 13) {m : Nat} (hm : m ≤ 13) {K : List Nat} {X : List (List Nat)} (hX : X.length = m + 3) (h : ∀ j, j < m + 3 → mkF (m + 3) K 3 j = false → X.getD j [] = (grpG D m).getD j []) : decL X (mkL (m + 3) K) = grpG D m := by
  have tl : (D.take m).length = m := by rw [List.length_take]; omega
  refine restore (D := D.take m) (fun d hd => hD d (List.mem_of_mem_take hd)) (by omega) (by rw [tl]; exact hX) (by rw [tl]; exact cntL_mk _ _) fun i hi hb => ?_
  rw [mkL_at (by omega)] at hb
  exact h i (by omega) hb

set_option maxHeartbeats 4000000 in
set_option maxRecDepth 100000 in
theorem restoreslaw (D : List (List Nat)) (a : Nat) (K : List Nat) (C : List (List Nat)) (w : World) (h : D.length = 13) (hD : ∀ d ∈ D, B8 d) (ha : a < 256) (hK : K.length = 3) (hKb : ∀ x ∈ K, x < 256) (hC : C.length = 3) (hC8 : ∀ d ∈ C, B8 d) : Calls Try.prog 7 #[.agg (bcs D.flatten), .int .u8 (a : Int), .agg (bcs (lostL K C))] w (lawPost w) := by
  obtain ⟨m, hm⟩ : ∃ m, m = 1 + a % 13 := ⟨_, rfl⟩
  obtain ⟨N, hN⟩ : ∃ N, N = m + 3 := ⟨_, rfl⟩
  have hm1 : 1 ≤ m := by omega
  have hm13 : m ≤ 13 := by omega
  have LG := Lib.hid fun w => lgroup_N D a m N w h hD ha hm hN
  have R0 := Lib.hid (row_new w (bcs D.flatten) 38)
  have S13 := Lib.hid (size13 h hD)
  have GL : Hid ((grpG D m).length = N) := Lib.hid (by rw [grpG_len (by omega), hN])
  have G8 := Lib.hid (grpG_ok hD m)
  have NM := Lib.hid hN
  have CG : Hid (chk (grpG D m) = true) := Lib.hid (chk_group (by rw [List.length_take]; omega) (by rw [List.length_take]; omega))
  have hN4 : 4 ≤ N := by omega
  have hN16 : N ≤ 16 := by omega
  have HNI : (N : Int) ≤ 16 := by omega
  have RM : Hid (∀ X : List (List Nat), X.length = N → (∀ j, j < N → mkF N K 3 j = false → X.getD j [] = (grpG D m).getD j []) → decL X (mkL N K) = grpG D m) := Lib.hid fun X hX hh => by subst hN; exact restore_mk hD h hm13 hX hh
  have MA := Lib.hid fun w => marks_any N K w hN4 hN16 hK hKb
  have LA := Lib.hid fun w b (hh : At8 w b 0 (lostL K C)) => lost_which hh
  have LC := Lib.hid fun w b (hh : At8 w b 0 (lostL K C)) i (hi : i < C.length) => lost_at hh hK hC8 hi
  have S3 := Lib.hid (size3 hK)
  have CL := Lib.hid hC
  have C8 := Lib.hid hC8
  have CT : Hid (cntL (mkL N K) N ≤ 3) := Lib.hid (cntL_mk N K)
  obtain ⟨G, hG⟩ : ∃ G, grpG D m = G := ⟨_, rfl⟩
  rw [hG] at LG GL G8 CG RM
  have L1 : Hid (([] : List (List Nat)).length + G.length ≤ 1000) := Lib.hid (by rw [GL.out]; simp; omega)
  clear h hD hK hKb hC hC8 hm hN hG
  obtain ⟨c0, hc0⟩ : ∃ c, bcs D.flatten = c := ⟨_, rfl⟩
  obtain ⟨c1, hc1⟩ : ∃ c, bcs (lostL K C) = c := ⟨_, rfl⟩
  have C0 := Lib.hid hc0
  have C1 := Lib.hid hc1
  rw [hc0] at R0 S13 LG ⊢
  rw [hc1]
  clear hc0 hc1
  go_enter Try.func7, Try.ntmps7
  go_wp2_with fail
  obtain ⟨W0, hW0⟩ : ∃ W0, (w.alloc (.cells c0 38)).alloc (.cells c1 51) = W0 := ⟨_, rfl⟩
  have HB0 : Hid (Below w.heap.size w W0) := Lib.hid (by rw [← hW0]; exact ((Below.refl w.heap.size w).alloc (Nat.le_refl _) _).alloc (by simp) _)
  have HX0 : Hid (Row W0 w.heap.size 38 c0) := Lib.hid (by rw [← hW0]; exact R0.out.alloc _)
  have HY0 : Hid (Row W0 (w.heap.size + 1) 51 (bcs (lostL K C))) := Lib.hid (by rw [← hW0, C1.out]; exact row_at (by simp) _ _)
  rw [hW0]
  clear hW0 R0
  refine (dawake_any _).mono ?_
  rintro e x2 ⟨rfl, hb1⟩
  have hq3 : Below W0.heap.size W0 x2 := hb1
  have X_4 := Lib.hid (Row.to HX0.out hq3)
  have L_5 := Lib.hid (Row.to HY0.out hq3)
  have HB_6 : Hid (Below w.heap.size w x2) := Lib.hid (HB0.out.trans (hq3.mono HB0.out.size))
  clear hq3
  clear hb1
  go_wp2_with (refine wpList_load_row rfl _ _ rfl _ rfl _ _ (0, 0) _ X_4.out Try.underlying38 rfl S13.out ?_)
  refine (LG.out _).mono ?_
  rintro e x8 ⟨gg, cg, rfl, hn9, hgg, hb7⟩
  have hq10 : Below x2.heap.size x2 x8 := hb7
  have L_11 := Lib.hid (Row.to L_5.out hq10)
  have HB_12 : Hid (Below w.heap.size w x8) := Lib.hid (HB_6.out.trans (hq10.mono HB_6.out.size))
  clear hq10
  have G_13 := Lib.hid hn9
  clear hb7 hn9
  clear hgg
  have AT := Lib.hid (LA.out _ _ (Row.at8 L_11.out))
  go_wp2_with (refine wpList_load8 rfl _ _ rfl _ _ rfl K _ AT.out Try.underlying39 rfl S3.out ?_)
  clear AT
  refine (MA.out _).mono ?_
  rintro e x15 ⟨rfl, hn16, hb14⟩
  have hq17 : Below x8.heap.size x8 x15 := hb14
  have L_18 := Lib.hid (Row.to L_11.out hq17)
  have G_19 := Lib.hid (OwnB.to G_13.out hq17)
  have HB_20 : Hid (Below w.heap.size w x15) := Lib.hid (HB_12.out.trans (hq17.mono HB_12.out.size))
  clear hq17
  have M_21 := Lib.hid hn16
  clear hb14 hn16
  have MB := Lib.hid (bos_of_row M_21.out (by unfold maxLen; omega))
  obtain ⟨gm, hgm⟩ : ∃ gm, x8.heap.size + 1 = gm := ⟨_, rfl⟩
  rw [hgm] at MB ⊢
  rw [show (List.range N).map (mkF N K 3) = mkL N K from rfl] at MB
  clear hgm M_21
  have GB := Lib.hid G_19.out.bl
  go_wp2_with (at_builtin; refine wpList_append_bl rfl (.tmp 23) (.tmp 24) rfl x15.heap.size (.slice (some ⟨x15.heap.size, 0, none⟩) 0 0) (.slice (some ⟨gg, 0, none⟩) N cg) [] G rfl (OwnB.new (Nat.le_refl _)) rfl (GB.out.alloc _) L1.out (by simp) ?_; intro v22 x23 ho hg; have HO24 := Lib.hid ho; have HG25 := Lib.hid hg; clear ho hg)
  have hq26 : Below x15.heap.size x15 x23 := ((Below.refl x15.heap.size x15).alloc (Nat.le_refl _) _).grown HG25.out (by simp) (fun k e => by cases e; exact Nat.le_refl _)
  have L_27 := Lib.hid (Row.to L_18.out hq26)
  have Y_28 := Lib.hid (Bos.to MB.out hq26)
  have G_29 := Lib.hid (Bl.to GB.out hq26)
  have HB_30 : Hid (Below w.heap.size w x23) := Lib.hid (HB_20.out.trans (hq26.mono HB_20.out.size))
  clear hq26
  obtain ⟨gp, cp, ep, hgp, -⟩ := HO24.out.form (by rw [List.nil_append, GL.out]; omega)
  rw [List.nil_append, GL.out] at ep
  subst ep
  have OP := HO24.out
  rw [List.nil_append] at OP
  have OPH := Lib.hid OP
  clear OP
  have LB : Hid (Below x15.heap.size x15 x23) := Lib.hid (((Below.refl x15.heap.size x15).alloc (Nat.le_refl _) _).grown HG25.out (by simp) (fun k e => by cases e; exact Nat.le_refl _))
  have HGP := Lib.hid hgp
  have MKA := Lib.hid fun j (hj : j < N) => mkL_at (K := K) hj
  have MKL := Lib.hid (mkL_len N K)
  obtain ⟨bad, hbad⟩ : ∃ l, mkL N K = l := ⟨_, rfl⟩
  obtain ⟨f, hf⟩ : ∃ f, mkF N K 3 = f := ⟨_, rfl⟩
  have YY := MB.out
  rw [hbad] at YY MKA MKL RM CT
  rw [hf] at MKA RM
  have YYH := Lib.hid YY
  clear YY hbad hf hgp
  go_wp2_with fail
  go_loopw [10] (fun q wr => ∃ i : Nat, i ≤ N ∧ q = .int .i64 (i : Int) ∧ Hid (Below x15.heap.size x15 wr ∧ ∃ X, X.length = N ∧ OwnB wr x15.heap.size (.slice (some ⟨gp, 0, none⟩) N cp) X ∧ ∀ j, j < N → X.getD j [] = if j < i ∧ f j = true then C.getD (j % 3) [] else G.getD j [])) (fun q _ => N - (intOf q).toNat)
  case atStart => exact ⟨0, Nat.zero_le _, rfl, Lib.hid ⟨LB.out, G, GL.out, OPH.out, fun j _ => by rw [if_neg fun h => Nat.not_lt_zero _ h.1]⟩⟩
  case round =>
    obtain ⟨i, hi, rfl, H⟩ := hrel
    by_cases hlt : i < N
    · have hiI : (i : Int) < (N : Int) := by omega
      obtain ⟨hbel, X, hX, hO, hE⟩ := H.out
      have hOX : i < X.length := by omega
      obtain ⟨b6, o6, c6, hv, -, hc6⟩ := Bos.at_ (Bos.to YYH.out hbel) (by rw [MKL.out]; omega)
      rw [MKL.out] at hv hc6
      injection hv with e1 e2 e3
      injection e1 with e1
      injection e1 with e1 e4
      subst e1 e4
      have p1 := hc6 i hlt
      rw [MKA.out i hlt, Nat.zero_add] at p1
      clear hc6 e2 e3
      rcases hfi : f i with _ | _
      · rw [hfi] at p1
        have FI := Lib.hid hfi
        have NX := Lib.hid (And.intro hbel (And.intro hX (And.intro hO hE)))
        clear hfi hbel hX hO hE H
        go_wp2
        go_roundw
        case rel =>
          obtain ⟨hbel, hX, hO, hE⟩ := NX.out
          refine ⟨i + 1, by omega, by go_num, Lib.hid ⟨hbel, X, hX, hO, fun j hj => ?_⟩⟩
          rw [hE j hj]
          by_cases e : j = i
          · rw [if_neg (fun h => by omega), if_neg (fun h => by rw [e, FI.out] at h; exact absurd h.2 (by decide))]
          · by_cases e2 : j < i ∧ f j = true
            · rw [if_pos e2, if_pos ⟨by omega, e2.2⟩]
            · rw [if_neg e2, if_neg fun h => e2 ⟨by omega, h.2⟩]
        case measure => simp [intOf]; omega
      · rw [hfi] at p1
        obtain ⟨r, hr⟩ : ∃ r, i % 3 = r := ⟨_, rfl⟩
        have hr3 : r < 3 := by omega
        have er : (i : Int) % 3 = (r : Int) := by omega
        have hrI : (r : Int) < 3 := by omega
        have hrI0 : (0 : Int) ≤ (r : Int) := by omega
        have dd := LC.out _ _ (Row.at8 (Row.to L_18.out hbel)) r (by rw [CL.out]; exact hr3)
        have d8 : B8 (C.getD r []) := by rw [getD_in (by rw [CL.out]; exact hr3)]; exact C8.out _ (List.getElem_mem _)
        have RR := Lib.hid hr
        obtain ⟨d, ed⟩ : ∃ d, C.getD r [] = d := ⟨_, rfl⟩
        rw [ed] at dd d8
        have ED := Lib.hid ed
        have FI := Lib.hid hfi
        have DD := Lib.hid dd
        have TH := Lib.hid (show wr.there gp (i * 8) (bcs d).size by rw [bcs_size, d8.1]; exact hO.there hOX)
        have SI := Lib.hid (size8 d8.1)
        have NW := Lib.hid (hO.set hOX d8)
        have NB := Lib.hid (below_setCells hbel (d.map bv) gp (i * 8) HGP.out)
        have NX := Lib.hid (And.intro hX hE)
        clear hfi hr ed dd hbel hX hO hE H
        go_wp2_with (first | (refine wpList_load8 rfl _ _ rfl _ _ rfl d _ DD.out Try.underlying33 rfl SI.out ?_) | (refine wpList_store8 rfl _ _ _ rfl gp (i * 8) _ rfl rfl TH.out SI.out ?_))
        go_roundw
        case rel =>
          obtain ⟨hX, hE⟩ := NX.out
          refine ⟨i + 1, by omega, by go_num, Lib.hid ⟨NB.out, X.set i d, by simp [hX], NW.out, fun j hj => ?_⟩⟩
          rw [getD_set]
          by_cases e : i = j
          · subst e; rw [if_pos ⟨rfl, hOX⟩, if_pos ⟨by omega, FI.out⟩, RR.out, ED.out]
          · rw [if_neg fun hh => e hh.1, hE j hj]
            by_cases e2 : j < i ∧ f j = true
            · rw [if_pos e2, if_pos ⟨by omega, e2.2⟩]
            · rw [if_neg e2, if_neg fun h => e2 ⟨by omega, h.2⟩]
        case measure => simp [intOf]; omega
    · obtain rfl : N = i := by omega
      obtain ⟨hbel, X, hX, hO, hE⟩ := H.out
      have RX := RM.out X hX fun j hj hf => by rw [hE j hj, if_neg fun h => by rw [hf] at h; exact absurd h.2 (by decide)]
      have DC := fun w v vb (h : Bl w v X) (hb : Bos w vb bad) => dec_ok v vb X bad w h hb ⟨by omega, by omega, by rw [MKL.out, hX], by rw [hX]; exact CT.out⟩
      rw [RX, hX] at DC
      have DCC := Lib.hid DC
      have QX := Lib.hid hO.bl
      have QY := Lib.hid (Bos.to YYH.out hbel)
      have QG := Lib.hid (Bl.to GB.out hbel)
      have QB : Hid (Below w.heap.size w wr) := Lib.hid (HB_20.out.trans (hbel.mono HB_20.out.size))
      clear hbel hX hO hE H RX DC
      go_wp2_with fail
      refine (DCC.out _ _ _ QX.out QY.out).mono ?_
      rintro e kx2 ⟨gl, cl, rfl, khn3, khb1⟩
      have khq4 : Below wr.heap.size wr kx2 := khb1
      have kX_5 := Lib.hid (Bl.to QX.out khq4)
      have kY_6 := Lib.hid (Bos.to QY.out khq4)
      have kG_7 := Lib.hid (Bl.to QG.out khq4)
      have kHB_8 : Hid (Below w.heap.size w kx2) := Lib.hid (QB.out.trans (khq4.mono QB.out.size))
      clear khq4
      have kR_9 := Lib.hid khn3
      clear khb1 khn3
      go_wp2_with fail
      refine (same_b _ _ G G true _ kR_9.out kG_7.out (by simp)).mono ?_
      rintro e kx11 ⟨rfl, khb10⟩
      have khq12 : Below kx2.heap.size kx2 kx11 := khb10
      have kX_13 := Lib.hid (Bl.to kX_5.out khq12)
      have kY_14 := Lib.hid (Bos.to kY_6.out khq12)
      have kG_15 := Lib.hid (Bl.to kG_7.out khq12)
      have kR_16 := Lib.hid (Bl.to kR_9.out khq12)
      have kHB_17 : Hid (Below w.heap.size w kx11) := Lib.hid (kHB_8.out.trans (khq12.mono kHB_8.out.size))
      clear khq12
      clear khb10
      go_wp2_with fail
      go_ret
      exact ⟨by first | rfl | simp, kHB_17.out⟩
end Go.Proofs.Ytheijobnmdbodaa
