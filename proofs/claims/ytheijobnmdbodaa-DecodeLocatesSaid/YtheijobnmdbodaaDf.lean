/- Contract: decode's Decode. WRITTEN BY gen_Df.py. -/
import Derived.Test.YtheijobnmdbodaaDd
namespace Go.Proofs.Ytheijobnmdbodaa
open Go Go.RowKit Lin
set_option linter.unusedVariables false
set_option linter.unusedSimpArgs false

/-- The prefix of the good ones. -/
theorem goodL_pre (bad : List Bool) (i : Nat) : ∀ d, (goodL bad (i + d)).take (goodL bad i).length = goodL bad i := by
  intro d
  induction d with
  | zero => exact List.take_length
  | succ d ih =>
    show (goodL bad (i + d + 1)).take _ = _
    rw [goodL_succ]
    split
    · exact ih
    · have : (goodL bad i).length ≤ (goodL bad (i + d)).length := by
        have := congrArg List.length ih
        rw [List.length_take] at this
        omega
      rw [List.take_append_of_le_length this, ih]
theorem from_len {bad : List Bool} {n : Nat} : (fromL bad n).length = min n (n + 3 - cntL bad (n + 3)) := by
  have := cnt_good bad (n + 3)
  unfold fromL
  rw [List.length_take]
  omega
/-- A slice of blocks, its first ones. -/
theorem Bl.head {w : World} {b off N c : Nat} {P : List (List Nat)} (h : Bl w (.slice (some ⟨b, off, none⟩) N c) P) {n : Nat} (hn : n ≤ N) : Bl w (.slice (some ⟨b, off, none⟩) n c) (P.take n) := by
  obtain ⟨A, c', hv, hm, hl, hz, hc⟩ := h
  injection hv with e1 e2 e3
  subst e1 e2 e3
  have tl : (P.take n).length = n := by rw [List.length_take]; omega
  refine ⟨_, c, by rw [tl], ⟨by omega, hm.2⟩, fun d hd => hl d (List.mem_of_mem_take hd), fun e => (by cases e), fun h0 => ?_⟩
  obtain ⟨b', o', he, hr⟩ := hc (by omega)
  cases he
  refine ⟨b, off, rfl, fun j u hu => hr j u ?_⟩
  obtain ⟨t, ht⟩ : ∃ t, P.flatten = (P.take n).flatten ++ t := ⟨(P.drop n).flatten, by rw [← List.flatten_append, List.take_append_drop]⟩
  rw [ht, List.map_append, List.getElem?_append_left (List.getElem?_eq_some_iff.1 hu).1]; exact hu
theorem own_zeros (w : World) (n : Nat) (hn : n ≤ 1000) : OwnB (w.alloc (.cells (bcs (List.replicate (n * 8) 0)) 33)) w.heap.size (.slice (some ⟨w.heap.size, 0, none⟩) n n) (List.replicate n zeroB.1) := by
  refine ⟨fun d hd => by rw [List.eq_of_mem_replicate hd]; exact zeroB.2, ?_⟩
  have hz : (List.replicate n zeroB.1).flatten = List.replicate (n * 8) 0 := by
    have : zeroB.1 = List.replicate 8 0 := by decide
    rw [this, List.flatten_replicate_replicate]
  rw [List.length_replicate, hz]
  exact ⟨by simp, Or.inr ⟨w.heap.size, n, _, rfl, Nat.le_refl _, heap_alloc_new w _, Nat.le_refl _, by unfold maxLen; omega, by rw [bcs_size]; simp, by rw [bcs_list]; exact List.take_of_length_le (by simp)⟩⟩
theorem _root_.Go.Proofs.Ytheijobnmdbodaa.Sl.to2 {w w' : World} {v : Value} {m : List (List Nat)} (h : Ms w v m) (hb : Below w.heap.size w w') : Ms w' v m := Msto h hb
def decErr (c : Int) (w : World) (e : Ending) (w' : World) : Prop := e = .returned (.tuple #[.slice none 0 0, .int .i64 c]) ∧ Below w.heap.size w w'

set_option maxHeartbeats 4000000 in
set_option maxRecDepth 100000 in
theorem dec_width (v vb : Value) (P : List (List Nat)) (bad : List Bool) (w : World) (h : Bl w v P) (hb : Bos w vb bad) (hs : P.length < 4 ∨ 16 < P.length) : Calls Try.prog 20 #[v, vb] w (decErr 1 w) := by
  have HP := Lib.hid h
  have HBd := Lib.hid hb
  have hm : P.length ≤ maxLen := by obtain ⟨_, _, _, hm, _⟩ := h; omega
  have hm2 := hb.len
  obtain ⟨A, c, rfl⟩ := h.form
  obtain ⟨A2, c2, rfl⟩ := hb.form
  obtain ⟨N, hN⟩ : ∃ N, P.length = N := ⟨_, rfl⟩
  obtain ⟨L, hL⟩ : ∃ L, bad.length = L := ⟨_, rfl⟩
  have NN := Lib.hid hN
  have LL := Lib.hid hL
  rw [hN] at hm HP hs ⊢
  rw [hL] at hm2 HBd ⊢
  have hmI : (N : Int) ≤ 9223372036854775807 := by unfold maxLen at hm; omega
  have hmI2 : (L : Int) ≤ 9223372036854775807 := by unfold maxLen at hm2; omega
  clear h hb hN hL hm hm2
  have W := Lib.hid (width_f (N : Int) w (by omega))
  clear hs
  go_enter Try.func20, Try.ntmps20
  go_wp2_with fail
  refine W.out.mono ?_
  rintro e w' ⟨rfl, rfl⟩
  go_wp2_with fail
  go_ret2
  exact ⟨rfl, Below.refl _ _⟩
set_option maxHeartbeats 4000000 in
set_option maxRecDepth 100000 in
theorem dec_len (v vb : Value) (P : List (List Nat)) (bad : List Bool) (w : World) (h : Bl w v P) (hb : Bos w vb bad) (hs : 4 ≤ P.length ∧ P.length ≤ 16 ∧ bad.length ≠ P.length) : Calls Try.prog 20 #[v, vb] w (decErr 1 w) := by
  have HP := Lib.hid h
  have HBd := Lib.hid hb
  have hm : P.length ≤ maxLen := by obtain ⟨_, _, _, hm, _⟩ := h; omega
  have hm2 := hb.len
  obtain ⟨A, c, rfl⟩ := h.form
  obtain ⟨A2, c2, rfl⟩ := hb.form
  obtain ⟨N, hN⟩ : ∃ N, P.length = N := ⟨_, rfl⟩
  obtain ⟨L, hL⟩ : ∃ L, bad.length = L := ⟨_, rfl⟩
  have NN := Lib.hid hN
  have LL := Lib.hid hL
  rw [hN] at hm HP hs ⊢
  rw [hL] at hm2 HBd hs ⊢
  have hmI : (N : Int) ≤ 9223372036854775807 := by unfold maxLen at hm; omega
  have hmI2 : (L : Int) ≤ 9223372036854775807 := by unfold maxLen at hm2; omega
  clear h hb hN hL hm hm2
  have W := Lib.hid (width_t (N : Int) w (by omega) (by omega))
  have g0 : ((L : Int) != (N : Int)) = true := by simp; omega
  clear hs
  go_enter Try.func20, Try.ntmps20
  go_wp2_with fail
  refine W.out.mono ?_
  rintro e w' ⟨rfl, rfl⟩
  go_wp2_with fail
  go_ret2
  exact ⟨rfl, Below.refl _ _⟩
set_option maxHeartbeats 4000000 in
set_option maxRecDepth 100000 in
theorem dec_lost (v vb : Value) (P : List (List Nat)) (bad : List Bool) (w : World) (h : Bl w v P) (hb : Bos w vb bad) (hs : 4 ≤ P.length ∧ P.length ≤ 16 ∧ bad.length = P.length ∧ 3 < cntL bad P.length) : Calls Try.prog 20 #[v, vb] w (decErr 12 w) := by
  have hs0 := hs
  have HP := Lib.hid h
  have HBd := Lib.hid hb
  have hm : P.length ≤ maxLen := by obtain ⟨_, _, _, hm, _⟩ := h; omega
  have hm2 := hb.len
  obtain ⟨A, c, rfl⟩ := h.form
  obtain ⟨A2, c2, rfl⟩ := hb.form
  obtain ⟨N, hN⟩ : ∃ N, P.length = N := ⟨_, rfl⟩
  obtain ⟨L, hL⟩ : ∃ L, bad.length = L := ⟨_, rfl⟩
  have NN := Lib.hid hN
  have LL := Lib.hid hL
  rw [hN] at hm HP hs ⊢
  rw [hL] at hm2 HBd hs ⊢
  have hmI : (N : Int) ≤ 9223372036854775807 := by unfold maxLen at hm; omega
  have hmI2 : (L : Int) ≤ 9223372036854775807 := by unfold maxLen at hm2; omega
  clear h hb hN hL hm hm2
  clear hs0
  obtain rfl : L = N := hs.2.2.1
  have W := Lib.hid (width_t (L : Int) w (by omega) (by omega))
  have g0 : ((L : Int) != (L : Int)) = false := by simp
  obtain ⟨n, hn⟩ : ∃ n, L = n + 3 := ⟨L - 3, by omega⟩
  have e0 : (L : Int) - 3 = (n : Int) := by omega
  have h1 : 1 ≤ n := by omega
  have h13 : n ≤ 13 := by omega
  have GD := Lib.hid fun w (h : Bos w (.slice A2 L c2) bad) => good_any _ bad n w h (by rw [LL.out]; omega) (by omega)
  have FE : Hid ((goodL bad bad.length).take n = fromL bad n) := Lib.hid (by rw [LL.out, hn]; rfl)
  rw [FE.out] at GD
  have CT : Hid (3 < cntL bad (n + 3)) := Lib.hid (by have := hs.2.2.2; rwa [hn] at this)
  have LN := Lib.hid hn
  obtain ⟨t, ht⟩ : ∃ t, (fromL bad n).length = t := ⟨_, rfl⟩
  have htn : t < n := by rw [← ht, from_len]; have := CT.out; omega
  have htI : (t : Int) < (n : Int) := by omega
  have TT := Lib.hid ht
  clear ht
  clear hs hn
  go_enter Try.func20, Try.ntmps20
  go_wp2_with fail
  refine W.out.mono ?_
  rintro e w' ⟨rfl, rfl⟩
  go_wp2_with fail
  refine (GD.out _ HBd.out).mono ?_
  rintro e w2 ⟨v5, rfl, hi, hb2⟩
  obtain ⟨A5, c5, rfl⟩ := hi.form
  rw [natsI_len, TT.out] at hi ⊢
  have B2 := Lib.hid hb2
  clear hi hb2
  go_wp2_with fail
  go_ret2
  exact ⟨rfl, B2.out⟩
def decPost (D : List (List Nat)) (n : Nat) (w : World) (e : Ending) (w' : World) : Prop := ∃ g c, e = .returned (.tuple #[.slice (some ⟨g, 0, none⟩) n c, .int .i64 0]) ∧ Bl w' (.slice (some ⟨g, 0, none⟩) n c) D ∧ Below w.heap.size w w'
set_option maxHeartbeats 4000000 in
set_option maxRecDepth 100000 in
theorem dec_ok (v vb : Value) (P : List (List Nat)) (bad : List Bool) (w : World) (h : Bl w v P) (hb : Bos w vb bad) (hs : 4 ≤ P.length ∧ P.length ≤ 16 ∧ bad.length = P.length ∧ cntL bad P.length ≤ 3) : Calls Try.prog 20 #[v, vb] w (decPost (decL P bad) P.length w) := by
  have hs0 := hs
  have HP := Lib.hid h
  have HBd := Lib.hid hb
  have hm : P.length ≤ maxLen := by obtain ⟨_, _, _, hm, _⟩ := h; omega
  have hm2 := hb.len
  obtain ⟨A, c, rfl⟩ := h.form
  obtain ⟨A2, c2, rfl⟩ := hb.form
  obtain ⟨N, hN⟩ : ∃ N, P.length = N := ⟨_, rfl⟩
  obtain ⟨L, hL⟩ : ∃ L, bad.length = L := ⟨_, rfl⟩
  have NN := Lib.hid hN
  have LL := Lib.hid hL
  rw [hN] at hm HP hs ⊢
  rw [hL] at hm2 HBd hs ⊢
  have hmI : (N : Int) ≤ 9223372036854775807 := by unfold maxLen at hm; omega
  have hmI2 : (L : Int) ≤ 9223372036854775807 := by unfold maxLen at hm2; omega
  clear h hb hN hL hm hm2
  clear hs0
  obtain rfl : L = N := hs.2.2.1
  have W := Lib.hid (width_t (L : Int) w (by omega) (by omega))
  have g0 : ((L : Int) != (L : Int)) = false := by simp
  obtain ⟨n, hn⟩ : ∃ n, L = n + 3 := ⟨L - 3, by omega⟩
  have e0 : (L : Int) - 3 = (n : Int) := by omega
  have h1 : 1 ≤ n := by omega
  have h13 : n ≤ 13 := by omega
  have GD := Lib.hid fun w (h : Bos w (.slice A2 L c2) bad) => good_any _ bad n w h (by rw [LL.out]; omega) (by omega)
  have FE : Hid ((goodL bad bad.length).take n = fromL bad n) := Lib.hid (by rw [LL.out, hn]; rfl)
  rw [FE.out] at GD
  have CT : Hid (cntL bad (n + 3) ≤ 3) := Lib.hid (by have := hs.2.2.2; rwa [hn] at this)
  have LN := Lib.hid hn
  have CH := Lib.hid (from_cho CT.out)
  have OK := Lib.hid HP.out.ok
  have hmk := make_blk n (by omega)
  have GM := Lib.hid fun w => group_m n L w hn h1 h13
  have P0 : 0 < P.length := by rw [NN.out]; omega
  have CL := Lib.hid fun w (h : Bl w (.slice A L c) P) => clone_bl _ P w h P0 (by rw [NN.out]; omega)
  rw [NN.out] at CL
  obtain ⟨bp, op, cp, hv, -, hbp, -⟩ := Bl.at_ HP.out P0
  rw [NN.out] at hv
  injection hv with e1 e2 e3
  subst e1
  have BP := Lib.hid hbp
  clear e2 e3 hbp
  clear hs hn
  go_enter Try.func20, Try.ntmps20
  go_wp2_with fail
  refine W.out.mono ?_
  rintro e w' ⟨rfl, rfl⟩
  go_wp2_with fail
  refine (GD.out _ HBd.out).mono ?_
  rintro e w2 ⟨v5, rfl, hi, hb2⟩
  obtain ⟨A5, c5, rfl⟩ := hi.form
  rw [natsI_len, CH.out.len] at hi ⊢
  have hq1 : Below w.heap.size w w2 := hb2
  have P_2 := Lib.hid (Bl.to HP.out hq1)
  have Y_3 := Lib.hid (Bos.to HBd.out hq1)
  have HB_4 : Hid (Below w.heap.size w w2) := Lib.hid (hq1)
  clear hq1
  have HI := Lib.hid hi
  clear hi hb2
  obtain ⟨b5, o5, c5', hv, -, hc5⟩ := Is.at_ HI.out (by rw [natsI_len, CH.out.len]; omega)
  rw [natsI_len, CH.out.len] at hv hc5
  injection hv with e1 e2 e3
  subst e1
  clear e2 e3
  have C5 := Lib.hid hc5
  clear hc5
  have g1 : decide ((n : Int) < (n : Int)) = false := by simp
  go_wp2_with fail
  obtain ⟨w3, hw3⟩ : ∃ w3, w2.alloc (.cells (bcs (List.replicate (n * 8) 0)) 33) = w3 := ⟨_, rfl⟩
  have HQ3 : Hid (Below w2.heap.size w2 w3) := Lib.hid (by rw [← hw3]; exact (Below.refl _ _).alloc (Nat.le_refl _) _)
  have OZ := Lib.hid (own_zeros w2 n (by omega))
  rw [hw3] at OZ ⊢
  clear hw3
  obtain ⟨gb, hgb⟩ : ∃ gb, w2.heap.size = gb := ⟨_, rfl⟩
  have GB := Lib.hid hgb
  have hgB : w.heap.size ≤ gb := by rw [← hgb]; exact HB_4.out.size
  rw [hgb] at OZ ⊢
  clear hmk hgb
  have hpk := pickB_ok OK.out (F := fromL bad n) (fun x hx => by rw [NN.out]; have := CH.out.lt x hx; rw [LN.out]; exact this)
  have PKO := Lib.hid hpk
  have PKL : Hid ((pickB P (fromL bad n)).length = n) := Lib.hid (by rw [pickB_len, CH.out.len])
  have PKA : Hid (∀ i, i < n → (pickB P (fromL bad n)).getD i [] = P.getD ((fromL bad n).getD i 0) []) := Lib.hid fun i hi => by
    have hi' : i < (fromL bad n).length := by rw [CH.out.len]; exact hi
    unfold pickB
    rw [getD_in (l := List.map _ _) (by rw [List.length_map]; exact hi'), getD_in (l := fromL bad n) hi']; simp
  have FLT := Lib.hid fun i (hi : i < n) => CH.out.at hi
  have FAT : Hid (∀ i, i < n → (natsI (fromL bad n)).getD i 0 = (((fromL bad n).getD i 0 : Nat) : Int)) := Lib.hid fun i hi => natsI_at _ i (by rw [CH.out.len]; exact hi)
  clear hpk
  go_loopw [9, 10, 41] (fun _ _ q wr => ∃ i : Nat, i ≤ n ∧ q = .int .i64 (i : Int) ∧ Hid (Below w2.heap.size w2 wr ∧ ∃ X, X.length = n ∧ OwnB wr gb (.slice (some ⟨gb, 0, none⟩) n n) X ∧ ∀ j, j < n → X.getD j [] = if j < i then (pickB P (fromL bad n)).getD j [] else zeroB.1)) (fun _ _ q _ => n - (intOf q).toNat)
  case atStart => exact ⟨0, Nat.zero_le _, rfl, Lib.hid ⟨HQ3.out, _, List.length_replicate, OZ.out, fun j hj => by rw [if_neg (Nat.not_lt_zero j), getD_in (by simpa using hj)]; simp⟩⟩
  case round =>
    obtain ⟨i, hi, rfl, H⟩ := hrel
    by_cases hlt : i < n
    · have hiI : (i : Int) < (n : Int) := by omega
      obtain ⟨hbel, X, hX, hO, hE⟩ := H.out
      have hP := P_2.out.to hbel
      have hI := HI.out.to hbel
      have hOX : i < X.length := by omega
      obtain ⟨b6, o6, c6, hv, -, hc6⟩ := Is.at_ hI (by rw [natsI_len, CH.out.len]; omega)
      rw [natsI_len, CH.out.len] at hv hc6
      injection hv with e1 e2 e3
      injection e1 with e1
      injection e1 with e1 e4
      subst e1 e4
      have p1 := hc6 i hlt
      rw [FAT.out i hlt] at p1
      have hx := FLT.out i hlt
      have hd := PKA.out i hlt
      obtain ⟨x, ex⟩ : ∃ x, (fromL bad n).getD i 0 = x := ⟨_, rfl⟩
      rw [ex] at p1 hx hd
      have hxL : x < L := by rw [LN.out]; exact hx
      have hxI : (x : Int) < (L : Int) := by omega
      have dd := Bl.at8 hP (i := x) (by rw [NN.out]; exact hxL)
      have d8 : B8 (P.getD x []) := by rw [getD_in (by rw [NN.out]; exact hxL)]; exact OK.out _ (List.getElem_mem _)
      obtain ⟨d, ed⟩ : ∃ d, P.getD x [] = d := ⟨_, rfl⟩
      rw [ed] at dd d8 hd
      have TH := Lib.hid (show wr.there gb (i * 8) (bcs d).size by rw [bcs_size, d8.1]; exact hO.there hOX)
      have DD := Lib.hid dd
      have SI := Lib.hid (size8 d8.1)
      have HDD := Lib.hid hd
      have NW := Lib.hid (hO.set hOX d8)
      have NB := Lib.hid (below_setCells hbel (d.map bv) gb (i * 8) (by rw [GB.out]; exact Nat.le_refl _))
      have hlg := (hO.lt gb rfl).2
      have NX := Lib.hid (And.intro hX hE)
      clear hd ed ex dd hc6 e2 e3 hP hI hO hE hX hbel
      go_wp2_with (first | (refine wpList_load8 rfl _ _ rfl _ _ rfl d _ DD.out Try.underlying33 rfl SI.out ?_) | (refine wpList_store8 rfl _ _ _ rfl gb (i * 8) _ rfl rfl TH.out SI.out ?_))
      go_roundw
      case rel =>
        refine ⟨i + 1, by omega, by go_num, Lib.hid ⟨NB.out, X.set i d, by simp [NX.out.1], NW.out, fun j hj => ?_⟩⟩
        rw [getD_set]
        by_cases e : i = j
        · subst e; rw [if_pos ⟨rfl, hOX⟩, if_pos (by omega), HDD.out]
        · rw [if_neg fun hh => e hh.1, NX.out.2 j hj]; (repeat' split) <;> first | rfl | omega
      case measure => simp [intOf]; omega
    · obtain rfl : n = i := by omega
      obtain ⟨hbel, X, hX, hO, hE⟩ := H.out
      have eX : X = pickB P (fromL bad n) := by
        refine list_ext [] (by rw [hX, PKL.out]) fun j hj => ?_
        rw [hX] at hj
        rw [hE j hj, if_pos hj]
      subst eX
      have QP := Lib.hid (P_2.out.to hbel)
      have QI := Lib.hid (HI.out.to hbel)
      have QY := Lib.hid (Y_3.out.to hbel)
      have QG := Lib.hid hO.bl
      have QB : Hid (Below w.heap.size w wr) := Lib.hid (HB_4.out.trans (hbel.mono HB_4.out.size))
      clear hbel hX hO hE H PKA FLT FAT C5
      go_wp2_with fail
      refine (GM.out _).mono ?_
      rintro e kx2 ⟨gm, cm, rfl, khn3, khb1⟩
      have khq4 : Below wr.heap.size wr kx2 := khb1
      have kP_5 := Lib.hid (Bl.to QP.out khq4)
      have kI_6 := Lib.hid (Is.to QI.out khq4)
      have kY_7 := Lib.hid (Bos.to QY.out khq4)
      have kG_8 := Lib.hid (Bl.to QG.out khq4)
      have kHB_9 : Hid (Below w.heap.size w kx2) := Lib.hid (QB.out.trans (khq4.mono QB.out.size))
      clear khq4
      have kM_10 := Lib.hid khn3
      clear khb1 khn3
      go_wp2_with fail
      refine (data_m n (fromL bad n) _ _ _ h1 h13 CH.out kM_10.out kI_6.out).mono ?_
      rintro e kx12 ⟨gd, cd, rfl, khn13, khb11⟩
      have khq14 : Below kx2.heap.size kx2 kx12 := khb11
      have kP_15 := Lib.hid (Bl.to kP_5.out khq14)
      have kI_16 := Lib.hid (Is.to kI_6.out khq14)
      have kY_17 := Lib.hid (Bos.to kY_7.out khq14)
      have kG_18 := Lib.hid (Bl.to kG_8.out khq14)
      have kM_19 := Lib.hid (Msto kM_10.out khq14)
      have kHB_20 : Hid (Below w.heap.size w kx12) := Lib.hid (kHB_9.out.trans (khq14.mono kHB_9.out.size))
      clear khq14
      have kD_21 := Lib.hid khn13
      clear khb11 khn13
      go_wp2_with fail
      refine (CL.out _ kP_15.out).mono ?_
      rintro e kx23 ⟨gq, cq, rfl, khn24, hgq, khb22⟩
      have khq25 : Below kx12.heap.size kx12 kx23 := khb22
      have HKEEP_ := Lib.hid khq25
      have kP_26 := Lib.hid (Bl.to kP_15.out khq25)
      have kI_27 := Lib.hid (Is.to kI_16.out khq25)
      have kY_28 := Lib.hid (Bos.to kY_17.out khq25)
      have kG_29 := Lib.hid (Bl.to kG_18.out khq25)
      have kM_30 := Lib.hid (Msto kM_19.out khq25)
      have kD_31 := Lib.hid (Msto kD_21.out khq25)
      have kHB_32 : Hid (Below w.heap.size w kx23) := Lib.hid (kHB_20.out.trans (khq25.mono kHB_20.out.size))
      clear khq25
      have kO_33 := Lib.hid khn24
      clear khb22 khn24
      have HQ6 : Hid (Below kx12.heap.size kx12 kx23) := HKEEP_
      have PL3 : Hid (P.length - 3 = n) := Lib.hid (by rw [NN.out, LN.out]; omega)
      have DA := Lib.hid fun i (hi : i < L) => decL_at (P := P) (bad := bad) (i := i) (by rw [NN.out]; exact hi)
      rw [PL3.out] at DA
      have WLn := Lib.hid fun i => (isW_red h13 CH.out i).len
      have WTB := Lib.hid fun i => wtR_ok n (fromL bad n) i
      have HGQ := Lib.hid hgq
      clear hgq
      go_wp2_with fail
      go_loopw [14, 15, 63] (fun _ _ q wq => ∃ i : Nat, i ≤ L ∧ q = .int .i64 (i : Int) ∧ Hid (Below kx12.heap.size kx12 wq ∧ ∃ X, X.length = L ∧ OwnB wq kx12.heap.size (.slice (some ⟨gq, 0, none⟩) L cq) X ∧ ∀ j, j < L → X.getD j [] = if j < i then (decL P bad).getD j [] else P.getD j [])) (fun _ _ q _ => L - (intOf q).toNat)
      case atStart => exact ⟨0, Nat.zero_le _, rfl, Lib.hid ⟨HQ6.out, P, NN.out, kO_33.out, fun j _ => by rw [if_neg (Nat.not_lt_zero j)]⟩⟩
      case round =>
        obtain ⟨i, hi, rfl, H⟩ := hrel
        by_cases hlt : i < L
        · have hiI : (i : Int) < (L : Int) := by omega
          have hiI2 : (i : Int) < (n : Int) + 3 := by have := LN.out; omega
          have hin : i < n + 3 := by have := LN.out; omega
          obtain ⟨hbel, X, hX, hO, hE⟩ := H.out
          have hOX : i < X.length := by omega
          have hY := kY_17.out.to hbel
          obtain ⟨b6, o6, c6, hv, -, hc6⟩ := Bos.at_ hY (by rw [LL.out]; omega)
          rw [LL.out] at hv hc6
          injection hv with e1 e2 e3
          subst e1
          have p1 := hc6 i hlt
          have DI := Lib.hid (DA.out i hlt)
          clear hY hc6 e2 e3
          rcases hbi : bad.getD i false with _ | _
          · rw [hbi] at p1 DI
            rw [if_neg (by decide)] at DI
            have NX := Lib.hid (And.intro hbel (And.intro hX (And.intro hO hE)))
            clear hbi hbel hX hO hE H
            go_wp2
            go_roundw
            case rel =>
              obtain ⟨hbel, hX, hO, hE⟩ := NX.out
              refine ⟨i + 1, by omega, by go_num, Lib.hid ⟨hbel, X, hX, hO, fun j hj => ?_⟩⟩
              rw [hE j hj]
              by_cases e : j = i
              · rw [if_neg (by omega), if_pos (by omega), e, DI.out]
              · (repeat' split) <;> first | rfl | omega
            case measure => simp [intOf]; omega
          · rw [hbi] at p1 DI
            rw [if_pos rfl] at DI
            have hM := kM_19.out.to2 hbel
            obtain ⟨ba, oa, ca, hv, -, hat⟩ := Ms.open_ hM (grp_rect n) (by omega) h1
            injection hv with e1 e2 e3
            injection e1 with e1
            injection e1 with e1 e4
            subst e1 e4 e3
            obtain ⟨b', o', c', q1, r1, -, -⟩ := hat i hin
            rw [grp_row hin] at r1
            rw [Nat.zero_add] at q1
            have R1 := Lib.hid r1
            have R2 := Lib.hid (kD_21.out.to2 hbel)
            have R3 := Lib.hid (kG_18.out.to hbel)
            have R4 := Lib.hid hO
            have R5 := Lib.hid hbel
            have NX := Lib.hid (And.intro hX hE)
            clear hbi hM hat r1 e2 hX hE hO hbel H
            go_wp2_with fail
            refine (weightsOf_any n i (fromL bad n) _ _ _ _ h1 h13 CH.out R1.out R2.out).mono ?_
            rintro e mx2 ⟨Aw, cw, rfl, mhn3, mhb1⟩
            have mhq4 : Below wr.heap.size wr mx2 := mhb1
            have mR_5 := Lib.hid (Bs.to R1.out mhq4)
            have mD_6 := Lib.hid (Msto R2.out mhq4)
            have mG_7 := Lib.hid (Bl.to R3.out mhq4)
            have mO_8 := Lib.hid (OwnB.to R4.out mhq4)
            have mHB_9 : Hid (Below kx12.heap.size kx12 mx2) := Lib.hid (R5.out.trans (mhq4.mono R5.out.size))
            clear mhq4
            have mW_10 := Lib.hid mhn3
            clear mhb1 mhn3
            go_wp2_with fail
            refine (comb_ok _ _ _ _ _ mW_10.out mG_7.out (by rw [WLn.out, PKL.out]) (by rw [WLn.out]; omega)).mono ?_
            rintro e mx12 ⟨rfl, mhb11⟩
            have mhq13 : Below mx2.heap.size mx2 mx12 := mhb11
            have mR_14 := Lib.hid (Bs.to mR_5.out mhq13)
            have mD_15 := Lib.hid (Msto mD_6.out mhq13)
            have mG_16 := Lib.hid (Bl.to mG_7.out mhq13)
            have mO_17 := Lib.hid (OwnB.to mO_8.out mhq13)
            have mW_18 := Lib.hid (Bs.to mW_10.out mhq13)
            have mHB_19 : Hid (Below kx12.heap.size kx12 mx12) := Lib.hid (mHB_9.out.trans (mhq13.mono mHB_9.out.size))
            clear mhq13
            clear mhb11
            have D8 := combB_ok (WTB.out i) (pickB P (fromL bad n))
            obtain ⟨d, ed⟩ : ∃ d, combB (wtR n (fromL bad n) i) (pickB P (fromL bad n)) = d := ⟨_, rfl⟩
            rw [ed] at D8 DI ⊢
            have TH := Lib.hid (show mx12.there gq (i * 8) (bcs d).size by rw [bcs_size, D8.1]; exact mO_17.out.there hOX)
            have SI := Lib.hid (size8 D8.1)
            have NW := Lib.hid (mO_17.out.set hOX D8)
            have NB := Lib.hid (below_setCells mHB_19.out (d.map bv) gq (i * 8) HGQ.out)
            clear ed
            go_wp2_with (refine wpList_store8 rfl _ _ _ rfl gq (i * 8) _ rfl rfl TH.out SI.out ?_)
            go_roundw
            case rel =>
              refine ⟨i + 1, by omega, by go_num, Lib.hid ⟨NB.out, X.set i d, by simp [NX.out.1], NW.out, fun j hj => ?_⟩⟩
              rw [getD_set]
              by_cases e : i = j
              · subst e; rw [if_pos ⟨rfl, hOX⟩, if_pos (by omega), DI.out]
              · rw [if_neg fun hh => e hh.1, NX.out.2 j hj]; (repeat' split) <;> first | rfl | omega
            case measure => simp [intOf]; omega
        · obtain rfl : L = i := by omega
          obtain ⟨hbel, X, hX, hO, hE⟩ := H.out
          have eX : X = decL P bad := by
            refine list_ext [] (by rw [hX, decL_len, NN.out]) fun j hj => ?_
            rw [hX] at hj
            rw [hE j hj, if_pos hj]
          subst eX
          have FIN := Lib.hid (And.intro hO.bl (kHB_20.out.trans (hbel.mono kHB_20.out.size)))
          clear hbel hX hO hE H
          go_wp2
          go_ret2
          exact ⟨gq, cq, rfl, FIN.out⟩
end Go.Proofs.Ytheijobnmdbodaa
