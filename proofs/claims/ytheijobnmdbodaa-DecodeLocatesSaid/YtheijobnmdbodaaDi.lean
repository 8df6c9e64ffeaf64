/- Contracts: decode's Syndromes, the reference's Syndromes. WRITTEN BY gen_Di.py. -/
import Derived.Test.YtheijobnmdbodaaDf
import Derived.Test.YtheijobnmdbodaaGH
namespace Go.Proofs.Ytheijobnmdbodaa
open Go Go.RowKit Lin
set_option linter.unusedVariables false
set_option linter.unusedSimpArgs false

def parT (D : List (List Nat)) (j : Nat) : Blk := ⟨parB D j, parB_ok D j⟩
theorem parT_flat (D : List (List Nat)) : (parL D).flatten = cat3 (parT D) := (cat3_flat (parT D)).symm
def synT (P : List (List Nat)) (hP : ∀ d ∈ P, B8 d) (h3 : 3 ≤ P.length) (j : Nat) : Blk := if h : j < 3 then ⟨synB P j, synB_ok hP h3 h⟩ else zeroB
theorem synT_at {P : List (List Nat)} (hP : ∀ d ∈ P, B8 d) (h3 : 3 ≤ P.length) {j : Nat} (h : j < 3) : (synT P hP h3 j).1 = synB P j := by unfold synT; rw [dif_pos h]
theorem synT_flat {P : List (List Nat)} (hP : ∀ d ∈ P, B8 d) (h3 : 3 ≤ P.length) : cat3 (synT P hP h3) = (synL P).flatten := by
  rw [cat3_flat, synT_at hP h3 (by decide), synT_at hP h3 (by decide), synT_at hP h3 (by decide)]; rfl
theorem synL_ok {P : List (List Nat)} (hP : ∀ d ∈ P, B8 d) (h3 : 3 ≤ P.length) : ∀ d ∈ synL P, B8 d := by
  intro d hd
  simp only [synL, List.mem_cons, List.not_mem_nil, or_false] at hd
  rcases hd with rfl | rfl | rfl
  · exact synB_ok hP h3 (by decide)
  · exact synB_ok hP h3 (by decide)
  · exact synB_ok hP h3 (by decide)
/-- Three blocks, some of them changed. -/
def mix3 (S T : Nat → Blk) (j : Nat) : Nat → Blk := fun i => if i < j then T i else S i
theorem mix3_upd (S T : Nat → Blk) (j : Nat) : upd (mix3 S T j) j (T j) = mix3 S T (j + 1) := by
  funext m
  unfold upd mix3
  by_cases e : m = j
  · rw [if_pos e, if_pos (by omega), e]
  · rw [if_neg e]
    by_cases e2 : m < j
    · rw [if_pos e2, if_pos (by omega)]
    · rw [if_neg e2, if_neg (by omega)]
theorem mix3_zero (S T : Nat → Blk) : mix3 S T 0 = S := by funext m; exact if_neg (Nat.not_lt_zero m)
theorem mix3_all (S T : Nat → Blk) : cat3 (mix3 S T 3) = cat3 T := rfl
theorem mix3_at (S T : Nat → Blk) (j : Nat) : mix3 S T j j = S j := if_neg (Nat.lt_irrefl j)
def synPost (D : List (List Nat)) (w : World) (e : Ending) (w' : World) : Prop := ∃ g, e = .returned (.tuple #[.slice (some ⟨g, 0, none⟩) 3 3, .int .i64 0]) ∧ Bl w' (.slice (some ⟨g, 0, none⟩) 3 3) D ∧ Below w.heap.size w w'
def rsynPost (D : List (List Nat)) (w : World) (e : Ending) (w' : World) : Prop := ∃ g, e = .returned (.slice (some ⟨g, 0, none⟩) 3 3) ∧ Bl w' (.slice (some ⟨g, 0, none⟩) 3 3) D ∧ Below w.heap.size w w'
set_option maxHeartbeats 4000000 in
set_option maxRecDepth 100000 in
theorem syn_err (v : Value) (P : List (List Nat)) (w : World) (h : Bl w v P) (hs : P.length < 4 ∨ 16 < P.length) : Calls Try.prog 23 #[v] w (decErr 1 w) := by
  have hm : P.length ≤ maxLen := by obtain ⟨_, _, _, hm, _⟩ := h; omega
  obtain ⟨A, c, rfl⟩ := h.form
  obtain ⟨N, hN⟩ : ∃ N, P.length = N := ⟨_, rfl⟩
  rw [hN] at hm hs ⊢
  have hmI : (N : Int) ≤ 9223372036854775807 := by unfold maxLen at hm; omega
  have W := Lib.hid (width_f (N : Int) w (by omega))
  clear h hN hm hs
  go_enter Try.func23, Try.ntmps23
  go_wp2_with fail
  refine W.out.mono ?_
  rintro e w' ⟨rfl, rfl⟩
  go_wp2_with fail
  go_ret2
  exact ⟨rfl, Below.refl _ _⟩
set_option maxHeartbeats 4000000 in
set_option maxRecDepth 100000 in
theorem syn_ok (v : Value) (P : List (List Nat)) (w : World) (h : Bl w v P) (h4 : 4 ≤ P.length) (h16 : P.length ≤ 16) : Calls Try.prog 23 #[v] w (synPost (synL P) w) := by
  have OK := Lib.hid h.ok
  have H3 : 3 ≤ P.length := by omega
  obtain ⟨bp, op, cp, rfl, hcp, hbp, -⟩ := Bl.at_ h (by omega)
  obtain ⟨n, hn⟩ : ∃ n, P.length = n + 3 := ⟨P.length - 3, by omega⟩
  obtain ⟨N, hN⟩ : ∃ N, P.length = N := ⟨_, rfl⟩
  have LN : N = n + 3 := hN.symm.trans hn
  have NN := Lib.hid hN
  have h1 : 1 ≤ n := by omega
  have hn13 : n ≤ 13 := by omega
  have e0 : (N : Int) - 3 = (n : Int) := by omega
  have hP := h
  rw [hN] at hP hcp ⊢
  have hd := hP.head (n := n) (by omega)
  have tl : (P.take n).length = n := by rw [List.length_take]; omega
  have ST : Hid (∀ j, synB P j = xorB (parB (P.take n) j) (P.getD (n + j) [])) := Lib.hid fun j => by unfold synB; rw [hn, Nat.add_sub_cancel]
  have TA := Lib.hid fun j (hj : j < 3) => synT_at OK.out H3 hj
  have TF := Lib.hid (synT_flat OK.out H3)
  have SO := Lib.hid (synL_ok OK.out H3)
  obtain ⟨T, hT⟩ : ∃ T, synT P OK.out H3 = T := ⟨_, rfl⟩
  rw [hT] at TA TF
  obtain ⟨D, hD⟩ : ∃ D, P.take n = D := ⟨_, rfl⟩
  rw [hD] at ST hd tl
  have HD := Lib.hid hd
  have HPP := Lib.hid hP
  have BP := Lib.hid hbp
  have LNN := Lib.hid LN
  have NI : (N : Int) = (n : Int) + 3 := by omega
  have c1 : n ≤ cp := by omega
  have c2 : (n : Int) ≤ (cp : Int) := by omega
  have c3 : (cp : Int) ≤ 9223372036854775807 := by have := hcp.2; unfold maxLen at this; omega
  have TL := Lib.hid tl
  obtain ⟨X, hX⟩ : ∃ X, synL P = X := ⟨_, rfl⟩
  have XE := Lib.hid hX
  rw [hX] at SO
  clear h hcp hbp hn hN LN hP hd tl hT hD hX h4 h16 H3 NI
  have W := Lib.hid (width_t (N : Int) w (by omega) (by omega))
  go_enter Try.func23, Try.ntmps23
  go_wp2_with fail
  refine W.out.mono ?_
  rintro e w' ⟨rfl, rfl⟩
  go_wp2_with fail
  refine (encode_ok _ D _ HD.out (by rw [TL.out]; exact h1) (by rw [TL.out]; exact hn13)).mono ?_
  rintro e x2 ⟨g0, rfl, hg0, hn3, hb1⟩
  have hq4 : Below w.heap.size w x2 := hb1
  have P_5 := Lib.hid (Bl.to HPP.out hq4)
  have HB_6 : Hid (Below w.heap.size w x2) := Lib.hid (hq4)
  clear hq4
  have R_7 := Lib.hid hn3
  clear hb1 hn3
  go_wp2_with fail
  have RX := R_7.out
  rw [parT_flat] at RX
  have RXX := Lib.hid RX
  clear RX
  go_loopw [7, 24] (fun _ q wr => ∃ j : Nat, j ≤ 3 ∧ q = .int .i64 (j : Int) ∧ Hid (Below w.heap.size w wr ∧ Row wr g0 49 (bcs (cat3 (mix3 (parT D) T j))))) (fun _ q _ => 3 - (intOf q).toNat)
  case atStart => exact ⟨0, Nat.zero_le _, rfl, Lib.hid ⟨HB_6.out, by rw [mix3_zero]; exact RXX.out⟩⟩
  case round =>
    obtain ⟨j, hj, rfl, H⟩ := hrel
    by_cases hlt : j < 3
    · have hjI : (j : Int) < 3 := by omega
      have hjN : n + j < N := by have := LNN.out; omega
      have hjN2 : (n : Int) + (j : Int) < (N : Int) := by omega
      have b3 : ((n : Int) + (j : Int)).toNat = n + j := by omega
      have b8 : IntKind.i64.wrap ((n : Int) + (j : Int)) = (n : Int) + (j : Int) := by rw [IntKind.wrap_i64]; omega
      have b0 : (0 : Int) ≤ (n : Int) + (j : Int) := by omega
      have M0 := Lib.hid (mix3_at (parT D) T j)
      have MU := Lib.hid (mix3_upd (parT D) T j)
      have hT := TA.out j hlt
      have hS := ST.out j
      have hpl : n + j < P.length := by rw [NN.out]; exact hjN
      have dd := Bl.at8 (HPP.out.to H.out.1) hpl
      have d8 : B8 (P.getD (n + j) []) := by rw [getD_in hpl]; exact OK.out _ (List.getElem_mem _)
      obtain ⟨d, ed⟩ : ∃ d, P.getD (n + j) [] = d := ⟨_, rfl⟩
      rw [ed] at dd d8 hS
      obtain ⟨s, es⟩ : ∃ s, parT D j = s := ⟨_, rfl⟩
      have hsp : parB D j = s.1 := by rw [← es]; rfl
      obtain ⟨t, et⟩ : ∃ t, T j = t := ⟨_, rfl⟩
      rw [es] at M0
      rw [et] at MU hT
      rw [hsp] at hS
      have XX : Hid (xorB s.1 d = t.1) := Lib.hid (by rw [hT, hS])
      have s8 := s.2
      have t8 := t.2
      have rr := H.out.2
      obtain ⟨M, hM⟩ : ∃ M, mix3 (parT D) T j = M := ⟨_, rfl⟩
      rw [hM] at M0 MU rr
      have aa : At8 wr g0 (j * 8) s.1 := by have := rr.at3 hlt; rwa [M0.out] at this
      have HA := Lib.hid aa
      have HR := Lib.hid rr
      have HDD := Lib.hid dd
      have HB := Lib.hid H.out.1
      have hne : bp ≠ g0 := by have := BP.out; omega
      have hg0' := hg0
      clear dd ed es et hsp hT hS rr hM aa H hpl M0
      go_wp2_with fail
      refine wp_region_held (P := Try.prog) (S := (fun w' : World => At8 w' bp (op + (n + j) * 8) d)) rfl ?_
      change wpAnyH _ _ _ _ _ _ _ _ wr.drew
      have zhz2 : Below wr.heap.size wr wr.drew := (Below.refl wr.heap.size wr).drew
      generalize wr.drew = zwz1 at zhz2 ⊢
      have zhq3 : Below wr.heap.size wr zwz1 := zhz2
      have zA_4 := Lib.hid (At8.to HA.out zhq3)
      have zR_5 := Lib.hid (Row.to HR.out zhq3)
      have zD_6 := Lib.hid (At8.to HDD.out zhq3)
      have zHB_7 : Hid (Below w.heap.size w zwz1) := Lib.hid (HB.out.trans (zhq3.mono HB.out.size))
      clear zhq3
      clear zhz2
      have zhS8 : (fun w' : World => At8 w' bp (op + (n + j) * 8) d) zwz1 := zD_6.out
      refine takeD (i := 0) (v := .slice (some ⟨g0, 0, none⟩) 3 3) (some 27) rfl rfl (by kernel_rfl) (by kernel_rfl) (by kernel_rfl) (fun _ _ _ h => h) (Or.inl ⟨by rfl, by rintro w' -; go_simp⟩) zhS8 ?_
      simp only [Act.put, List.setIfInBounds_toArray, List.set_cons_zero, List.set_cons_succ]
      refine takeD (i := 1) (v := .int .i64 (j : Int)) (some 28) rfl rfl (by kernel_rfl) (by kernel_rfl) (by kernel_rfl) (fun _ _ _ h => h) (Or.inl ⟨by rfl, by rintro w' -; go_simp⟩) zhS8 ?_
      simp only [Act.put, List.setIfInBounds_toArray, List.set_cons_zero, List.set_cons_succ]
      refine takeD (i := 2) (v := .slice (some ⟨g0, 0, none⟩) 3 3) (some 29) rfl rfl (by kernel_rfl) (by kernel_rfl) (by kernel_rfl) (fun _ _ _ h => h) (Or.inl ⟨by rfl, by rintro w' -; go_simp⟩) zhS8 ?_
      simp only [Act.put, List.setIfInBounds_toArray, List.set_cons_zero, List.set_cons_succ]
      refine takeD (i := 3) (v := .int .i64 (j : Int)) (some 30) rfl rfl (by kernel_rfl) (by kernel_rfl) (by kernel_rfl) (fun _ _ _ h => h) (Or.inl ⟨by rfl, by rintro w' -; go_simp⟩) zhS8 ?_
      simp only [Act.put, List.setIfInBounds_toArray, List.set_cons_zero, List.set_cons_succ]
      refine takeD (i := 4) (v := .pointer (some ⟨g0, j * 8, none⟩)) (some 31) rfl rfl (by kernel_rfl) (by kernel_rfl) (by kernel_rfl) (fun _ _ _ h => h) (Or.inl ⟨by rfl, by rintro w' -; go_simp⟩) zhS8 ?_
      simp only [Act.put, List.setIfInBounds_toArray, List.set_cons_zero, List.set_cons_succ]
      refine takeD (i := 6) (v := .slice (some ⟨bp, op, none⟩) N cp) (some 33) rfl rfl (by kernel_rfl) (by kernel_rfl) (by kernel_rfl) (fun _ _ _ h => h) (Or.inl ⟨by rfl, by rintro w' -; go_simp⟩) zhS8 ?_
      simp only [Act.put, List.setIfInBounds_toArray, List.set_cons_zero, List.set_cons_succ]
      refine takeD (i := 7) (v := .int .i64 (n : Int)) (some 34) rfl rfl (by kernel_rfl) (by kernel_rfl) (by kernel_rfl) (fun _ _ _ h => h) (Or.inl ⟨by rfl, by rintro w' -; go_simp⟩) zhS8 ?_
      simp only [Act.put, List.setIfInBounds_toArray, List.set_cons_zero, List.set_cons_succ]
      refine takeD (i := 8) (v := .int .i64 (j : Int)) (some 35) rfl rfl (by kernel_rfl) (by kernel_rfl) (by kernel_rfl) (fun _ _ _ h => h) (Or.inl ⟨by rfl, by rintro w' -; go_simp⟩) zhS8 ?_
      simp only [Act.put, List.setIfInBounds_toArray, List.set_cons_zero, List.set_cons_succ]
      refine takeD (i := 9) (v := .int .i64 ((n : Int) + (j : Int))) (some 36) rfl rfl (by kernel_rfl) (by kernel_rfl) (by kernel_rfl) (fun _ _ _ h => h) (Or.inl ⟨by rfl, by rintro w' -; go_simp⟩) zhS8 ?_
      simp only [Act.put, List.setIfInBounds_toArray, List.set_cons_zero, List.set_cons_succ]
      refine takeD (i := 10) (v := .pointer (some ⟨bp, op + (n + j) * 8, none⟩)) (some 37) rfl rfl (by kernel_rfl) (by kernel_rfl) (by kernel_rfl) (fun _ _ _ h => h) (Or.inl ⟨by rfl, by rintro w' -; go_simp⟩) zhS8 ?_
      simp only [Act.put, List.setIfInBounds_toArray, List.set_cons_zero, List.set_cons_succ]
      refine takeD (i := 11) (v := .agg (bcs d)) (some 38) rfl rfl (by kernel_rfl) (by kernel_rfl) (by kernel_rfl) (fun _ _ _ h => h) (yieldsIf_load8 (by rfl) _ _ rfl _ _ rfl d _ (fun w' h => h) Try.underlying33 rfl (size8 d8.1)) zhS8 ?_
      simp only [Act.put, List.setIfInBounds_toArray, List.set_cons_zero, List.set_cons_succ]
      refine wpAnyH_ready (rs := [5]) (by kernel_rfl) (by simp) ?_
      refine AllReadyH.cons rfl (fun zK9 hzK9 => ?_) AllReadyH.nil
      have HzK9 := Lib.hid hzK9
      clear hzK9
      rw [if_pos (by rfl)]
      refine wp_load8 _ _ rfl _ _ rfl s.1 _ zA_4.out Try.underlying33 rfl (size8 s8.1) ?_
      refine HzK9.out _ _ zhS8 fun _ => ?_
      try simp only [Act.put, List.setIfInBounds_toArray, List.set_cons_zero, List.set_cons_succ]
      refine wpAnyH_ready (rs := [12]) (by kernel_rfl) (by simp) ?_
      refine AllReadyH.cons rfl (fun zK10 hzK10 => ?_) AllReadyH.nil
      have HzK10 := Lib.hid hzK10
      clear hzK10
      rw [if_pos (by rfl)]
      go_simp
      go_at_call 36
      refine (plus_b s.1 d t.1 _ s8 d8 XX.out).mono ?_
      rintro e zx11 ⟨rfl, hb⟩
      have zhq12 : Below zwz1.heap.size zwz1 zx11 := hb
      have zA_13 := Lib.hid (At8.to zA_4.out zhq12)
      have zR_14 := Lib.hid (Row.to zR_5.out zhq12)
      have zD_15 := Lib.hid (At8.to zD_6.out zhq12)
      have zHB_16 : Hid (Below w.heap.size w zx11) := Lib.hid (zHB_7.out.trans (zhq12.mono zHB_7.out.size))
      clear zhq12
      clear hb
      have zhS17 : (fun w' : World => At8 w' bp (op + (n + j) * 8) d) zx11 := zD_15.out
      refine HzK10.out _ _ zhS17 fun _ => ?_
      try simp only [Act.put, List.setIfInBounds_toArray, List.set_cons_zero, List.set_cons_succ]
      refine takeD (i := 13) (v := .pointer (some ⟨g0, j * 8, none⟩)) (some 40) rfl rfl (by kernel_rfl) (by kernel_rfl) (by kernel_rfl) (fun _ _ _ h => h) (Or.inl ⟨by rfl, by rintro w' -; go_simp⟩) zhS17 ?_
      simp only [Act.put, List.setIfInBounds_toArray, List.set_cons_zero, List.set_cons_succ]
      refine wpAnyH_ready (rs := [14]) (by kernel_rfl) (by simp) ?_
      refine AllReadyH.cons rfl (fun zK18 hzK18 => ?_) AllReadyH.nil
      have HzK18 := Lib.hid hzK18
      clear hzK18
      rw [if_pos (by rfl)]
      have th : zx11.there g0 (j * 8) (bcs t.1).size := by rw [bcs_size, t8.1]; exact zR_14.out.there3 hlt
      refine wp_store8 _ _ _ rfl _ _ t.1 rfl rfl th (size8 t8.1) ?_
      have ZR := Lib.hid (zR_14.out.put3 hlt t)
      have ZB := Lib.hid (below_setCells zHB_16.out (t.1.map bv) g0 (j * 8) hg0)
      have ZD := Lib.hid (World.rangeAt_setCells_apart zD_15.out g0 (j * 8) (t.1.map bv) (Or.inl hne))
      have zhS19 : (fun w' : World => At8 w' bp (op + (n + j) * 8) d) (zx11.setCells g0 (j * 8) (t.1.map bv)) := ZD.out
      refine HzK18.out _ _ zhS19 fun _ => ?_
      refine wpAnyH_done (by kernel_rfl) ?_ _
      go_wp2
      go_roundw
      case rel => exact ⟨j + 1, by omega, by go_num, Lib.hid ⟨ZB.out, by rw [MU.out] at ZR; exact ZR.out⟩⟩
      case measure => simp [intOf]; omega
    · obtain rfl : j = 3 := by omega
      have hR := H.out.2
      rw [mix3_all, TF.out, XE.out] at hR
      have K := Lib.hid (And.intro (Bl.of_row (n := 3) hR SO.out (by rw [← XE.out]; rfl) (Nat.le_refl 3) (by decide)) H.out.1)
      clear hR H
      go_wp2
      go_ret2
      exact ⟨g0, rfl, by rw [XE.out]; exact K.out.1, K.out.2⟩
set_option maxHeartbeats 4000000 in
set_option maxRecDepth 100000 in
theorem rsyn_ok (v : Value) (P : List (List Nat)) (w : World) (h : Bl w v P) (h4 : 4 ≤ P.length) (h16 : P.length ≤ 16) : Calls Try.prog 24 #[v] w (rsynPost (synL P) w) := by
  have OK := Lib.hid h.ok
  have H3 : 3 ≤ P.length := by omega
  obtain ⟨bp, op, cp, rfl, hcp, hbp, -⟩ := Bl.at_ h (by omega)
  obtain ⟨n, hn⟩ : ∃ n, P.length = n + 3 := ⟨P.length - 3, by omega⟩
  obtain ⟨N, hN⟩ : ∃ N, P.length = N := ⟨_, rfl⟩
  have LN : N = n + 3 := hN.symm.trans hn
  have NN := Lib.hid hN
  have h1 : 1 ≤ n := by omega
  have hn13 : n ≤ 13 := by omega
  have e0 : (N : Int) - 3 = (n : Int) := by omega
  have hP := h
  rw [hN] at hP hcp ⊢
  have hd := hP.head (n := n) (by omega)
  have tl : (P.take n).length = n := by rw [List.length_take]; omega
  have ST : Hid (∀ j, synB P j = xorB (parB (P.take n) j) (P.getD (n + j) [])) := Lib.hid fun j => by unfold synB; rw [hn, Nat.add_sub_cancel]
  have TA := Lib.hid fun j (hj : j < 3) => synT_at OK.out H3 hj
  have TF := Lib.hid (synT_flat OK.out H3)
  have SO := Lib.hid (synL_ok OK.out H3)
  obtain ⟨T, hT⟩ : ∃ T, synT P OK.out H3 = T := ⟨_, rfl⟩
  rw [hT] at TA TF
  obtain ⟨D, hD⟩ : ∃ D, P.take n = D := ⟨_, rfl⟩
  rw [hD] at ST hd tl
  have HD := Lib.hid hd
  have HPP := Lib.hid hP
  have BP := Lib.hid hbp
  have LNN := Lib.hid LN
  have NI : (N : Int) = (n : Int) + 3 := by omega
  have c1 : n ≤ cp := by omega
  have c2 : (n : Int) ≤ (cp : Int) := by omega
  have c3 : (cp : Int) ≤ 9223372036854775807 := by have := hcp.2; unfold maxLen at this; omega
  have TL := Lib.hid tl
  obtain ⟨X, hX⟩ : ∃ X, synL P = X := ⟨_, rfl⟩
  have XE := Lib.hid hX
  rw [hX] at SO
  clear h hcp hbp hn hN LN hP hd tl hT hD hX h4 h16 H3 NI
  go_enter Try.func24, Try.ntmps24
  go_wp2_with fail
  obtain ⟨g0, eg0⟩ : ∃ g0, w.heap.size = g0 := ⟨_, rfl⟩
  have hg0 : w.heap.size ≤ g0 := by omega
  refine (rparity_any _ D _ HD.out (by rw [TL.out]; omega)).mono ?_
  rintro e x2 ⟨rfl, hn3, hb1⟩
  have hq4 : Below w.heap.size w x2 := hb1
  have P_5 := Lib.hid (Bl.to HPP.out hq4)
  have HB_6 : Hid (Below w.heap.size w x2) := Lib.hid (hq4)
  clear hq4
  have R_7 := Lib.hid hn3
  clear hb1 hn3
  have RR := Lib.hid R_7.out
  rw [eg0] at RR ⊢
  go_wp2_with fail
  have RX := RR.out
  rw [parT_flat] at RX
  have RXX := Lib.hid RX
  clear RX
  go_loopw [5] (fun q wr => ∃ j : Nat, j ≤ 3 ∧ q = .int .i64 (j : Int) ∧ Hid (Below w.heap.size w wr ∧ Row wr g0 33 (bcs (cat3 (mix3 (parT D) T j))))) (fun q _ => 3 - (intOf q).toNat)
  case atStart => exact ⟨0, Nat.zero_le _, rfl, Lib.hid ⟨HB_6.out, by rw [mix3_zero]; exact RXX.out⟩⟩
  case round =>
    obtain ⟨j, hj, rfl, H⟩ := hrel
    by_cases hlt : j < 3
    · have hjI : (j : Int) < 3 := by omega
      have hjN : n + j < N := by have := LNN.out; omega
      have hjN2 : (n : Int) + (j : Int) < (N : Int) := by omega
      have b3 : ((n : Int) + (j : Int)).toNat = n + j := by omega
      have b8 : IntKind.i64.wrap ((n : Int) + (j : Int)) = (n : Int) + (j : Int) := by rw [IntKind.wrap_i64]; omega
      have b0 : (0 : Int) ≤ (n : Int) + (j : Int) := by omega
      have M0 := Lib.hid (mix3_at (parT D) T j)
      have MU := Lib.hid (mix3_upd (parT D) T j)
      have hT := TA.out j hlt
      have hS := ST.out j
      have hpl : n + j < P.length := by rw [NN.out]; exact hjN
      have dd := Bl.at8 (HPP.out.to H.out.1) hpl
      have d8 : B8 (P.getD (n + j) []) := by rw [getD_in hpl]; exact OK.out _ (List.getElem_mem _)
      obtain ⟨d, ed⟩ : ∃ d, P.getD (n + j) [] = d := ⟨_, rfl⟩
      rw [ed] at dd d8 hS
      obtain ⟨s, es⟩ : ∃ s, parT D j = s := ⟨_, rfl⟩
      have hsp : parB D j = s.1 := by rw [← es]; rfl
      obtain ⟨t, et⟩ : ∃ t, T j = t := ⟨_, rfl⟩
      rw [es] at M0
      rw [et] at MU hT
      rw [hsp] at hS
      have XX : Hid (xorB s.1 d = t.1) := Lib.hid (by rw [hT, hS])
      have s8 := s.2
      have t8 := t.2
      have rr := H.out.2
      obtain ⟨M, hM⟩ : ∃ M, mix3 (parT D) T j = M := ⟨_, rfl⟩
      rw [hM] at M0 MU rr
      have aa : At8 wr g0 (j * 8) s.1 := by have := rr.at3 hlt; rwa [M0.out] at this
      have HA := Lib.hid aa
      have HR := Lib.hid rr
      have HDD := Lib.hid dd
      have HB := Lib.hid H.out.1
      have hne : bp ≠ g0 := by have := BP.out; omega
      have hg0' := hg0
      clear dd ed es et hsp hT hS rr hM aa H hpl M0
      go_wp2_with fail
      refine wp_region_held (P := Try.prog) (S := (fun w' : World => At8 w' bp (op + (n + j) * 8) d)) rfl ?_
      change wpAnyH _ _ _ _ _ _ _ _ wr.drew
      have zhz2 : Below wr.heap.size wr wr.drew := (Below.refl wr.heap.size wr).drew
      generalize wr.drew = zwz1 at zhz2 ⊢
      have zhq3 : Below wr.heap.size wr zwz1 := zhz2
      have zA_4 := Lib.hid (At8.to HA.out zhq3)
      have zR_5 := Lib.hid (Row.to HR.out zhq3)
      have zD_6 := Lib.hid (At8.to HDD.out zhq3)
      have zHB_7 : Hid (Below w.heap.size w zwz1) := Lib.hid (HB.out.trans (zhq3.mono HB.out.size))
      clear zhq3
      clear zhz2
      have zhS8 : (fun w' : World => At8 w' bp (op + (n + j) * 8) d) zwz1 := zD_6.out
      refine takeD (i := 0) (v := .slice (some ⟨g0, 0, none⟩) 3 3) (some 17) rfl rfl (by kernel_rfl) (by kernel_rfl) (by kernel_rfl) (fun _ _ _ h => h) (Or.inl ⟨by rfl, by rintro w' -; go_simp⟩) zhS8 ?_
      simp only [Act.put, List.setIfInBounds_toArray, List.set_cons_zero, List.set_cons_succ]
      refine takeD (i := 1) (v := .int .i64 (j : Int)) (some 18) rfl rfl (by kernel_rfl) (by kernel_rfl) (by kernel_rfl) (fun _ _ _ h => h) (Or.inl ⟨by rfl, by rintro w' -; go_simp⟩) zhS8 ?_
      simp only [Act.put, List.setIfInBounds_toArray, List.set_cons_zero, List.set_cons_succ]
      refine takeD (i := 2) (v := .slice (some ⟨g0, 0, none⟩) 3 3) (some 19) rfl rfl (by kernel_rfl) (by kernel_rfl) (by kernel_rfl) (fun _ _ _ h => h) (Or.inl ⟨by rfl, by rintro w' -; go_simp⟩) zhS8 ?_
      simp only [Act.put, List.setIfInBounds_toArray, List.set_cons_zero, List.set_cons_succ]
      refine takeD (i := 3) (v := .int .i64 (j : Int)) (some 20) rfl rfl (by kernel_rfl) (by kernel_rfl) (by kernel_rfl) (fun _ _ _ h => h) (Or.inl ⟨by rfl, by rintro w' -; go_simp⟩) zhS8 ?_
      simp only [Act.put, List.setIfInBounds_toArray, List.set_cons_zero, List.set_cons_succ]
      refine takeD (i := 4) (v := .pointer (some ⟨g0, j * 8, none⟩)) (some 21) rfl rfl (by kernel_rfl) (by kernel_rfl) (by kernel_rfl) (fun _ _ _ h => h) (Or.inl ⟨by rfl, by rintro w' -; go_simp⟩) zhS8 ?_
      simp only [Act.put, List.setIfInBounds_toArray, List.set_cons_zero, List.set_cons_succ]
      refine takeD (i := 6) (v := .slice (some ⟨bp, op, none⟩) N cp) (some 23) rfl rfl (by kernel_rfl) (by kernel_rfl) (by kernel_rfl) (fun _ _ _ h => h) (Or.inl ⟨by rfl, by rintro w' -; go_simp⟩) zhS8 ?_
      simp only [Act.put, List.setIfInBounds_toArray, List.set_cons_zero, List.set_cons_succ]
      refine takeD (i := 7) (v := .int .i64 (n : Int)) (some 24) rfl rfl (by kernel_rfl) (by kernel_rfl) (by kernel_rfl) (fun _ _ _ h => h) (Or.inl ⟨by rfl, by rintro w' -; go_simp⟩) zhS8 ?_
      simp only [Act.put, List.setIfInBounds_toArray, List.set_cons_zero, List.set_cons_succ]
      refine takeD (i := 8) (v := .int .i64 (j : Int)) (some 25) rfl rfl (by kernel_rfl) (by kernel_rfl) (by kernel_rfl) (fun _ _ _ h => h) (Or.inl ⟨by rfl, by rintro w' -; go_simp⟩) zhS8 ?_
      simp only [Act.put, List.setIfInBounds_toArray, List.set_cons_zero, List.set_cons_succ]
      refine takeD (i := 9) (v := .int .i64 ((n : Int) + (j : Int))) (some 26) rfl rfl (by kernel_rfl) (by kernel_rfl) (by kernel_rfl) (fun _ _ _ h => h) (Or.inl ⟨by rfl, by rintro w' -; go_simp⟩) zhS8 ?_
      simp only [Act.put, List.setIfInBounds_toArray, List.set_cons_zero, List.set_cons_succ]
      refine takeD (i := 10) (v := .pointer (some ⟨bp, op + (n + j) * 8, none⟩)) (some 27) rfl rfl (by kernel_rfl) (by kernel_rfl) (by kernel_rfl) (fun _ _ _ h => h) (Or.inl ⟨by rfl, by rintro w' -; go_simp⟩) zhS8 ?_
      simp only [Act.put, List.setIfInBounds_toArray, List.set_cons_zero, List.set_cons_succ]
      refine takeD (i := 11) (v := .agg (bcs d)) (some 28) rfl rfl (by kernel_rfl) (by kernel_rfl) (by kernel_rfl) (fun _ _ _ h => h) (yieldsIf_load8 (by rfl) _ _ rfl _ _ rfl d _ (fun w' h => h) Try.underlying33 rfl (size8 d8.1)) zhS8 ?_
      simp only [Act.put, List.setIfInBounds_toArray, List.set_cons_zero, List.set_cons_succ]
      refine wpAnyH_ready (rs := [5]) (by kernel_rfl) (by simp) ?_
      refine AllReadyH.cons rfl (fun zK9 hzK9 => ?_) AllReadyH.nil
      have HzK9 := Lib.hid hzK9
      clear hzK9
      rw [if_pos (by rfl)]
      refine wp_load8 _ _ rfl _ _ rfl s.1 _ zA_4.out Try.underlying33 rfl (size8 s8.1) ?_
      refine HzK9.out _ _ zhS8 fun _ => ?_
      try simp only [Act.put, List.setIfInBounds_toArray, List.set_cons_zero, List.set_cons_succ]
      refine wpAnyH_ready (rs := [12]) (by kernel_rfl) (by simp) ?_
      refine AllReadyH.cons rfl (fun zK10 hzK10 => ?_) AllReadyH.nil
      have HzK10 := Lib.hid hzK10
      clear hzK10
      rw [if_pos (by rfl)]
      go_simp
      go_at_call 26
      refine (xor_b s.1 d t.1 _ s8 d8 XX.out).mono ?_
      rintro e zx11 ⟨rfl, hb⟩
      have zhq12 : Below zwz1.heap.size zwz1 zx11 := hb
      have zA_13 := Lib.hid (At8.to zA_4.out zhq12)
      have zR_14 := Lib.hid (Row.to zR_5.out zhq12)
      have zD_15 := Lib.hid (At8.to zD_6.out zhq12)
      have zHB_16 : Hid (Below w.heap.size w zx11) := Lib.hid (zHB_7.out.trans (zhq12.mono zHB_7.out.size))
      clear zhq12
      clear hb
      have zhS17 : (fun w' : World => At8 w' bp (op + (n + j) * 8) d) zx11 := zD_15.out
      refine HzK10.out _ _ zhS17 fun _ => ?_
      try simp only [Act.put, List.setIfInBounds_toArray, List.set_cons_zero, List.set_cons_succ]
      refine takeD (i := 13) (v := .pointer (some ⟨g0, j * 8, none⟩)) (some 30) rfl rfl (by kernel_rfl) (by kernel_rfl) (by kernel_rfl) (fun _ _ _ h => h) (Or.inl ⟨by rfl, by rintro w' -; go_simp⟩) zhS17 ?_
      simp only [Act.put, List.setIfInBounds_toArray, List.set_cons_zero, List.set_cons_succ]
      refine wpAnyH_ready (rs := [14]) (by kernel_rfl) (by simp) ?_
      refine AllReadyH.cons rfl (fun zK18 hzK18 => ?_) AllReadyH.nil
      have HzK18 := Lib.hid hzK18
      clear hzK18
      rw [if_pos (by rfl)]
      have th : zx11.there g0 (j * 8) (bcs t.1).size := by rw [bcs_size, t8.1]; exact zR_14.out.there3 hlt
      refine wp_store8 _ _ _ rfl _ _ t.1 rfl rfl th (size8 t8.1) ?_
      have ZR := Lib.hid (zR_14.out.put3 hlt t)
      have ZB := Lib.hid (below_setCells zHB_16.out (t.1.map bv) g0 (j * 8) hg0)
      have ZD := Lib.hid (World.rangeAt_setCells_apart zD_15.out g0 (j * 8) (t.1.map bv) (Or.inl hne))
      have zhS19 : (fun w' : World => At8 w' bp (op + (n + j) * 8) d) (zx11.setCells g0 (j * 8) (t.1.map bv)) := ZD.out
      refine HzK18.out _ _ zhS19 fun _ => ?_
      refine wpAnyH_done (by kernel_rfl) ?_ _
      go_wp2
      go_roundw
      case rel => exact ⟨j + 1, by omega, by go_num, Lib.hid ⟨ZB.out, by rw [MU.out] at ZR; exact ZR.out⟩⟩
      case measure => simp [intOf]; omega
    · obtain rfl : j = 3 := by omega
      have hR := H.out.2
      rw [mix3_all, TF.out, XE.out] at hR
      have K := Lib.hid (And.intro (Bl.of_row (n := 3) hR SO.out (by rw [← XE.out]; rfl) (Nat.le_refl 3) (by decide)) H.out.1)
      clear hR H
      go_wp2
      go_ret
      exact ⟨g0, rfl, by rw [XE.out]; exact K.out.1, K.out.2⟩
end Go.Proofs.Ytheijobnmdbodaa
