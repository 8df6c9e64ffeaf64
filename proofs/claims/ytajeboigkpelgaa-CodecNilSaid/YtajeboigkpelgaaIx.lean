/- Layer 9: the walk of CodecNil. WRITTEN BY gen_Ix.py. -/
import Derived.Test.YtajeboigkpelgaaIw
namespace Go.Proofs.Ytajeboigkpelgaa
open Go Go.RowKit
set_option linter.unusedVariables false
set_option linter.unusedSimpArgs false
theorem Cod.rB_enc {b : List Nat} (h : b.length < 2 ^ 64) : Cod.rB (Cod.enc b.length ++ b) false = (b, 0, [], false) := by
  rw [Cod.rB_in (Cod.dec_enc0 h b) (Nat.le_refl _), List.take_length, List.drop_length]
theorem ce_to {w w' : World} {p : Addr} {u : Value} (h : w.cell? p = some u) (hb : Below w.heap.size w w') : w'.cell? p = some u := (hb.cell (World.block_lt_of_cell? w _ h)).trans h
/-- The last byte of a slice of the call's own. -/
theorem OwB.last {w : World} {B : Nat} {v : Value} {l : List Nat} (h : OwB w B v l) (h0 : 0 < l.length) : ∃ g c, v = .slice (some ⟨g, 0, none⟩) l.length c ∧ B ≤ g ∧ g < w.heap.size ∧ w.frozen? ⟨g, l.length - 1, none⟩ = false ∧ ∃ y : Nat, y < 256 ∧ w.cell? ⟨g, l.length - 1, none⟩ = some (.int .u8 (y : Int)) := by
  have hb := h.bs
  rcases h.1.2 with ⟨-, h1⟩ | ⟨g, cap, cur, rfl, hg, hrow, hle, hm, hs, ht⟩
  · omega
  · obtain ⟨b, off, e, hc⟩ := hb.nth rfl (k := l.length - 1) (by omega)
    cases e
    have hr : Row w g 5 cur := hrow
    refine ⟨g, cap, rfl, hg, hr.lt, hr.frozen _, l.getD (l.length - 1) 0, hb.getD_lt _, ?_⟩
    rw [Nat.zero_add] at hc; exact hc

set_option maxHeartbeats 4000000 in
set_option maxRecDepth 100000 in
theorem nillaw_main (v0 v1 : Value) (b q : List Nat) (w : World) (h0 : Bs w v0 b) (h1 : Bs w v1 q) (hb : b.length ≤ 100) (hq : q.length ≤ 10) : Calls Try.prog 8 #[v0, v1] w (lawPost w) := by
  have H0 := Lib.hid h0
  have H1 := Lib.hid h1
  obtain ⟨A0, c0, e0⟩ := h0.form
  obtain ⟨A1, c1, e1⟩ := h1.form
  obtain ⟨n0, en0⟩ : ∃ n, b.length = n := ⟨_, rfl⟩
  obtain ⟨n1, en1⟩ : ∃ n, q.length = n := ⟨_, rfl⟩
  rw [en0] at e0 hb
  rw [en1] at e1 hq
  have E1 := Lib.hid e1
  have EN := Lib.hid (And.intro en0 en1)
  have F0 := Lib.hid (show Bs w (.slice A0 n0 c0) b by rw [← e0]; exact H0.out)
  have F1 := Lib.hid (show Bs w (.slice A1 n1 c1) q by rw [← e1]; exact H1.out)
  rw [e0, e1]
  have g0 : decide ((100 : Int) < (n0 : Int)) = false := decide_eq_false (by omega)
  have g1 : decide ((10 : Int) < (n1 : Int)) = false := decide_eq_false (by omega)
  have LL := Lib.hid (And.intro hb hq)
  clear h0 h1 e0 e1 en0 en1 H0 H1
  go_enter Try.func8, Try.ntmps8
  go_wp2_with fail
  refine (awake9 w).mono ?_
  rintro e w1 ⟨rfl, hb1⟩
  have F0_2 := Lib.hid (Bs.below F0.out (hb1))
  have F1_3 := Lib.hid (Bs.below F1.out (hb1))
  have hl4 := hb1
  have HT_5 : Hid (Below w.heap.size w w1) := Lib.hid (hl4)
  clear hb1 
  go_wp2_with fail
  have BW := Lib.hid HT_5.out
  go_loopw [6] (fun i wr => ∃ k : Nat, k ≤ n1 ∧ i = .int .i64 (k : Int) ∧ Hid (Below w1.heap.size w1 wr)) (fun i _ => n1 - (intOf i).toNat)
  case atStart => exact ⟨0, Nat.zero_le _, rfl, Lib.hid (Below.refl _ _)⟩
  case round =>
    obtain ⟨k, hk, rfl, V⟩ := hrel
    have F0r := Lib.hid (F0_2.out.below V.out)
    have F1r := Lib.hid (F1_3.out.below V.out)
    by_cases hlt : k < n1
    · have kI : (k : Int) < (n1 : Int) := by omega
      obtain ⟨b1, o1, rfl, hx⟩ := Bs.nth F1r.out rfl (k := k) hlt
      have z256 := F1r.out.getD_lt k
      generalize q.getD k 0 = z at hx z256
      have Z := Lib.hid z256
      have CX := Lib.hid hx
      clear hx z256
      go_wp2_with fail
      refine wp_region_held (P := Try.prog) (S := (fun w' : World => Below wr.heap.size wr w')) rfl ?_
      change wpAnyH _ _ _ _ _ _ _ _ wr.drew
      have hz2 : Below wr.heap.size wr wr.drew := (Below.refl wr.heap.size wr).drew
      generalize wr.drew = wz1 at hz2 ⊢
      have C_3 := Lib.hid (ce_to CX.out (hz2))
      have hl4 := hz2
      have HT_5 : Hid (Below wr.heap.size wr wz1) := Lib.hid (hl4)
      have hW6 : Below wr.heap.size wr wz1 := (Below.refl wr.heap.size wr).trans (hz2.mono (Below.refl wr.heap.size wr).size)
      refine wpAnyH_up (S' := (fun w' : World => Below wz1.heap.size wz1 w')) (fun w' h => hz2.trans (h.mono hz2.size)) ?_
      have hS7 : (fun w' : World => Below wz1.heap.size wz1 w') wz1 := Below.refl _ _
      refine takeD (i := 0) (v := .pointer none) (some 27) rfl rfl (by kernel_rfl) (by kernel_rfl) (by kernel_rfl) (fun _ _ _ h => h) (Or.inl ⟨by rfl, by rintro w' -; go_simp⟩) hS7 ?_
      simp only [Act.put, List.setIfInBounds_toArray, List.set_cons_zero, List.set_cons_succ]
      refine takeD (i := 2) (v := .slice (some ⟨b1, o1, none⟩) n1 c1) (some 29) rfl rfl (by kernel_rfl) (by kernel_rfl) (by kernel_rfl) (fun _ _ _ h => h) (Or.inl ⟨by rfl, by rintro w' -; go_simp⟩) hS7 ?_
      simp only [Act.put, List.setIfInBounds_toArray, List.set_cons_zero, List.set_cons_succ]
      refine takeD (i := 3) (v := .int .i64 (k : Int)) (some 30) rfl rfl (by kernel_rfl) (by kernel_rfl) (by kernel_rfl) (fun _ _ _ h => h) (Or.inl ⟨by rfl, by rintro w' -; go_simp⟩) hS7 ?_
      simp only [Act.put, List.setIfInBounds_toArray, List.set_cons_zero, List.set_cons_succ]
      refine takeD (i := 4) (v := .pointer (some ⟨b1, o1 + k * 1, none⟩)) (some 31) rfl rfl (by kernel_rfl) (by kernel_rfl) (by kernel_rfl) (fun _ _ _ h => h) (Or.inl ⟨by rfl, by rintro w' -; go_simp⟩) hS7 ?_
      simp only [Act.put, List.setIfInBounds_toArray, List.set_cons_zero, List.set_cons_succ]
      refine takeD (i := 5) (v := .int .u8 (z : Int)) (some 32) rfl rfl (by kernel_rfl) (by kernel_rfl) (by kernel_rfl) (fun _ _ _ h => h) (Or.inl ⟨by rfl, by rintro w' h; have hc := ce_to C_3.out h; go_simp⟩) hS7 ?_
      simp only [Act.put, List.setIfInBounds_toArray, List.set_cons_zero, List.set_cons_succ]
      refine wpAnyH_ready (rs := [1]) (by kernel_rfl) (by simp) ?_
      refine AllReadyH.cons rfl (fun K8 hK8 => ?_) AllReadyH.nil
      have HK8 := Lib.hid hK8
      clear hK8
      rw [if_pos (by rfl)]
      go_simp
      refine (rnew_any (.slice none 0 0) [] _ (Bs.nil_ _) (by decide)).mono ?_
      rintro e x9 ⟨T, p, rfl, hr, hp, hb10⟩
      have RT := Lib.hid hr
      have GE := Lib.hid hp
      have C_11 := Lib.hid (ce_to C_3.out (hb10))
      have hl12 := hb10
      have HT_13 : Hid (Below wr.heap.size wr x9) := Lib.hid (HT_5.out.trans ((hl12).mono HT_5.out.size))
      clear hr hp hb10
      have hb15 : Below wz1.heap.size wz1 x9 := hl12
      have hS14 : (fun w' : World => Below wz1.heap.size wz1 w') x9 := hb15
      refine HK8.out _ _ hS14 fun _ => ?_
      try simp only [Act.put, List.setIfInBounds_toArray, List.set_cons_zero, List.set_cons_succ]
      have hW16 : Below wr.heap.size wr x9 := hW6.trans (hb15.mono hW6.size)
      refine wpAnyH_up (S' := (fun w' : World => Chg p x9 w')) (fun w' h => hb15.trans (h.below hb15.size (fun k hk => GE.out k hk))) ?_
      have hS17 : (fun w' : World => Chg p x9 w') x9 := Chg.refl _ _
      refine wpAnyH_ready (rs := [6]) (by kernel_rfl) (by simp) ?_
      refine AllReadyH.cons rfl (fun K18 hK18 => ?_) AllReadyH.nil
      have HK18 := Lib.hid hK18
      clear hK18
      rw [if_pos (by rfl)]
      go_simp
      refine (readn_any T z p _ RT.out Z.out).mono ?_
      rintro e x19 ⟨rfl, hc20⟩
      skip
      have hb22 : Chg p x9 x19 := hc20
      have hS21 : (fun w' : World => Chg p x9 w') x19 := hb22
      refine HK18.out _ _ hS21 fun _ => ?_
      try simp only [Act.put, List.setIfInBounds_toArray, List.set_cons_zero, List.set_cons_succ]
      have hW23 : Below wr.heap.size wr x19 := hW16.trans (hb22.below hW16.size (fun k hk => Nat.le_trans hW6.size (GE.out k hk)))
      refine wpAnyH_up (S' := (fun w' : World => Below x19.heap.size x19 w')) (fun w' h => hb22.trans (below_chg h p)) ?_
      have hS24 : (fun w' : World => Below x19.heap.size x19 w') x19 := Below.refl _ _
      refine takeD (i := 7) (v := .bool false) (some 34) rfl rfl (by kernel_rfl) (by kernel_rfl) (by kernel_rfl) (fun _ _ _ h => h) (Or.inl ⟨by rfl, by rintro w' -; go_simp⟩) hS24 ?_
      simp only [Act.put, List.setIfInBounds_toArray, List.set_cons_zero, List.set_cons_succ]
      refine takeD (i := 8) (v := .bool false) (some 35) rfl rfl (by kernel_rfl) (by kernel_rfl) (by kernel_rfl) (fun _ _ _ h => h) (Or.inl ⟨by rfl, by rintro w' -; go_simp⟩) hS24 ?_
      simp only [Act.put, List.setIfInBounds_toArray, List.set_cons_zero, List.set_cons_succ]
      refine takeD (i := 9) (v := .pointer none) (some 36) rfl rfl (by kernel_rfl) (by kernel_rfl) (by kernel_rfl) (fun _ _ _ h => h) (Or.inl ⟨by rfl, by rintro w' -; go_simp⟩) hS24 ?_
      simp only [Act.put, List.setIfInBounds_toArray, List.set_cons_zero, List.set_cons_succ]
      refine wpAnyH_ready (rs := [10]) (by kernel_rfl) (by simp) ?_
      refine AllReadyH.cons rfl (fun K25 hK25 => ?_) AllReadyH.nil
      have HK25 := Lib.hid hK25
      clear hK25
      rw [if_pos (by rfl)]
      go_simp
      refine (pleft_nil _).mono ?_
      rintro e x26 ⟨rfl, hb27⟩
      have hb29 : Below x19.heap.size x19 x26 := hb27
      have hS28 : (fun w' : World => Below x19.heap.size x19 w') x26 := hb29
      refine HK25.out _ _ hS28 fun _ => ?_
      try simp only [Act.put, List.setIfInBounds_toArray, List.set_cons_zero, List.set_cons_succ]
      have hW30 : Below wr.heap.size wr x26 := hW23.trans (hb29.mono hW23.size)
      refine wpAnyH_up (S' := (fun w' : World => Below x26.heap.size x26 w')) (fun w' h => hb29.trans (h.mono hb29.size)) ?_
      have hS31 : (fun w' : World => Below x26.heap.size x26 w') x26 := Below.refl _ _
      refine takeD (i := 11) (v := .bool false) (some 38) rfl rfl (by kernel_rfl) (by kernel_rfl) (by kernel_rfl) (fun _ _ _ h => h) (Or.inl ⟨by rfl, by rintro w' -; go_simp⟩) hS31 ?_
      simp only [Act.put, List.setIfInBounds_toArray, List.set_cons_zero, List.set_cons_succ]
      refine takeD (i := 12) (v := .bool false) (some 39) rfl rfl (by kernel_rfl) (by kernel_rfl) (by kernel_rfl) (fun _ _ _ h => h) (Or.inl ⟨by rfl, by rintro w' -; go_simp⟩) hS31 ?_
      simp only [Act.put, List.setIfInBounds_toArray, List.set_cons_zero, List.set_cons_succ]
      refine takeD (i := 13) (v := .bool false) (some 40) rfl rfl (by kernel_rfl) (by kernel_rfl) (by kernel_rfl) (fun _ _ _ h => h) (Or.inl ⟨by rfl, by rintro w' -; go_simp⟩) hS31 ?_
      simp only [Act.put, List.setIfInBounds_toArray, List.set_cons_zero, List.set_cons_succ]
      refine takeD (i := 14) (v := .pointer none) (some 41) rfl rfl (by kernel_rfl) (by kernel_rfl) (by kernel_rfl) (fun _ _ _ h => h) (Or.inl ⟨by rfl, by rintro w' -; go_simp⟩) hS31 ?_
      simp only [Act.put, List.setIfInBounds_toArray, List.set_cons_zero, List.set_cons_succ]
      refine wpAnyH_ready (rs := [15]) (by kernel_rfl) (by simp) ?_
      refine AllReadyH.cons rfl (fun K32 hK32 => ?_) AllReadyH.nil
      have HK32 := Lib.hid hK32
      clear hK32
      rw [if_pos (by rfl)]
      go_simp
      refine (pdone_nil _).mono ?_
      rintro e x33 ⟨rfl, hb34⟩
      have hb36 : Below x26.heap.size x26 x33 := hb34
      have hS35 : (fun w' : World => Below x26.heap.size x26 w') x33 := hb36
      refine HK32.out _ _ hS35 fun _ => ?_
      try simp only [Act.put, List.setIfInBounds_toArray, List.set_cons_zero, List.set_cons_succ]
      have hW37 : Below wr.heap.size wr x33 := hW30.trans (hb36.mono hW30.size)
      refine wpAnyH_up (S' := (fun w' : World => Below x33.heap.size x33 w')) (fun w' h => hb36.trans (h.mono hb36.size)) ?_
      have hS38 : (fun w' : World => Below x33.heap.size x33 w') x33 := Below.refl _ _
      refine takeD (i := 16) (v := .bool false) (some 43) rfl rfl (by kernel_rfl) (by kernel_rfl) (by kernel_rfl) (fun _ _ _ h => h) (Or.inl ⟨by rfl, by rintro w' -; go_simp⟩) hS38 ?_
      simp only [Act.put, List.setIfInBounds_toArray, List.set_cons_zero, List.set_cons_succ]
      refine takeD (i := 17) (v := .bool false) (some 44) rfl rfl (by kernel_rfl) (by kernel_rfl) (by kernel_rfl) (fun _ _ _ h => h) (Or.inl ⟨by rfl, by rintro w' -; go_simp⟩) hS38 ?_
      simp only [Act.put, List.setIfInBounds_toArray, List.set_cons_zero, List.set_cons_succ]
      refine wpAnyH_done (by kernel_rfl) ?_ _
      go_wp2_with fail
      go_roundw
      case rel => exact ⟨k + 1, by omega, by go_num, Lib.hid (V.out.trans (hW37.mono V.out.size))⟩
      case measure => simp [intOf]; omega
    · obtain rfl : k = n1 := by omega
      have PB := Lib.hid (papb_any (.slice none 0 0) (.slice A0 n0 c0) [] b wr (Bs.nil_ _) F0r.out (by decide) (by have := EN.out; have := LL.out; omega))
      have RE := Lib.hid (Cod.rB_enc (b := b) (by have := EN.out; have := LL.out; omega))
      have TOT := Lib.hid (BW.out.trans (V.out.mono BW.out.size))
      have LX := Lib.hid (show (Cod.enc b.length ++ b).length ≤ 110 by rw [List.length_append]; have := Cod.enc_len10 (n := b.length) (by have := EN.out; have := LL.out; omega); have := EN.out; have := LL.out; omega)
      have LP := Lib.hid (show 0 < (Cod.enc b.length ++ b).length by rw [List.length_append]; have := Cod.enc_len_pos b.length; omega)
      rw [List.nil_append] at PB
      obtain ⟨X, hX⟩ : ∃ X : List Nat, Cod.enc b.length ++ b = X := ⟨_, rfl⟩
      rw [hX] at PB RE LX LP
      clear hX F1r V hlt
      go_wp2_with fail
      refine PB.out.mono ?_
      rintro e w2 ⟨v2, rfl, hx, hb2⟩
      obtain ⟨gx, cx, rfl, hgx, hgw, fz, y, hy, hcell⟩ := hx.last LP.out
      have XB := Lib.hid hx.bs
      have B2 := Lib.hid hb2
      have CL := Lib.hid hcell
      have FZ := Lib.hid fz
      clear hx hb2 hcell fz PB
      go_wp2_with fail
      refine (pnew_any _ X w2 XB.out (by have := LX.out; omega)).mono ?_
      rintro e w3 ⟨S, o, rfl, hr, ho, hb3⟩
      have hcell := (hb3.cell (p := ⟨gx, X.length - 1, none⟩) hgw).trans CL.out
      have fz := (hb3.frozen (p := ⟨gx, X.length - 1, none⟩) hgw).trans FZ.out
      have B3 := Lib.hid (B2.out.trans (hb3.mono B2.out.size))
      have GO := Lib.hid ho
      have RS := Lib.hid fun u => hr.chg (p := fun k => k = gx) ((Chg.refl (fun k => k = gx) w3).setCell (p := ⟨gx, X.length - 1, none⟩) rfl u) fun k hk e => by have := ho k hk; omega
      have B4 := Lib.hid fun u => B3.out.setCell (p := ⟨gx, X.length - 1, none⟩) hgx u
      clear hr ho hb3
      obtain ⟨m, hm⟩ : ∃ m, X.length = m + 1 := ⟨X.length - 1, by have := LP.out; omega⟩
      have HM := Lib.hid hm
      rw [hm, Nat.add_sub_cancel] at hcell fz
      rw [hm, Nat.add_sub_cancel] at RS B4
      have mB : m ≤ 110 := by have := LX.out; omega
      rw [hm]
      clear hm
      go_wp2_with fail
      refine (pbytes_any S X false o _ (RS.out _) (by have := LX.out; omega)).mono ?_
      unfold bPost
      rw [RE.out]
      rintro e w5 ⟨v5, rfl, hb5, hn5, hr, hc⟩
      have B5 := Lib.hid ((B4.out _).trans (hc.below (B4.out _).size fun k hk => Nat.le_trans B2.out.size (GO.out k hk)))
      have k1 := conv_bs 22 5 9 Try.underlying22 Try.underlying5 Try.underlying9 (F0r.out.below B5.out)
      have k2 := conv_bs 22 5 9 Try.underlying22 Try.underlying5 Try.underlying9 hb5
      obtain ⟨A5, c5, rfl⟩ := hb5.form
      clear hb5 hn5 hr hc
      generalize strOf b = t at *
      go_wp2_with fail
      go_ret
      exact ⟨congrArg (fun t => Ending.returned (.bool t)) (by simp), TOT.out.trans (B5.out.mono TOT.out.size)⟩
set_option maxHeartbeats 1000000 in
set_option maxRecDepth 100000 in
theorem nillaw_early (v0 v1 : Value) (b q : List Nat) (w : World) (h0 : Bs w v0 b) (h1 : Bs w v1 q) (hno : 100 < b.length ∨ 10 < q.length) : Calls Try.prog 8 #[v0, v1] w (lawPost w) := by
  have m0 := h0.len
  have m1 := h1.len
  obtain ⟨A0, c0, rfl⟩ := h0.form
  obtain ⟨A1, c1, rfl⟩ := h1.form
  clear h0 h1
  unfold maxLen at m0 m1
  generalize b.length = n0 at *
  generalize q.length = n1 at *
  by_cases hb : 100 < n0
  · have g0 : (100 : Int) < (n0 : Int) := by omega
    have g0' : decide ((100 : Int) < (n0 : Int)) = true := decide_eq_true g0
    clear hno hb
    go_enter Try.func8, Try.ntmps8
    go_wp2_with fail
    refine (awake9 w).mono ?_
    rintro e w1 ⟨rfl, hbel⟩
    have B1 := Lib.hid hbel
    clear hbel
    go_wp2_with fail
    go_ret
    exact ⟨rfl, B1.out⟩
  · have g0 : decide ((100 : Int) < (n0 : Int)) = false := decide_eq_false (by omega)
    have g1 : (10 : Int) < (n1 : Int) := by omega
    have g1' : decide ((10 : Int) < (n1 : Int)) = true := decide_eq_true g1
    clear hno hb
    go_enter Try.func8, Try.ntmps8
    go_wp2_with fail
    refine (awake9 w).mono ?_
    rintro e w1 ⟨rfl, hbel⟩
    have B1 := Lib.hid hbel
    clear hbel
    go_wp2_with fail
    go_ret
    exact ⟨rfl, B1.out⟩
theorem nillaw_walk (v0 v1 : Value) (b q : List Nat) (w : World) (h0 : Bs w v0 b) (h1 : Bs w v1 q) : Calls Try.prog 8 #[v0, v1] w (lawPost w) := by
  by_cases h : 100 < b.length ∨ 10 < q.length
  · exact nillaw_early v0 v1 b q w h0 h1 h
  · exact nillaw_main v0 v1 b q w h0 h1 (by omega) (by omega)
end Go.Proofs.Ytajeboigkpelgaa
