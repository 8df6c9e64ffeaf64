/- Caches of the reference: Do. WRITTEN BY gen_Cck.py. -/
import Derived.Test.YtbaclcpnnompnaaCcj
namespace Go.Proofs.Ytbaclcpnnompnaa
open Go Go.RowKit Med
set_option linter.unusedVariables false
set_option linter.unusedSimpArgs false

/-- What Do does. -/
def rdoPost (B K R Bn T S O : Nat) (l : List Sec) (ops : List Med.Op) (o : Med.Op) (w : World) (e : Ending) (w' : World) : Prop :=
  e = .returned (.int .i64 (opE Bn (Med.play R Bn T S O l ops) o)) ∧ Re B w' K R Bn T S O l (app ops (opE Bn (Med.play R Bn T S O l ops) o) o) ∧ Tch B tyR w w'
theorem BsT.fw {w w' : World} {v : Value} {l : List Nat} (h : BsT w v l) (hb : Below w.heap.size w w') : BsT w' v l := h.tch (Tch.of_below hb 0 []) (by simp)
theorem op_row {w : World} {b : Nat} {e : Bool} {p : Int} {u : Value} (h : Row w b 38 #[.bool e, .int .i64 p, u]) : w.rangeAt b 0 [.bool e, .int .i64 p, u] ∧ w.cell? ⟨b, 0, none⟩ = some (.bool e) ∧ w.cell? ⟨b, 1, none⟩ = some (.int .i64 p) ∧ w.cell? ⟨b, 2, none⟩ = some u := by
  have c0 : w.cell? ⟨b, 0, none⟩ = some (.bool e) := by rw [h.cell]; rfl
  have c1 : w.cell? ⟨b, 1, none⟩ = some (.int .i64 p) := by rw [h.cell]; rfl
  have c2 : w.cell? ⟨b, 2, none⟩ = some u := by rw [h.cell]; rfl
  exact ⟨by simpa using op_rng (k := 0) (off := 0) (by simpa using c0) (by simpa using c1) (by simpa using c2), c0, c1, c2⟩
set_option maxHeartbeats 4000000 in
set_option maxRecDepth 100000 in
theorem rdo12_any {B : Nat} {w : World} {K R Bn T S O : Nat} {l : List Sec} {ops : List Med.Op} (h : Re B w K R Bn T S O l ops) (o : Med.Op) (v0 : Value) (hv : Bs w v0 o.bytes) (hl0 : o.bytes.length ≤ 1000) (hn : ops.length ≤ 1000) : Calls Try.prog 38 #[.pointer (some ⟨K, 0, none⟩), .agg #[.bool o.erase, .int .i64 o.pos, v0]] w (rdoPost B K R Bn T S O l ops o w) := by
  obtain ⟨er0, x, d⟩ := o
  obtain ⟨m, A0, cc0, rfl⟩ : ∃ m A cc, v0 = .slice A m cc := by obtain ⟨A, cc, hv⟩ := hv.form; exact ⟨_, A, cc, hv⟩
  show Calls _ _ #[_, .agg #[.bool er0, .int .i64 x, .slice A0 m cc0]] w _
  have hv : Bs w (.slice A0 m cc0) d := hv
  have hl0 : d.length ≤ 1000 := hl0
  obtain ⟨B0, hB0⟩ : ∃ B, w.heap.size = B := ⟨_, rfl⟩
  obtain ⟨W0, hW0⟩ : ∃ W, w.alloc (.cells #[.bool er0, .int .i64 x, .slice A0 m cc0] 38) = W := ⟨_, rfl⟩
  have T0 : Hid (Below w.heap.size w W0) := Lib.hid (by subst hW0; exact (Below.refl _ _).alloc (Nat.le_refl _) _)
  have RB : Hid (Row W0 B0 38 #[.bool er0, .int .i64 x, .slice A0 m cc0]) := Lib.hid (by subst hW0; exact gr_new w _ _ hB0)
  have HB0 := Lib.hid hB0
  have HW0 := Lib.hid hW0
  obtain ⟨M, X, c, v, h⟩ := h
  obtain ⟨p, cap, rfl, hl, hm⟩ := h.ol.form
  obtain ⟨N, hN⟩ : ∃ n, ops.length = n := ⟨_, rfl⟩
  have EN := Lib.hid hN
  rw [hN] at h hn
  have HH := Lib.hid h
  have HN := Lib.hid hn
  have HU := Lib.hid (hv.below T0.out)
  have HL0 := Lib.hid hl0
  obtain ⟨LP, hLP⟩ : ∃ x, Med.play R Bn T S O l ops = x := ⟨_, rfl⟩
  have HLP := Lib.hid hLP
  obtain ⟨z, hz⟩ : ∃ z, opE Bn LP ⟨er0, x, d⟩ = z := ⟨_, rfl⟩
  have HZ := Lib.hid hz
  unfold rdoPost
  rw [hLP, hz]
  clear h hl hm hN hn hv hl0 hB0 hW0 hLP hz
  go_enter Try.func38, Try.ntmps38
  go_wp2_with (first | rw [HB0.out] | rw [HW0.out])
  refine wp_region_held (P := Try.prog) (S := (fun w' : World => Below W0.heap.size W0 w')) rfl ?_
  change wpAnyH _ _ _ _ _ _ _ _ W0.drew
  have hz2 : Below W0.heap.size W0 W0.drew := (Below.refl W0.heap.size W0).drew
  generalize W0.drew = wz1 at hz2 ⊢
  have hq3 : Below W0.heap.size W0 wz1 := hz2
  have HB_4 : Hid (Below W0.heap.size W0 wz1) := Lib.hid (hq3)
  clear hq3
  clear hz2
  have hS5 : (fun w' : World => Below W0.heap.size W0 w') wz1 := HB_4.out
  refine takeD (i := 0) (v := .pointer (some ⟨K, 0, none⟩)) (some 6) rfl rfl (by kernel_rfl) (by kernel_rfl) (by kernel_rfl) (fun _ _ _ h => h) (Or.inl ⟨by rfl, by rintro w' -; go_simp⟩) hS5 ?_
  simp only [Act.put, List.setIfInBounds_toArray, List.set_cons_zero, List.set_cons_succ]
  refine takeD (i := 2) (v := .agg #[.bool er0, .int .i64 x, .slice A0 m cc0]) (some 8) rfl rfl (by kernel_rfl) (by kernel_rfl) (by kernel_rfl) (fun _ _ _ h => h) (yieldsIf_load_mid (by rfl) _ _ rfl B0 0 rfl [.bool er0, .int .i64 x, .slice A0 m cc0] _ (fun w' h => (op_row (RB.out.go h)).1) Try.underlying38 rfl (by kernel_rfl)) hS5 ?_
  simp only [Act.put, List.setIfInBounds_toArray, List.set_cons_zero, List.set_cons_succ]
  refine wpAnyH_ready (rs := [1]) (by kernel_rfl) (by simp) ?_
  refine AllReadyH.cons rfl (fun K6 hK6 => ?_) AllReadyH.nil
  have HK6 := Lib.hid hK6
  clear hK6
  rw [if_pos (by rfl)]
  go_simp
  refine (rct_any (Ra.ex (HH.out.fw (T0.out.trans (HB_4.out.mono T0.out.size))))).mono ?_
  rintro e x7 ⟨M2, X2, c2, rfl, hm, hx, hb⟩
  have Q2 := Lib.hid (show W0.heap.size ≤ X2 from Nat.le_trans HB_4.out.size hx.2)
  rw [HLP.out] at hm
  have hq8 : Below wz1.heap.size wz1 x7 := hb
  have HB_9 : Hid (Below W0.heap.size W0 x7) := Lib.hid (HB_4.out.trans (hq8.mono HB_4.out.size))
  clear hq8
  have HD := Lib.hid hm
  clear hb hm hx
  have hS10 : (fun w' : World => Below W0.heap.size W0 w') x7 := HB_9.out
  refine HK6.out _ _ hS10 fun _ => ?_
  try simp only [Act.put, List.setIfInBounds_toArray, List.set_cons_zero, List.set_cons_succ]
  refine wpAnyH_ready (rs := [3]) (by kernel_rfl) (by simp) ?_
  refine AllReadyH.cons rfl (fun K11 hK11 => ?_) AllReadyH.nil
  have HK11 := Lib.hid hK11
  clear hK11
  rw [if_pos (by rfl)]
  go_simp
  have D := rdo_any HD.out ⟨er0, x, d⟩ (.slice A0 m cc0) (HU.out.below HB_9.out)
  rw [HZ.out] at D
  refine D.mono ?_
  rintro e x12 ⟨rfl, -, hc⟩
  clear D
  have hb : Below W0.heap.size x7 x12 := hc.below HB_9.out.size (fun j hj => by rw [hj]; exact Q2.out)
  have HB_13 : Hid (Below W0.heap.size W0 x12) := Lib.hid (HB_9.out.trans (hb))
  clear hb hc
  have hS14 : (fun w' : World => Below W0.heap.size W0 w') x12 := HB_13.out
  refine HK11.out _ _ hS14 fun _ => ?_
  try simp only [Act.put, List.setIfInBounds_toArray, List.set_cons_zero, List.set_cons_succ]
  refine takeD (i := 4) (v := .int .i64 z) (some 5) rfl rfl (by kernel_rfl) (by kernel_rfl) (by kernel_rfl) (fun _ _ _ h => h) (Or.inl ⟨by rfl, by rintro w' -; go_simp⟩) hS14 ?_
  simp only [Act.put, List.setIfInBounds_toArray, List.set_cons_zero, List.set_cons_succ]
  refine wpAnyH_done (by kernel_rfl) ?_ _
  have TW : Hid (Below w.heap.size w x12) := Lib.hid (T0.out.trans (HB_13.out.mono T0.out.size))
  have RQ := Lib.hid (RB.out.go HB_13.out)
  have UQ := Lib.hid (HU.out.below HB_13.out)
  by_cases h0 : z = 0
  · have d0 : ((z : Int) != 0) = false := by simp [h0]
    have Z0 := Lib.hid h0
    clear h0
    have MK := Lib.hid (OwB.made x12 (Nat.le_refl _))
    have HA := Lib.hid (UQ.out.alloc (.cells #[] 5))
    have RA := Lib.hid (RQ.out.go ((Below.refl x12.heap.size x12).alloc (Nat.le_refl _) (.cells #[] 5)))
    obtain ⟨-, -, -, q2⟩ := op_row RA.out
    go_wp2_with (first | (refine wpList_plain rfl fun _ hK' => wpB_build_0 rfl (hK' _ _ ?_)) | (at_builtin; refine wp_app rfl _ _ rfl x12.heap.size _ _ [] d rfl rfl MK.out HA.out (by have := HL0.out; simp; omega) (by simp) ?_; intro u1 y1 hown1 hg1; have hbz := ((Below.refl x12.heap.size x12).alloc (Nat.le_refl _) (.cells #[] 5)).trans hg1; have HBz := Lib.hid hbz; have OWN := Lib.hid (show OwB y1 x12.heap.size u1 d from hown1); have RY := Lib.hid (RQ.out.go hbz); obtain ⟨-, -, -, q2y⟩ := op_row RY.out; have qf := RY.out.frozen 2; obtain ⟨m1, A1, cc1, rfl⟩ : ∃ m A cc, u1 = .slice A m cc := (by obtain ⟨A, cc, e⟩ := hown1.bs.form; exact ⟨_, A, cc, e⟩); clear hbz hown1 hg1))
    have hst : Row (y1.setCell ⟨B0, 2, none⟩ (.slice A1 m1 cc1)) B0 38 #[.bool er0, .int .i64 x, .slice A1 m1 cc1] := RY.out.store 2 (.slice A1 m1 cc1)
    have hbs : Below w.heap.size w (y1.setCell ⟨B0, 2, none⟩ (.slice A1 m1 cc1)) := (TW.out.trans (HBz.out.mono TW.out.size)).setCell (p := ⟨B0, 2, none⟩) (Nat.le_of_eq HB0.out) _
    have hcs : Tch 0 [38] y1 (y1.setCell ⟨B0, 2, none⟩ (.slice A1 m1 cc1)) := (Tch.refl _ _ _).set (Nat.zero_le _) RY.out.ty (by simp) _
    have BT := Lib.hid (OWN.out.bst.tch hcs (by decide))
    generalize y1.setCell ⟨B0, 2, none⟩ (.slice A1 m1 cc1) = W5 at hst hbs hcs BT ⊢
    have CR := Lib.hid (HH.out.fw hbs)
    have QR := Lib.hid hst
    have TB := Lib.hid hbs
    have KB := Lib.hid (show B0 ≠ K from (QR.out.ty).ne CR.out.row.ty (by decide))
    clear hst hbs hcs q2 q2y qf MK HA HBz OWN RA RY RQ UQ
    refine wp_region_held (P := Try.prog) (S := (fun w' : World => Chg (fun j => j = K) W5 w')) rfl ?_
    change wpAnyH _ _ _ _ _ _ _ _ W5.drew
    have hz116 : Below W5.heap.size W5 W5.drew := (Below.refl W5.heap.size W5).drew
    generalize W5.drew = wz115 at hz116 ⊢
    have TT_117 : Hid (Below W5.heap.size W5 wz115) := Lib.hid ((Below.refl W5.heap.size W5).trans ((hz116).mono (Below.refl W5.heap.size W5).size))
    clear hz116
    have hS118 : (fun w' : World => Chg (fun j => j = K) W5 w') wz115 := (below_chg TT_117.out (fun j => j = K))
    refine takeD (i := 0) (v := .pointer (some ⟨K, 0, none⟩)) (some 18) rfl rfl (by kernel_rfl) (by kernel_rfl) (by kernel_rfl) (fun _ _ _ h => h) (Or.inl ⟨by rfl, by rintro w' -; go_simp⟩) hS118 ?_
    simp only [Act.put, List.setIfInBounds_toArray, List.set_cons_zero, List.set_cons_succ]
    refine takeD (i := 2) (v := .pointer (some ⟨K, 0, none⟩)) (some 20) rfl rfl (by kernel_rfl) (by kernel_rfl) (by kernel_rfl) (fun _ _ _ h => h) (Or.inl ⟨by rfl, by rintro w' -; go_simp⟩) hS118 ?_
    simp only [Act.put, List.setIfInBounds_toArray, List.set_cons_zero, List.set_cons_succ]
    refine takeD (i := 3) (v := .pointer (some ⟨K, 0, none⟩)) (some 21) rfl rfl (by kernel_rfl) (by kernel_rfl) (by kernel_rfl) (fun _ _ _ h => h) (Or.inl ⟨by rfl, by rintro w' -; go_simp⟩) hS118 ?_
    simp only [Act.put, List.setIfInBounds_toArray, List.set_cons_zero, List.set_cons_succ]
    refine takeD (i := 4) (v := .pointer (some ⟨K, 1, none⟩)) (some 22) rfl rfl (by kernel_rfl) (by kernel_rfl) (by kernel_rfl) (fun _ _ _ h => h) (Or.inl ⟨by rfl, by rintro w' -; go_simp⟩) hS118 ?_
    simp only [Act.put, List.setIfInBounds_toArray, List.set_cons_zero, List.set_cons_succ]
    refine takeD (i := 7) (v := .agg #[.bool er0, .int .i64 x, .slice A1 m1 cc1]) (some 25) rfl rfl (by kernel_rfl) (by kernel_rfl) (by kernel_rfl) (fun _ _ _ h => h) (yieldsIf_load_mid (by rfl) _ _ rfl B0 0 rfl [.bool er0, .int .i64 x, .slice A1 m1 cc1] _ (fun w' h => (op_row (show Row w' B0 _ _ from (Chg.block h B0 QR.out.lt KB.out).trans QR.out)).1) Try.underlying38 rfl (by kernel_rfl)) hS118 ?_
    simp only [Act.put, List.setIfInBounds_toArray, List.set_cons_zero, List.set_cons_succ]
    refine wpAnyH_ready (rs := [1, 5, 8]) (by kernel_rfl) (by simp) ?_
    refine AllReadyH.cons rfl (fun KK hK => ?_) (AllReadyH.cons rfl (fun KK hK => ?_) (AllReadyH.cons rfl (fun KK hK => ?_) AllReadyH.nil))
    · have HK119 := Lib.hid hK
      clear hK
      rw [if_pos (by rfl)]
      refine wp_build_e Try.underlying33 info_op rfl ?_
      have hq121 : Below wz115.heap.size wz115 (wz115.alloc (.cells #[] 38)) := (Below.refl _ _).alloc (Nat.le_refl _) _
      have hh122 := gr_new wz115 #[] 38 rfl
      have BG := Lib.hid TT_117.out.size
      generalize wz115.alloc (.cells #[] 38) = x120 at hq121 hh122 ⊢
      obtain ⟨b0, hb0⟩ : ∃ b, wz115.heap.size = b := ⟨_, rfl⟩
      rw [hb0] at BG hh122 ⊢
      have TT_123 : Hid (Below W5.heap.size W5 x120) := Lib.hid (TT_117.out.trans ((hq121).mono TT_117.out.size))
      have RB2 := Lib.hid hh122
      clear hq121 hh122 hb0
      have hS124 : (fun w' : World => Chg (fun j => j = K) W5 w') x120 := (below_chg TT_123.out (fun j => j = K))
      refine HK119.out _ _ hS124 fun _ => ?_
      try simp only [Act.put, List.setIfInBounds_toArray, List.set_cons_zero, List.set_cons_succ]
      refine wpAnyH_ready (rs := [5, 8]) (by kernel_rfl) (by simp) ?_
      refine AllReadyH.cons rfl (fun KK hK => ?_) (AllReadyH.cons rfl (fun KK hK => ?_) AllReadyH.nil)
      · have HK125 := Lib.hid hK
        clear hK
        rw [if_pos (by rfl)]
        have cc := (show _ = some _ from (CR.out.fw TT_123.out).cells.2)
        go_simp
        clear cc
        skip
        refine HK125.out _ _ hS124 fun _ => ?_
        try simp only [Act.put, List.setIfInBounds_toArray, List.set_cons_zero, List.set_cons_succ]
        refine wpAnyH_ready (rs := [6, 8]) (by kernel_rfl) (by simp) ?_
        refine AllReadyH.cons rfl (fun KK hK => ?_) (AllReadyH.cons rfl (fun KK hK => ?_) AllReadyH.nil)
        · have HK126 := Lib.hid hK
          clear hK
          rw [if_pos (by rfl)]
          refine wp_copy_O (Q := BsT) (A := 0) (B := b0) _ _ rfl b0 N cap p ops rfl RB2.out rfl EN.out (CR.out.fw TT_123.out).ol (by have := HN.out; omega) (Nat.le_refl _) (fun w' u l hc hq => hq.tch hc (by decide)) ?_
          intro g1 cap1 x127 ho hg
          have hcg : Tch W5.heap.size [38] x120 x127 := Tch.grown hg (fun k hk => by injection hk with hk; subst hk; exact ⟨BG.out, RB2.out.ty⟩) (by simp)
          have TT_128 : Hid (Below W5.heap.size W5 x127) := Lib.hid (TT_123.out.trans (hcg.below TT_123.out.size))
          have HO2 := Lib.hid (ho.low (Nat.zero_le _))
          have GB := Lib.hid (show ∀ k, (Value.slice (some ⟨g1, 0, none⟩) N cap1).ownBlock = some k → W5.heap.size ≤ k from fun k hk => Nat.le_trans BG.out (ho.own k hk).1)
          have HO3 := Lib.hid (ho.low BG.out)
          clear hcg ho hg
          have hS129 : (fun w' : World => Chg (fun j => j = K) W5 w') x127 := (below_chg TT_128.out (fun j => j = K))
          refine HK126.out _ _ hS129 fun _ => ?_
          try simp only [Act.put, List.setIfInBounds_toArray, List.set_cons_zero, List.set_cons_succ]
          refine wpAnyH_ready (rs := [8]) (by kernel_rfl) (by simp) ?_
          refine AllReadyH.cons rfl (fun K130 hK130 => ?_) AllReadyH.nil
          have HK130 := Lib.hid hK130
          clear hK130
          rw [if_pos (by rfl)]
          refine wp_build_op _ rfl er0 x A1 m1 cc1 rfl ?_
          have hq132 : Below x127.heap.size x127 (x127.alloc (.cells #[.bool er0, .int .i64 x, .slice A1 m1 cc1] 38)) := (Below.refl _ _).alloc (Nat.le_refl _) _
          have hh133 := gr_new x127 #[.bool er0, .int .i64 x, .slice A1 m1 cc1] 38 rfl
          generalize x127.alloc (.cells #[.bool er0, .int .i64 x, .slice A1 m1 cc1] 38) = x131 at hq132 hh133 ⊢
          obtain ⟨b1, hb1⟩ : ∃ b, x127.heap.size = b := ⟨_, rfl⟩
          rw [hb1] at hh133 ⊢
          have L_134 := Lib.hid (OlT.tch HO3.out (Tch.of_below (hq132) 0 []) (by simp) (by simp))
          have TT_135 : Hid (Below W5.heap.size W5 x131) := Lib.hid (TT_128.out.trans ((hq132).mono TT_128.out.size))
          have RB3 := Lib.hid hh133
          clear hq132 hh133 hb1
          have hS136 : (fun w' : World => Chg (fun j => j = K) W5 w') x131 := (below_chg TT_135.out (fun j => j = K))
          refine HK130.out _ _ hS136 fun _ => ?_
          try simp only [Act.put, List.setIfInBounds_toArray, List.set_cons_zero, List.set_cons_succ]
          refine wpAnyH_ready (rs := [9]) (by kernel_rfl) (by simp) ?_
          refine AllReadyH.cons rfl (fun K137 hK137 => ?_) AllReadyH.nil
          have HK137 := Lib.hid hK137
          clear hK137
          rw [if_pos (by rfl)]
          refine wp_push_O (Q := BsT) (B := W5.heap.size) _ _ rfl _ ops N b1 (.slice A1 m1 cc1) ⟨er0, x, d⟩ rfl L_134.out EN.out rfl RB3.out (BT.out.fw TT_135.out) rfl (by have := HN.out; omega) TT_135.out.size (fun w' u l hc hq => hq.tch hc (by decide)) ?_
          intro g2 cap2 x138 ho hc
          have TT_139 : Hid (Below W5.heap.size W5 x138) := Lib.hid (TT_135.out.trans (hc.below TT_135.out.size))
          have HO4 := Lib.hid (ho.low (Nat.zero_le _))
          clear ho hc
          have hS140 : (fun w' : World => Chg (fun j => j = K) W5 w') x138 := (below_chg TT_139.out (fun j => j = K))
          refine HK137.out _ _ hS140 fun _ => ?_
          try simp only [Act.put, List.setIfInBounds_toArray, List.set_cons_zero, List.set_cons_succ]
          refine takeD (i := 10) (v := .pointer (some ⟨K, 0, none⟩)) (some 28) rfl rfl (by kernel_rfl) (by kernel_rfl) (by kernel_rfl) (fun _ _ _ h => h) (Or.inl ⟨by rfl, by rintro w' -; go_simp⟩) hS140 ?_
          simp only [Act.put, List.setIfInBounds_toArray, List.set_cons_zero, List.set_cons_succ]
          refine takeD (i := 11) (v := .pointer (some ⟨K, 1, none⟩)) (some 29) rfl rfl (by kernel_rfl) (by kernel_rfl) (by kernel_rfl) (fun _ _ _ h => h) (Or.inl ⟨by rfl, by rintro w' -; go_simp⟩) hS140 ?_
          simp only [Act.put, List.setIfInBounds_toArray, List.set_cons_zero, List.set_cons_succ]
          refine wpAnyH_ready (rs := [12]) (by kernel_rfl) (by simp) ?_
          refine AllReadyH.cons rfl (fun K141 hK141 => ?_) AllReadyH.nil
          have HK141 := Lib.hid hK141
          clear hK141
          rw [if_pos (by rfl)]
          have CZ := Lib.hid (CR.out.fw TT_139.out)
          have cc := (show _ = some _ from CZ.out.cells.2)
          have ff := CZ.out.row.frozen 1
          go_simp
          clear cc ff
          have TS : Hid (Tch B [44] x138 (x138.setCell ⟨K, 1, none⟩ (.slice (some ⟨g2, 0, none⟩) (N + 1) cap2))) := Lib.hid ((Tch.refl _ _ _).set CZ.out.low.1 CZ.out.row.ty (by simp) _)
          have RS := Lib.hid (CZ.out.row.store 1 (.slice (some ⟨g2, 0, none⟩) (N + 1) cap2))
          have LS := Lib.hid (OlT.tch HO4.out TS.out (by decide) (by decide))
          have MS := Lib.hid (Md.tch TS.out CZ.out.md (by decide) (by decide))
          have TF := Lib.hid ((Tch.of_below (TB.out.trans (TT_139.out.mono TB.out.size)) B tyR).trans (tch_subR TS.out (by decide)))
          have FN : Hid (Chg (fun j => j = K) W5 (x138.setCell ⟨K, 1, none⟩ (.slice (some ⟨g2, 0, none⟩) (N + 1) cap2))) := Lib.hid ((below_chg TT_139.out (fun j => j = K)).setCell (p := ⟨K, 1, none⟩) rfl _)
          generalize x138.setCell ⟨K, 1, none⟩ (.slice (some ⟨g2, 0, none⟩) (N + 1) cap2) = W9 at TS RS LS MS TF FN ⊢
          have hS142 : (fun w' : World => Chg (fun j => j = K) W5 w') W9 := FN.out
          refine HK141.out _ _ hS142 fun _ => ?_
          refine wpAnyH_done (by kernel_rfl) ?_ _
          go_wp2_with fail
          go_ret
          refine ⟨by rw [Z0.out]; rfl, ⟨M, X, c, _, RS.out, MS.out, ?_, HH.out.low⟩, TF.out⟩
          unfold app
          rw [if_pos Z0.out]
          have h := LS.out
          exact h
        · have HK126 := Lib.hid hK
          clear hK
          rw [if_pos (by rfl)]
          refine wp_build_op _ rfl er0 x A1 m1 cc1 rfl ?_
          have hq128 : Below x120.heap.size x120 (x120.alloc (.cells #[.bool er0, .int .i64 x, .slice A1 m1 cc1] 38)) := (Below.refl _ _).alloc (Nat.le_refl _) _
          have hh129 := gr_new x120 #[.bool er0, .int .i64 x, .slice A1 m1 cc1] 38 rfl
          generalize x120.alloc (.cells #[.bool er0, .int .i64 x, .slice A1 m1 cc1] 38) = x127 at hq128 hh129 ⊢
          obtain ⟨b1, hb1⟩ : ∃ b, x120.heap.size = b := ⟨_, rfl⟩
          rw [hb1] at hh129 ⊢
          have E_130 := Lib.hid (Row.go RB2.out (hq128))
          have TT_131 : Hid (Below W5.heap.size W5 x127) := Lib.hid (TT_123.out.trans ((hq128).mono TT_123.out.size))
          have RB3 := Lib.hid hh129
          clear hq128 hh129 hb1
          have hS132 : (fun w' : World => Chg (fun j => j = K) W5 w') x127 := (below_chg TT_131.out (fun j => j = K))
          refine HK126.out _ _ hS132 fun _ => ?_
          try simp only [Act.put, List.setIfInBounds_toArray, List.set_cons_zero, List.set_cons_succ]
          refine wpAnyH_ready (rs := [6]) (by kernel_rfl) (by simp) ?_
          refine AllReadyH.cons rfl (fun K133 hK133 => ?_) AllReadyH.nil
          have HK133 := Lib.hid hK133
          clear hK133
          rw [if_pos (by rfl)]
          refine wp_copy_O (Q := BsT) (A := 0) (B := b0) _ _ rfl b0 N cap p ops rfl E_130.out rfl EN.out (CR.out.fw TT_131.out).ol (by have := HN.out; omega) (Nat.le_refl _) (fun w' u l hc hq => hq.tch hc (by decide)) ?_
          intro g1 cap1 x134 ho hg
          have hcg : Tch W5.heap.size [38] x127 x134 := Tch.grown hg (fun k hk => by injection hk with hk; subst hk; exact ⟨BG.out, E_130.out.ty⟩) (by simp)
          have TT_135 : Hid (Below W5.heap.size W5 x134) := Lib.hid (TT_131.out.trans (hcg.below TT_131.out.size))
          have HO2 := Lib.hid (ho.low (Nat.zero_le _))
          have GB := Lib.hid (show ∀ k, (Value.slice (some ⟨g1, 0, none⟩) N cap1).ownBlock = some k → W5.heap.size ≤ k from fun k hk => Nat.le_trans BG.out (ho.own k hk).1)
          have HO3 := Lib.hid (ho.low BG.out)
          have HF2 := Lib.hid (show Row x134 b1 38 #[.bool er0, .int .i64 x, .slice A1 m1 cc1] from (hg.block b1 RB3.out.lt (fun e => by injection e with e; subst e; have h9 := RB3.out.symm.trans E_130.out; simp at h9)).trans RB3.out)
          clear hcg ho hg
          have hS136 : (fun w' : World => Chg (fun j => j = K) W5 w') x134 := (below_chg TT_135.out (fun j => j = K))
          refine HK133.out _ _ hS136 fun _ => ?_
          try simp only [Act.put, List.setIfInBounds_toArray, List.set_cons_zero, List.set_cons_succ]
          refine wpAnyH_ready (rs := [9]) (by kernel_rfl) (by simp) ?_
          refine AllReadyH.cons rfl (fun K137 hK137 => ?_) AllReadyH.nil
          have HK137 := Lib.hid hK137
          clear hK137
          rw [if_pos (by rfl)]
          refine wp_push_O (Q := BsT) (B := W5.heap.size) _ _ rfl _ ops N b1 (.slice A1 m1 cc1) ⟨er0, x, d⟩ rfl HO3.out EN.out rfl HF2.out (BT.out.fw TT_135.out) rfl (by have := HN.out; omega) TT_135.out.size (fun w' u l hc hq => hq.tch hc (by decide)) ?_
          intro g2 cap2 x138 ho hc
          have TT_139 : Hid (Below W5.heap.size W5 x138) := Lib.hid (TT_135.out.trans (hc.below TT_135.out.size))
          have HO4 := Lib.hid (ho.low (Nat.zero_le _))
          clear ho hc
          have hS140 : (fun w' : World => Chg (fun j => j = K) W5 w') x138 := (below_chg TT_139.out (fun j => j = K))
          refine HK137.out _ _ hS140 fun _ => ?_
          try simp only [Act.put, List.setIfInBounds_toArray, List.set_cons_zero, List.set_cons_succ]
          refine takeD (i := 10) (v := .pointer (some ⟨K, 0, none⟩)) (some 28) rfl rfl (by kernel_rfl) (by kernel_rfl) (by kernel_rfl) (fun _ _ _ h => h) (Or.inl ⟨by rfl, by rintro w' -; go_simp⟩) hS140 ?_
          simp only [Act.put, List.setIfInBounds_toArray, List.set_cons_zero, List.set_cons_succ]
          refine takeD (i := 11) (v := .pointer (some ⟨K, 1, none⟩)) (some 29) rfl rfl (by kernel_rfl) (by kernel_rfl) (by kernel_rfl) (fun _ _ _ h => h) (Or.inl ⟨by rfl, by rintro w' -; go_simp⟩) hS140 ?_
          simp only [Act.put, List.setIfInBounds_toArray, List.set_cons_zero, List.set_cons_succ]
          refine wpAnyH_ready (rs := [12]) (by kernel_rfl) (by simp) ?_
          refine AllReadyH.cons rfl (fun K141 hK141 => ?_) AllReadyH.nil
          have HK141 := Lib.hid hK141
          clear hK141
          rw [if_pos (by rfl)]
          have CZ := Lib.hid (CR.out.fw TT_139.out)
          have cc := (show _ = some _ from CZ.out.cells.2)
          have ff := CZ.out.row.frozen 1
          go_simp
          clear cc ff
          have TS : Hid (Tch B [44] x138 (x138.setCell ⟨K, 1, none⟩ (.slice (some ⟨g2, 0, none⟩) (N + 1) cap2))) := Lib.hid ((Tch.refl _ _ _).set CZ.out.low.1 CZ.out.row.ty (by simp) _)
          have RS := Lib.hid (CZ.out.row.store 1 (.slice (some ⟨g2, 0, none⟩) (N + 1) cap2))
          have LS := Lib.hid (OlT.tch HO4.out TS.out (by decide) (by decide))
          have MS := Lib.hid (Md.tch TS.out CZ.out.md (by decide) (by decide))
          have TF := Lib.hid ((Tch.of_below (TB.out.trans (TT_139.out.mono TB.out.size)) B tyR).trans (tch_subR TS.out (by decide)))
          have FN : Hid (Chg (fun j => j = K) W5 (x138.setCell ⟨K, 1, none⟩ (.slice (some ⟨g2, 0, none⟩) (N + 1) cap2))) := Lib.hid ((below_chg TT_139.out (fun j => j = K)).setCell (p := ⟨K, 1, none⟩) rfl _)
          generalize x138.setCell ⟨K, 1, none⟩ (.slice (some ⟨g2, 0, none⟩) (N + 1) cap2) = W9 at TS RS LS MS TF FN ⊢
          have hS142 : (fun w' : World => Chg (fun j => j = K) W5 w') W9 := FN.out
          refine HK141.out _ _ hS142 fun _ => ?_
          refine wpAnyH_done (by kernel_rfl) ?_ _
          go_wp2_with fail
          go_ret
          refine ⟨by rw [Z0.out]; rfl, ⟨M, X, c, _, RS.out, MS.out, ?_, HH.out.low⟩, TF.out⟩
          unfold app
          rw [if_pos Z0.out]
          have h := LS.out
          exact h
      · have HK125 := Lib.hid hK
        clear hK
        rw [if_pos (by rfl)]
        refine wp_build_op _ rfl er0 x A1 m1 cc1 rfl ?_
        have hq127 : Below x120.heap.size x120 (x120.alloc (.cells #[.bool er0, .int .i64 x, .slice A1 m1 cc1] 38)) := (Below.refl _ _).alloc (Nat.le_refl _) _
        have hh128 := gr_new x120 #[.bool er0, .int .i64 x, .slice A1 m1 cc1] 38 rfl
        generalize x120.alloc (.cells #[.bool er0, .int .i64 x, .slice A1 m1 cc1] 38) = x126 at hq127 hh128 ⊢
        obtain ⟨b1, hb1⟩ : ∃ b, x120.heap.size = b := ⟨_, rfl⟩
        rw [hb1] at hh128 ⊢
        have E_129 := Lib.hid (Row.go RB2.out (hq127))
        have TT_130 : Hid (Below W5.heap.size W5 x126) := Lib.hid (TT_123.out.trans ((hq127).mono TT_123.out.size))
        have RB3 := Lib.hid hh128
        clear hq127 hh128 hb1
        have hS131 : (fun w' : World => Chg (fun j => j = K) W5 w') x126 := (below_chg TT_130.out (fun j => j = K))
        refine HK125.out _ _ hS131 fun _ => ?_
        try simp only [Act.put, List.setIfInBounds_toArray, List.set_cons_zero, List.set_cons_succ]
        refine wpAnyH_ready (rs := [5]) (by kernel_rfl) (by simp) ?_
        refine AllReadyH.cons rfl (fun K132 hK132 => ?_) AllReadyH.nil
        have HK132 := Lib.hid hK132
        clear hK132
        rw [if_pos (by rfl)]
        have cc := (show _ = some _ from (CR.out.fw TT_130.out).cells.2)
        go_simp
        clear cc
        skip
        refine HK132.out _ _ hS131 fun _ => ?_
        try simp only [Act.put, List.setIfInBounds_toArray, List.set_cons_zero, List.set_cons_succ]
        refine wpAnyH_ready (rs := [6]) (by kernel_rfl) (by simp) ?_
        refine AllReadyH.cons rfl (fun K133 hK133 => ?_) AllReadyH.nil
        have HK133 := Lib.hid hK133
        clear hK133
        rw [if_pos (by rfl)]
        refine wp_copy_O (Q := BsT) (A := 0) (B := b0) _ _ rfl b0 N cap p ops rfl E_129.out rfl EN.out (CR.out.fw TT_130.out).ol (by have := HN.out; omega) (Nat.le_refl _) (fun w' u l hc hq => hq.tch hc (by decide)) ?_
        intro g1 cap1 x134 ho hg
        have hcg : Tch W5.heap.size [38] x126 x134 := Tch.grown hg (fun k hk => by injection hk with hk; subst hk; exact ⟨BG.out, E_129.out.ty⟩) (by simp)
        have TT_135 : Hid (Below W5.heap.size W5 x134) := Lib.hid (TT_130.out.trans (hcg.below TT_130.out.size))
        have HO2 := Lib.hid (ho.low (Nat.zero_le _))
        have GB := Lib.hid (show ∀ k, (Value.slice (some ⟨g1, 0, none⟩) N cap1).ownBlock = some k → W5.heap.size ≤ k from fun k hk => Nat.le_trans BG.out (ho.own k hk).1)
        have HO3 := Lib.hid (ho.low BG.out)
        have HF2 := Lib.hid (show Row x134 b1 38 #[.bool er0, .int .i64 x, .slice A1 m1 cc1] from (hg.block b1 RB3.out.lt (fun e => by injection e with e; subst e; have h9 := RB3.out.symm.trans E_129.out; simp at h9)).trans RB3.out)
        clear hcg ho hg
        have hS136 : (fun w' : World => Chg (fun j => j = K) W5 w') x134 := (below_chg TT_135.out (fun j => j = K))
        refine HK133.out _ _ hS136 fun _ => ?_
        try simp only [Act.put, List.setIfInBounds_toArray, List.set_cons_zero, List.set_cons_succ]
        refine wpAnyH_ready (rs := [9]) (by kernel_rfl) (by simp) ?_
        refine AllReadyH.cons rfl (fun K137 hK137 => ?_) AllReadyH.nil
        have HK137 := Lib.hid hK137
        clear hK137
        rw [if_pos (by rfl)]
        refine wp_push_O (Q := BsT) (B := W5.heap.size) _ _ rfl _ ops N b1 (.slice A1 m1 cc1) ⟨er0, x, d⟩ rfl HO3.out EN.out rfl HF2.out (BT.out.fw TT_135.out) rfl (by have := HN.out; omega) TT_135.out.size (fun w' u l hc hq => hq.tch hc (by decide)) ?_
        intro g2 cap2 x138 ho hc
        have TT_139 : Hid (Below W5.heap.size W5 x138) := Lib.hid (TT_135.out.trans (hc.below TT_135.out.size))
        have HO4 := Lib.hid (ho.low (Nat.zero_le _))
        clear ho hc
        have hS140 : (fun w' : World => Chg (fun j => j = K) W5 w') x138 := (below_chg TT_139.out (fun j => j = K))
        refine HK137.out _ _ hS140 fun _ => ?_
        try simp only [Act.put, List.setIfInBounds_toArray, List.set_cons_zero, List.set_cons_succ]
        refine takeD (i := 10) (v := .pointer (some ⟨K, 0, none⟩)) (some 28) rfl rfl (by kernel_rfl) (by kernel_rfl) (by kernel_rfl) (fun _ _ _ h => h) (Or.inl ⟨by rfl, by rintro w' -; go_simp⟩) hS140 ?_
        simp only [Act.put, List.setIfInBounds_toArray, List.set_cons_zero, List.set_cons_succ]
        refine takeD (i := 11) (v := .pointer (some ⟨K, 1, none⟩)) (some 29) rfl rfl (by kernel_rfl) (by kernel_rfl) (by kernel_rfl) (fun _ _ _ h => h) (Or.inl ⟨by rfl, by rintro w' -; go_simp⟩) hS140 ?_
        simp only [Act.put, List.setIfInBounds_toArray, List.set_cons_zero, List.set_cons_succ]
        refine wpAnyH_ready (rs := [12]) (by kernel_rfl) (by simp) ?_
        refine AllReadyH.cons rfl (fun K141 hK141 => ?_) AllReadyH.nil
        have HK141 := Lib.hid hK141
        clear hK141
        rw [if_pos (by rfl)]
        have CZ := Lib.hid (CR.out.fw TT_139.out)
        have cc := (show _ = some _ from CZ.out.cells.2)
        have ff := CZ.out.row.frozen 1
        go_simp
        clear cc ff
        have TS : Hid (Tch B [44] x138 (x138.setCell ⟨K, 1, none⟩ (.slice (some ⟨g2, 0, none⟩) (N + 1) cap2))) := Lib.hid ((Tch.refl _ _ _).set CZ.out.low.1 CZ.out.row.ty (by simp) _)
        have RS := Lib.hid (CZ.out.row.store 1 (.slice (some ⟨g2, 0, none⟩) (N + 1) cap2))
        have LS := Lib.hid (OlT.tch HO4.out TS.out (by decide) (by decide))
        have MS := Lib.hid (Md.tch TS.out CZ.out.md (by decide) (by decide))
        have TF := Lib.hid ((Tch.of_below (TB.out.trans (TT_139.out.mono TB.out.size)) B tyR).trans (tch_subR TS.out (by decide)))
        have FN : Hid (Chg (fun j => j = K) W5 (x138.setCell ⟨K, 1, none⟩ (.slice (some ⟨g2, 0, none⟩) (N + 1) cap2))) := Lib.hid ((below_chg TT_139.out (fun j => j = K)).setCell (p := ⟨K, 1, none⟩) rfl _)
        generalize x138.setCell ⟨K, 1, none⟩ (.slice (some ⟨g2, 0, none⟩) (N + 1) cap2) = W9 at TS RS LS MS TF FN ⊢
        have hS142 : (fun w' : World => Chg (fun j => j = K) W5 w') W9 := FN.out
        refine HK141.out _ _ hS142 fun _ => ?_
        refine wpAnyH_done (by kernel_rfl) ?_ _
        go_wp2_with fail
        go_ret
        refine ⟨by rw [Z0.out]; rfl, ⟨M, X, c, _, RS.out, MS.out, ?_, HH.out.low⟩, TF.out⟩
        unfold app
        rw [if_pos Z0.out]
        have h := LS.out
        exact h
    · have HK119 := Lib.hid hK
      clear hK
      rw [if_pos (by rfl)]
      have cc := (show _ = some _ from (CR.out.fw TT_117.out).cells.2)
      go_simp
      clear cc
      skip
      refine HK119.out _ _ hS118 fun _ => ?_
      try simp only [Act.put, List.setIfInBounds_toArray, List.set_cons_zero, List.set_cons_succ]
      refine wpAnyH_ready (rs := [1, 8]) (by kernel_rfl) (by simp) ?_
      refine AllReadyH.cons rfl (fun KK hK => ?_) (AllReadyH.cons rfl (fun KK hK => ?_) AllReadyH.nil)
      · have HK120 := Lib.hid hK
        clear hK
        rw [if_pos (by rfl)]
        refine wp_build_e Try.underlying33 info_op rfl ?_
        have hq122 : Below wz115.heap.size wz115 (wz115.alloc (.cells #[] 38)) := (Below.refl _ _).alloc (Nat.le_refl _) _
        have hh123 := gr_new wz115 #[] 38 rfl
        have BG := Lib.hid TT_117.out.size
        generalize wz115.alloc (.cells #[] 38) = x121 at hq122 hh123 ⊢
        obtain ⟨b0, hb0⟩ : ∃ b, wz115.heap.size = b := ⟨_, rfl⟩
        rw [hb0] at BG hh123 ⊢
        have TT_124 : Hid (Below W5.heap.size W5 x121) := Lib.hid (TT_117.out.trans ((hq122).mono TT_117.out.size))
        have RB2 := Lib.hid hh123
        clear hq122 hh123 hb0
        have hS125 : (fun w' : World => Chg (fun j => j = K) W5 w') x121 := (below_chg TT_124.out (fun j => j = K))
        refine HK120.out _ _ hS125 fun _ => ?_
        try simp only [Act.put, List.setIfInBounds_toArray, List.set_cons_zero, List.set_cons_succ]
        refine wpAnyH_ready (rs := [6, 8]) (by kernel_rfl) (by simp) ?_
        refine AllReadyH.cons rfl (fun KK hK => ?_) (AllReadyH.cons rfl (fun KK hK => ?_) AllReadyH.nil)
        · have HK126 := Lib.hid hK
          clear hK
          rw [if_pos (by rfl)]
          refine wp_copy_O (Q := BsT) (A := 0) (B := b0) _ _ rfl b0 N cap p ops rfl RB2.out rfl EN.out (CR.out.fw TT_124.out).ol (by have := HN.out; omega) (Nat.le_refl _) (fun w' u l hc hq => hq.tch hc (by decide)) ?_
          intro g1 cap1 x127 ho hg
          have hcg : Tch W5.heap.size [38] x121 x127 := Tch.grown hg (fun k hk => by injection hk with hk; subst hk; exact ⟨BG.out, RB2.out.ty⟩) (by simp)
          have TT_128 : Hid (Below W5.heap.size W5 x127) := Lib.hid (TT_124.out.trans (hcg.below TT_124.out.size))
          have HO2 := Lib.hid (ho.low (Nat.zero_le _))
          have GB := Lib.hid (show ∀ k, (Value.slice (some ⟨g1, 0, none⟩) N cap1).ownBlock = some k → W5.heap.size ≤ k from fun k hk => Nat.le_trans BG.out (ho.own k hk).1)
          have HO3 := Lib.hid (ho.low BG.out)
          clear hcg ho hg
          have hS129 : (fun w' : World => Chg (fun j => j = K) W5 w') x127 := (below_chg TT_128.out (fun j => j = K))
          refine HK126.out _ _ hS129 fun _ => ?_
          try simp only [Act.put, List.setIfInBounds_toArray, List.set_cons_zero, List.set_cons_succ]
          refine wpAnyH_ready (rs := [8]) (by kernel_rfl) (by simp) ?_
          refine AllReadyH.cons rfl (fun K130 hK130 => ?_) AllReadyH.nil
          have HK130 := Lib.hid hK130
          clear hK130
          rw [if_pos (by rfl)]
          refine wp_build_op _ rfl er0 x A1 m1 cc1 rfl ?_
          have hq132 : Below x127.heap.size x127 (x127.alloc (.cells #[.bool er0, .int .i64 x, .slice A1 m1 cc1] 38)) := (Below.refl _ _).alloc (Nat.le_refl _) _
          have hh133 := gr_new x127 #[.bool er0, .int .i64 x, .slice A1 m1 cc1] 38 rfl
          generalize x127.alloc (.cells #[.bool er0, .int .i64 x, .slice A1 m1 cc1] 38) = x131 at hq132 hh133 ⊢
          obtain ⟨b1, hb1⟩ : ∃ b, x127.heap.size = b := ⟨_, rfl⟩
          rw [hb1] at hh133 ⊢
          have L_134 := Lib.hid (OlT.tch HO3.out (Tch.of_below (hq132) 0 []) (by simp) (by simp))
          have TT_135 : Hid (Below W5.heap.size W5 x131) := Lib.hid (TT_128.out.trans ((hq132).mono TT_128.out.size))
          have RB3 := Lib.hid hh133
          clear hq132 hh133 hb1
          have hS136 : (fun w' : World => Chg (fun j => j = K) W5 w') x131 := (below_chg TT_135.out (fun j => j = K))
          refine HK130.out _ _ hS136 fun _ => ?_
          try simp only [Act.put, List.setIfInBounds_toArray, List.set_cons_zero, List.set_cons_succ]
          refine wpAnyH_ready (rs := [9]) (by kernel_rfl) (by simp) ?_
          refine AllReadyH.cons rfl (fun K137 hK137 => ?_) AllReadyH.nil
          have HK137 := Lib.hid hK137
          clear hK137
          rw [if_pos (by rfl)]
          refine wp_push_O (Q := BsT) (B := W5.heap.size) _ _ rfl _ ops N b1 (.slice A1 m1 cc1) ⟨er0, x, d⟩ rfl L_134.out EN.out rfl RB3.out (BT.out.fw TT_135.out) rfl (by have := HN.out; omega) TT_135.out.size (fun w' u l hc hq => hq.tch hc (by decide)) ?_
          intro g2 cap2 x138 ho hc
          have TT_139 : Hid (Below W5.heap.size W5 x138) := Lib.hid (TT_135.out.trans (hc.below TT_135.out.size))
          have HO4 := Lib.hid (ho.low (Nat.zero_le _))
          clear ho hc
          have hS140 : (fun w' : World => Chg (fun j => j = K) W5 w') x138 := (below_chg TT_139.out (fun j => j = K))
          refine HK137.out _ _ hS140 fun _ => ?_
          try simp only [Act.put, List.setIfInBounds_toArray, List.set_cons_zero, List.set_cons_succ]
          refine takeD (i := 10) (v := .pointer (some ⟨K, 0, none⟩)) (some 28) rfl rfl (by kernel_rfl) (by kernel_rfl) (by kernel_rfl) (fun _ _ _ h => h) (Or.inl ⟨by rfl, by rintro w' -; go_simp⟩) hS140 ?_
          simp only [Act.put, List.setIfInBounds_toArray, List.set_cons_zero, List.set_cons_succ]
          refine takeD (i := 11) (v := .pointer (some ⟨K, 1, none⟩)) (some 29) rfl rfl (by kernel_rfl) (by kernel_rfl) (by kernel_rfl) (fun _ _ _ h => h) (Or.inl ⟨by rfl, by rintro w' -; go_simp⟩) hS140 ?_
          simp only [Act.put, List.setIfInBounds_toArray, List.set_cons_zero, List.set_cons_succ]
          refine wpAnyH_ready (rs := [12]) (by kernel_rfl) (by simp) ?_
          refine AllReadyH.cons rfl (fun K141 hK141 => ?_) AllReadyH.nil
          have HK141 := Lib.hid hK141
          clear hK141
          rw [if_pos (by rfl)]
          have CZ := Lib.hid (CR.out.fw TT_139.out)
          have cc := (show _ = some _ from CZ.out.cells.2)
          have ff := CZ.out.row.frozen 1
          go_simp
          clear cc ff
          have TS : Hid (Tch B [44] x138 (x138.setCell ⟨K, 1, none⟩ (.slice (some ⟨g2, 0, none⟩) (N + 1) cap2))) := Lib.hid ((Tch.refl _ _ _).set CZ.out.low.1 CZ.out.row.ty (by simp) _)
          have RS := Lib.hid (CZ.out.row.store 1 (.slice (some ⟨g2, 0, none⟩) (N + 1) cap2))
          have LS := Lib.hid (OlT.tch HO4.out TS.out (by decide) (by decide))
          have MS := Lib.hid (Md.tch TS.out CZ.out.md (by decide) (by decide))
          have TF := Lib.hid ((Tch.of_below (TB.out.trans (TT_139.out.mono TB.out.size)) B tyR).trans (tch_subR TS.out (by decide)))
          have FN : Hid (Chg (fun j => j = K) W5 (x138.setCell ⟨K, 1, none⟩ (.slice (some ⟨g2, 0, none⟩) (N + 1) cap2))) := Lib.hid ((below_chg TT_139.out (fun j => j = K)).setCell (p := ⟨K, 1, none⟩) rfl _)
          generalize x138.setCell ⟨K, 1, none⟩ (.slice (some ⟨g2, 0, none⟩) (N + 1) cap2) = W9 at TS RS LS MS TF FN ⊢
          have hS142 : (fun w' : World => Chg (fun j => j = K) W5 w') W9 := FN.out
          refine HK141.out _ _ hS142 fun _ => ?_
          refine wpAnyH_done (by kernel_rfl) ?_ _
          go_wp2_with fail
          go_ret
          refine ⟨by rw [Z0.out]; rfl, ⟨M, X, c, _, RS.out, MS.out, ?_, HH.out.low⟩, TF.out⟩
          unfold app
          rw [if_pos Z0.out]
          have h := LS.out
          exact h
        · have HK126 := Lib.hid hK
          clear hK
          rw [if_pos (by rfl)]
          refine wp_build_op _ rfl er0 x A1 m1 cc1 rfl ?_
          have hq128 : Below x121.heap.size x121 (x121.alloc (.cells #[.bool er0, .int .i64 x, .slice A1 m1 cc1] 38)) := (Below.refl _ _).alloc (Nat.le_refl _) _
          have hh129 := gr_new x121 #[.bool er0, .int .i64 x, .slice A1 m1 cc1] 38 rfl
          generalize x121.alloc (.cells #[.bool er0, .int .i64 x, .slice A1 m1 cc1] 38) = x127 at hq128 hh129 ⊢
          obtain ⟨b1, hb1⟩ : ∃ b, x121.heap.size = b := ⟨_, rfl⟩
          rw [hb1] at hh129 ⊢
          have E_130 := Lib.hid (Row.go RB2.out (hq128))
          have TT_131 : Hid (Below W5.heap.size W5 x127) := Lib.hid (TT_124.out.trans ((hq128).mono TT_124.out.size))
          have RB3 := Lib.hid hh129
          clear hq128 hh129 hb1
          have hS132 : (fun w' : World => Chg (fun j => j = K) W5 w') x127 := (below_chg TT_131.out (fun j => j = K))
          refine HK126.out _ _ hS132 fun _ => ?_
          try simp only [Act.put, List.setIfInBounds_toArray, List.set_cons_zero, List.set_cons_succ]
          refine wpAnyH_ready (rs := [6]) (by kernel_rfl) (by simp) ?_
          refine AllReadyH.cons rfl (fun K133 hK133 => ?_) AllReadyH.nil
          have HK133 := Lib.hid hK133
          clear hK133
          rw [if_pos (by rfl)]
          refine wp_copy_O (Q := BsT) (A := 0) (B := b0) _ _ rfl b0 N cap p ops rfl E_130.out rfl EN.out (CR.out.fw TT_131.out).ol (by have := HN.out; omega) (Nat.le_refl _) (fun w' u l hc hq => hq.tch hc (by decide)) ?_
          intro g1 cap1 x134 ho hg
          have hcg : Tch W5.heap.size [38] x127 x134 := Tch.grown hg (fun k hk => by injection hk with hk; subst hk; exact ⟨BG.out, E_130.out.ty⟩) (by simp)
          have TT_135 : Hid (Below W5.heap.size W5 x134) := Lib.hid (TT_131.out.trans (hcg.below TT_131.out.size))
          have HO2 := Lib.hid (ho.low (Nat.zero_le _))
          have GB := Lib.hid (show ∀ k, (Value.slice (some ⟨g1, 0, none⟩) N cap1).ownBlock = some k → W5.heap.size ≤ k from fun k hk => Nat.le_trans BG.out (ho.own k hk).1)
          have HO3 := Lib.hid (ho.low BG.out)
          have HF2 := Lib.hid (show Row x134 b1 38 #[.bool er0, .int .i64 x, .slice A1 m1 cc1] from (hg.block b1 RB3.out.lt (fun e => by injection e with e; subst e; have h9 := RB3.out.symm.trans E_130.out; simp at h9)).trans RB3.out)
          clear hcg ho hg
          have hS136 : (fun w' : World => Chg (fun j => j = K) W5 w') x134 := (below_chg TT_135.out (fun j => j = K))
          refine HK133.out _ _ hS136 fun _ => ?_
          try simp only [Act.put, List.setIfInBounds_toArray, List.set_cons_zero, List.set_cons_succ]
          refine wpAnyH_ready (rs := [9]) (by kernel_rfl) (by simp) ?_
          refine AllReadyH.cons rfl (fun K137 hK137 => ?_) AllReadyH.nil
          have HK137 := Lib.hid hK137
          clear hK137
          rw [if_pos (by rfl)]
          refine wp_push_O (Q := BsT) (B := W5.heap.size) _ _ rfl _ ops N b1 (.slice A1 m1 cc1) ⟨er0, x, d⟩ rfl HO3.out EN.out rfl HF2.out (BT.out.fw TT_135.out) rfl (by have := HN.out; omega) TT_135.out.size (fun w' u l hc hq => hq.tch hc (by decide)) ?_
          intro g2 cap2 x138 ho hc
          have TT_139 : Hid (Below W5.heap.size W5 x138) := Lib.hid (TT_135.out.trans (hc.below TT_135.out.size))
          have HO4 := Lib.hid (ho.low (Nat.zero_le _))
          clear ho hc
          have hS140 : (fun w' : World => Chg (fun j => j = K) W5 w') x138 := (below_chg TT_139.out (fun j => j = K))
          refine HK137.out _ _ hS140 fun _ => ?_
          try simp only [Act.put, List.setIfInBounds_toArray, List.set_cons_zero, List.set_cons_succ]
          refine takeD (i := 10) (v := .pointer (some ⟨K, 0, none⟩)) (some 28) rfl rfl (by kernel_rfl) (by kernel_rfl) (by kernel_rfl) (fun _ _ _ h => h) (Or.inl ⟨by rfl, by rintro w' -; go_simp⟩) hS140 ?_
          simp only [Act.put, List.setIfInBounds_toArray, List.set_cons_zero, List.set_cons_succ]
          refine takeD (i := 11) (v := .pointer (some ⟨K, 1, none⟩)) (some 29) rfl rfl (by kernel_rfl) (by kernel_rfl) (by kernel_rfl) (fun _ _ _ h => h) (Or.inl ⟨by rfl, by rintro w' -; go_simp⟩) hS140 ?_
          simp only [Act.put, List.setIfInBounds_toArray, List.set_cons_zero, List.set_cons_succ]
          refine wpAnyH_ready (rs := [12]) (by kernel_rfl) (by simp) ?_
          refine AllReadyH.cons rfl (fun K141 hK141 => ?_) AllReadyH.nil
          have HK141 := Lib.hid hK141
          clear hK141
          rw [if_pos (by rfl)]
          have CZ := Lib.hid (CR.out.fw TT_139.out)
          have cc := (show _ = some _ from CZ.out.cells.2)
          have ff := CZ.out.row.frozen 1
          go_simp
          clear cc ff
          have TS : Hid (Tch B [44] x138 (x138.setCell ⟨K, 1, none⟩ (.slice (some ⟨g2, 0, none⟩) (N + 1) cap2))) := Lib.hid ((Tch.refl _ _ _).set CZ.out.low.1 CZ.out.row.ty (by simp) _)
          have RS := Lib.hid (CZ.out.row.store 1 (.slice (some ⟨g2, 0, none⟩) (N + 1) cap2))
          have LS := Lib.hid (OlT.tch HO4.out TS.out (by decide) (by decide))
          have MS := Lib.hid (Md.tch TS.out CZ.out.md (by decide) (by decide))
          have TF := Lib.hid ((Tch.of_below (TB.out.trans (TT_139.out.mono TB.out.size)) B tyR).trans (tch_subR TS.out (by decide)))
          have FN : Hid (Chg (fun j => j = K) W5 (x138.setCell ⟨K, 1, none⟩ (.slice (some ⟨g2, 0, none⟩) (N + 1) cap2))) := Lib.hid ((below_chg TT_139.out (fun j => j = K)).setCell (p := ⟨K, 1, none⟩) rfl _)
          generalize x138.setCell ⟨K, 1, none⟩ (.slice (some ⟨g2, 0, none⟩) (N + 1) cap2) = W9 at TS RS LS MS TF FN ⊢
          have hS142 : (fun w' : World => Chg (fun j => j = K) W5 w') W9 := FN.out
          refine HK141.out _ _ hS142 fun _ => ?_
          refine wpAnyH_done (by kernel_rfl) ?_ _
          go_wp2_with fail
          go_ret
          refine ⟨by rw [Z0.out]; rfl, ⟨M, X, c, _, RS.out, MS.out, ?_, HH.out.low⟩, TF.out⟩
          unfold app
          rw [if_pos Z0.out]
          have h := LS.out
          exact h
      · have HK120 := Lib.hid hK
        clear hK
        rw [if_pos (by rfl)]
        refine wp_build_op _ rfl er0 x A1 m1 cc1 rfl ?_
        have hq122 : Below wz115.heap.size wz115 (wz115.alloc (.cells #[.bool er0, .int .i64 x, .slice A1 m1 cc1] 38)) := (Below.refl _ _).alloc (Nat.le_refl _) _
        have hh123 := gr_new wz115 #[.bool er0, .int .i64 x, .slice A1 m1 cc1] 38 rfl
        generalize wz115.alloc (.cells #[.bool er0, .int .i64 x, .slice A1 m1 cc1] 38) = x121 at hq122 hh123 ⊢
        obtain ⟨b1, hb1⟩ : ∃ b, wz115.heap.size = b := ⟨_, rfl⟩
        rw [hb1] at hh123 ⊢
        have TT_124 : Hid (Below W5.heap.size W5 x121) := Lib.hid (TT_117.out.trans ((hq122).mono TT_117.out.size))
        have RB3 := Lib.hid hh123
        clear hq122 hh123 hb1
        have hS125 : (fun w' : World => Chg (fun j => j = K) W5 w') x121 := (below_chg TT_124.out (fun j => j = K))
        refine HK120.out _ _ hS125 fun _ => ?_
        try simp only [Act.put, List.setIfInBounds_toArray, List.set_cons_zero, List.set_cons_succ]
        refine wpAnyH_ready (rs := [1]) (by kernel_rfl) (by simp) ?_
        refine AllReadyH.cons rfl (fun K126 hK126 => ?_) AllReadyH.nil
        have HK126 := Lib.hid hK126
        clear hK126
        rw [if_pos (by rfl)]
        refine wp_build_e Try.underlying33 info_op rfl ?_
        have hq128 : Below x121.heap.size x121 (x121.alloc (.cells #[] 38)) := (Below.refl _ _).alloc (Nat.le_refl _) _
        have hh129 := gr_new x121 #[] 38 rfl
        have BG := Lib.hid TT_124.out.size
        generalize x121.alloc (.cells #[] 38) = x127 at hq128 hh129 ⊢
        obtain ⟨b0, hb0⟩ : ∃ b, x121.heap.size = b := ⟨_, rfl⟩
        rw [hb0] at BG hh129 ⊢
        have F_130 := Lib.hid (Row.go RB3.out (hq128))
        have TT_131 : Hid (Below W5.heap.size W5 x127) := Lib.hid (TT_124.out.trans ((hq128).mono TT_124.out.size))
        have RB2 := Lib.hid hh129
        clear hq128 hh129 hb0
        have hS132 : (fun w' : World => Chg (fun j => j = K) W5 w') x127 := (below_chg TT_131.out (fun j => j = K))
        refine HK126.out _ _ hS132 fun _ => ?_
        try simp only [Act.put, List.setIfInBounds_toArray, List.set_cons_zero, List.set_cons_succ]
        refine wpAnyH_ready (rs := [6]) (by kernel_rfl) (by simp) ?_
        refine AllReadyH.cons rfl (fun K133 hK133 => ?_) AllReadyH.nil
        have HK133 := Lib.hid hK133
        clear hK133
        rw [if_pos (by rfl)]
        refine wp_copy_O (Q := BsT) (A := 0) (B := b0) _ _ rfl b0 N cap p ops rfl RB2.out rfl EN.out (CR.out.fw TT_131.out).ol (by have := HN.out; omega) (Nat.le_refl _) (fun w' u l hc hq => hq.tch hc (by decide)) ?_
        intro g1 cap1 x134 ho hg
        have hcg : Tch W5.heap.size [38] x127 x134 := Tch.grown hg (fun k hk => by injection hk with hk; subst hk; exact ⟨BG.out, RB2.out.ty⟩) (by simp)
        have TT_135 : Hid (Below W5.heap.size W5 x134) := Lib.hid (TT_131.out.trans (hcg.below TT_131.out.size))
        have HO2 := Lib.hid (ho.low (Nat.zero_le _))
        have GB := Lib.hid (show ∀ k, (Value.slice (some ⟨g1, 0, none⟩) N cap1).ownBlock = some k → W5.heap.size ≤ k from fun k hk => Nat.le_trans BG.out (ho.own k hk).1)
        have HO3 := Lib.hid (ho.low BG.out)
        have HF2 := Lib.hid (show Row x134 b1 38 #[.bool er0, .int .i64 x, .slice A1 m1 cc1] from (hg.block b1 F_130.out.lt (fun e => by injection e with e; subst e; have h9 := F_130.out.symm.trans RB2.out; simp at h9)).trans F_130.out)
        clear hcg ho hg
        have hS136 : (fun w' : World => Chg (fun j => j = K) W5 w') x134 := (below_chg TT_135.out (fun j => j = K))
        refine HK133.out _ _ hS136 fun _ => ?_
        try simp only [Act.put, List.setIfInBounds_toArray, List.set_cons_zero, List.set_cons_succ]
        refine wpAnyH_ready (rs := [9]) (by kernel_rfl) (by simp) ?_
        refine AllReadyH.cons rfl (fun K137 hK137 => ?_) AllReadyH.nil
        have HK137 := Lib.hid hK137
        clear hK137
        rw [if_pos (by rfl)]
        refine wp_push_O (Q := BsT) (B := W5.heap.size) _ _ rfl _ ops N b1 (.slice A1 m1 cc1) ⟨er0, x, d⟩ rfl HO3.out EN.out rfl HF2.out (BT.out.fw TT_135.out) rfl (by have := HN.out; omega) TT_135.out.size (fun w' u l hc hq => hq.tch hc (by decide)) ?_
        intro g2 cap2 x138 ho hc
        have TT_139 : Hid (Below W5.heap.size W5 x138) := Lib.hid (TT_135.out.trans (hc.below TT_135.out.size))
        have HO4 := Lib.hid (ho.low (Nat.zero_le _))
        clear ho hc
        have hS140 : (fun w' : World => Chg (fun j => j = K) W5 w') x138 := (below_chg TT_139.out (fun j => j = K))
        refine HK137.out _ _ hS140 fun _ => ?_
        try simp only [Act.put, List.setIfInBounds_toArray, List.set_cons_zero, List.set_cons_succ]
        refine takeD (i := 10) (v := .pointer (some ⟨K, 0, none⟩)) (some 28) rfl rfl (by kernel_rfl) (by kernel_rfl) (by kernel_rfl) (fun _ _ _ h => h) (Or.inl ⟨by rfl, by rintro w' -; go_simp⟩) hS140 ?_
        simp only [Act.put, List.setIfInBounds_toArray, List.set_cons_zero, List.set_cons_succ]
        refine takeD (i := 11) (v := .pointer (some ⟨K, 1, none⟩)) (some 29) rfl rfl (by kernel_rfl) (by kernel_rfl) (by kernel_rfl) (fun _ _ _ h => h) (Or.inl ⟨by rfl, by rintro w' -; go_simp⟩) hS140 ?_
        simp only [Act.put, List.setIfInBounds_toArray, List.set_cons_zero, List.set_cons_succ]
        refine wpAnyH_ready (rs := [12]) (by kernel_rfl) (by simp) ?_
        refine AllReadyH.cons rfl (fun K141 hK141 => ?_) AllReadyH.nil
        have HK141 := Lib.hid hK141
        clear hK141
        rw [if_pos (by rfl)]
        have CZ := Lib.hid (CR.out.fw TT_139.out)
        have cc := (show _ = some _ from CZ.out.cells.2)
        have ff := CZ.out.row.frozen 1
        go_simp
        clear cc ff
        have TS : Hid (Tch B [44] x138 (x138.setCell ⟨K, 1, none⟩ (.slice (some ⟨g2, 0, none⟩) (N + 1) cap2))) := Lib.hid ((Tch.refl _ _ _).set CZ.out.low.1 CZ.out.row.ty (by simp) _)
        have RS := Lib.hid (CZ.out.row.store 1 (.slice (some ⟨g2, 0, none⟩) (N + 1) cap2))
        have LS := Lib.hid (OlT.tch HO4.out TS.out (by decide) (by decide))
        have MS := Lib.hid (Md.tch TS.out CZ.out.md (by decide) (by decide))
        have TF := Lib.hid ((Tch.of_below (TB.out.trans (TT_139.out.mono TB.out.size)) B tyR).trans (tch_subR TS.out (by decide)))
        have FN : Hid (Chg (fun j => j = K) W5 (x138.setCell ⟨K, 1, none⟩ (.slice (some ⟨g2, 0, none⟩) (N + 1) cap2))) := Lib.hid ((below_chg TT_139.out (fun j => j = K)).setCell (p := ⟨K, 1, none⟩) rfl _)
        generalize x138.setCell ⟨K, 1, none⟩ (.slice (some ⟨g2, 0, none⟩) (N + 1) cap2) = W9 at TS RS LS MS TF FN ⊢
        have hS142 : (fun w' : World => Chg (fun j => j = K) W5 w') W9 := FN.out
        refine HK141.out _ _ hS142 fun _ => ?_
        refine wpAnyH_done (by kernel_rfl) ?_ _
        go_wp2_with fail
        go_ret
        refine ⟨by rw [Z0.out]; rfl, ⟨M, X, c, _, RS.out, MS.out, ?_, HH.out.low⟩, TF.out⟩
        unfold app
        rw [if_pos Z0.out]
        have h := LS.out
        exact h
    · have HK119 := Lib.hid hK
      clear hK
      rw [if_pos (by rfl)]
      refine wp_build_op _ rfl er0 x A1 m1 cc1 rfl ?_
      have hq121 : Below wz115.heap.size wz115 (wz115.alloc (.cells #[.bool er0, .int .i64 x, .slice A1 m1 cc1] 38)) := (Below.refl _ _).alloc (Nat.le_refl _) _
      have hh122 := gr_new wz115 #[.bool er0, .int .i64 x, .slice A1 m1 cc1] 38 rfl
      generalize wz115.alloc (.cells #[.bool er0, .int .i64 x, .slice A1 m1 cc1] 38) = x120 at hq121 hh122 ⊢
      obtain ⟨b1, hb1⟩ : ∃ b, wz115.heap.size = b := ⟨_, rfl⟩
      rw [hb1] at hh122 ⊢
      have TT_123 : Hid (Below W5.heap.size W5 x120) := Lib.hid (TT_117.out.trans ((hq121).mono TT_117.out.size))
      have RB3 := Lib.hid hh122
      clear hq121 hh122 hb1
      have hS124 : (fun w' : World => Chg (fun j => j = K) W5 w') x120 := (below_chg TT_123.out (fun j => j = K))
      refine HK119.out _ _ hS124 fun _ => ?_
      try simp only [Act.put, List.setIfInBounds_toArray, List.set_cons_zero, List.set_cons_succ]
      refine wpAnyH_ready (rs := [1, 5]) (by kernel_rfl) (by simp) ?_
      refine AllReadyH.cons rfl (fun KK hK => ?_) (AllReadyH.cons rfl (fun KK hK => ?_) AllReadyH.nil)
      · have HK125 := Lib.hid hK
        clear hK
        rw [if_pos (by rfl)]
        refine wp_build_e Try.underlying33 info_op rfl ?_
        have hq127 : Below x120.heap.size x120 (x120.alloc (.cells #[] 38)) := (Below.refl _ _).alloc (Nat.le_refl _) _
        have hh128 := gr_new x120 #[] 38 rfl
        have BG := Lib.hid TT_123.out.size
        generalize x120.alloc (.cells #[] 38) = x126 at hq127 hh128 ⊢
        obtain ⟨b0, hb0⟩ : ∃ b, x120.heap.size = b := ⟨_, rfl⟩
        rw [hb0] at BG hh128 ⊢
        have F_129 := Lib.hid (Row.go RB3.out (hq127))
        have TT_130 : Hid (Below W5.heap.size W5 x126) := Lib.hid (TT_123.out.trans ((hq127).mono TT_123.out.size))
        have RB2 := Lib.hid hh128
        clear hq127 hh128 hb0
        have hS131 : (fun w' : World => Chg (fun j => j = K) W5 w') x126 := (below_chg TT_130.out (fun j => j = K))
        refine HK125.out _ _ hS131 fun _ => ?_
        try simp only [Act.put, List.setIfInBounds_toArray, List.set_cons_zero, List.set_cons_succ]
        refine wpAnyH_ready (rs := [5]) (by kernel_rfl) (by simp) ?_
        refine AllReadyH.cons rfl (fun K132 hK132 => ?_) AllReadyH.nil
        have HK132 := Lib.hid hK132
        clear hK132
        rw [if_pos (by rfl)]
        have cc := (show _ = some _ from (CR.out.fw TT_130.out).cells.2)
        go_simp
        clear cc
        skip
        refine HK132.out _ _ hS131 fun _ => ?_
        try simp only [Act.put, List.setIfInBounds_toArray, List.set_cons_zero, List.set_cons_succ]
        refine wpAnyH_ready (rs := [6]) (by kernel_rfl) (by simp) ?_
        refine AllReadyH.cons rfl (fun K133 hK133 => ?_) AllReadyH.nil
        have HK133 := Lib.hid hK133
        clear hK133
        rw [if_pos (by rfl)]
        refine wp_copy_O (Q := BsT) (A := 0) (B := b0) _ _ rfl b0 N cap p ops rfl RB2.out rfl EN.out (CR.out.fw TT_130.out).ol (by have := HN.out; omega) (Nat.le_refl _) (fun w' u l hc hq => hq.tch hc (by decide)) ?_
        intro g1 cap1 x134 ho hg
        have hcg : Tch W5.heap.size [38] x126 x134 := Tch.grown hg (fun k hk => by injection hk with hk; subst hk; exact ⟨BG.out, RB2.out.ty⟩) (by simp)
        have TT_135 : Hid (Below W5.heap.size W5 x134) := Lib.hid (TT_130.out.trans (hcg.below TT_130.out.size))
        have HO2 := Lib.hid (ho.low (Nat.zero_le _))
        have GB := Lib.hid (show ∀ k, (Value.slice (some ⟨g1, 0, none⟩) N cap1).ownBlock = some k → W5.heap.size ≤ k from fun k hk => Nat.le_trans BG.out (ho.own k hk).1)
        have HO3 := Lib.hid (ho.low BG.out)
        have HF2 := Lib.hid (show Row x134 b1 38 #[.bool er0, .int .i64 x, .slice A1 m1 cc1] from (hg.block b1 F_129.out.lt (fun e => by injection e with e; subst e; have h9 := F_129.out.symm.trans RB2.out; simp at h9)).trans F_129.out)
        clear hcg ho hg
        have hS136 : (fun w' : World => Chg (fun j => j = K) W5 w') x134 := (below_chg TT_135.out (fun j => j = K))
        refine HK133.out _ _ hS136 fun _ => ?_
        try simp only [Act.put, List.setIfInBounds_toArray, List.set_cons_zero, List.set_cons_succ]
        refine wpAnyH_ready (rs := [9]) (by kernel_rfl) (by simp) ?_
        refine AllReadyH.cons rfl (fun K137 hK137 => ?_) AllReadyH.nil
        have HK137 := Lib.hid hK137
        clear hK137
        rw [if_pos (by rfl)]
        refine wp_push_O (Q := BsT) (B := W5.heap.size) _ _ rfl _ ops N b1 (.slice A1 m1 cc1) ⟨er0, x, d⟩ rfl HO3.out EN.out rfl HF2.out (BT.out.fw TT_135.out) rfl (by have := HN.out; omega) TT_135.out.size (fun w' u l hc hq => hq.tch hc (by decide)) ?_
        intro g2 cap2 x138 ho hc
        have TT_139 : Hid (Below W5.heap.size W5 x138) := Lib.hid (TT_135.out.trans (hc.below TT_135.out.size))
        have HO4 := Lib.hid (ho.low (Nat.zero_le _))
        clear ho hc
        have hS140 : (fun w' : World => Chg (fun j => j = K) W5 w') x138 := (below_chg TT_139.out (fun j => j = K))
        refine HK137.out _ _ hS140 fun _ => ?_
        try simp only [Act.put, List.setIfInBounds_toArray, List.set_cons_zero, List.set_cons_succ]
        refine takeD (i := 10) (v := .pointer (some ⟨K, 0, none⟩)) (some 28) rfl rfl (by kernel_rfl) (by kernel_rfl) (by kernel_rfl) (fun _ _ _ h => h) (Or.inl ⟨by rfl, by rintro w' -; go_simp⟩) hS140 ?_
        simp only [Act.put, List.setIfInBounds_toArray, List.set_cons_zero, List.set_cons_succ]
        refine takeD (i := 11) (v := .pointer (some ⟨K, 1, none⟩)) (some 29) rfl rfl (by kernel_rfl) (by kernel_rfl) (by kernel_rfl) (fun _ _ _ h => h) (Or.inl ⟨by rfl, by rintro w' -; go_simp⟩) hS140 ?_
        simp only [Act.put, List.setIfInBounds_toArray, List.set_cons_zero, List.set_cons_succ]
        refine wpAnyH_ready (rs := [12]) (by kernel_rfl) (by simp) ?_
        refine AllReadyH.cons rfl (fun K141 hK141 => ?_) AllReadyH.nil
        have HK141 := Lib.hid hK141
        clear hK141
        rw [if_pos (by rfl)]
        have CZ := Lib.hid (CR.out.fw TT_139.out)
        have cc := (show _ = some _ from CZ.out.cells.2)
        have ff := CZ.out.row.frozen 1
        go_simp
        clear cc ff
        have TS : Hid (Tch B [44] x138 (x138.setCell ⟨K, 1, none⟩ (.slice (some ⟨g2, 0, none⟩) (N + 1) cap2))) := Lib.hid ((Tch.refl _ _ _).set CZ.out.low.1 CZ.out.row.ty (by simp) _)
        have RS := Lib.hid (CZ.out.row.store 1 (.slice (some ⟨g2, 0, none⟩) (N + 1) cap2))
        have LS := Lib.hid (OlT.tch HO4.out TS.out (by decide) (by decide))
        have MS := Lib.hid (Md.tch TS.out CZ.out.md (by decide) (by decide))
        have TF := Lib.hid ((Tch.of_below (TB.out.trans (TT_139.out.mono TB.out.size)) B tyR).trans (tch_subR TS.out (by decide)))
        have FN : Hid (Chg (fun j => j = K) W5 (x138.setCell ⟨K, 1, none⟩ (.slice (some ⟨g2, 0, none⟩) (N + 1) cap2))) := Lib.hid ((below_chg TT_139.out (fun j => j = K)).setCell (p := ⟨K, 1, none⟩) rfl _)
        generalize x138.setCell ⟨K, 1, none⟩ (.slice (some ⟨g2, 0, none⟩) (N + 1) cap2) = W9 at TS RS LS MS TF FN ⊢
        have hS142 : (fun w' : World => Chg (fun j => j = K) W5 w') W9 := FN.out
        refine HK141.out _ _ hS142 fun _ => ?_
        refine wpAnyH_done (by kernel_rfl) ?_ _
        go_wp2_with fail
        go_ret
        refine ⟨by rw [Z0.out]; rfl, ⟨M, X, c, _, RS.out, MS.out, ?_, HH.out.low⟩, TF.out⟩
        unfold app
        rw [if_pos Z0.out]
        have h := LS.out
        exact h
      · have HK125 := Lib.hid hK
        clear hK
        rw [if_pos (by rfl)]
        have cc := (show _ = some _ from (CR.out.fw TT_123.out).cells.2)
        go_simp
        clear cc
        skip
        refine HK125.out _ _ hS124 fun _ => ?_
        try simp only [Act.put, List.setIfInBounds_toArray, List.set_cons_zero, List.set_cons_succ]
        refine wpAnyH_ready (rs := [1]) (by kernel_rfl) (by simp) ?_
        refine AllReadyH.cons rfl (fun K126 hK126 => ?_) AllReadyH.nil
        have HK126 := Lib.hid hK126
        clear hK126
        rw [if_pos (by rfl)]
        refine wp_build_e Try.underlying33 info_op rfl ?_
        have hq128 : Below x120.heap.size x120 (x120.alloc (.cells #[] 38)) := (Below.refl _ _).alloc (Nat.le_refl _) _
        have hh129 := gr_new x120 #[] 38 rfl
        have BG := Lib.hid TT_123.out.size
        generalize x120.alloc (.cells #[] 38) = x127 at hq128 hh129 ⊢
        obtain ⟨b0, hb0⟩ : ∃ b, x120.heap.size = b := ⟨_, rfl⟩
        rw [hb0] at BG hh129 ⊢
        have F_130 := Lib.hid (Row.go RB3.out (hq128))
        have TT_131 : Hid (Below W5.heap.size W5 x127) := Lib.hid (TT_123.out.trans ((hq128).mono TT_123.out.size))
        have RB2 := Lib.hid hh129
        clear hq128 hh129 hb0
        have hS132 : (fun w' : World => Chg (fun j => j = K) W5 w') x127 := (below_chg TT_131.out (fun j => j = K))
        refine HK126.out _ _ hS132 fun _ => ?_
        try simp only [Act.put, List.setIfInBounds_toArray, List.set_cons_zero, List.set_cons_succ]
        refine wpAnyH_ready (rs := [6]) (by kernel_rfl) (by simp) ?_
        refine AllReadyH.cons rfl (fun K133 hK133 => ?_) AllReadyH.nil
        have HK133 := Lib.hid hK133
        clear hK133
        rw [if_pos (by rfl)]
        refine wp_copy_O (Q := BsT) (A := 0) (B := b0) _ _ rfl b0 N cap p ops rfl RB2.out rfl EN.out (CR.out.fw TT_131.out).ol (by have := HN.out; omega) (Nat.le_refl _) (fun w' u l hc hq => hq.tch hc (by decide)) ?_
        intro g1 cap1 x134 ho hg
        have hcg : Tch W5.heap.size [38] x127 x134 := Tch.grown hg (fun k hk => by injection hk with hk; subst hk; exact ⟨BG.out, RB2.out.ty⟩) (by simp)
        have TT_135 : Hid (Below W5.heap.size W5 x134) := Lib.hid (TT_131.out.trans (hcg.below TT_131.out.size))
        have HO2 := Lib.hid (ho.low (Nat.zero_le _))
        have GB := Lib.hid (show ∀ k, (Value.slice (some ⟨g1, 0, none⟩) N cap1).ownBlock = some k → W5.heap.size ≤ k from fun k hk => Nat.le_trans BG.out (ho.own k hk).1)
        have HO3 := Lib.hid (ho.low BG.out)
        have HF2 := Lib.hid (show Row x134 b1 38 #[.bool er0, .int .i64 x, .slice A1 m1 cc1] from (hg.block b1 F_130.out.lt (fun e => by injection e with e; subst e; have h9 := F_130.out.symm.trans RB2.out; simp at h9)).trans F_130.out)
        clear hcg ho hg
        have hS136 : (fun w' : World => Chg (fun j => j = K) W5 w') x134 := (below_chg TT_135.out (fun j => j = K))
        refine HK133.out _ _ hS136 fun _ => ?_
        try simp only [Act.put, List.setIfInBounds_toArray, List.set_cons_zero, List.set_cons_succ]
        refine wpAnyH_ready (rs := [9]) (by kernel_rfl) (by simp) ?_
        refine AllReadyH.cons rfl (fun K137 hK137 => ?_) AllReadyH.nil
        have HK137 := Lib.hid hK137
        clear hK137
        rw [if_pos (by rfl)]
        refine wp_push_O (Q := BsT) (B := W5.heap.size) _ _ rfl _ ops N b1 (.slice A1 m1 cc1) ⟨er0, x, d⟩ rfl HO3.out EN.out rfl HF2.out (BT.out.fw TT_135.out) rfl (by have := HN.out; omega) TT_135.out.size (fun w' u l hc hq => hq.tch hc (by decide)) ?_
        intro g2 cap2 x138 ho hc
        have TT_139 : Hid (Below W5.heap.size W5 x138) := Lib.hid (TT_135.out.trans (hc.below TT_135.out.size))
        have HO4 := Lib.hid (ho.low (Nat.zero_le _))
        clear ho hc
        have hS140 : (fun w' : World => Chg (fun j => j = K) W5 w') x138 := (below_chg TT_139.out (fun j => j = K))
        refine HK137.out _ _ hS140 fun _ => ?_
        try simp only [Act.put, List.setIfInBounds_toArray, List.set_cons_zero, List.set_cons_succ]
        refine takeD (i := 10) (v := .pointer (some ⟨K, 0, none⟩)) (some 28) rfl rfl (by kernel_rfl) (by kernel_rfl) (by kernel_rfl) (fun _ _ _ h => h) (Or.inl ⟨by rfl, by rintro w' -; go_simp⟩) hS140 ?_
        simp only [Act.put, List.setIfInBounds_toArray, List.set_cons_zero, List.set_cons_succ]
        refine takeD (i := 11) (v := .pointer (some ⟨K, 1, none⟩)) (some 29) rfl rfl (by kernel_rfl) (by kernel_rfl) (by kernel_rfl) (fun _ _ _ h => h) (Or.inl ⟨by rfl, by rintro w' -; go_simp⟩) hS140 ?_
        simp only [Act.put, List.setIfInBounds_toArray, List.set_cons_zero, List.set_cons_succ]
        refine wpAnyH_ready (rs := [12]) (by kernel_rfl) (by simp) ?_
        refine AllReadyH.cons rfl (fun K141 hK141 => ?_) AllReadyH.nil
        have HK141 := Lib.hid hK141
        clear hK141
        rw [if_pos (by rfl)]
        have CZ := Lib.hid (CR.out.fw TT_139.out)
        have cc := (show _ = some _ from CZ.out.cells.2)
        have ff := CZ.out.row.frozen 1
        go_simp
        clear cc ff
        have TS : Hid (Tch B [44] x138 (x138.setCell ⟨K, 1, none⟩ (.slice (some ⟨g2, 0, none⟩) (N + 1) cap2))) := Lib.hid ((Tch.refl _ _ _).set CZ.out.low.1 CZ.out.row.ty (by simp) _)
        have RS := Lib.hid (CZ.out.row.store 1 (.slice (some ⟨g2, 0, none⟩) (N + 1) cap2))
        have LS := Lib.hid (OlT.tch HO4.out TS.out (by decide) (by decide))
        have MS := Lib.hid (Md.tch TS.out CZ.out.md (by decide) (by decide))
        have TF := Lib.hid ((Tch.of_below (TB.out.trans (TT_139.out.mono TB.out.size)) B tyR).trans (tch_subR TS.out (by decide)))
        have FN : Hid (Chg (fun j => j = K) W5 (x138.setCell ⟨K, 1, none⟩ (.slice (some ⟨g2, 0, none⟩) (N + 1) cap2))) := Lib.hid ((below_chg TT_139.out (fun j => j = K)).setCell (p := ⟨K, 1, none⟩) rfl _)
        generalize x138.setCell ⟨K, 1, none⟩ (.slice (some ⟨g2, 0, none⟩) (N + 1) cap2) = W9 at TS RS LS MS TF FN ⊢
        have hS142 : (fun w' : World => Chg (fun j => j = K) W5 w') W9 := FN.out
        refine HK141.out _ _ hS142 fun _ => ?_
        refine wpAnyH_done (by kernel_rfl) ?_ _
        go_wp2_with fail
        go_ret
        refine ⟨by rw [Z0.out]; rfl, ⟨M, X, c, _, RS.out, MS.out, ?_, HH.out.low⟩, TF.out⟩
        unfold app
        rw [if_pos Z0.out]
        have h := LS.out
        exact h
  · have d0 : ((z : Int) != 0) = true := by simp [h0]
    have Z0 := Lib.hid h0
    clear h0
    go_wp2_with fail
    go_ret
    refine ⟨rfl, ?_, Tch.of_below TW.out _ _⟩
    unfold app
    rw [if_neg Z0.out]
    exact Ra.ex (HH.out.fw TW.out)
end Go.Proofs.Ytbaclcpnnompnaa
