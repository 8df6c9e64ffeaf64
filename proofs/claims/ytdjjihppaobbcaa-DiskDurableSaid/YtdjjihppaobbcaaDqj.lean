/- Layer 14: walk of the law DiskDurable. WRITTEN BY gen_Dqj.py. -/
import Derived.Test.YtdjjihppaobbcaaHA
namespace Go.Proofs.Ytdjjihppaobbcaa
open Go Go.RowKit Med Flt
set_option linter.unusedVariables false
set_option linter.unusedSimpArgs false
section
variable {N : Nat} {w : World} {P D0 D1 R Bn T S O : Nat} {L0 L1 : List F} {p : Dsk.Pw} {d0 d1 : Dsk.Dk}
theorem noF (n : Nat) : faL [] n = ⟨0, 0, 0⟩ := rfl
theorem Dsk.fit_do {a : Dsk.Act} {n : Nat} (h : p.fit n) (hk : a.kind < 4) : (Dsk.actP p d0 a).fit (n + 1) := by
  unfold Dsk.actP
  rw [if_pos hk]
  unfold Dsk.beP
  split
  · exact Dsk.fit_call h
  · exact Dsk.fit_mono h (by omega)
theorem fit_ref (n : Nat) : Dsk.Pw.new.fit n := ⟨Nat.zero_le _, by decide, fun h => by cases h⟩
/-- The program's read, without faults. -/
theorem PSt.read0 (h : PSt N w P D0 D1 R Bn T S O [] L1 p d0 d1) {m n : Nat} (hf : p.fit n) (hn : n < 1000) (hm : m < 1000) (h0 : Dsk.Few d0 m) (hd : d0.dead = false) (hr : Dsk.rdy p d0) (ha : p.armed = false) (hk : d0.key = 0) {a : Nat} (hin : a < R + Bn * (T * S)) :
    Calls Try.prog 31 #[.pointer (some ⟨D0, 0, none⟩), .int .u64 0, .int .i64 (a : Int)] w (fun e w' => ∃ u d', e = .returned (.tuple #[u, .int .i64 (rdE (Dsk.cont R Bn T S O d0) a)]) ∧ Bs w' u (bOf (rdB (Dsk.cont R Bn T S O d0) a)) ∧
      (d'.l = d0.l ∧ d'.ops = d0.ops ∧ d'.key = d0.key ∧ d'.seen = d0.seen ∧ d'.dead = d0.dead) ∧ Dsk.Few d' (m + 1) ∧ PSt N w' P D0 D1 R Bn T S O [] L1 p d' d1 ∧ Tch (N : Zn) tyD w w') := by
  obtain ⟨B, hB, hT, hP, hdk, hq⟩ := h.open0 h.size
  have hl := (PSt.facts h).2
  have hh : Dsk.has d0 (a : Int) := ⟨by omega, by rw [hl]; omega⟩
  obtain ⟨e1, e2, e3, e4⟩ := Dsk.read_ok (fa := faL []) (R := R) (B := Bn) (T := T) (S := S) (O := O) hd hr ha hk noF hh
  have eP : Dsk.beP p d0 = p := by
    unfold Dsk.beP
    rw [if_pos ⟨hd, hr⟩]
    unfold Dsk.Pw.call
    rw [if_neg (by rw [ha]; decide)]
  have kp := Dsk.act_kept (faL []) R Bn T S O p d0 ⟨0, 0, 0, (a : Int), [], false⟩ (by show (0 : Nat) < 4; decide)
  have nr := Dsk.actD_near (faL []) R Bn T S O p d0 ⟨0, 0, 0, (a : Int), [], false⟩
  have eA : Dsk.actD (faL []) R Bn T S O p d0 ⟨0, 0, 0, (a : Int), [], false⟩ = Dsk.readD (faL []) R Bn T S O p d0 0 (a : Int) := by
    unfold Dsk.actD
    rw [if_pos rfl]
  rw [eA] at kp nr
  have C := prd14_any hdk h.pw hP hf (by omega) (by have := h0.1; omega) (by have := h0.2.1; omega) 0 (a : Int)
  rw [e1, e2, eP] at C
  refine Calls.mono C ?_
  rintro e w' ⟨u, rfl, hu, hd', hp', ht⟩
  exact ⟨u, _, rfl, hu.1, ⟨e3, e4, kp.1, kp.2.1, kp.2.2 fun n => by rw [noF]; decide⟩, h0.near nr, hq _ _ _ hd' hp' ht, ht.mono hB fun _ h => h⟩
/-- The reference's contents: what its cache's methods do. -/
theorem RSt.cac0 (h : RSt N w P D0 D1 R Bn T S O L0 L1 p d0 d1) : ∃ K, w.cell? ⟨D0, 5, none⟩ = some (.pointer (some ⟨K, 0, none⟩)) ∧
    (∀ x : Int, Calls Try.prog 30 #[.pointer (some ⟨K, 0, none⟩), .int .i64 x] w (fun e w' => (∃ u, e = .returned u) ∧ RSt N w' P D0 D1 R Bn T S O L0 L1 p { d0 with l := Med.play R Bn T S O d0.l (d0.ops.take x.toNat), ops := [] } d1 ∧ Tch (N : Zn) tyQ w w')) ∧
    ∀ a : Int, Calls Try.prog 32 #[.pointer (some ⟨K, 0, none⟩), .int .i64 a] w (rdPost (rdE (Dsk.cont R Bn T S O d0) a) (rdB (Dsk.cont R Bn T S O d0) a) w) := by
  obtain ⟨B, hB, hT, hP, hd, hq⟩ := h.open0 h.size
  obtain ⟨K, v, q0⟩ := hd.start h.pw hP (Tch.refl B tyQ _)
  refine ⟨K, q0.row.cells.1.1, fun x => ?_, fun a => rcr_any q0.re a⟩
  refine (rcu_any q0.re x).mono ?_
  rintro e w1 ⟨⟨u, rfl⟩, hr, ht⟩
  obtain ⟨q1, q2, q3, q4, q5, q6, q7⟩ := q0.cac hr ht
  obtain ⟨x1, x2, x3⟩ := Dq.fin (d := { d0 with l := Med.play R Bn T S O d0.l (d0.ops.take x.toNat), ops := [] }) ⟨q1, q2, q3, q4, q5, q6, q7⟩ rfl rfl
  exact ⟨⟨_, rfl⟩, hq _ _ _ x1 x2 x3, x3.mono hB fun _ h => h⟩
theorem res_off (hd : d0.dead = false) (hp : p.off = true) (keep : Int) : Dsk.resE p d0 = 0 ∧ Dsk.resD R Bn T S O p d0 keep = { d0 with l := Med.play R Bn T S O d0.l (d0.ops.take keep.toNat), ops := [], seen := p.fails } := by
  have e : Dsk.resE p d0 = 0 := by
    unfold Dsk.resE
    rw [if_neg (by rw [hd]; decide), if_neg (by rw [hp]; decide)]
  exact ⟨e, by unfold Dsk.resD; rw [if_pos e]⟩
theorem PSt.off0 (h : PSt N w P D0 D1 R Bn T S O L0 L1 p d0 d1) (hd : d0.dead = false) (hp : p.off = true) (keep : Int) {d' : Dsk.Dk} (he : { d0 with l := Med.play R Bn T S O d0.l (d0.ops.take keep.toNat), ops := [], seen := p.fails } = d') :
    Calls Try.prog 28 #[.pointer (some ⟨D0, 0, none⟩), .int .i64 keep] w (fun e w' => e = .returned (.int .i64 0) ∧ PSt N w' P D0 D1 R Bn T S O L0 L1 p d' d1 ∧ Tch (N : Zn) tyD w w') :=
  h.call0 fun B hT hP h0 hp2 => by
    have := prs14_any h0 hp2 hP hT keep
    rw [(res_off (R := R) (Bn := Bn) (T := T) (S := S) (O := O) hd hp keep).1, (res_off (R := R) (Bn := Bn) (T := T) (S := S) (O := O) hd hp keep).2, he] at this
    exact this
end
set_option maxHeartbeats 4000000 in
set_option maxRecDepth 100000 in
theorem durable14_walk (r b t s o : Int) (v0 v1 va : Value) (L0 L1 : List F) (L : List Ac) (nn kp : Int) (w : World) (h0 : Fts w v0 L0) (h1 : Fts w v1 L1) (h : Acl w va L) (hnn : -9223372036854775808 ≤ nn ∧ nn < 9223372036854775808) : Calls Try.prog 4 #[.agg (csc r b t s o v0 v1 va), .int .i64 nn, .int .i64 kp] w (lawPost w) := by
  obtain ⟨A0, c0_, rfl⟩ := h0.form
  obtain ⟨A1, c1_, rfl⟩ := h1.form
  obtain ⟨Aa, ca, rfl⟩ := h.form
  have HO := Lib.hid h
  have H0 := Lib.hid h0
  have H1 := Lib.hid h1
  obtain ⟨n, hn⟩ : ∃ n, L.length = n := ⟨_, rfl⟩
  obtain ⟨n0, hn0⟩ : ∃ n, L0.length = n := ⟨_, rfl⟩
  obtain ⟨n1, hn1⟩ : ∃ n, L1.length = n := ⟨_, rfl⟩
  have EN := Lib.hid hn
  rw [hn] at HO ⊢
  rw [hn0] at H0 ⊢
  rw [hn1] at H1 ⊢
  unfold csc
  obtain ⟨B0, hB0⟩ : ∃ B, w.heap.size = B := ⟨_, rfl⟩
  obtain ⟨W0, hW0⟩ : ∃ W, w.alloc (.cells #[.int .i64 r, .int .i64 b, .int .i64 t, .int .i64 s, .int .i64 o, .slice A0 n0 c0_, .slice A1 n1 c1_, .slice Aa n ca] 45) = W := ⟨_, rfl⟩
  have T0 : Hid (Below w.heap.size w W0) := Lib.hid (by subst hW0; exact (Below.refl _ _).alloc (Nat.le_refl _) _)
  have C0 : Hid (CBox W0 B0 r b t s o (.slice A0 n0 c0_) (.slice A1 n1 c1_) (.slice Aa n ca)) := Lib.hid (by subst hW0; exact gr_new w _ _ hB0)
  have HB0 := Lib.hid hB0
  have HW0 := Lib.hid hW0
  clear hB0 hW0 h h0 h1 hn hn0 hn1
  have K5 := C0.out.cells.2.1
  have K6 := C0.out.cells.2.2.1
  have K5f := Row.frozen C0.out 5
  have K6f := Row.frozen C0.out 6
  obtain ⟨V0, hV0⟩ : ∃ q, (W0.setCell ⟨B0, 5, none⟩ (.slice none 0 0)).setCell ⟨B0, 6, none⟩ (.slice none 0 0) = q := ⟨_, rfl⟩
  have CV : Hid (CBox V0 B0 r b t s o (.slice none 0 0) (.slice none 0 0) (.slice Aa n ca)) := Lib.hid (by subst hV0; exact (Row.store (Row.store C0.out 5 (.slice none 0 0)) 6 (.slice none 0 0)))
  have TV : Hid (Below w.heap.size w V0) := Lib.hid (by subst hV0; exact (T0.out.setCell (p := ⟨B0, 5, none⟩) (Nat.le_of_eq HB0.out) _).setCell (p := ⟨B0, 6, none⟩) (Nat.le_of_eq HB0.out) _)
  have HV0 := Lib.hid hV0
  clear hV0
  have FN : Hid (Fts w (.slice none 0 0) []) := Lib.hid (Fts.nil_ w)
  have NR := Lib.hid hnn
  clear hnn
  go_enter Try.func4, Try.ntmps4
  go_wp2_with (first | rw [HB0.out] | rw [HW0.out] | rw [HV0.out])
  refine (awake14 _).mono ?_
  rintro e x1 ⟨rfl, hb⟩
  have C_2 := Lib.hid (Row.go CV.out (hb))
  have hl3 := hb
  have HT_4 : Hid (Below w.heap.size w x1) := Lib.hid (TV.out.trans ((hl3).mono TV.out.size))
  clear hb
  obtain ⟨⟨c0, c1, c2, c3, c4⟩, c5, c6, c7⟩ := CBox.cells C_2.out
  go_wp2_with fail
  clear c0 c1 c2 c3 c4 c5 c6 c7
  refine (fair14_any r b t s o _ _ _ [] [] L _ (FN.out.fw HT_4.out) (FN.out.fw HT_4.out) (HO.out.fw HT_4.out)).mono ?_
  rintro e x5 ⟨bb, rfl, hf, hb⟩
  have C_6 := Lib.hid (Row.go C_2.out (hb))
  have hl7 := hb
  have HT_8 : Hid (Below w.heap.size w x5) := Lib.hid (HT_4.out.trans ((hl7).mono HT_4.out.size))
  clear hb
  cases bb with
  | false =>
    clear hf
    go_wp2_with fail
    refine (awake14 _).mono ?_
    rintro e x9 ⟨rfl, hb⟩
    have C_10 := Lib.hid (Row.go C_6.out (hb))
    have hl11 := hb
    have HT_12 : Hid (Below w.heap.size w x9) := Lib.hid (HT_8.out.trans ((hl11).mono HT_8.out.size))
    clear hb
    go_wp2_with fail
    go_ret
    exact ⟨rfl, HT_12.out⟩
  | true =>
    have FA := Lib.hid (hf rfl)
    clear hf
    by_cases hn0 : nn < 0
    · have dk : decide (nn < 0) = true := decide_eq_true hn0
      go_wp2_with fail
      refine (awake14 _).mono ?_
      rintro e x9 ⟨rfl, hb⟩
      have C_10 := Lib.hid (Row.go C_6.out (hb))
      have hl11 := hb
      have HT_12 : Hid (Below w.heap.size w x9) := Lib.hid (HT_8.out.trans ((hl11).mono HT_8.out.size))
      clear hb
      go_wp2_with fail
      go_ret
      exact ⟨rfl, HT_12.out⟩
    have dk : decide (nn < 0) = false := decide_eq_false hn0
    have NN := Lib.hid hn0
    obtain ⟨R, Bn, T, S, O, rfl, rfl, rfl, rfl, rfl⟩ := FA.out.nat
    have HV := Lib.hid FA.out.1
    obtain ⟨⟨c0, c1, c2, c3, c4⟩, c5, c6, c7⟩ := CBox.cells C_6.out
    go_wp2_with fail
    clear c0 c1 c2 c3 c4 c5 c6 c7
    clear dk hn0
    obtain ⟨N, hN⟩ : ∃ N, x5.heap.size = N := ⟨_, rfl⟩
    have NW := Lib.hid (show w.heap.size ≤ N from by rw [← hN]; exact HT_8.out.size)
    have ST := start14_any (va := .slice Aa n ca) HV.out (FN.out.fw HT_8.out) (FN.out.fw HT_8.out) rfl rfl (by decide) (by decide)
    unfold csc st14 at ST
    rw [hN] at ST
    refine ST.mono ?_
    clear ST
    rintro e x9 ⟨P, D0, D1, rfl, hs, hb⟩
    have PS0 := Lib.hid hs
    have hb2 : Below x5.heap.size x5 x9 := hN ▸ hb
    have C_10 := Lib.hid (Row.go C_6.out (hb2))
    have hl11 := hb2
    have HT_12 : Hid (Below w.heap.size w x9) := Lib.hid (HT_8.out.trans ((hl11).mono HT_8.out.size))
    have NS := Lib.hid (show N ≤ x9.heap.size from Nat.le_trans (Nat.le_of_eq hN.symm) hb2.size)
    clear hs hb hb2 hN
    unfold ptrN at *
    obtain ⟨b13, hb13⟩ : ∃ b, x9.heap.size = b := ⟨_, rfl⟩
    obtain ⟨W14, hW14⟩ : ∃ W, x9.alloc (.cells #[.pointer (some ⟨P, 0, none⟩), .pointer (some ⟨D0, 0, none⟩), .pointer (some ⟨D1, 0, none⟩)] 49) = W := ⟨_, rfl⟩
    have hb3 : Below x9.heap.size x9 W14 := by subst hW14; exact (Below.refl _ _).alloc (Nat.le_refl _) _
    have RX : Hid (Row W14 b13 49 #[.pointer (some ⟨P, 0, none⟩), .pointer (some ⟨D0, 0, none⟩), .pointer (some ⟨D1, 0, none⟩)]) := Lib.hid (by subst hW14; exact gr_new x9 _ _ hb13)
    have HX1 := Lib.hid hb13
    have HX2 := Lib.hid hW14
    have NX := Lib.hid (show N ≤ b13 by have := NS.out; omega)
    have C_15 := Lib.hid (Row.go C_10.out (hb3))
    have P_16 := Lib.hid (PSt.fw PS0.out (hb3))
    have hl17 := hb3
    have HT_18 : Hid (Below w.heap.size w W14) := Lib.hid (HT_12.out.trans ((hl17).mono HT_12.out.size))
    clear hb3 hb13 hW14
    obtain ⟨⟨c0, c1, c2, c3, c4⟩, c5, c6, c7⟩ := CBox.cells C_15.out
    go_wp2_with (first | rw [HX2.out, HX1.out])
    clear c0 c1 c2 c3 c4 c5 c6 c7
    obtain ⟨K, hK⟩ : ∃ K, W14.heap.size = K := ⟨_, rfl⟩
    have KW := Lib.hid (show w.heap.size ≤ K from by rw [← hK]; exact HT_18.out.size)
    have ST := begin14_any (va := .slice Aa n ca) HV.out (FN.out.fw HT_18.out) (FN.out.fw HT_18.out) rfl rfl (by decide) (by decide)
    unfold csc bg14 at ST
    rw [hK] at ST
    refine ST.mono ?_
    clear ST
    rintro e x19 ⟨Q, E0, E1, rfl, hs, hb⟩
    have RS0 := Lib.hid hs
    have hb2 : Below W14.heap.size W14 x19 := hK ▸ hb
    have C_20 := Lib.hid (Row.go C_15.out (hb2))
    have P_21 := Lib.hid (PSt.fw P_16.out (hb2))
    have X_22 := Lib.hid (Row.go RX.out (hb2))
    have hl23 := hb2
    have HT_24 : Hid (Below w.heap.size w x19) := Lib.hid (HT_18.out.trans ((hl23).mono HT_18.out.size))
    clear hs hb hb2 hK
    unfold ptrN at *
    obtain ⟨b25, hb25⟩ : ∃ b, x19.heap.size = b := ⟨_, rfl⟩
    obtain ⟨W26, hW26⟩ : ∃ W, x19.alloc (.cells #[.pointer (some ⟨E0, 0, none⟩), .pointer (some ⟨E1, 0, none⟩)] 54) = W := ⟨_, rfl⟩
    have hb3 : Below x19.heap.size x19 W26 := by subst hW26; exact (Below.refl _ _).alloc (Nat.le_refl _) _
    have RY : Hid (Row W26 b25 54 #[.pointer (some ⟨E0, 0, none⟩), .pointer (some ⟨E1, 0, none⟩)]) := Lib.hid (by subst hW26; exact gr_new x19 _ _ hb25)
    have HY1 := Lib.hid hb25
    have HY2 := Lib.hid hW26
    have C_27 := Lib.hid (Row.go C_20.out (hb3))
    have P_28 := Lib.hid (PSt.fw P_21.out (hb3))
    have X_29 := Lib.hid (Row.go X_22.out (hb3))
    have Q_30 := Lib.hid (RSt.fw RS0.out (hb3))
    have hl31 := hb3
    have HT_32 : Hid (Below w.heap.size w W26) := Lib.hid (HT_24.out.trans ((hl31).mono HT_24.out.size))
    clear hb3 hb25 hW26
    obtain ⟨k0, k1, k2⟩ := row3 X_29.out
    have NZ := Lib.hid (PSt.size P_28.out)
    go_wp2_with (first | rw [HY2.out, HY1.out])
    have ARM : Dsk.Pw.arm Dsk.Pw.new nn = Dsk.Pw.mk false true nn 0 := by
      unfold Dsk.Pw.arm
      rw [if_neg (by decide), decide_eq_true (show 0 ≤ nn by have := NN.out; omega)]
      rfl
    have PAR := parm_any P_28.out.pw nn
    rw [ARM] at PAR
    have HPA := Lib.hid PAR
    clear PAR ARM
    refine (HPA.out).mono ?_
    rintro e x33 ⟨⟨uu, rfl⟩, hp, hc⟩
    obtain ⟨hd, ht⟩ := PSt.pow P_28.out hp hc
    have PS34 := Lib.hid hd
    have C_36 := Lib.hid (Row.tch ht C_27.out (by decide))
    have X_37 := Lib.hid (Row.tch ht X_29.out (by decide))
    have Q_38 := Lib.hid (Q_30.out.prog ht)
    have Y_39 := Lib.hid (Row.tch ht RY.out (by decide))
    have HT_35 : Hid (Below w.heap.size w x33) := Lib.hid (HT_32.out.trans ((Tch.below_ ht NZ.out (fun k h => h)).mono NW.out))
    clear hd ht hp hc
    clear k0 k1 k2 NZ HPA
    obtain ⟨⟨c0, c1, c2, c3, c4⟩, c5, c6, c7⟩ := CBox.cells C_36.out
    go_wp2_with fail
    clear c0 c1 c2 c3 c4 c5 c6 c7
    refine (only_any _ L _ (HO.out.fw HT_35.out) (by have := FA.out.2.2.1; omega)).mono ?_
    rintro e x40 ⟨v, rfl, ho, hb⟩
    have NZ := Lib.hid (PSt.size PS34.out)
    have OA0 : Hid (OwA N x40 v (Ac.only L)) := Lib.hid (St.Ow.low ho NZ.out)
    have C_41 := Lib.hid (Row.go C_36.out (hb))
    have X_42 := Lib.hid (Row.go X_37.out (hb))
    have Q_43 := Lib.hid (RSt.fw Q_38.out (hb))
    have Y_44 := Lib.hid (Row.go Y_39.out (hb))
    have P_45 := Lib.hid (PSt.fw PS34.out (hb))
    have hl46 := hb
    have HT_47 : Hid (Below w.heap.size w x40) := Lib.hid (HT_35.out.trans ((hl46).mono HT_35.out.size))
    have OK0 := Lib.hid (OkM.of_only HO.out.2 FA.out.2.2.2.2.2.1)
    have ML := Lib.hid (show (Ac.only L).length ≤ 60 from Nat.le_trans (Ac.only_len L) FA.out.2.2.1)
    clear ho hb NZ
    obtain ⟨M, hM⟩ : ∃ M, Ac.only L = M := ⟨_, rfl⟩
    rw [hM] at OK0 ML OA0
    clear hM
    obtain ⟨m, hm⟩ : ∃ m, M.length = m := ⟨_, rfl⟩
    have EM := Lib.hid hm
    rw [hm] at ML
    clear hm
    obtain ⟨Av, cv, rfl⟩ : ∃ A c, v = .slice A m c := by obtain ⟨A, c, e⟩ := St.Ow.form acs_enc OA0.out; exact ⟨A, c, by rw [e, EM.out]⟩
    go_wp2_with fail
    obtain ⟨d1, hd1⟩ : ∃ q, (Dsk.Dk.new (List.replicate (R + Bn * (T * S)) Med.blank) Dsk.Pw.new) = q := ⟨_, rfl⟩
    have ED1 := Lib.hid hd1
    have PSI : Hid (PSt N x40 P D0 D1 R Bn T S O [] [] (Dsk.Pw.mk false true (nn - ((0 : Nat) : Int)) 0) (Dsk.Dk.new (List.replicate (R + Bn * (T * S)) Med.blank) Dsk.Pw.new) d1) := Lib.hid (by rw [← hd1, show nn - ((0 : Nat) : Int) = nn by omega]; exact P_45.out)
    have QSI : Hid (RSt K x40 Q E0 E1 R Bn T S O [] [] Dsk.Pw.new (Dsk.Dk.new (List.replicate (R + Bn * (T * S)) Med.blank) Dsk.Pw.new) d1) := Lib.hid (by rw [← hd1]; exact Q_43.out)
    clear hd1
    go_loopw [12] (fun i wr => ∃ (k : Nat) (M' : List Ac) (d0 : Dsk.Dk), k ≤ m ∧ (k : Int) ≤ nn ∧ i = .int .i64 (k : Int) ∧ Hid (CBox wr B0 R Bn T S O (.slice none 0 0) (.slice none 0 0) (.slice Aa n ca) ∧ Row wr b13 49 #[.pointer (some ⟨P, 0, none⟩), .pointer (some ⟨D0, 0, none⟩), .pointer (some ⟨D1, 0, none⟩)] ∧ Row wr b25 54 #[.pointer (some ⟨E0, 0, none⟩), .pointer (some ⟨E1, 0, none⟩)] ∧ PSt N wr P D0 D1 R Bn T S O [] [] (Dsk.Pw.mk false true (nn - k) 0) d0 d1 ∧ RSt K wr Q E0 E1 R Bn T S O [] [] Dsk.Pw.new d0 d1 ∧ OwA N wr (.slice Av m cv) M' ∧ Below w.heap.size w wr) ∧ Hid (OkM w M' ∧ M'.length = m) ∧ Hid (Dsk.Few d0 k ∧ Dsk.Few d1 k ∧ d0.key = 0 ∧ d0.seen = 0 ∧ d0.dead = false)) (fun i _ => m - (intOf i).toNat)
    case atStart => exact ⟨0, M, (Dsk.Dk.new (List.replicate (R + Bn * (T * S)) Med.blank) Dsk.Pw.new), Nat.zero_le _, (by have := NN.out; omega), rfl, Lib.hid ⟨C_41.out, X_42.out, Y_44.out, PSI.out, QSI.out, OA0.out, HT_47.out⟩, Lib.hid ⟨OK0.out, EM.out⟩, Lib.hid ⟨few_new _ _ 0, (by rw [← ED1.out]; exact few_new _ _ 0), rfl, rfl, rfl⟩⟩
    case round =>
      obtain ⟨k, M', d0, hk, hle, rfl, V, VM, DF⟩ := hrel
      have nb := ML.out
      have CW := Lib.hid V.out.1
      have XW := Lib.hid V.out.2.1
      have YW := Lib.hid V.out.2.2.1
      have PW := Lib.hid V.out.2.2.2.1
      have QW := Lib.hid V.out.2.2.2.2.1
      have OW := Lib.hid V.out.2.2.2.2.2.1
      have TW := Lib.hid V.out.2.2.2.2.2.2
      clear V
      by_cases hlt : k < m
      · by_cases hkn : (k : Int) = nn
        · have kI : (k : Int) < (m : Int) := by omega
          obtain ⟨OKM, hml⟩ := VM.out
          have hk2 : k < M'.length := by omega
          obtain ⟨g, cap, hv⟩ := ow_some OW.out hk2
          injection hv with hv1 hv2 hv3
          subst hv1
          clear hv3 hv2
          obtain ⟨y, hy⟩ : ∃ y, M'[k] = y := ⟨_, rfl⟩
          have OKY := Lib.hid (hy ▸ OKM _ (List.getElem_mem hk2))
          have RG := ow_rng OW.out hlt hk2
          rw [hy] at RG
          obtain ⟨x0, x1, x2, x3, ua, un, uc, bs, x5⟩ := y
          obtain ⟨q0, -, -, -, -, -⟩ := acs_at RG
          have qf := ow_frz OW.out (k * 6)
          obtain ⟨W5, hW5⟩ : ∃ W, wr.setCell ⟨g, k * 6, none⟩ (.int .u8 0) = W := ⟨_, rfl⟩
          have T5 : Tch (N : Zn) [62] wr W5 := by
            subst hW5
            exact (Tch.refl _ _ _).set (show N ≤ g from (ow_own OW.out).1) (ow_own OW.out).2 (by simp) _
          have NZ := Lib.hid (PSt.size PW.out)
          have C5 := Lib.hid (Row.tch T5 CW.out (by decide))
          have X5 := Lib.hid (Row.tch T5 XW.out (by decide))
          have Y5 := Lib.hid (Row.tch T5 YW.out (by decide))
          have P5 := Lib.hid (PW.out.keep T5 (by decide))
          have Q5 := Lib.hid (QW.out.keep T5 (by decide))
          have B5 := Lib.hid (TW.out.trans ((Tch.below_ T5 NZ.out (fun k h => h)).mono NW.out))
          have O5 : Hid (OwA N W5 (.slice (some ⟨g, 0, none⟩) m cv) (M'.set k ⟨0, x1, x2, x3, ua, un, uc, bs, x5⟩)) := Lib.hid (by
            have := St.Ow.set acs_enc OW.out hk2 (j := 0) (by decide) (f' := ⟨0, x1, x2, x3, ua, un, uc, bs, x5⟩) (u := .int .u8 0) (by rw [hy]; rfl)
            rw [Nat.add_zero, hW5] at this
            exact this)
          have OKM2 := Lib.hid (OkM.set0 OKM hk2)
          rw [hy] at OKM2
          have LM2 : Hid ((M'.set k ⟨0, x1, x2, x3, ua, un, uc, bs, x5⟩).length = m) := Lib.hid (by rw [List.length_set]; exact hml)
          have HW5 := Lib.hid hW5
          have R5 : Hid (∀ w', OwA N w' (.slice (some ⟨g, 0, none⟩) m cv) (M'.set k ⟨0, x1, x2, x3, ua, un, uc, bs, x5⟩) → w'.rangeAt g (k * 6) (acs ⟨0, x1, x2, x3, ua, un, uc, bs, x5⟩)) := Lib.hid fun w' ho => by
            have := ow_rng ho (k := k) hlt (by rw [LM2.out]; exact hlt)
            rw [List.getElem_set_self] at this
            exact this
          have HV5 : Hid (∀ c, Below w.heap.size w c → Bs c (.slice ua un uc) bs) := Lib.hid fun c hc => OKY.out.2.2.2.2.below hc
          have k1000 := Lib.hid (show k < 1000 by omega)
          have FW0 := Lib.hid DF.out.1
          have FW1 := Lib.hid DF.out.2.1
          have DK := Lib.hid DF.out.2.2
          have HLN := Lib.hid hle
          have FIT : Hid (Dsk.Pw.fit (Dsk.Pw.mk false true (nn - k) 0) k) := Lib.hid ⟨Nat.zero_le _, (show -9223372036854775808 ≤ nn - k ∧ nn - k < 9223372036854775808 by have := NR.out; omega), fun _ => (show 0 ≤ nn - k by omega)⟩
          obtain ⟨at_, hat⟩ : ∃ q : Dsk.Act, Ac.act ⟨0, x1, x2, x3, ua, un, uc, bs, x5⟩ = q := ⟨_, rfl⟩
          have AK := Lib.hid (show at_.kind < 4 by rw [← hat]; show x1 < 4; have := OKY.out.2.1; exact Nat.lt_succ_of_le this)
          have HAT := Lib.hid hat
          have RDY := Lib.hid (show Dsk.rdy (Dsk.Pw.mk false true (nn - k) 0) d0 from ⟨rfl, DK.out.2.1⟩)
          have hn0 : nn - k = 0 := by omega
          have AE : Hid (Dsk.actE (faL []) R Bn T S O (Dsk.Pw.mk false true (nn - k) 0) d0 at_ = 13 ∧ Dsk.actB (faL []) R Bn T S O (Dsk.Pw.mk false true (nn - k) 0) d0 at_ = ByteArray.empty ∧ Dsk.actD (faL []) R Bn T S O (Dsk.Pw.mk false true (nn - k) 0) d0 at_ = d0 ∧ Dsk.actP (Dsk.Pw.mk false true (nn - k) 0) d0 at_ = Dsk.Pw.mk true false 0 1) := Lib.hid (Dsk.act_fail _ _ _ _ _ _ AK.out DK.out.2.2 RDY.out rfl hn0)
          clear hn0
          clear hW5 T5 RG hy OKM hml hk2 hat hle hkn
          go_wp2_with (first | rw [HW5.out])
          refine wp_region_held (P := Try.prog) (S := (fun w' : World => Tch (N : Zn) tyD W5 w')) rfl ?_
          change wpAnyH _ _ _ _ _ _ _ _ W5.drew
          have vhz2 : Below W5.heap.size W5 W5.drew := (Below.refl W5.heap.size W5).drew
          generalize W5.drew = vwz1 at vhz2 ⊢
          have vHZ3 : Hid (Below W5.heap.size W5 vwz1) := Lib.hid vhz2
          have vTT4 : Hid (Tch (N : Zn) tyD W5 vwz1) := Lib.hid (Tch.of_below vHZ3.out (N : Zn) tyD)
          clear vhz2
          have vhS5 : (fun w' : World => Tch (N : Zn) tyD W5 w') vwz1 := vTT4.out
          refine takeD (i := 0) (v := .agg #[.pointer (some ⟨P, 0, none⟩), .pointer (some ⟨D0, 0, none⟩), .pointer (some ⟨D1, 0, none⟩)]) (some 65) rfl rfl (by kernel_rfl) (by kernel_rfl) (by kernel_rfl) (fun _ _ _ h => h) (yieldsIf_load_mid (by rfl) _ _ rfl b13 0 rfl [.pointer (some ⟨P, 0, none⟩), .pointer (some ⟨D0, 0, none⟩), .pointer (some ⟨D1, 0, none⟩)] _ (fun w' h => row3c (Row.tch h X5.out (by decide))) Try.underlying49 rfl (by kernel_rfl)) vhS5 ?_
          simp only [Act.put, List.setIfInBounds_toArray, List.set_cons_zero, List.set_cons_succ]
          refine takeD (i := 1) (v := .slice (some ⟨g, 0, none⟩) m cv) (some 66) rfl rfl (by kernel_rfl) (by kernel_rfl) (by kernel_rfl) (fun _ _ _ h => h) (Or.inl ⟨by rfl, by rintro w' -; go_simp⟩) vhS5 ?_
          simp only [Act.put, List.setIfInBounds_toArray, List.set_cons_zero, List.set_cons_succ]
          refine takeD (i := 2) (v := .int .i64 (k : Int)) (some 67) rfl rfl (by kernel_rfl) (by kernel_rfl) (by kernel_rfl) (fun _ _ _ h => h) (Or.inl ⟨by rfl, by rintro w' -; go_simp⟩) vhS5 ?_
          simp only [Act.put, List.setIfInBounds_toArray, List.set_cons_zero, List.set_cons_succ]
          refine takeD (i := 3) (v := .pointer (some ⟨g, k * 6, none⟩)) (some 68) rfl rfl (by kernel_rfl) (by kernel_rfl) (by kernel_rfl) (fun _ _ _ h => h) (Or.inl ⟨by rfl, by rintro w' -; go_simp⟩) vhS5 ?_
          simp only [Act.put, List.setIfInBounds_toArray, List.set_cons_zero, List.set_cons_succ]
          refine takeD (i := 4) (v := .agg #[.int .u8 0, .int .u8 (x1 : Int), .int .u64 (x2 : Int), .int .i64 x3, .slice ua un uc, .bool x5]) (some 69) rfl rfl (by kernel_rfl) (by kernel_rfl) (by kernel_rfl) (fun _ _ _ h => h) (yieldsIf_load_mid (by rfl) _ _ rfl g (k * 6) rfl [.int .u8 0, .int .u8 (x1 : Int), .int .u64 (x2 : Int), .int .i64 x3, .slice ua un uc, .bool x5] _ (fun w' h => R5.out _ (Tch.ow O5.out h (by decide))) Try.underlying62 rfl (by kernel_rfl)) vhS5 ?_
          simp only [Act.put, List.setIfInBounds_toArray, List.set_cons_zero, List.set_cons_succ]
          refine wpAnyH_ready (rs := [5]) (by kernel_rfl) (by simp) ?_
          refine AllReadyH.cons rfl (fun vK6 hvK6 => ?_) AllReadyH.nil
          have HvK6 := Lib.hid hvK6
          clear hvK6
          rw [if_pos (by rfl)]
          go_simp
          have DA := do_at0 (P5.out.fw vHZ3.out) (PSt.size (P5.out.fw vHZ3.out)) FIT.out k1000.out FW0.out FW1.out ⟨0, x1, x2, x3, ua, un, uc, bs, x5⟩ rfl (Nat.le_trans OKY.out.2.2.2.1 (by decide)) (fun c hc => HV5.out c ((B5.out.trans (vHZ3.out.mono B5.out.size)).trans (hc.mono NW.out))) (by rw [HAT.out]; exact AE.out)
          unfold ptrN acs at DA
          refine DA.mono ?_
          clear DA
          rintro e vx7 ⟨rfl, hd, ht⟩
          have P6 := Lib.hid hd
          have T6 := Lib.hid ht
          clear hd ht
          have vTT8 : Hid (Tch (N : Zn) tyD W5 vx7) := Lib.hid (vTT4.out.trans (T6.out))
          have vhS9 : (fun w' : World => Tch (N : Zn) tyD W5 w') vx7 := vTT8.out
          refine HvK6.out _ _ vhS9 fun _ => ?_
          try simp only [Act.put, List.setIfInBounds_toArray, List.set_cons_zero, List.set_cons_succ]
          refine takeD (i := 6) (v := .tuple #[.string ByteArray.empty, .int .i64 13]) (some 64) rfl rfl (by kernel_rfl) (by kernel_rfl) (by kernel_rfl) (fun _ _ _ h => h) (Or.inl ⟨by rfl, by rintro w' -; go_simp⟩) vhS9 ?_
          simp only [Act.put, List.setIfInBounds_toArray, List.set_cons_zero, List.set_cons_succ]
          refine takeD (i := 7) (v := .string ByteArray.empty) (some 71) rfl rfl (by kernel_rfl) (by kernel_rfl) (by kernel_rfl) (fun _ _ _ h => h) (Or.inl ⟨by rfl, by rintro w' -; go_simp⟩) vhS9 ?_
          simp only [Act.put, List.setIfInBounds_toArray, List.set_cons_zero, List.set_cons_succ]
          refine takeD (i := 8) (v := .int .i64 13) (some 72) rfl rfl (by kernel_rfl) (by kernel_rfl) (by kernel_rfl) (fun _ _ _ h => h) (Or.inl ⟨by rfl, by rintro w' -; go_simp⟩) vhS9 ?_
          simp only [Act.put, List.setIfInBounds_toArray, List.set_cons_zero, List.set_cons_succ]
          refine takeD (i := 9) (v := .string ByteArray.empty) (some 13) rfl rfl (by kernel_rfl) (by kernel_rfl) (by kernel_rfl) (fun _ _ _ h => h) (Or.inl ⟨by rfl, by rintro w' -; go_simp⟩) vhS9 ?_
          simp only [Act.put, List.setIfInBounds_toArray, List.set_cons_zero, List.set_cons_succ]
          refine takeD (i := 10) (v := .int .i64 13) (some 14) rfl rfl (by kernel_rfl) (by kernel_rfl) (by kernel_rfl) (fun _ _ _ h => h) (Or.inl ⟨by rfl, by rintro w' -; go_simp⟩) vhS9 ?_
          simp only [Act.put, List.setIfInBounds_toArray, List.set_cons_zero, List.set_cons_succ]
          refine wpAnyH_done (by kernel_rfl) ?_ _
          have TT := Lib.hid (vTT8.out)
          have B6 := Lib.hid (B5.out.trans ((Tch.below_ TT.out (PSt.size P5.out) (fun k h => h)).mono NW.out))
          have C6 := Lib.hid (Row.tch TT.out C5.out (by decide))
          have X6 := Lib.hid (Row.tch TT.out X5.out (by decide))
          have Y6 := Lib.hid (Row.tch TT.out Y5.out (by decide))
          have O6 := Lib.hid (Tch.ow O5.out TT.out (by decide))
          have Q6 := Lib.hid (Q5.out.prog TT.out)
          have KZ := Lib.hid (RSt.size Q6.out)
          clear NZ
          have NZ := Lib.hid (PSt.size P6.out)
          obtain ⟨k0, k1, k2⟩ := row3 X6.out
          go_wp2_with fail
          have OF : Calls Try.prog 27 #[.pointer (some ⟨P, 0, none⟩)] vx7 (qPost (.bool true) vx7) := poff_any P6.out.pw
          refine OF.mono ?_
          clear OF
          rintro e w' ⟨rfl, hw⟩
          subst hw
          go_wp2_with fail
          obtain ⟨lc, hlc⟩ : ∃ q, Med.play R Bn T S O d0.l (d0.ops.take kp.toNat) = q := ⟨_, rfl⟩
          obtain ⟨dp, hdp⟩ : ∃ q : Dsk.Dk, { d0 with l := lc, ops := [], seen := 1 } = q := ⟨_, rfl⟩
          have HDP := Lib.hid hdp
          refine (PSt.off0 (d' := dp) P6.out DK.out.2.2 rfl kp (by rw [hlc]; exact hdp)).mono ?_
          rintro e x48 ⟨rfl, hd, ht⟩
          have PS49 := Lib.hid hd
          have C_51 := Lib.hid (Row.tch ht C6.out (by decide))
          have X_52 := Lib.hid (Row.tch ht X6.out (by decide))
          have Y_53 := Lib.hid (Row.tch ht Y6.out (by decide))
          have Q_54 := Lib.hid (Q6.out.prog ht)
          have HT_50 : Hid (Below w.heap.size w x48) := Lib.hid (B6.out.trans ((Tch.below_ ht NZ.out (fun k h => h)).mono NW.out))
          clear hd ht
          clear k0 k1 k2 NZ hdp
          have NZ := Lib.hid (PSt.size PS49.out)
          obtain ⟨k0, k1, k2⟩ := row3 X_52.out
          go_wp2_with fail
          refine (pon14_any PS49.out.pw).mono ?_
          rintro e x55 ⟨⟨uu, rfl⟩, hp, hc⟩
          obtain ⟨hd, ht⟩ := PSt.pow PS49.out hp hc
          have PS56 := Lib.hid hd
          have C_58 := Lib.hid (Row.tch ht C_51.out (by decide))
          have X_59 := Lib.hid (Row.tch ht X_52.out (by decide))
          have Y_60 := Lib.hid (Row.tch ht Y_53.out (by decide))
          have Q_61 := Lib.hid (Q_54.out.prog ht)
          have HT_57 : Hid (Below w.heap.size w x55) := Lib.hid (HT_50.out.trans ((Tch.below_ ht NZ.out (fun k h => h)).mono NW.out))
          clear hd ht hp hc
          clear k0 k1 k2 NZ
          obtain ⟨j0, j1⟩ := row2 Y_60.out
          obtain ⟨KK, kk, hcut, -⟩ := RSt.cac0 Q_61.out
          have CUT := hcut kp
          rw [hlc] at CUT
          have HCUT := Lib.hid CUT
          clear hcut CUT hlc
          go_wp2_with fail
          have KZ2 := Lib.hid (RSt.size Q_61.out)
          refine HCUT.out.mono ?_
          rintro e x62 ⟨⟨uu, rfl⟩, hd, ht⟩
          have QC := Lib.hid hd
          have Ck63 := Lib.hid (Row.tch ht C_58.out (by decide))
          have Xk64 := Lib.hid (Row.tch ht X_59.out (by decide))
          have Yk65 := Lib.hid (Row.tch ht Y_60.out (by decide))
          have Pk67 := Lib.hid (PS56.out.ref ht)
          have TKC : Hid (Below w.heap.size w x62) := Lib.hid (HT_57.out.trans ((Tch.below_ ht KZ2.out (fun k h => h)).mono KW.out))
          clear hd ht HCUT KZ2 j0 j1 kk
          go_wp2_with fail
          obtain ⟨dq, hdq⟩ : ∃ q : Dsk.Dk, { d0 with l := lc, ops := [] } = q := ⟨_, rfl⟩
          have QD := Lib.hid QC.out
          rw [hdq] at QD
          have EQD : Hid (Dsk.cont R Bn T S O dq = lc) := Lib.hid (by rw [← hdq]; rfl)
          have IN0 : Hid (Dsk.Few dp (k + 0) ∧ dp.l = lc ∧ dp.ops = [] ∧ dp.key = 0 ∧ dp.seen = 1 ∧ dp.dead = false) := Lib.hid (by
            rw [← HDP.out]
            obtain ⟨a, b, c, e, f, g⟩ := FW0.out
            exact ⟨⟨a, b, c, e, f, Nat.zero_le _⟩, rfl, rfl, DK.out.1, rfl, DK.out.2.2⟩)
          clear hdq
          obtain ⟨Z, hZ⟩ : ∃ Z, R + Bn * (T * S) = Z := ⟨_, rfl⟩
          have EZ := Lib.hid hZ
          have SZ : Geo.size (R : Int) Bn T S O = (Z : Int) := by
            unfold Geo.size
            rw [if_pos HV.out, ← hZ]
            push_cast
            rfl
          have ZL : Hid (Z ≤ 120) := Lib.hid (by have := FA.out.2.1; rw [SZ] at this; omega)
          have RZ := Lib.hid fun c => rsize_any (R : Int) Bn T S O c
          rw [SZ] at RZ
          clear SZ hZ
          go_loopw [16] (fun i wr => ∃ (a : Nat) (d : Dsk.Dk), a ≤ Z ∧ i = .int .i64 (a : Int) ∧ Hid (CBox wr B0 R Bn T S O (.slice none 0 0) (.slice none 0 0) (.slice Aa n ca) ∧ Row wr b13 49 #[.pointer (some ⟨P, 0, none⟩), .pointer (some ⟨D0, 0, none⟩), .pointer (some ⟨D1, 0, none⟩)] ∧ Row wr b25 54 #[.pointer (some ⟨E0, 0, none⟩), .pointer (some ⟨E1, 0, none⟩)] ∧ PSt N wr P D0 D1 R Bn T S O [] [] (Dsk.Pw.mk false false 0 1) d d1 ∧ RSt K wr Q E0 E1 R Bn T S O [] [] Dsk.Pw.new dq d1 ∧ Below w.heap.size w wr) ∧ Hid (Dsk.Few d (k + a) ∧ d.l = lc ∧ d.ops = [] ∧ d.key = 0 ∧ d.seen = 1 ∧ d.dead = false)) (fun i _ => Z - (intOf i).toNat)
          case atStart => exact ⟨0, dp, Nat.zero_le _, rfl, Lib.hid ⟨Ck63.out, Xk64.out, Yk65.out, Pk67.out, QD.out, TKC.out⟩, IN0⟩
          case round =>
            obtain ⟨a, d, hk3, rfl, V, VD⟩ := hrel
            have CA := Lib.hid V.out.1
            have XA := Lib.hid V.out.2.1
            have YA := Lib.hid V.out.2.2.1
            have PA := Lib.hid V.out.2.2.2.1
            have QA := Lib.hid V.out.2.2.2.2.1
            have TA_ := Lib.hid V.out.2.2.2.2.2
            have zl := ZL.out
            clear V
            obtain ⟨⟨c0, c1, c2, c3, c4⟩, c5, c6, c7⟩ := CBox.cells CA.out
            go_wp2_with fail
            refine (RZ.out _).mono ?_
            rintro e x68 ⟨rfl, hb⟩
            have C_69 := Lib.hid (Row.go CA.out (hb))
            have X_70 := Lib.hid (Row.go XA.out (hb))
            have Y_71 := Lib.hid (Row.go YA.out (hb))
            have P_72 := Lib.hid (PSt.fw PA.out (hb))
            have Q_73 := Lib.hid (RSt.fw QA.out (hb))
            have hl74 := hb
            have HT_75 : Hid (Below w.heap.size w x68) := Lib.hid (TA_.out.trans ((hl74).mono TA_.out.size))
            clear hb
            clear c0 c1 c2 c3 c4 c5 c6 c7
            by_cases hla : a < Z
            · have aI : (a : Int) < (Z : Int) := by omega
              have da : decide ((a : Int) < (Z : Int)) = true := decide_eq_true aI
              have NZ := Lib.hid (PSt.size P_72.out)
              obtain ⟨k0, k1, k2⟩ := row3 X_70.out
              go_wp2_with fail
              have RD := PSt.read0 P_72.out (m := k + a) (n := 1) (show Dsk.Pw.fit (Dsk.Pw.mk false false 0 1) 1 from ⟨(by decide), by decide, fun h => by cases h⟩) (by decide) (by have := k1000.out; omega) VD.out.1 VD.out.2.2.2.2.2 ⟨rfl, VD.out.2.2.2.2.1⟩ rfl VD.out.2.2.2.1 (a := a) (by rw [EZ.out]; exact hla)
              rw [show Dsk.cont R Bn T S O d = lc by unfold Dsk.cont; rw [VD.out.2.1, VD.out.2.2.1]; rfl] at RD
              have HRD := Lib.hid RD
              clear RD

              refine HRD.out.mono ?_
              rintro e x76 ⟨u1, d', rfl, hu, hd5, hfew, hd, ht⟩
              have U1 := Lib.hid hu
              have PR := Lib.hid hd
              have VD2 : Hid (Dsk.Few d' (k + (a + 1)) ∧ d'.l = lc ∧ d'.ops = [] ∧ d'.key = 0 ∧ d'.seen = 1 ∧ d'.dead = false) := Lib.hid ⟨(show Dsk.Few d' (k + (a + 1)) from hfew), hd5.1.trans VD.out.2.1, hd5.2.1.trans VD.out.2.2.1, hd5.2.2.1.trans VD.out.2.2.2.1, hd5.2.2.2.1.trans VD.out.2.2.2.2.1, hd5.2.2.2.2.trans VD.out.2.2.2.2.2⟩
              have C_78 := Lib.hid (Row.tch ht C_69.out (by decide))
              have X_79 := Lib.hid (Row.tch ht X_70.out (by decide))
              have Y_80 := Lib.hid (Row.tch ht Y_71.out (by decide))
              have Q_81 := Lib.hid (Q_73.out.prog ht)
              have HT_77 : Hid (Below w.heap.size w x76) := Lib.hid (HT_75.out.trans ((Tch.below_ ht NZ.out (fun k h => h)).mono NW.out))
              clear hu hd5 hfew hd ht k0 k1 k2 NZ HRD
              obtain ⟨j0, j1⟩ := row2 Y_80.out
              obtain ⟨KK, kk, -, hrd⟩ := RSt.cac0 Q_81.out
              have RC := hrd (a : Int)
              rw [EQD.out] at RC
              have HRC := Lib.hid RC
              clear hrd RC
              obtain ⟨A1, a1, rfl⟩ := U1.out.form
              go_wp2_with fail
              refine HRC.out.mono ?_
              rintro e x82 ⟨u2, rfl, hu, hb⟩
              have V1b := U1.out.below hb
              have V2 := hu.1
              obtain ⟨A2, a2, rfl⟩ := V2.form
              have cv1 := cvb A1 _ a1 _ V1b
              have cv2 := cvb A2 _ a2 _ V2
              rw [strOf_bOf] at cv1 cv2
              obtain ⟨mb, hmb⟩ : ∃ m, (bOf (rdB lc (a : Int))).length = m := ⟨_, rfl⟩
              rw [hmb] at cv1 cv2 ⊢
              obtain ⟨sb, hsb⟩ : ∃ s, rdB lc (a : Int) = s := ⟨_, rfl⟩
              rw [hsb] at cv1 cv2
              obtain ⟨re, hre⟩ : ∃ s, rdE lc (a : Int) = s := ⟨_, rfl⟩
              rw [hre]
              have C_83 := Lib.hid (Row.go C_78.out (hb))
              have X_84 := Lib.hid (Row.go X_79.out (hb))
              have Y_85 := Lib.hid (Row.go Y_80.out (hb))
              have Q_86 := Lib.hid (RSt.fw Q_81.out (hb))
              have P_87 := Lib.hid (PSt.fw PR.out (hb))
              have hl88 := hb
              have HT_89 : Hid (Below w.heap.size w x82) := Lib.hid (HT_77.out.trans ((hl88).mono HT_77.out.size))
              clear V1b V2 hu hb hmb hsb hre j0 j1 kk HRC
              go_wp2_with fail
              go_roundw
              case rel => exact ⟨a + 1, d', by omega, by go_num, Lib.hid ⟨C_83.out, X_84.out, Y_85.out, P_87.out, Q_86.out, HT_89.out⟩, VD2⟩
              case measure => simp [intOf]; omega
            · have aI : ¬ (a : Int) < (Z : Int) := by omega
              have da : decide ((a : Int) < (Z : Int)) = false := decide_eq_false aI
              obtain ⟨k0, k1, k2⟩ := row3 X_70.out
              obtain ⟨A, hd⟩ := PSt.fst P_72.out
              have PN := ppend_any (p := Dsk.Pw.new) hd
              rw [VD.out.2.2.1] at PN
              have HPN := Lib.hid PN
              clear hd PN
              go_wp2_with fail
              refine HPN.out.mono ?_
              rintro e w' ⟨rfl, rfl⟩
              go_wp2_with fail
              go_ret
              exact ⟨rfl, HT_75.out⟩
        · have kI : (k : Int) < (m : Int) := by omega
          obtain ⟨OKM, hml⟩ := VM.out
          have hk2 : k < M'.length := by omega
          obtain ⟨g, cap, hv⟩ := ow_some OW.out hk2
          injection hv with hv1 hv2 hv3
          subst hv1
          clear hv3 hv2
          obtain ⟨y, hy⟩ : ∃ y, M'[k] = y := ⟨_, rfl⟩
          have OKY := Lib.hid (hy ▸ OKM _ (List.getElem_mem hk2))
          have RG := ow_rng OW.out hlt hk2
          rw [hy] at RG
          obtain ⟨x0, x1, x2, x3, ua, un, uc, bs, x5⟩ := y
          obtain ⟨q0, -, -, -, -, -⟩ := acs_at RG
          have qf := ow_frz OW.out (k * 6)
          obtain ⟨W5, hW5⟩ : ∃ W, wr.setCell ⟨g, k * 6, none⟩ (.int .u8 0) = W := ⟨_, rfl⟩
          have T5 : Tch (N : Zn) [62] wr W5 := by
            subst hW5
            exact (Tch.refl _ _ _).set (show N ≤ g from (ow_own OW.out).1) (ow_own OW.out).2 (by simp) _
          have NZ := Lib.hid (PSt.size PW.out)
          have C5 := Lib.hid (Row.tch T5 CW.out (by decide))
          have X5 := Lib.hid (Row.tch T5 XW.out (by decide))
          have Y5 := Lib.hid (Row.tch T5 YW.out (by decide))
          have P5 := Lib.hid (PW.out.keep T5 (by decide))
          have Q5 := Lib.hid (QW.out.keep T5 (by decide))
          have B5 := Lib.hid (TW.out.trans ((Tch.below_ T5 NZ.out (fun k h => h)).mono NW.out))
          have O5 : Hid (OwA N W5 (.slice (some ⟨g, 0, none⟩) m cv) (M'.set k ⟨0, x1, x2, x3, ua, un, uc, bs, x5⟩)) := Lib.hid (by
            have := St.Ow.set acs_enc OW.out hk2 (j := 0) (by decide) (f' := ⟨0, x1, x2, x3, ua, un, uc, bs, x5⟩) (u := .int .u8 0) (by rw [hy]; rfl)
            rw [Nat.add_zero, hW5] at this
            exact this)
          have OKM2 := Lib.hid (OkM.set0 OKM hk2)
          rw [hy] at OKM2
          have LM2 : Hid ((M'.set k ⟨0, x1, x2, x3, ua, un, uc, bs, x5⟩).length = m) := Lib.hid (by rw [List.length_set]; exact hml)
          have HW5 := Lib.hid hW5
          have R5 : Hid (∀ w', OwA N w' (.slice (some ⟨g, 0, none⟩) m cv) (M'.set k ⟨0, x1, x2, x3, ua, un, uc, bs, x5⟩) → w'.rangeAt g (k * 6) (acs ⟨0, x1, x2, x3, ua, un, uc, bs, x5⟩)) := Lib.hid fun w' ho => by
            have := ow_rng ho (k := k) hlt (by rw [LM2.out]; exact hlt)
            rw [List.getElem_set_self] at this
            exact this
          have HV5 : Hid (∀ c, Below w.heap.size w c → Bs c (.slice ua un uc) bs) := Lib.hid fun c hc => OKY.out.2.2.2.2.below hc
          have k1000 := Lib.hid (show k < 1000 by omega)
          have FW0 := Lib.hid DF.out.1
          have FW1 := Lib.hid DF.out.2.1
          have DK := Lib.hid DF.out.2.2
          have HLN := Lib.hid hle
          have FIT : Hid (Dsk.Pw.fit (Dsk.Pw.mk false true (nn - k) 0) k) := Lib.hid ⟨Nat.zero_le _, (show -9223372036854775808 ≤ nn - k ∧ nn - k < 9223372036854775808 by have := NR.out; omega), fun _ => (show 0 ≤ nn - k by omega)⟩
          obtain ⟨at_, hat⟩ : ∃ q : Dsk.Act, Ac.act ⟨0, x1, x2, x3, ua, un, uc, bs, x5⟩ = q := ⟨_, rfl⟩
          have AK := Lib.hid (show at_.kind < 4 by rw [← hat]; show x1 < 4; have := OKY.out.2.1; exact Nat.lt_succ_of_le this)
          have HAT := Lib.hid hat
          have RDY := Lib.hid (show Dsk.rdy (Dsk.Pw.mk false true (nn - k) 0) d0 from ⟨rfl, DK.out.2.1⟩)
          have hn0 : ¬ nn - k = 0 := by omega
          have HLT := Lib.hid (show ((k + 1 : Nat) : Int) ≤ nn by omega)
          have RDN : Dsk.rdy Dsk.Pw.new d0 := ⟨rfl, DK.out.2.1⟩
          have POK : (Dsk.Pw.mk false true (nn - k) 0).ok = true := by
            show (!true || decide (nn - (k : Int) ≠ 0)) = true
            rw [decide_eq_true hn0]; rfl
          obtain ⟨z1, z2, z3⟩ := Dsk.act_eq (faL []) R Bn T S O (p := Dsk.Pw.mk false true (nn - k) 0) (q := Dsk.Pw.new) (d := d0) (a := at_) AK.out ⟨fun _ => RDN, fun _ => RDY.out⟩ (POK.trans rfl)
          have NE := Dsk.act_on (faL []) R Bn T S O AK.out DK.out.2.2 RDY.out POK
          have AP : Dsk.actP (Dsk.Pw.mk false true (nn - k) 0) d0 at_ = Dsk.Pw.mk false true (nn - ((k + 1 : Nat) : Int)) 0 := by
            rw [Dsk.actP_pass AK.out DK.out.2.2 RDY.out rfl hn0]
            show Dsk.Pw.mk false true (nn - (k : Int) - 1) 0 = _
            rw [show nn - (k : Int) - 1 = nn - ((k + 1 : Nat) : Int) by omega]
          have KP := Dsk.act_kept (faL []) R Bn T S O (Dsk.Pw.mk false true (nn - k) 0) d0 at_ AK.out
          have NRR := Dsk.actD_near (faL []) R Bn T S O (Dsk.Pw.mk false true (nn - k) 0) d0 at_
          obtain ⟨sb, hsb⟩ : ∃ q, Dsk.actB (faL []) R Bn T S O (Dsk.Pw.mk false true (nn - k) 0) d0 at_ = q := ⟨_, rfl⟩
          obtain ⟨se, hse⟩ : ∃ q, Dsk.actE (faL []) R Bn T S O (Dsk.Pw.mk false true (nn - k) 0) d0 at_ = q := ⟨_, rfl⟩
          obtain ⟨d0', hd0'⟩ : ∃ q, Dsk.actD (faL []) R Bn T S O (Dsk.Pw.mk false true (nn - k) 0) d0 at_ = q := ⟨_, rfl⟩
          rw [hse] at NE z1
          rw [hsb] at z2
          rw [hd0'] at KP NRR z3
          have AE : Hid (Dsk.actE (faL []) R Bn T S O (Dsk.Pw.mk false true (nn - k) 0) d0 at_ = se ∧ Dsk.actB (faL []) R Bn T S O (Dsk.Pw.mk false true (nn - k) 0) d0 at_ = sb ∧ Dsk.actD (faL []) R Bn T S O (Dsk.Pw.mk false true (nn - k) 0) d0 at_ = d0' ∧ Dsk.actP (Dsk.Pw.mk false true (nn - k) 0) d0 at_ = Dsk.Pw.mk false true (nn - ((k + 1 : Nat) : Int)) 0) := Lib.hid ⟨hse, hsb, hd0', AP⟩
          have AF : Hid (Dsk.actE (faL []) R Bn T S O Dsk.Pw.new d0 at_ = se ∧ Dsk.actB (faL []) R Bn T S O Dsk.Pw.new d0 at_ = sb ∧ Dsk.actD (faL []) R Bn T S O Dsk.Pw.new d0 at_ = d0' ∧ Dsk.actP Dsk.Pw.new d0 at_ = Dsk.Pw.new) := Lib.hid ⟨z1.symm, z2.symm, z3.symm, Dsk.actP_free AK.out rfl⟩
          have DK2 : Hid (Dsk.Few d0' (k + 1) ∧ Dsk.Few d1 (k + 1) ∧ d0'.key = 0 ∧ d0'.seen = 0 ∧ d0'.dead = false) := Lib.hid ⟨FW0.out.near NRR, FW1.out.mono (by omega), KP.1.trans DK.out.1, KP.2.1.trans DK.out.2.1, (KP.2.2 fun n => by rw [noF]; decide).trans DK.out.2.2⟩
          have e1 : (se == 13) = false := by simpa using NE
          have e2 : ¬ se = 13 := NE
          clear hn0 RDN POK z1 z2 z3 NE AP KP NRR hse hsb hd0'
          clear hW5 T5 RG hy OKM hml hk2 hat hle hkn
          go_wp2_with (first | rw [HW5.out])
          refine wp_region_held (P := Try.prog) (S := (fun w' : World => Tch (N : Zn) tyD W5 w')) rfl ?_
          change wpAnyH _ _ _ _ _ _ _ _ W5.drew
          have vhz2 : Below W5.heap.size W5 W5.drew := (Below.refl W5.heap.size W5).drew
          generalize W5.drew = vwz1 at vhz2 ⊢
          have vHZ3 : Hid (Below W5.heap.size W5 vwz1) := Lib.hid vhz2
          have vTT4 : Hid (Tch (N : Zn) tyD W5 vwz1) := Lib.hid (Tch.of_below vHZ3.out (N : Zn) tyD)
          clear vhz2
          have vhS5 : (fun w' : World => Tch (N : Zn) tyD W5 w') vwz1 := vTT4.out
          refine takeD (i := 0) (v := .agg #[.pointer (some ⟨P, 0, none⟩), .pointer (some ⟨D0, 0, none⟩), .pointer (some ⟨D1, 0, none⟩)]) (some 65) rfl rfl (by kernel_rfl) (by kernel_rfl) (by kernel_rfl) (fun _ _ _ h => h) (yieldsIf_load_mid (by rfl) _ _ rfl b13 0 rfl [.pointer (some ⟨P, 0, none⟩), .pointer (some ⟨D0, 0, none⟩), .pointer (some ⟨D1, 0, none⟩)] _ (fun w' h => row3c (Row.tch h X5.out (by decide))) Try.underlying49 rfl (by kernel_rfl)) vhS5 ?_
          simp only [Act.put, List.setIfInBounds_toArray, List.set_cons_zero, List.set_cons_succ]
          refine takeD (i := 1) (v := .slice (some ⟨g, 0, none⟩) m cv) (some 66) rfl rfl (by kernel_rfl) (by kernel_rfl) (by kernel_rfl) (fun _ _ _ h => h) (Or.inl ⟨by rfl, by rintro w' -; go_simp⟩) vhS5 ?_
          simp only [Act.put, List.setIfInBounds_toArray, List.set_cons_zero, List.set_cons_succ]
          refine takeD (i := 2) (v := .int .i64 (k : Int)) (some 67) rfl rfl (by kernel_rfl) (by kernel_rfl) (by kernel_rfl) (fun _ _ _ h => h) (Or.inl ⟨by rfl, by rintro w' -; go_simp⟩) vhS5 ?_
          simp only [Act.put, List.setIfInBounds_toArray, List.set_cons_zero, List.set_cons_succ]
          refine takeD (i := 3) (v := .pointer (some ⟨g, k * 6, none⟩)) (some 68) rfl rfl (by kernel_rfl) (by kernel_rfl) (by kernel_rfl) (fun _ _ _ h => h) (Or.inl ⟨by rfl, by rintro w' -; go_simp⟩) vhS5 ?_
          simp only [Act.put, List.setIfInBounds_toArray, List.set_cons_zero, List.set_cons_succ]
          refine takeD (i := 4) (v := .agg #[.int .u8 0, .int .u8 (x1 : Int), .int .u64 (x2 : Int), .int .i64 x3, .slice ua un uc, .bool x5]) (some 69) rfl rfl (by kernel_rfl) (by kernel_rfl) (by kernel_rfl) (fun _ _ _ h => h) (yieldsIf_load_mid (by rfl) _ _ rfl g (k * 6) rfl [.int .u8 0, .int .u8 (x1 : Int), .int .u64 (x2 : Int), .int .i64 x3, .slice ua un uc, .bool x5] _ (fun w' h => R5.out _ (Tch.ow O5.out h (by decide))) Try.underlying62 rfl (by kernel_rfl)) vhS5 ?_
          simp only [Act.put, List.setIfInBounds_toArray, List.set_cons_zero, List.set_cons_succ]
          refine wpAnyH_ready (rs := [5]) (by kernel_rfl) (by simp) ?_
          refine AllReadyH.cons rfl (fun vK6 hvK6 => ?_) AllReadyH.nil
          have HvK6 := Lib.hid hvK6
          clear hvK6
          rw [if_pos (by rfl)]
          go_simp
          have DA := do_at0 (P5.out.fw vHZ3.out) (PSt.size (P5.out.fw vHZ3.out)) FIT.out k1000.out FW0.out FW1.out ⟨0, x1, x2, x3, ua, un, uc, bs, x5⟩ rfl (Nat.le_trans OKY.out.2.2.2.1 (by decide)) (fun c hc => HV5.out c ((B5.out.trans (vHZ3.out.mono B5.out.size)).trans (hc.mono NW.out))) (by rw [HAT.out]; exact AE.out)
          unfold ptrN acs at DA
          refine DA.mono ?_
          clear DA
          rintro e vx7 ⟨rfl, hd, ht⟩
          have P6 := Lib.hid hd
          have T6 := Lib.hid ht
          clear hd ht
          have vTT8 : Hid (Tch (N : Zn) tyD W5 vx7) := Lib.hid (vTT4.out.trans (T6.out))
          have vhS9 : (fun w' : World => Tch (N : Zn) tyD W5 w') vx7 := vTT8.out
          refine HvK6.out _ _ vhS9 fun _ => ?_
          try simp only [Act.put, List.setIfInBounds_toArray, List.set_cons_zero, List.set_cons_succ]
          refine takeD (i := 6) (v := .tuple #[.string sb, .int .i64 se]) (some 64) rfl rfl (by kernel_rfl) (by kernel_rfl) (by kernel_rfl) (fun _ _ _ h => h) (Or.inl ⟨by rfl, by rintro w' -; go_simp⟩) vhS9 ?_
          simp only [Act.put, List.setIfInBounds_toArray, List.set_cons_zero, List.set_cons_succ]
          refine takeD (i := 7) (v := .string sb) (some 71) rfl rfl (by kernel_rfl) (by kernel_rfl) (by kernel_rfl) (fun _ _ _ h => h) (Or.inl ⟨by rfl, by rintro w' -; go_simp⟩) vhS9 ?_
          simp only [Act.put, List.setIfInBounds_toArray, List.set_cons_zero, List.set_cons_succ]
          refine takeD (i := 8) (v := .int .i64 se) (some 72) rfl rfl (by kernel_rfl) (by kernel_rfl) (by kernel_rfl) (fun _ _ _ h => h) (Or.inl ⟨by rfl, by rintro w' -; go_simp⟩) vhS9 ?_
          simp only [Act.put, List.setIfInBounds_toArray, List.set_cons_zero, List.set_cons_succ]
          refine takeD (i := 9) (v := .string sb) (some 13) rfl rfl (by kernel_rfl) (by kernel_rfl) (by kernel_rfl) (fun _ _ _ h => h) (Or.inl ⟨by rfl, by rintro w' -; go_simp⟩) vhS9 ?_
          simp only [Act.put, List.setIfInBounds_toArray, List.set_cons_zero, List.set_cons_succ]
          refine takeD (i := 10) (v := .int .i64 se) (some 14) rfl rfl (by kernel_rfl) (by kernel_rfl) (by kernel_rfl) (fun _ _ _ h => h) (Or.inl ⟨by rfl, by rintro w' -; go_simp⟩) vhS9 ?_
          simp only [Act.put, List.setIfInBounds_toArray, List.set_cons_zero, List.set_cons_succ]
          refine wpAnyH_done (by kernel_rfl) ?_ _
          have TT := Lib.hid (vTT8.out)
          have B6 := Lib.hid (B5.out.trans ((Tch.below_ TT.out (PSt.size P5.out) (fun k h => h)).mono NW.out))
          have C6 := Lib.hid (Row.tch TT.out C5.out (by decide))
          have X6 := Lib.hid (Row.tch TT.out X5.out (by decide))
          have Y6 := Lib.hid (Row.tch TT.out Y5.out (by decide))
          have O6 := Lib.hid (Tch.ow O5.out TT.out (by decide))
          have Q6 := Lib.hid (Q5.out.prog TT.out)
          have KZ := Lib.hid (RSt.size Q6.out)
          go_wp2_with fail
          refine wp_region_held (P := Try.prog) (S := (fun w' : World => Tch (K : Zn) tyQ vx7 w')) rfl ?_
          change wpAnyH _ _ _ _ _ _ _ _ vx7.drew
          have zhz2 : Below vx7.heap.size vx7 vx7.drew := (Below.refl vx7.heap.size vx7).drew
          generalize vx7.drew = zwz1 at zhz2 ⊢
          have zHZ3 : Hid (Below vx7.heap.size vx7 zwz1) := Lib.hid zhz2
          have zTT4 : Hid (Tch (K : Zn) tyQ vx7 zwz1) := Lib.hid (Tch.of_below zHZ3.out (K : Zn) tyQ)
          clear zhz2
          have zhS5 : (fun w' : World => Tch (K : Zn) tyQ vx7 w') zwz1 := zTT4.out
          refine takeD (i := 0) (v := .agg #[.pointer (some ⟨E0, 0, none⟩), .pointer (some ⟨E1, 0, none⟩)]) (some 75) rfl rfl (by kernel_rfl) (by kernel_rfl) (by kernel_rfl) (fun _ _ _ h => h) (yieldsIf_load_mid (by rfl) _ _ rfl b25 0 rfl [.pointer (some ⟨E0, 0, none⟩), .pointer (some ⟨E1, 0, none⟩)] _ (fun w' h => row2c (Row.tch h Y6.out (by decide))) Try.underlying54 rfl (by kernel_rfl)) zhS5 ?_
          simp only [Act.put, List.setIfInBounds_toArray, List.set_cons_zero, List.set_cons_succ]
          refine takeD (i := 1) (v := .slice (some ⟨g, 0, none⟩) m cv) (some 76) rfl rfl (by kernel_rfl) (by kernel_rfl) (by kernel_rfl) (fun _ _ _ h => h) (Or.inl ⟨by rfl, by rintro w' -; go_simp⟩) zhS5 ?_
          simp only [Act.put, List.setIfInBounds_toArray, List.set_cons_zero, List.set_cons_succ]
          refine takeD (i := 2) (v := .int .i64 (k : Int)) (some 77) rfl rfl (by kernel_rfl) (by kernel_rfl) (by kernel_rfl) (fun _ _ _ h => h) (Or.inl ⟨by rfl, by rintro w' -; go_simp⟩) zhS5 ?_
          simp only [Act.put, List.setIfInBounds_toArray, List.set_cons_zero, List.set_cons_succ]
          refine takeD (i := 3) (v := .pointer (some ⟨g, k * 6, none⟩)) (some 78) rfl rfl (by kernel_rfl) (by kernel_rfl) (by kernel_rfl) (fun _ _ _ h => h) (Or.inl ⟨by rfl, by rintro w' -; go_simp⟩) zhS5 ?_
          simp only [Act.put, List.setIfInBounds_toArray, List.set_cons_zero, List.set_cons_succ]
          refine takeD (i := 4) (v := .agg #[.int .u8 0, .int .u8 (x1 : Int), .int .u64 (x2 : Int), .int .i64 x3, .slice ua un uc, .bool x5]) (some 79) rfl rfl (by kernel_rfl) (by kernel_rfl) (by kernel_rfl) (fun _ _ _ h => h) (yieldsIf_load_mid (by rfl) _ _ rfl g (k * 6) rfl [.int .u8 0, .int .u8 (x1 : Int), .int .u64 (x2 : Int), .int .i64 x3, .slice ua un uc, .bool x5] _ (fun w' h => R5.out _ (Tch.ow O6.out h (by decide))) Try.underlying62 rfl (by kernel_rfl)) zhS5 ?_
          simp only [Act.put, List.setIfInBounds_toArray, List.set_cons_zero, List.set_cons_succ]
          refine wpAnyH_ready (rs := [5]) (by kernel_rfl) (by simp) ?_
          refine AllReadyH.cons rfl (fun zK6 hzK6 => ?_) AllReadyH.nil
          have HzK6 := Lib.hid hzK6
          clear hzK6
          rw [if_pos (by rfl)]
          go_simp
          have DA := want_at0 (Q6.out.fw zHZ3.out) (RSt.size (Q6.out.fw zHZ3.out)) (fit_ref k) k1000.out FW0.out FW1.out ⟨0, x1, x2, x3, ua, un, uc, bs, x5⟩ rfl (show x1 < 7 by have : x1 ≤ 3 := OKY.out.2.1; omega) (Nat.le_trans OKY.out.2.2.2.1 (by decide)) (fun c hc => HV5.out c ((B6.out.trans (zHZ3.out.mono B6.out.size)).trans (hc.mono KW.out))) none (by rw [HAT.out]; exact AF.out)
          unfold ptrN acs at DA
          refine DA.mono ?_
          clear DA
          rintro e zx7 ⟨rfl, hd, ht⟩
          have Q7 := Lib.hid hd
          have T7 := Lib.hid ht
          clear hd ht
          have zTT8 : Hid (Tch (K : Zn) tyQ vx7 zx7) := Lib.hid (zTT4.out.trans (T7.out))
          have zhS9 : (fun w' : World => Tch (K : Zn) tyQ vx7 w') zx7 := zTT8.out
          refine HzK6.out _ _ zhS9 fun _ => ?_
          try simp only [Act.put, List.setIfInBounds_toArray, List.set_cons_zero, List.set_cons_succ]
          refine wpAnyH_done (by kernel_rfl) ?_ _
          have TU := Lib.hid (zTT8.out)
          have B7 := Lib.hid (B6.out.trans ((Tch.below_ TU.out KZ.out (fun k h => h)).mono KW.out))
          have C7 := Lib.hid (Row.tch TU.out C6.out (by decide))
          have X7 := Lib.hid (Row.tch TU.out X6.out (by decide))
          have Y7 := Lib.hid (Row.tch TU.out Y6.out (by decide))
          have O7 := Lib.hid (Tch.ow O6.out TU.out (by decide))
          have P7 := Lib.hid (P6.out.ref TU.out)
          go_wp2_with fail
          go_roundw
          case rel => exact ⟨k + 1, _, d0', by omega, HLT.out, by go_num, Lib.hid ⟨C7.out, X7.out, Y7.out, P7.out, Q7.out, O7.out, B7.out⟩, Lib.hid ⟨OKM2.out, LM2.out⟩, DK2⟩
          case measure => simp [intOf]; omega
      · obtain rfl : k = m := by omega
        have kI : ¬ (k : Int) < (k : Int) := by omega
        have dk : decide ((k : Int) < (k : Int)) = false := decide_eq_false kI
        have hge : decide ((k : Int) ≤ nn) = true := decide_eq_true hle
        clear VM DF
        obtain ⟨k0, k1, k2⟩ := row3 XW.out
        go_wp2_with fail
        have OF : Calls Try.prog 27 #[.pointer (some ⟨P, 0, none⟩)] wr (qPost (.bool false) wr) := poff_any PW.out.pw
        refine OF.mono ?_
        clear OF
        rintro e w' ⟨rfl, hw⟩
        subst hw
        go_wp2_with fail
        go_ret
        exact ⟨rfl, TW.out⟩
end Go.Proofs.Ytdjjihppaobbcaa

