/- The walk of the law on Select and Transpose. WRITTEN BY gen_Nf.py. -/
import Derived.Test.YtiibdoibcbokcaaNc
import Derived.Test.YtiibdoibcbokcaaMxu
import Derived.Deep.RegionHeld3
import Derived.Deep.AppendLies
namespace Go.Proofs.Ytiibdoibcbokcaa
open Go Go.RowKit Lin
set_option linter.unusedVariables false

def okN (m : List (List Nat)) (n : Nat) (w : World) (e : Ending) (w' : World) : Prop := ∃ b c, e = .returned (.tuple #[.slice (some ⟨b, 0, none⟩) n c, .int .i64 0]) ∧ Ms w' (.slice (some ⟨b, 0, none⟩) n c) m ∧ Below w.heap.size w w'
theorem trans_okN (v : Value) (m : List (List Nat)) (w : World) {r n : Nat} (h : Ms w v m) (hR : Rect r n m) (h0 : 0 < r) (hn0 : 0 < n) (hr64 : r ≤ 64) (hn64 : n ≤ 64) :
    Calls Try.prog 24 #[v] w (okN (transF r n m) n w) :=
  (transpose_ok v m w h hR h0 hn0 hr64 hn64).mono fun _ _ ⟨he, hg, hb⟩ => ⟨_, _, he, by
    have := (hg.wk (by unfold maxLen; omega) (by unfold maxLen; omega)).sl
    rw [(gridL_rect hg.byt).len] at this
    exact this, hb⟩
theorem sel_okN (v v1 v2 : Value) (m : List (List Nat)) (ri ci : List Int) (w : World) (h : Ms w v m) (h1 : Is w v1 ri) (h2 : Is w v2 ci) {r n : Nat} (hR : Rect r n m) (h0 : 0 < r) (hn0 : 0 < n) (hr64 : r ≤ 64) (hn64 : n ≤ 64)
    (hl : 1 ≤ ri.length ∧ ri.length ≤ 64) (hl2 : 1 ≤ ci.length ∧ ci.length ≤ 64) (ha : belowB ri r = true) (hb : belowB ci n = true) {p q : Nat} (hp : ri.length = p) (hq : ci.length = q) :
    Calls Try.prog 25 #[v, v1, v2] w (okN (gridL p q (selE m ri ci)) p w) :=
by
  subst hp hq
  exact (sel_ok v v1 v2 m ri ci w h h1 h2 hR h0 hn0 hr64 hn64 hl hl2 ha hb).mono fun _ _ ⟨he, hg, hb⟩ => ⟨_, _, he, by
    have := (hg.wk (by unfold maxLen; omega) (by unfold maxLen; omega)).sl
    rw [(gridL_rect hg.byt).len] at this
    exact this, hb⟩
theorem Ms.rows {w : World} {b off c r n : Nat} {m : List (List Nat)} (h : Ms w (.slice (some ⟨b, off, none⟩) r c) m) (hR : Rect r n m) (h0 : 0 < r) (hn0 : 0 < n) : MsAt w b off r n m := by
  obtain ⟨b2, o2, c2, hv, _, hat⟩ := Ms.open_ h hR h0 hn0
  injection hv with e1 e2 e3
  injection e1 with e1
  injection e1 with e1 e4
  subst e1 e4
  exact hat
theorem OwnL.vals {w : World} {base : Nat} {e : TypeId} {v : Value} {l : List Nat} {xs : List Value} (h : OwnL Bv w base e v l) (hrow : w.ownsRow base e 1 v l.length xs) : ∀ k (hk : k < l.length), ∃ u, xs[k]? = some u ∧ Bv w u l[k] := by
  intro k hk
  rcases h with ⟨rfl, rfl⟩ | ⟨g, cap, rfl, hb, cs, hr, hs, hm, hl, hc⟩
  · exact absurd hk (Nat.not_lt_zero k)
  · obtain ⟨_, h⟩ := hrow
    rcases h with ⟨h, _⟩ | ⟨g', cap', cur, hv, _, hh, hle, _, _, ht⟩
    · cases h
    · injection hv with hv1 hv2 hv3
      injection hv1 with hv1
      injection hv1 with hv1
      subst hv1 hv3
      have e1 : cur = cs := by
        unfold Row at hr
        rw [hr] at hh
        cases hh
        rfl
      subst e1
      obtain ⟨u, hu, ho⟩ := hc k hk
      refine ⟨u, ?_, ho.here⟩
      rw [← ht, List.getElem?_take_of_lt (by omega)]
      simpa using hu
theorem Is.cells {w : World} {b off c n : Nat} {l : List Int} (h : Is w (.slice (some ⟨b, off, none⟩) n c) l) (h0 : 0 < l.length) : ∀ k, k < l.length → w.cell? ⟨b, off + k, none⟩ = some (.int .i64 (l.getD k 0)) := by
  obtain ⟨b2, o2, c2, hv, _, hat⟩ := Is.at_ h h0
  injection hv with e1 e2 e3
  injection e1 with e1
  injection e1 with e1 e4
  subst e1 e4
  exact hat

set_option maxHeartbeats 16000000 in
set_option maxRecDepth 100000 in
theorem selw_e (v0 v1 v2 : Value) (a : List (List Nat)) (ri ci : List Int) (w : World) (h0 : Ms w v0 a) (h1 : Is w v1 ri) (h2 : Is w v2 ci) (s0 : smallB a = false) : Calls Try.prog 6 #[v0, v1, v2] w (lawPost w) := by
  have A := Lib.hid h0
  have I1 := Lib.hid h1
  have I2 := Lib.hid h2
  have S0 := Lib.hid s0
  obtain ⟨A1, c1, rfl⟩ := Sl.form h1
  obtain ⟨A2, c2, rfl⟩ := Sl.form h2
  obtain ⟨p, ep⟩ : ∃ p, ri.length = p := ⟨_, rfl⟩
  obtain ⟨q, eq⟩ : ∃ q, ci.length = q := ⟨_, rfl⟩
  rw [ep] at I1 ⊢
  rw [eq] at I2 ⊢
  have EP := Lib.hid ep
  have EQ := Lib.hid eq
  clear h0 h1 h2 s0 ep eq 
  go_enter Try.func6, Try.ntmps6
  go_wp2_with fail
  refine (awake_any _).mono ?_
  rintro e x2 ⟨rfl, hb1⟩
  have A_3 := Lib.hid (Ms.to A.out hb1)
  have R_4 := Lib.hid (Is.to I1.out hb1)
  have C_5 := Lib.hid (Is.to I2.out hb1)
  have HB_6 := Lib.hid (hb1)
  clear hb1
  go_wp2_with fail
  refine (small_b _ a _ false A_3.out S0.out).mono ?_
  rintro e w' ⟨rfl, rfl⟩
  go_wp2_with fail
  go_ret
  exact ⟨by first | rfl | simp, HB_6.out⟩
set_option maxHeartbeats 16000000 in
set_option maxRecDepth 100000 in
theorem selw_r (v0 v1 v2 : Value) (a : List (List Nat)) (ri ci : List Int) (w : World) (h0 : Ms w v0 a) (h1 : Is w v1 ri) (h2 : Is w v2 ci) (s0 : smallB a = true) (hl : 70 < ri.length) : Calls Try.prog 6 #[v0, v1, v2] w (lawPost w) := by
  have A := Lib.hid h0
  have I1 := Lib.hid h1
  have I2 := Lib.hid h2
  have S0 := Lib.hid s0
  obtain ⟨A1, c1, rfl⟩ := Sl.form h1
  obtain ⟨A2, c2, rfl⟩ := Sl.form h2
  obtain ⟨p, ep⟩ : ∃ p, ri.length = p := ⟨_, rfl⟩
  obtain ⟨q, eq⟩ : ∃ q, ci.length = q := ⟨_, rfl⟩
  rw [ep] at I1 ⊢
  rw [eq] at I2 ⊢
  have EP := Lib.hid ep
  have EQ := Lib.hid eq
  have d1 : decide ((70 : Int) < (p : Int)) = true := by simp; omega
  clear h0 h1 h2 s0 ep eq hl
  go_enter Try.func6, Try.ntmps6
  go_wp2_with fail
  refine (awake_any _).mono ?_
  rintro e x2 ⟨rfl, hb1⟩
  have A_3 := Lib.hid (Ms.to A.out hb1)
  have R_4 := Lib.hid (Is.to I1.out hb1)
  have C_5 := Lib.hid (Is.to I2.out hb1)
  have HB_6 := Lib.hid (hb1)
  clear hb1
  go_wp2_with fail
  refine (small_b _ a _ true A_3.out S0.out).mono ?_
  rintro e w' ⟨rfl, rfl⟩
  go_wp2_with fail
  go_ret
  exact ⟨by first | rfl | simp, HB_6.out⟩
set_option maxHeartbeats 16000000 in
set_option maxRecDepth 100000 in
theorem selw_c (v0 v1 v2 : Value) (a : List (List Nat)) (ri ci : List Int) (w : World) (h0 : Ms w v0 a) (h1 : Is w v1 ri) (h2 : Is w v2 ci) (s0 : smallB a = true) (hl : ri.length ≤ 70) (hl2 : 70 < ci.length) : Calls Try.prog 6 #[v0, v1, v2] w (lawPost w) := by
  have A := Lib.hid h0
  have I1 := Lib.hid h1
  have I2 := Lib.hid h2
  have S0 := Lib.hid s0
  obtain ⟨A1, c1, rfl⟩ := Sl.form h1
  obtain ⟨A2, c2, rfl⟩ := Sl.form h2
  obtain ⟨p, ep⟩ : ∃ p, ri.length = p := ⟨_, rfl⟩
  obtain ⟨q, eq⟩ : ∃ q, ci.length = q := ⟨_, rfl⟩
  rw [ep] at I1 ⊢
  rw [eq] at I2 ⊢
  have EP := Lib.hid ep
  have EQ := Lib.hid eq
  have d1 : decide ((70 : Int) < (p : Int)) = false := by simp; omega
  have d2 : decide ((70 : Int) < (q : Int)) = true := by simp; omega
  clear h0 h1 h2 s0 ep eq hl hl2
  go_enter Try.func6, Try.ntmps6
  go_wp2_with fail
  refine (awake_any _).mono ?_
  rintro e x2 ⟨rfl, hb1⟩
  have A_3 := Lib.hid (Ms.to A.out hb1)
  have R_4 := Lib.hid (Is.to I1.out hb1)
  have C_5 := Lib.hid (Is.to I2.out hb1)
  have HB_6 := Lib.hid (hb1)
  clear hb1
  go_wp2_with fail
  refine (small_b _ a _ true A_3.out S0.out).mono ?_
  rintro e w' ⟨rfl, rfl⟩
  go_wp2_with fail
  go_ret
  exact ⟨by first | rfl | simp, HB_6.out⟩
set_option maxHeartbeats 16000000 in
set_option maxRecDepth 100000 in
theorem selw_inv (v0 v1 v2 : Value) (a : List (List Nat)) (ri ci : List Int) (w : World) (h0 : Ms w v0 a) (h1 : Is w v1 ri) (h2 : Is w v2 ci) (s0 : smallB a = true) (hl : ri.length ≤ 70) (hl2 : ci.length ≤ 70) (hv : validB a = false) : Calls Try.prog 6 #[v0, v1, v2] w (lawPost w) := by
  have A := Lib.hid h0
  have I1 := Lib.hid h1
  have I2 := Lib.hid h2
  have S0 := Lib.hid s0
  have VA := Lib.hid hv
  obtain ⟨A0, c0, rfl⟩ := Sl.form h0
  obtain ⟨A1, c1, rfl⟩ := Sl.form h1
  obtain ⟨A2, c2, rfl⟩ := Sl.form h2
  obtain ⟨p, ep⟩ : ∃ p, ri.length = p := ⟨_, rfl⟩
  obtain ⟨q, eq⟩ : ∃ q, ci.length = q := ⟨_, rfl⟩
  rw [ep] at I1 ⊢
  rw [eq] at I2 ⊢
  have EP := Lib.hid ep
  have EQ := Lib.hid eq
  have d1 : decide ((70 : Int) < (p : Int)) = false := by simp; omega
  have d2 : decide ((70 : Int) < (q : Int)) = false := by simp; omega
  clear h0 h1 h2 s0 ep eq hl hl2 hv
  go_enter Try.func6, Try.ntmps6
  go_wp2_with fail
  refine (awake_any _).mono ?_
  rintro e x2 ⟨rfl, hb1⟩
  have A_3 := Lib.hid (Ms.to A.out hb1)
  have R_4 := Lib.hid (Is.to I1.out hb1)
  have C_5 := Lib.hid (Is.to I2.out hb1)
  have HB_6 := Lib.hid (hb1)
  clear hb1
  go_wp2_with fail
  refine (small_b _ a _ true A_3.out S0.out).mono ?_
  rintro e w' ⟨rfl, rfl⟩
  go_wp2_with fail
  refine (sel_inv _ _ _ a ri ci _ A_3.out R_4.out C_5.out VA.out).mono ?_
  rintro e w' ⟨rfl, rfl⟩
  go_wp2_with fail
  refine (transpose_err _ a _ A_3.out VA.out).mono ?_
  rintro e w' ⟨rfl, rfl⟩
  go_wp2_with fail
  refine (rvalid_b _ a _ false A_3.out VA.out).mono ?_
  rintro e x8 ⟨rfl, hd7⟩
  have A_9 := Lib.hid (Ms.dr A_3.out hd7)
  have R_10 := Lib.hid (Is.dr R_4.out hd7)
  have C_11 := Lib.hid (Is.dr C_5.out hd7)
  have HB_12 := Lib.hid (bd2 HB_6.out hd7)
  clear hd7
  go_wp2_with fail
  go_ret
  exact ⟨by first | rfl | simp, HB_12.out⟩
set_option maxHeartbeats 16000000 in
set_option maxRecDepth 100000 in
theorem selw_arg (v0 v1 v2 : Value) (a : List (List Nat)) (ri ci : List Int) (w : World) (h0 : Ms w v0 a) (h1 : Is w v1 ri) (h2 : Is w v2 ci) (s0 : smallB a = true) (hl : ri.length ≤ 70) (hl2 : ci.length ≤ 70) {r n : Nat} (hR : Rect r n a) (k0 : 0 < r) (k1 : 0 < n) (k2 : r ≤ 64) (k3 : n ≤ 64) (hbad : ri.length < 1 ∨ 64 < ri.length ∨ ((1 ≤ ri.length ∧ ri.length ≤ 64) ∧ (ci.length < 1 ∨ 64 < ci.length))) : Calls Try.prog 6 #[v0, v1, v2] w (lawPost w) := by
  have A := Lib.hid h0
  have I1 := Lib.hid h1
  have I2 := Lib.hid h2
  have S0 := Lib.hid s0
  have RA := Lib.hid hR
  have VA := Lib.hid (valid_of_rect hR k0 k1 k2 k3)
  have RT := Lib.hid (trans_rect (m := a) r n hR.by)
  obtain ⟨ba, oa, ca, rfl, -, -⟩ := Ms.open_ h0 hR k0 k1
  have hrI : (0 : Int) < (r : Int) := by omega
  have hnI : (0 : Int) < (n : Int) := by omega
  have gn : ((n : Int) != (n : Int)) = false := by simp
  have gr : ((r : Int) != (r : Int)) = false := by simp
  obtain ⟨A1, c1, rfl⟩ := Sl.form h1
  obtain ⟨A2, c2, rfl⟩ := Sl.form h2
  obtain ⟨p, ep⟩ : ∃ p, ri.length = p := ⟨_, rfl⟩
  obtain ⟨q, eq⟩ : ∃ q, ci.length = q := ⟨_, rfl⟩
  rw [ep] at I1 ⊢
  rw [eq] at I2 ⊢
  have EP := Lib.hid ep
  have EQ := Lib.hid eq
  have d1 : decide ((70 : Int) < (p : Int)) = false := by simp; omega
  have d2 : decide ((70 : Int) < (q : Int)) = false := by simp; omega
  have HBAD : Hid (p < 1 ∨ 64 < p ∨ ((1 ≤ p ∧ p ≤ 64) ∧ (q < 1 ∨ 64 < q))) := Lib.hid (by omega)
  have SE : Hid (∀ w (x1 x2 : Value), Ms w (.slice (some ⟨ba, oa, none⟩) r ca) a → Is w x1 ri → Is w x2 ci → Calls Try.prog 25 #[.slice (some ⟨ba, oa, none⟩) r ca, x1, x2] w (errPost (.tuple #[.slice none 0 0, .int .i64 1]) w)) := Lib.hid fun w x1 x2 ha hb hc => by
    by_cases hr : ri.length < 1 ∨ 64 < ri.length
    · exact sel_rows _ x1 x2 a ri ci w ha hb hc hR k0 k1 k2 k3 hr
    · exact sel_cols _ x1 x2 a ri ci w ha hb hc hR k0 k1 k2 k3 (by omega) (by omega)
  clear h0 h1 h2 s0 ep eq hl hl2 hR hbad
  go_enter Try.func6, Try.ntmps6
  go_wp2_with fail
  refine (awake_any _).mono ?_
  rintro e x2 ⟨rfl, hb1⟩
  have A_3 := Lib.hid (Ms.to A.out hb1)
  have R_4 := Lib.hid (Is.to I1.out hb1)
  have C_5 := Lib.hid (Is.to I2.out hb1)
  have HB_6 := Lib.hid (hb1)
  clear hb1
  go_wp2_with fail
  refine (small_b _ a _ true A_3.out S0.out).mono ?_
  rintro e w' ⟨rfl, rfl⟩
  go_wp2_with fail
  refine (SE.out _ _ _ A_3.out R_4.out C_5.out).mono ?_
  rintro e w' ⟨rfl, rfl⟩
  go_wp2_with fail
  refine (trans_okN _ a _ A_3.out RA.out k0 k1 k2 k3).mono ?_
  rintro e x9 ⟨btt, ctt, rfl, hn7, hb8⟩
  have A_10 := Lib.hid (Ms.to A_3.out hb8)
  have R_11 := Lib.hid (Is.to R_4.out hb8)
  have C_12 := Lib.hid (Is.to C_5.out hb8)
  have HB_13 := Lib.hid (bt HB_6.out hb8)
  have T_14 := Lib.hid hn7
  clear hn7 hb8
  go_wp2_with fail
  refine (rvalid_b _ a _ true A_10.out VA.out).mono ?_
  rintro e x16 ⟨rfl, hd15⟩
  have A_17 := Lib.hid (Ms.dr A_10.out hd15)
  have R_18 := Lib.hid (Is.dr R_11.out hd15)
  have C_19 := Lib.hid (Is.dr C_12.out hd15)
  have T_20 := Lib.hid (Ms.dr T_14.out hd15)
  have HB_21 := Lib.hid (bd2 HB_13.out hd15)
  clear hd15
  obtain ⟨bz, oz, cz, hz⟩ := Ms.row0 A_17.out RA.out k0 k1
  have HT := Lib.hid (Ms.rows T_20.out RT.out k1 k0)
  have HM := Lib.hid (Ms.rows A_17.out RA.out k0 k1)
  go_wp2_with fail
  go_loopw [11, 12] (fun z _ wr => ∃ i : Nat, i ≤ n ∧ z = .int .i64 (i : Int) ∧ Hid (Dr x16 wr)) (fun z _ _ => n - (intOf z).toNat)
  case atStart => exact ⟨0, Nat.zero_le _, rfl, Lib.hid (Dr.refl _)⟩
  case round =>
    obtain ⟨i, hin, rfl, H⟩ := hrel
    obtain ⟨wo, rfl⟩ : ∃ wo, wo = wr := ⟨_, rfl⟩
    by_cases hlt : i < n
    · have hiI : (i : Int) < (n : Int) := by omega
      go_wp2
      go_loopw [12] (fun z wq => ∃ k : Nat, k ≤ r ∧ z = .int .i64 (k : Int) ∧ Hid (Dr x16 wq)) (fun z _ => r - (intOf z).toNat)
      case atStart => exact ⟨0, Nat.zero_le _, rfl, H⟩
      case round =>
        obtain ⟨k, hkr, rfl, H2⟩ := hrel
        by_cases hlt2 : k < r
        · have hkI : (k : Int) < (r : Int) := by omega
          obtain ⟨b5, o5, c5, t1, -, -, t2⟩ := HT.out i hlt
          obtain ⟨b6, o6, c6, m1, -, -, m2⟩ := HM.out k hlt2
          rw [Nat.zero_add] at t1
          have t3 := t2 k hlt2
          have m3 := m2 i hlt
          rw [trans_el r n hlt2 hlt] at t3
          rw [← H2.out.cell] at t1 m1 t3 m3
          obtain ⟨x, ex⟩ : ∃ x, el a k i = x := ⟨_, rfl⟩
          rw [ex] at t3 m3
          have gx : ((x : Int) != (x : Int)) = false := by simp
          clear t2 m2 ex
          go_wp2
          go_quiet (fail)
          go_wp2
          go_roundw
          case rel => exact ⟨k + 1, by omega, by go_num, Lib.hid (H2.out.more _)⟩
          case measure => simp [intOf]; omega
        · go_wp2
          go_roundw
          case rel => exact ⟨i + 1, by omega, by go_num, H2⟩
          case measure => simp [intOf]; omega
    · have HD := Lib.hid H.out
      clear H
      have A_22 := Lib.hid (Ms.dr A_17.out HD.out)
      have R_23 := Lib.hid (Is.dr R_18.out HD.out)
      have C_24 := Lib.hid (Is.dr C_19.out HD.out)
      have T_25 := Lib.hid (Ms.dr T_20.out HD.out)
      have HB_26 := Lib.hid (bd2 HB_21.out HD.out)
      rcases HBAD.out with h | h | ⟨h, h2 | h2⟩
      · have d3 : decide ((p : Int) < 1) = true := by simp; omega
        go_wp2
        go_ret
        exact ⟨by first | rfl | simp, HB_26.out⟩
      · have d3 : decide ((p : Int) < 1) = false := by simp; omega
        have d4 : decide ((64 : Int) < (p : Int)) = true := by simp; omega
        go_wp2
        go_ret
        exact ⟨by first | rfl | simp, HB_26.out⟩
      · have d3 : decide ((p : Int) < 1) = false := by simp; omega
        have d4 : decide ((64 : Int) < (p : Int)) = false := by simp; omega
        have d5 : decide ((q : Int) < 1) = true := by simp; omega
        go_wp2
        go_ret
        exact ⟨by first | rfl | simp, HB_26.out⟩
      · have d3 : decide ((p : Int) < 1) = false := by simp; omega
        have d4 : decide ((64 : Int) < (p : Int)) = false := by simp; omega
        have d5 : decide ((q : Int) < 1) = false := by simp; omega
        have d6 : decide ((64 : Int) < (q : Int)) = true := by simp; omega
        go_wp2
        go_ret
        exact ⟨by first | rfl | simp, HB_26.out⟩
end Go.Proofs.Ytiibdoibcbokcaa
