/- Law MediaSequential. WRITTEN BY gen_Mdq.py. -/
import Derived.Test.YtkaklgdjlanigaaMdm
namespace Go.Proofs.Ytkaklgdjlanigaa
open Go Go.RowKit Med
set_option linter.unusedVariables false
set_option linter.unusedSimpArgs false

namespace Med
/-- The first k sectors from f on hold their numbers, the others up to q are not written. -/
def Inv (N f q k : Nat) (l : List Sec) : Prop := l.length = N ∧ (∀ j, j < k → l[f + j]? = some (1, strOf [j % 256])) ∧ ∀ j, k ≤ j → j < q → ∀ s, l[f + j]? = some s → s.1 ≠ 1
theorem inv_start {N f q : Nat} {l : List Sec} (hl : l.length = N) (hf : f + q ≤ N) : Inv N f q 0 (wipe l f q) := by
  refine ⟨by rw [wipe_len]; exact hl, fun j hj => absurd hj (Nat.not_lt_zero j), fun j _ hj s hs => ?_⟩
  rw [wipe_in l f (f + j) q (by omega) (by omega) (by omega)] at hs
  injection hs with hs
  subst hs
  decide
theorem inv_st {N f q k : Nat} {l : List Sec} (h : Inv N f q k l) (hk : k < q) (hf : f + q ≤ N) : st l ((f + k : Nat) : Int) ≠ 1 := by
  obtain ⟨hl, _, h2⟩ := h
  have hlt : f + k < l.length := by omega
  have := h2 k (Nat.le_refl _) hk l[f + k] (List.getElem?_eq_getElem hlt)
  unfold st at_
  rw [if_pos (by omega), Int.toNat_natCast, List.getD_eq_getElem?_getD, List.getElem?_eq_getElem hlt]
  exact this
theorem inv_wr {N f q k : Nat} {l : List Sec} (h : Inv N f q k l) (hk : k < q) (hf : f + q ≤ N) : wrE l ((f + k : Nat) : Int) 1 = 0 := by
  obtain ⟨hl, _⟩ := h
  unfold wrE
  rw [if_pos (by omega), if_neg (by decide)]
theorem inv_step {R B T S O N f q k : Nat} {l : List Sec} (hg : Geo.GV (R : Int) B T S O) (h : Inv N f q k l) (hk : k < q) (hf : f + q ≤ N) : Inv N f q (k + 1) (wr (Geo.shadow R B T S O ((f + k : Nat) : Int)) l ((f + k : Nat) : Int) 1 (strOf [k % 256])) := by
  have e := inv_wr h hk hf
  obtain ⟨hl, h1, h2⟩ := h
  unfold wr
  rw [if_pos e]
  refine ⟨by rw [put_len]; exact hl, fun j hj => ?_, fun j hj hq s hs => ?_⟩
  · unfold put
    rw [kill_off _ _ _ fun x hx => by have := Geo.shadow_in hg _ x hx; omega, Int.toNat_natCast]
    by_cases ejk : j = k
    · subst ejk
      rw [List.getElem?_set_self (by omega)]
    · rw [List.getElem?_set_ne (by omega)]
      exact h1 j (by omega)
  · unfold put at hs
    refine kill_not _ _ _ ?_ s hs
    intro s' hs'
    rw [Int.toNat_natCast, List.getElem?_set_ne (by omega)] at hs'
    exact h2 j (by omega) hq s' hs'
theorem inv_rd {N f q k : Nat} {l : List Sec} (h : Inv N f q q l) (hk : k < q) (hf : f + q ≤ N) : rdE l ((f + k : Nat) : Int) = 0 ∧ rdB l ((f + k : Nat) : Int) = strOf [k % 256] := by
  obtain ⟨hl, h1, _⟩ := h
  have e : at_ l ((f + k : Nat) : Int) = (1, strOf [k % 256]) := by unfold at_; rw [Int.toNat_natCast, List.getD_eq_getElem?_getD, h1 k hk]; rfl
  have e2 : rdE l ((f + k : Nat) : Int) = 0 := by unfold rdE; rw [if_pos (by omega), e]; rfl
  exact ⟨e2, by unfold rdB; rw [if_pos e2, e]⟩
end Med

theorem Row.chg2 {w w' : World} {g : Nat} {t : TypeId} {cs : Array Value} {o : Nat → Prop} (h : Row w g t cs) (hc : Chg o w w') (hg : ¬ o g) : Row w' g t cs := (hc.block g h.lt hg).trans h
set_option maxHeartbeats 4000000 in
set_option maxRecDepth 100000 in
theorem seq_no (r b t s o x : Int) (v : Value) (L : List Med.Op) (w : World) (h : Ols w v L) (hf : ¬ Geo.fair r b t s o) : Calls Try.prog 6 #[.agg #[.int .i64 r, .int .i64 b, .int .i64 t, .int .i64 s, .int .i64 o], v, .int .i64 x] w (lawPost w) := by
  obtain ⟨A, cc, rfl⟩ := h.form
  have HL := Lib.hid h.len
  have HO := Lib.hid h
  clear h
  obtain ⟨n, hn⟩ : ∃ n, L.length = n := ⟨_, rfl⟩
  have EN := Lib.hid hn
  rw [hn] at HO HL ⊢
  clear hn
  obtain ⟨B0, hB0⟩ : ∃ B, w.heap.size = B := ⟨_, rfl⟩
  obtain ⟨W0, hW0⟩ : ∃ W, w.alloc (.cells #[.int .i64 r, .int .i64 b, .int .i64 t, .int .i64 s, .int .i64 o] 23) = W := ⟨_, rfl⟩
  have T0 : Hid (Below w.heap.size w W0) := Lib.hid (by subst hW0; exact (Below.refl _ _).alloc (Nat.le_refl _) _)
  have G0 : Hid (Row W0 B0 23 #[.int .i64 r, .int .i64 b, .int .i64 t, .int .i64 s, .int .i64 o]) := Lib.hid (by subst hW0; exact gr_new w _ _ hB0)
  have HB0 := Lib.hid hB0
  have HW0 := Lib.hid hW0
  clear hB0 hW0
  go_enter Try.func6, Try.ntmps6

  go_wp2_with (first | rw [HB0.out] | rw [HW0.out])
  refine (awake11 _).mono ?_
  rintro e x1 ⟨rfl, hb2⟩
  have G_3 := Lib.hid (rw_fw G0.out (hb2))
  have hl4 := hb2
  have HT_5 : Hid (Below w.heap.size w x1) := Lib.hid (T0.out.trans ((hl4).mono T0.out.size))
  clear hb2 
  go_wp2_with fail
  refine (short_any (.slice A n cc) L _ (HO.out.fw HT_5.out)).mono ?_
  rintro e w' ⟨bb, rfl, rfl⟩
  cases bb with
  | false =>
    go_wp2_with fail
    refine (awake11 _).mono ?_
    rintro e x6 ⟨rfl, hb7⟩
    have G_8 := Lib.hid (rw_fw G_3.out (hb7))
    have hl9 := hb7
    have HT_10 : Hid (Below w.heap.size w x6) := Lib.hid (HT_5.out.trans ((hl9).mono HT_5.out.size))
    clear hb7 
    go_wp2_with fail
    go_ret
    exact ⟨rfl, HT_10.out⟩
  | true =>
    obtain ⟨c0, c1, c2, c3, c4⟩ := geo_cells G_3.out
    go_wp2_with fail
    clear c0 c1 c2 c3 c4
    refine (fair_any r b t s o _).mono ?_
    rintro e x6 ⟨rfl, hb7⟩
    have G_8 := Lib.hid (rw_fw G_3.out (hb7))
    have hl9 := hb7
    have HT_10 : Hid (Below w.heap.size w x6) := Lib.hid (HT_5.out.trans ((hl9).mono HT_5.out.size))
    clear hb7 
    rw [decide_eq_false hf]
    go_wp2_with fail
    refine (awake11 _).mono ?_
    rintro e x11 ⟨rfl, hb12⟩
    have G_13 := Lib.hid (rw_fw G_8.out (hb12))
    have hl14 := hb12
    have HT_15 : Hid (Below w.heap.size w x11) := Lib.hid (HT_10.out.trans ((hl14).mono HT_10.out.size))
    clear hb12 
    go_wp2_with fail
    go_ret
    exact ⟨rfl, HT_15.out⟩
set_option maxHeartbeats 4000000 in
set_option maxRecDepth 100000 in
theorem seq_low (R B T S O : Nat) (x : Int) (v : Value) (L : List Med.Op) (w : World) (h : Ols w v L) (hf : Geo.fair (R : Int) B T S O) (h0 : x < 0) : Calls Try.prog 6 #[.agg #[.int .i64 (R : Int), .int .i64 (B : Int), .int .i64 (T : Int), .int .i64 (S : Int), .int .i64 (O : Int)], v, .int .i64 x] w (lawPost w) := by
  obtain ⟨A, cc, rfl⟩ := h.form
  have HL := Lib.hid h.len
  have HO := Lib.hid h
  clear h
  obtain ⟨n, hn⟩ : ∃ n, L.length = n := ⟨_, rfl⟩
  have EN := Lib.hid hn
  rw [hn] at HO HL ⊢
  clear hn
  have d0 : decide (x < (0 : Int)) = true := decide_eq_true h0
  obtain ⟨B0, hB0⟩ : ∃ B, w.heap.size = B := ⟨_, rfl⟩
  obtain ⟨W0, hW0⟩ : ∃ W, w.alloc (.cells #[.int .i64 (R : Int), .int .i64 (B : Int), .int .i64 (T : Int), .int .i64 (S : Int), .int .i64 (O : Int)] 23) = W := ⟨_, rfl⟩
  have T0 : Hid (Below w.heap.size w W0) := Lib.hid (by subst hW0; exact (Below.refl _ _).alloc (Nat.le_refl _) _)
  have G0 : Hid (Row W0 B0 23 #[.int .i64 (R : Int), .int .i64 (B : Int), .int .i64 (T : Int), .int .i64 (S : Int), .int .i64 (O : Int)]) := Lib.hid (by subst hW0; exact gr_new w _ _ hB0)
  have HB0 := Lib.hid hB0
  have HW0 := Lib.hid hW0
  clear hB0 hW0
  go_enter Try.func6, Try.ntmps6

  go_wp2_with (first | rw [HB0.out] | rw [HW0.out])
  refine (awake11 _).mono ?_
  rintro e x1 ⟨rfl, hb2⟩
  have G_3 := Lib.hid (rw_fw G0.out (hb2))
  have hl4 := hb2
  have HT_5 : Hid (Below w.heap.size w x1) := Lib.hid (T0.out.trans ((hl4).mono T0.out.size))
  clear hb2 
  go_wp2_with fail
  refine (short_any (.slice A n cc) L _ (HO.out.fw HT_5.out)).mono ?_
  rintro e w' ⟨bb, rfl, rfl⟩
  cases bb with
  | false =>
    go_wp2_with fail
    refine (awake11 _).mono ?_
    rintro e x6 ⟨rfl, hb7⟩
    have G_8 := Lib.hid (rw_fw G_3.out (hb7))
    have hl9 := hb7
    have HT_10 : Hid (Below w.heap.size w x6) := Lib.hid (HT_5.out.trans ((hl9).mono HT_5.out.size))
    clear hb7 
    go_wp2_with fail
    go_ret
    exact ⟨rfl, HT_10.out⟩
  | true =>
    obtain ⟨c0, c1, c2, c3, c4⟩ := geo_cells G_3.out
    go_wp2_with fail
    clear c0 c1 c2 c3 c4
    refine (fair_any (R : Int) B T S O _).mono ?_
    rintro e x6 ⟨rfl, hb7⟩
    have G_8 := Lib.hid (rw_fw G_3.out (hb7))
    have hl9 := hb7
    have HT_10 : Hid (Below w.heap.size w x6) := Lib.hid (HT_5.out.trans ((hl9).mono HT_5.out.size))
    clear hb7 
    rw [decide_eq_true hf]
    go_wp2_with fail
    refine (awake11 _).mono ?_
    rintro e x11 ⟨rfl, hb12⟩
    have G_13 := Lib.hid (rw_fw G_8.out (hb12))
    have hl14 := hb12
    have HT_15 : Hid (Below w.heap.size w x11) := Lib.hid (HT_10.out.trans ((hl14).mono HT_10.out.size))
    clear hb12 
    go_wp2_with fail
    go_ret
    exact ⟨rfl, HT_15.out⟩
set_option maxHeartbeats 4000000 in
set_option maxRecDepth 100000 in
theorem seq_high (R B T S O : Nat) (x : Int) (v : Value) (L : List Med.Op) (w : World) (h : Ols w v L) (hf : Geo.fair (R : Int) B T S O) (h0 : ¬ x < 0) (h1 : (B : Int) ≤ x) : Calls Try.prog 6 #[.agg #[.int .i64 (R : Int), .int .i64 (B : Int), .int .i64 (T : Int), .int .i64 (S : Int), .int .i64 (O : Int)], v, .int .i64 x] w (lawPost w) := by
  obtain ⟨A, cc, rfl⟩ := h.form
  have HL := Lib.hid h.len
  have HO := Lib.hid h
  clear h
  obtain ⟨n, hn⟩ : ∃ n, L.length = n := ⟨_, rfl⟩
  have EN := Lib.hid hn
  rw [hn] at HO HL ⊢
  clear hn
  have d0 : decide (x < (0 : Int)) = false := decide_eq_false h0
  have d1 : decide ((B : Int) ≤ x) = true := decide_eq_true h1
  obtain ⟨B0, hB0⟩ : ∃ B, w.heap.size = B := ⟨_, rfl⟩
  obtain ⟨W0, hW0⟩ : ∃ W, w.alloc (.cells #[.int .i64 (R : Int), .int .i64 (B : Int), .int .i64 (T : Int), .int .i64 (S : Int), .int .i64 (O : Int)] 23) = W := ⟨_, rfl⟩
  have T0 : Hid (Below w.heap.size w W0) := Lib.hid (by subst hW0; exact (Below.refl _ _).alloc (Nat.le_refl _) _)
  have G0 : Hid (Row W0 B0 23 #[.int .i64 (R : Int), .int .i64 (B : Int), .int .i64 (T : Int), .int .i64 (S : Int), .int .i64 (O : Int)]) := Lib.hid (by subst hW0; exact gr_new w _ _ hB0)
  have HB0 := Lib.hid hB0
  have HW0 := Lib.hid hW0
  clear hB0 hW0
  go_enter Try.func6, Try.ntmps6

  go_wp2_with (first | rw [HB0.out] | rw [HW0.out])
  refine (awake11 _).mono ?_
  rintro e x1 ⟨rfl, hb2⟩
  have G_3 := Lib.hid (rw_fw G0.out (hb2))
  have hl4 := hb2
  have HT_5 : Hid (Below w.heap.size w x1) := Lib.hid (T0.out.trans ((hl4).mono T0.out.size))
  clear hb2 
  go_wp2_with fail
  refine (short_any (.slice A n cc) L _ (HO.out.fw HT_5.out)).mono ?_
  rintro e w' ⟨bb, rfl, rfl⟩
  cases bb with
  | false =>
    go_wp2_with fail
    refine (awake11 _).mono ?_
    rintro e x6 ⟨rfl, hb7⟩
    have G_8 := Lib.hid (rw_fw G_3.out (hb7))
    have hl9 := hb7
    have HT_10 : Hid (Below w.heap.size w x6) := Lib.hid (HT_5.out.trans ((hl9).mono HT_5.out.size))
    clear hb7 
    go_wp2_with fail
    go_ret
    exact ⟨rfl, HT_10.out⟩
  | true =>
    obtain ⟨c0, c1, c2, c3, c4⟩ := geo_cells G_3.out
    go_wp2_with fail
    clear c0 c1 c2 c3 c4
    refine (fair_any (R : Int) B T S O _).mono ?_
    rintro e x6 ⟨rfl, hb7⟩
    have G_8 := Lib.hid (rw_fw G_3.out (hb7))
    have hl9 := hb7
    have HT_10 : Hid (Below w.heap.size w x6) := Lib.hid (HT_5.out.trans ((hl9).mono HT_5.out.size))
    clear hb7 
    rw [decide_eq_true hf]
    obtain ⟨c0, c1, c2, c3, c4⟩ := geo_cells G_8.out
    go_wp2_with fail
    clear c0 c1 c2 c3 c4
    refine (awake11 _).mono ?_
    rintro e x11 ⟨rfl, hb12⟩
    have G_13 := Lib.hid (rw_fw G_8.out (hb12))
    have hl14 := hb12
    have HT_15 : Hid (Below w.heap.size w x11) := Lib.hid (HT_10.out.trans ((hl14).mono HT_10.out.size))
    clear hb12 
    go_wp2_with fail
    go_ret
    exact ⟨rfl, HT_15.out⟩
set_option maxHeartbeats 4000000 in
set_option maxRecDepth 100000 in
theorem seq_main (R B T S O x : Nat) (v : Value) (L : List Med.Op) (w : World) (h : Ols w v L) (hf : Geo.fair (R : Int) B T S O) (hx : x < B) : Calls Try.prog 6 #[.agg #[.int .i64 (R : Int), .int .i64 (B : Int), .int .i64 (T : Int), .int .i64 (S : Int), .int .i64 (O : Int)], v, .int .i64 (x : Int)] w (lawPost w) := by
  obtain ⟨A, cc, rfl⟩ := h.form
  have HL := Lib.hid h.len
  have HO := Lib.hid h
  clear h
  obtain ⟨n, hn⟩ : ∃ n, L.length = n := ⟨_, rfl⟩
  have EN := Lib.hid hn
  rw [hn] at HO HL ⊢
  clear hn
  have d0 : decide ((x : Int) < (0 : Int)) = false := decide_eq_false (by omega)
  have d1 : decide ((B : Int) ≤ (x : Int)) = false := decide_eq_false (by omega)
  have HV := Lib.hid hf.1
  have BD := Lib.hid fun w => rband_any (R : Int) B T S O w
  have N2 := Lib.hid hf.2
  rw [Geo.band_nat hf.1] at BD
  rw [Geo.size_nat hf.1] at N2
  have ER := Lib.hid (show ∀ l, er R B T S l (x : Int) = wipe l (R + x * (T * S)) (T * S) by intro l; unfold er; rw [if_pos (by omega), Int.toNat_natCast])
  have hg := Geo.gv_nat hf.1
  have q1 := Geo.ts_pos hg.2.2.2.1 hg.2.2.2.2.2.1
  obtain ⟨N, hN⟩ : ∃ N, R + B * (T * S) = N := ⟨_, rfl⟩
  have EZ := Lib.hid hN
  rw [hN] at N2
  obtain ⟨q, hq⟩ : ∃ q, T * S = q := ⟨_, rfl⟩
  rw [hq] at BD ER hN q1
  have xq := Nat.mul_le_mul_right q (show x + 1 ≤ B by omega)
  rw [Nat.add_mul, Nat.one_mul] at xq
  obtain ⟨pp, hpp⟩ : ∃ p, x * q = p := ⟨_, rfl⟩
  obtain ⟨f, hff⟩ : ∃ f, R + pp = f := ⟨_, rfl⟩
  rw [hpp, hff] at ER
  rw [hpp] at xq
  have N9 := N2.out
  have PQ := Lib.hid (show (x : Int) * (q : Int) = (pp : Int) by rw [← hpp]; push_cast; rfl)
  have RP := Lib.hid (show (R : Int) + (pp : Int) = (f : Int) by rw [← hff]; push_cast; rfl)
  have FQ := Lib.hid (show f + q ≤ N by omega)
  have q9 : q ≤ 200 ∧ f ≤ 200 ∧ pp ≤ 200 := by omega
  clear hg hN hq xq hpp hff N9
  obtain ⟨B0, hB0⟩ : ∃ B, w.heap.size = B := ⟨_, rfl⟩
  obtain ⟨W0, hW0⟩ : ∃ W, w.alloc (.cells #[.int .i64 (R : Int), .int .i64 (B : Int), .int .i64 (T : Int), .int .i64 (S : Int), .int .i64 (O : Int)] 23) = W := ⟨_, rfl⟩
  have T0 : Hid (Below w.heap.size w W0) := Lib.hid (by subst hW0; exact (Below.refl _ _).alloc (Nat.le_refl _) _)
  have G0 : Hid (Row W0 B0 23 #[.int .i64 (R : Int), .int .i64 (B : Int), .int .i64 (T : Int), .int .i64 (S : Int), .int .i64 (O : Int)]) := Lib.hid (by subst hW0; exact gr_new w _ _ hB0)
  have HB0 := Lib.hid hB0
  have HW0 := Lib.hid hW0
  clear hB0 hW0
  go_enter Try.func6, Try.ntmps6

  go_wp2_with (first | rw [HB0.out] | rw [HW0.out])
  refine (awake11 _).mono ?_
  rintro e x1 ⟨rfl, hb2⟩
  have G_3 := Lib.hid (rw_fw G0.out (hb2))
  have hl4 := hb2
  have HT_5 : Hid (Below w.heap.size w x1) := Lib.hid (T0.out.trans ((hl4).mono T0.out.size))
  clear hb2 
  go_wp2_with fail
  refine (short_any (.slice A n cc) L _ (HO.out.fw HT_5.out)).mono ?_
  rintro e w' ⟨bb, rfl, rfl⟩
  cases bb with
  | false =>
    go_wp2_with fail
    refine (awake11 _).mono ?_
    rintro e x6 ⟨rfl, hb7⟩
    have G_8 := Lib.hid (rw_fw G_3.out (hb7))
    have hl9 := hb7
    have HT_10 : Hid (Below w.heap.size w x6) := Lib.hid (HT_5.out.trans ((hl9).mono HT_5.out.size))
    clear hb7 
    go_wp2_with fail
    go_ret
    exact ⟨rfl, HT_10.out⟩
  | true =>
    obtain ⟨c0, c1, c2, c3, c4⟩ := geo_cells G_3.out
    go_wp2_with fail
    clear c0 c1 c2 c3 c4
    refine (fair_any (R : Int) B T S O _).mono ?_
    rintro e x6 ⟨rfl, hb7⟩
    have G_8 := Lib.hid (rw_fw G_3.out (hb7))
    have hl9 := hb7
    have HT_10 : Hid (Below w.heap.size w x6) := Lib.hid (HT_5.out.trans ((hl9).mono HT_5.out.size))
    clear hb7 
    rw [decide_eq_true hf]
    clear hf
    obtain ⟨c0, c1, c2, c3, c4⟩ := geo_cells G_8.out
    go_wp2_with fail
    clear c0 c1 c2 c3 c4
    clear d0 d1
    refine (pnew_ok R B T S O _ HV.out).mono ?_
    rintro e x12 ⟨M, X, rfl, hn14, hx11, hb13⟩
    have QP := Lib.hid (show w.heap.size ≤ M ∧ w.heap.size ≤ X ∧ B0 < M ∧ B0 < X from ⟨Nat.le_trans HT_10.out.size hx11.1, Nat.le_trans HT_10.out.size hx11.2, Nat.lt_of_lt_of_le G_8.out.lt hx11.1, Nat.lt_of_lt_of_le G_8.out.lt hx11.2⟩)
    have G_15 := Lib.hid (rw_fw G_8.out (hb13))
    have hl16 := hb13
    have HT_17 : Hid (Below w.heap.size w x12) := Lib.hid (HT_10.out.trans ((hl16).mono HT_10.out.size))
    have P_18 := Lib.hid (hn14)
    clear hb13 hn14
    clear hx11
    go_wp2_with fail
    obtain ⟨l0, hl0⟩ : ∃ l, List.replicate (R + B * (T * S)) Med.blank = l := ⟨_, rfl⟩
    have P0 := Lib.hid P_18.out
    rw [hl0] at P0
    clear hl0
    go_loopw [9] (fun i wr => ∃ k : Nat, k ≤ n ∧ i = .int .i64 (k : Int) ∧ Hid (PMd wr M X (R + B * (T * S)) R B T S O (Med.play R B T S O l0 (L.take k)) ∧ Chg (fun j => j = X) x12 wr)) (fun i _ => n - (intOf i).toNat)
    case atStart => exact ⟨0, Nat.zero_le _, rfl, Lib.hid ⟨P0.out, Chg.refl _ _⟩⟩
    case round =>
      obtain ⟨k, hk, rfl, V⟩ := hrel
      have nb := HL.out
      have TW : Hid (Below w.heap.size w wr) := Lib.hid (HT_17.out.trans (V.out.2.below HT_17.out.size (fun j hj => by rw [hj]; exact QP.out.2.1)))
      by_cases hlt : k < n
      · have kI : (k : Int) < (n : Int) := by omega
        obtain ⟨b, off, u, hk2, rfl, f0, f1, f2, f3⟩ := (HO.out.fw TW.out).nth hlt
        have PK := Lib.hid (play_take R B T S O l0 L hk2)
        obtain ⟨ok, ho⟩ : ∃ o, L[k] = o := ⟨_, rfl⟩
        rw [ho] at PK f0 f1 f3
        have DO := Lib.hid (pdo_any V.out.1 ok u f3)
        have CV := Lib.hid V.out.2
        clear f3 V ho
        go_wp2_with fail
        refine DO.out.mono ?_
        rintro e w2 ⟨rfl, hm, hc⟩
        have M2 := Lib.hid (And.intro hm (CV.out.trans hc))
        clear hm hc DO CV f0 f1 f2
        go_wp2_with fail
        go_roundw
        case rel => exact ⟨k + 1, by omega, by go_num, Lib.hid ⟨by rw [PK.out]; exact M2.out.1, M2.out.2⟩⟩
        case measure => simp [intOf]; omega
      · obtain rfl : n = k := by omega
        have kI : ¬ (n : Int) < (n : Int) := by omega
        have dk : decide ((n : Int) < (n : Int)) = false := decide_eq_false kI
        obtain ⟨lk, hlk⟩ : ∃ l, Med.play R B T S O l0 (L.take n) = l := ⟨_, rfl⟩
        rw [hlk] at V
        have PV := Lib.hid V.out.1
        have GV := Lib.hid (Row.chg2 G_15.out V.out.2 (fun e => by have := QP.out; omega))
        have dk : decide ((n : Int) < (n : Int)) = false := decide_eq_false kI
        clear V hlk nb
        go_wp2_with fail
        clear kI dk
        refine (per_any PV.out (x : Int)).mono ?_
        rintro e x19 ⟨rfl, hm, hc⟩
        have PQ2 := Lib.hid hm
        rw [ER.out] at PQ2
        have IV := Lib.hid (Med.inv_start (N := N) (f := f) (q := q) (l := lk) (by have := PV.out.len; rw [EZ.out] at this; exact this) FQ.out)
        have GQ := Lib.hid (Row.chg2 GV.out hc (fun e => by have := QP.out; omega))
        have HT_20 : Hid (Below w.heap.size w x19) := Lib.hid (TW.out.trans (hc.below TW.out.size (fun j hj => by rw [hj]; exact QP.out.2.1)))
        clear hm hc
        generalize erE B (x : Int) = ev
        obtain ⟨le, hle⟩ : ∃ l, wipe lk f q = l := ⟨_, rfl⟩
        rw [hle] at PQ2 IV
        clear hle
        obtain ⟨c0, c1, c2, c3, c4⟩ := geo_cells GQ.out
        go_wp2_with fail
        clear c0 c1 c2 c3 c4
        refine (BD.out _).mono ?_
        rintro e x21 ⟨rfl, hb22⟩
        have P_23 := Lib.hid (Md.fw PQ2.out (hb22))
        have G_24 := Lib.hid (rw_fw GQ.out (hb22))
        have hl25 := hb22
        have HT_26 : Hid (Below w.heap.size w x21) := Lib.hid (HT_20.out.trans ((hl25).mono HT_20.out.size))
        clear hb22 
        obtain ⟨c0, c1, c2, c3, c4⟩ := geo_cells G_24.out
        have pq : wrap64 ((x : Int) * (q : Int)) = (pp : Int) := by rw [PQ.out]; exact gw (by omega) (by omega)
        have rp : wrap64 ((R : Int) + (pp : Int)) = (f : Int) := by rw [RP.out]; exact gw (by omega) (by omega)
        go_wp2_with fail
        rw [rp]
        clear c0 c1 c2 c3 c4 pq rp
        have PS := Lib.hid P_23.out
        have TS_ := Lib.hid HT_26.out
        go_loopw [12] (fun i wr => ∃ (k : Nat) (lc : List Sec), k ≤ q ∧ i = .int .i64 (k : Int) ∧ Hid (PMd wr M X (R + B * (T * S)) R B T S O lc ∧ Med.Inv N f q k lc ∧ Chg (fun j => j = X) x21 wr)) (fun i _ => q - (intOf i).toNat)
        case atStart => exact ⟨0, _, Nat.zero_le _, rfl, Lib.hid ⟨PS.out, IV.out, Chg.refl _ _⟩⟩
        case round =>
          obtain ⟨k, lc, hk, rfl, V⟩ := hrel
          by_cases hlt : k < q
          · have kI : (k : Int) < (q : Int) := by omega
            have IS := Lib.hid (Med.inv_step HV.out V.out.2.1 hlt FQ.out)
            have WE := Lib.hid (Med.inv_wr V.out.2.1 hlt FQ.out)
            have NS := Lib.hid (Med.inv_st V.out.2.1 hlt FQ.out)
            obtain ⟨j, hj⟩ : ∃ j, f + k = j := ⟨_, rfl⟩
            have JF := Lib.hid (show (f : Int) + (k : Int) = (j : Int) by omega)
            have jb : j ≤ 400 := by omega
            rw [hj] at IS WE NS
            obtain ⟨y, hy⟩ : ∃ y, k % 256 = y := ⟨_, rfl⟩
            have y9 : y < 256 := by omega
            have ky : IntKind.u8.wrap (k : Int) = (y : Int) := by rw [← hy, IntKind.wrap_u8]; omega
            rw [hy] at IS
            have S1 := Lib.hid (pst_any V.out.1 (j : Int))
            have PV := Lib.hid V.out.1
            have CV := Lib.hid V.out.2.2
            obtain ⟨sv, hsv⟩ : ∃ s, st lc (j : Int) = s := ⟨_, rfl⟩
            rw [hsv] at S1 NS
            have ds : (sv == 1) = false := by simpa using NS.out
            clear V hj hy hsv
            go_wp2_with fail
            rw [JF.out]
            refine S1.out.mono ?_
            rintro e w' ⟨rfl, rfl⟩
            have WR := Lib.hid (pwr_any (PV.out.fw ((Below.refl _ _).alloc (Nat.le_refl _) (.cells #[.int .u8 (y : Int)] 5))) (j : Int) (.slice (some ⟨wr.heap.size, 0, none⟩) 1 1) [y] (bs_lit wr 5 (0, 0) y y9))
            go_wp2_with fail
            rw [JF.out]
            refine WR.out.mono ?_
            rintro e w4 ⟨rfl, hm, hc⟩
            have M4 := Lib.hid (And.intro hm ((CV.out.trans (below_chg ((Below.refl _ _).alloc (Nat.le_refl _) (.cells #[.int .u8 (y : Int)] 5)) _)).trans hc))
            have we : wrE lc (j : Int) [y].length = 0 := WE.out
            rw [we]
            clear hm hc WR PV CV we
            go_wp2_with fail
            go_roundw
            case rel => exact ⟨k + 1, _, by omega, by go_num, Lib.hid ⟨M4.out.1, IS.out, M4.out.2⟩⟩
            case measure => simp [intOf]; omega
          · obtain rfl : q = k := by omega
            have kI : ¬ (q : Int) < (q : Int) := by omega
            have dk : decide ((q : Int) < (q : Int)) = false := decide_eq_false kI
            have PE := Lib.hid V.out.1
            have IE := Lib.hid V.out.2.1
            have TE : Hid (Below w.heap.size w wr) := Lib.hid (TS_.out.trans (V.out.2.2.below TS_.out.size (fun j hj => by rw [hj]; exact QP.out.2.1)))
            obtain ⟨wo, hwo⟩ : ∃ wo, wo = wr := ⟨_, rfl⟩
            subst hwo
            clear V
            go_wp2_with fail
            go_loopw [13, 14, 15] (fun i _ _ wr => ∃ k : Nat, k ≤ q ∧ i = .int .i64 (k : Int) ∧ Hid (Below wo.heap.size wo wr)) (fun i _ _ _ => q - (intOf i).toNat)
            case atStart => exact ⟨0, Nat.zero_le _, rfl, Lib.hid (Below.refl _ _)⟩
            case round =>
              obtain ⟨k, hk, rfl, V⟩ := hrel
              have PR := Lib.hid (PE.out.fw V.out)
              by_cases hlt : k < q
              · have kI : (k : Int) < (q : Int) := by omega
                have RD := Lib.hid (Med.inv_rd IE.out hlt FQ.out)
                obtain ⟨j, hj⟩ : ∃ j, f + k = j := ⟨_, rfl⟩
                have JF := Lib.hid (show (f : Int) + (k : Int) = (j : Int) by omega)
                have jb : j ≤ 400 := by omega
                rw [hj] at RD
                obtain ⟨y, hy⟩ : ∃ y, k % 256 = y := ⟨_, rfl⟩
                have y9 : y < 256 := by omega
                have ky : IntKind.u8.wrap (k : Int) = (y : Int) := by rw [← hy, IntKind.wrap_u8]; omega
                rw [hy] at RD
                have RP2 := Lib.hid (prd_any PR.out (j : Int))
                rw [RD.out.1, RD.out.2] at RP2
                clear hj hy
                go_wp2_with fail
                rw [JF.out]
                refine RP2.out.mono ?_
                rintro e w5 ⟨vr, rfl, hv, hb⟩
                have V5 := Lib.hid (V.out.trans (hb.mono V.out.size))
                rw [bOf_strOf (l := [y]) (by simpa using y9)] at hv
                obtain ⟨Ar, cr, hr⟩ := hv.1.form
                have er : vr = .slice Ar 1 cr := hr
                subst er
                have cv1 := cvb Ar 1 cr [y] hv.1
                have cv2 := cvb (some ⟨w5.heap.size, 0, none⟩) 1 1 [y] (bs_lit w5 5 (0, 0) y y9)
                have V6 := Lib.hid (V5.out.trans (((Below.refl w5.heap.size w5).alloc (Nat.le_refl _) (.cells #[.int .u8 (y : Int)] 5)).mono V5.out.size))
                generalize strOf [y] = sb at cv1 cv2
                clear hv hb hr V RP2 PR
                go_wp2_with fail
                go_roundw
                case rel => exact ⟨k + 1, by omega, by go_num, Lib.hid V6.out⟩
                case measure => simp [intOf]; omega
              · obtain rfl : q = k := by omega
                have kI : ¬ (q : Int) < (q : Int) := by omega
                have dk : decide ((q : Int) < (q : Int)) = false := decide_eq_false kI
                have TT := Lib.hid (TE.out.trans (V.out.mono TE.out.size))
                clear V
                go_wp2_with fail
                go_ret
                exact ⟨rfl, TT.out⟩
theorem seq_walk (r b t s o x : Int) (v : Value) (L : List Med.Op) (w : World) (h : Ols w v L) : Calls Try.prog 6 #[.agg #[.int .i64 r, .int .i64 b, .int .i64 t, .int .i64 s, .int .i64 o], v, .int .i64 x] w (lawPost w) := by
  by_cases hf : Geo.fair r b t s o
  · obtain ⟨R, B, T, S, O, rfl, rfl, rfl, rfl, rfl⟩ := Geo.fair_nat hf
    by_cases h0 : x < 0
    · exact seq_low R B T S O x v L w h hf h0
    · by_cases h1 : (B : Int) ≤ x
      · exact seq_high R B T S O x v L w h hf h0 h1
      · obtain ⟨k, rfl⟩ : ∃ k : Nat, x = k := ⟨x.toNat, by omega⟩
        exact seq_main R B T S O k v L w h hf (by omega)
  · exact seq_no r b t s o x v L w h hf
end Go.Proofs.Ytkaklgdjlanigaa
