/- Law MediaApart. WRITTEN BY gen_Mdo.py. -/
import Derived.Test.YtkaklgdjlanigaaMdm
namespace Go.Proofs.Ytkaklgdjlanigaa
open Go Go.RowKit Med
set_option linter.unusedVariables false
set_option linter.unusedSimpArgs false

namespace Med
theorem put_at {R B T S O : Nat} {l : List Sec} (h : Geo.GV (R : Int) B T S O) (a : Int) (s : ByteArray) (ha : 0 ≤ a ∧ a < l.length) : (put (Geo.shadow R B T S O a) l a s)[a.toNat]? = some (1, s) := by
  unfold put
  rw [kill_off _ _ _ fun x hx => by have := Geo.shadow_in h a x hx; omega, List.getElem?_set_self (by omega)]
theorem wr_rd {R B T S O : Nat} {l : List Sec} (h : Geo.GV (R : Int) B T S O) (a : Int) (n : Nat) (s : ByteArray) (ha : 0 ≤ a ∧ a < l.length) (hn : n ≤ 64) : rdE (wr (Geo.shadow R B T S O a) l a n s) a = 0 ∧ rdB (wr (Geo.shadow R B T S O a) l a n s) a = s := by
  have e1 : wrE l a n = 0 := by unfold wrE; rw [if_pos ha, if_neg (by omega)]
  have e2 : wr (Geo.shadow R B T S O a) l a n s = put (Geo.shadow R B T S O a) l a s := by unfold wr; rw [if_pos e1]
  have hp := put_at h a s ha
  have e3 : at_ (put (Geo.shadow R B T S O a) l a s) a = (1, s) := by unfold at_; rw [List.getD_eq_getElem?_getD, hp]; rfl
  have e4 : rdE (put (Geo.shadow R B T S O a) l a s) a = 0 := by unfold rdE; rw [if_pos (by rw [put_len]; exact ha), e3]; rfl
  rw [e2]
  exact ⟨e4, by unfold rdB; rw [if_pos e4, e3]⟩
end Med
/-- A slice of n bytes in a block that may be written, from its head on. -/
def Inc (w : World) (v : Value) (n : Nat) : Prop := ∃ A c, v = .slice A n c ∧ (0 < n → ∃ g cs fr, A = some ⟨g, 0, none⟩ ∧ w.heap[g]? = some (.cells cs 5 fr) ∧ n ≤ cs.size ∧ (∀ i, i < n → ¬ (fr.1 ≤ i ∧ i < fr.2)) ∧ ∀ i, i < n → ∃ x : Nat, x < 256 ∧ cs[i]? = some (.int .u8 (x : Int)))
theorem Inc.chg {w w' : World} {v : Value} {n : Nat} {o : Nat → Prop} (h : Inc w v n) (hc : Chg o w w') (ho : ∀ g, v.ownBlock = some g → ¬ o g) : Inc w' v n := by
  obtain ⟨A, c, rfl, h⟩ := h
  refine ⟨A, c, rfl, fun hn => ?_⟩
  obtain ⟨g, cs, fr, rfl, h1, h2⟩ := h hn
  have lt : g < w.heap.size := (Array.getElem?_eq_some_iff.1 h1).1
  exact ⟨g, cs, fr, rfl, (hc.block g lt (ho g rfl)).trans h1, h2⟩
theorem Inc.fw {w w' : World} {v : Value} {n : Nat} (h : Inc w v n) (hb : Below w.heap.size w w') : Inc w' v n := h.chg (below_chg hb fun _ => False) fun _ _ => id
theorem Inc.cell {w : World} {A : Option Addr} {n c : Nat} (h : Inc w (.slice A n c) n) {k : Nat} (hk : k < n) : ∃ g x, A = some ⟨g, 0, none⟩ ∧ x < 256 ∧ w.cell? ⟨g, k, none⟩ = some (.int .u8 ((x : Nat) : Int)) ∧ w.frozen? ⟨g, k, none⟩ = false := by
  obtain ⟨A', c', e, h⟩ := h
  injection e with e1 e2 e3
  obtain ⟨g, cs, fr, h0, h1, h2, h3, h4⟩ := h (by omega)
  obtain ⟨x, hx, hc⟩ := h4 k hk
  refine ⟨g, x, by rw [e1, h0], hx, by rw [cell_of_row w g k cs _ fr h1]; exact hc, ?_⟩
  have := h3 k hk
  simp only [World.frozen?, h1]
  simp
  omega
theorem Inc.set {w : World} {g n c : Nat} (h : Inc w (.slice (some ⟨g, 0, none⟩) n c) n) (k : Nat) {x : Nat} (hx : x < 256) : Inc (w.setCell ⟨g, k, none⟩ (.int .u8 (x : Int))) (.slice (some ⟨g, 0, none⟩) n c) n := by
  obtain ⟨A', c', e, h⟩ := h
  injection e with e1 e2 e3
  subst e1
  refine ⟨_, _, rfl, fun hn => ?_⟩
  obtain ⟨g', cs, fr, h0, h1, h2, h3, h4⟩ := h hn
  injection h0 with h0
  injection h0 with h0
  subst h0
  refine ⟨g, cs.setIfInBounds k (.int .u8 (x : Int)), fr, rfl, by simp [World.setCell, Array.getElem?_modify, h1], by simpa using h2, h3, fun i hi => ?_⟩
  by_cases e : k = i
  · subst e
    exact ⟨x, hx, by rw [Array.getElem?_setIfInBounds_self_of_lt (by omega)]⟩
  · rw [Array.getElem?_setIfInBounds_ne e]; exact h4 i hi
theorem OwF.inc {w : World} {K : Nat} {v : Value} {l : List Nat} (h : OwF w K v l) : Inc w v l.length ∧ ∀ g, v.ownBlock = some g → K ≤ g := by
  obtain ⟨hb, h⟩ := h
  rcases h with ⟨rfl, rfl⟩ | ⟨g, c, cs, fr, rfl, hk, h1, h2, h3⟩
  · exact ⟨⟨none, 0, rfl, fun h => absurd h (Nat.lt_irrefl 0)⟩, fun g hg => (by cases hg)⟩
  · refine ⟨⟨_, c, rfl, fun hn => ⟨g, cs, fr, rfl, h1, h3, fun i hi hq => by omega, fun i hi => ⟨l.getD i 0, hb.getD_lt i, ?_⟩⟩⟩, fun g' hg => by injection hg with hg; subst hg; exact hk⟩
    obtain ⟨A', c', e, -, -, -, hc⟩ := hb
    obtain ⟨b, off, e2, hcell⟩ := hc hn
    injection e with e1
    rw [e2] at e1
    injection e1 with e1
    injection e1 with e3 e4
    subst e3 e4
    have := hcell i hi
    rw [Nat.zero_add, cell_of_row w g i cs _ fr h1] at this
    exact this
theorem own_inc {w : World} {K : Nat} {v : Value} {n : Nat} {l : List Nat} (h : w.ownsRow K 5 1 v n (l.map bv)) (hl : l.length = n) (hb : ∀ x ∈ l, x < 256) : Inc w v n ∧ ∀ g, v.ownBlock = some g → K ≤ g := by
  obtain ⟨_, h⟩ := h
  rcases h with ⟨rfl, rfl⟩ | ⟨g, cap, cur, rfl, hg, hh, hle, hm, hs, ht⟩
  · exact ⟨⟨none, 0, rfl, fun h => absurd h (Nat.lt_irrefl 0)⟩, fun g hg => (by cases hg)⟩
  · refine ⟨⟨_, cap, rfl, fun hn => ⟨g, cur, (0, 0), rfl, hh, by omega, fun i hi hq => by omega, fun i hi => ⟨l.getD i 0, ?_, ?_⟩⟩⟩, fun g' hg' => by injection hg' with hg'; subst hg'; exact hg⟩
    · rw [getD_in (by omega)]; exact hb _ (List.getElem_mem _)
    · have h1 := getD_bv (l := l) (k := i) (by omega)
      rw [← ht, Nat.mul_one, List.getElem?_take_of_lt hi] at h1
      simpa using h1
theorem info_u8a : (Try.prog.info? 5).map (fun i => (i.zero, i.size, i.bytes)) = some (some (.int .u8 0), 1, 1) := by kernel_rfl

set_option maxHeartbeats 4000000 in
set_option maxRecDepth 100000 in
theorem apart_no (r b t s o a : Int) (v : Value) (w : World) (hf : ¬ Geo.fair r b t s o) : Calls Try.prog 7 #[.agg #[.int .i64 r, .int .i64 b, .int .i64 t, .int .i64 s, .int .i64 o], .int .i64 a, v] w (lawPost w) := by
  obtain ⟨B0, hB0⟩ : ∃ B, w.heap.size = B := ⟨_, rfl⟩
  obtain ⟨W0, hW0⟩ : ∃ W, w.alloc (.cells #[.int .i64 r, .int .i64 b, .int .i64 t, .int .i64 s, .int .i64 o] 23) = W := ⟨_, rfl⟩
  have T0 : Hid (Below w.heap.size w W0) := Lib.hid (by subst hW0; exact (Below.refl _ _).alloc (Nat.le_refl _) _)
  have G0 : Hid (Row W0 B0 23 #[.int .i64 r, .int .i64 b, .int .i64 t, .int .i64 s, .int .i64 o]) := Lib.hid (by subst hW0; exact gr_new w _ _ hB0)
  have HB0 := Lib.hid hB0
  have HW0 := Lib.hid hW0
  clear hB0 hW0
  go_enter Try.func7, Try.ntmps7

  go_wp2_with (first | rw [HB0.out] | rw [HW0.out])
  refine (awake11 _).mono ?_
  rintro e x1 ⟨rfl, hb2⟩
  have G_3 := Lib.hid (rw_fw G0.out (hb2))
  have hl4 := hb2
  have HT_5 : Hid (Below w.heap.size w x1) := Lib.hid (T0.out.trans ((hl4).mono T0.out.size))
  clear hb2 
  obtain ⟨c0, c1, c2, c3, c4⟩ := geo_cells G_3.out
  go_wp2_with fail
  clear c0 c1 c2 c3 c4
  refine (fair_any r b t s o _).mono ?_
  rintro e x6 ⟨rfl, hb7⟩
  have G_8 := Lib.hid (rw_fw G_3.out (hb7))
  have hl9 := hb7
  have HT_10 : Hid (Below w.heap.size w x6) := Lib.hid (HT_5.out.trans ((hl9).mono HT_5.out.size))
  clear hb7 
  rw [decide_eq_false hf]
  clear hf
  go_wp2_with fail
  refine (awake11 _).mono ?_
  rintro e x11 ⟨rfl, hb12⟩
  have G_13 := Lib.hid (rw_fw G_8.out (hb12))
  have hl14 := hb12
  have HT_15 : Hid (Below w.heap.size w x11) := Lib.hid (HT_10.out.trans ((hl14).mono HT_10.out.size))
  clear hb12 
  go_wp2_with fail
  go_ret
  exact ⟨rfl, HT_15.out⟩
set_option maxHeartbeats 4000000 in
set_option maxRecDepth 100000 in
theorem apart_low (R B T S O : Nat) (a : Int) (v : Value) (b : List Nat) (w : World) (hb : Bs w v b) (hf : Geo.fair (R : Int) B T S O) (h0 : a < 0) : Calls Try.prog 7 #[.agg #[.int .i64 (R : Int), .int .i64 (B : Int), .int .i64 (T : Int), .int .i64 (S : Int), .int .i64 (O : Int)], .int .i64 a, v] w (lawPost w) := by
  have HV := Lib.hid hf.1
  have SZ := Lib.hid fun w => rsize_any (R : Int) B T S O w
  rw [Geo.size_nat hf.1] at SZ
  obtain ⟨N, hN⟩ : ∃ N, R + B * (T * S) = N := ⟨_, rfl⟩
  have EN := Lib.hid hN
  rw [hN] at SZ
  clear hN
  have d0 : decide (a < (0 : Int)) = true := decide_eq_true h0
  obtain ⟨B0, hB0⟩ : ∃ B, w.heap.size = B := ⟨_, rfl⟩
  obtain ⟨W0, hW0⟩ : ∃ W, w.alloc (.cells #[.int .i64 (R : Int), .int .i64 (B : Int), .int .i64 (T : Int), .int .i64 (S : Int), .int .i64 (O : Int)] 23) = W := ⟨_, rfl⟩
  have T0 : Hid (Below w.heap.size w W0) := Lib.hid (by subst hW0; exact (Below.refl _ _).alloc (Nat.le_refl _) _)
  have G0 : Hid (Row W0 B0 23 #[.int .i64 (R : Int), .int .i64 (B : Int), .int .i64 (T : Int), .int .i64 (S : Int), .int .i64 (O : Int)]) := Lib.hid (by subst hW0; exact gr_new w _ _ hB0)
  have HB0 := Lib.hid hB0
  have HW0 := Lib.hid hW0
  clear hB0 hW0
  go_enter Try.func7, Try.ntmps7

  go_wp2_with (first | rw [HB0.out] | rw [HW0.out])
  refine (awake11 _).mono ?_
  rintro e x1 ⟨rfl, hb2⟩
  have G_3 := Lib.hid (rw_fw G0.out (hb2))
  have hl4 := hb2
  have HT_5 : Hid (Below w.heap.size w x1) := Lib.hid (T0.out.trans ((hl4).mono T0.out.size))
  clear hb2 
  obtain ⟨c0, c1, c2, c3, c4⟩ := geo_cells G_3.out
  go_wp2_with fail
  clear c0 c1 c2 c3 c4
  refine (fair_any (R : Int) B T S O _).mono ?_
  rintro e x6 ⟨rfl, hb7⟩
  have G_8 := Lib.hid (rw_fw G_3.out (hb7))
  have hl9 := hb7
  have HT_10 : Hid (Below w.heap.size w x6) := Lib.hid (HT_5.out.trans ((hl9).mono HT_5.out.size))
  clear hb7 
  rw [decide_eq_true hf]
  clear hf
  go_wp2_with fail
  refine (awake11 _).mono ?_
  rintro e x11 ⟨rfl, hb12⟩
  have G_13 := Lib.hid (rw_fw G_8.out (hb12))
  have hl14 := hb12
  have HT_15 : Hid (Below w.heap.size w x11) := Lib.hid (HT_10.out.trans ((hl14).mono HT_10.out.size))
  clear hb12 
  go_wp2_with fail
  go_ret
  exact ⟨rfl, HT_15.out⟩
set_option maxHeartbeats 4000000 in
set_option maxRecDepth 100000 in
theorem apart_high (R B T S O : Nat) (a : Int) (v : Value) (b : List Nat) (w : World) (hb : Bs w v b) (hf : Geo.fair (R : Int) B T S O) (h0 : ¬ a < 0) (h1 : ((R + B * (T * S) : Nat) : Int) ≤ a) : Calls Try.prog 7 #[.agg #[.int .i64 (R : Int), .int .i64 (B : Int), .int .i64 (T : Int), .int .i64 (S : Int), .int .i64 (O : Int)], .int .i64 a, v] w (lawPost w) := by
  have HV := Lib.hid hf.1
  have SZ := Lib.hid fun w => rsize_any (R : Int) B T S O w
  rw [Geo.size_nat hf.1] at SZ
  obtain ⟨N, hN⟩ : ∃ N, R + B * (T * S) = N := ⟨_, rfl⟩
  have EN := Lib.hid hN
  rw [hN] at SZ
  rw [hN] at h1
  clear hN
  have d0 : decide (a < (0 : Int)) = false := decide_eq_false h0
  have d1 : decide ((N : Int) ≤ a) = true := decide_eq_true h1
  obtain ⟨B0, hB0⟩ : ∃ B, w.heap.size = B := ⟨_, rfl⟩
  obtain ⟨W0, hW0⟩ : ∃ W, w.alloc (.cells #[.int .i64 (R : Int), .int .i64 (B : Int), .int .i64 (T : Int), .int .i64 (S : Int), .int .i64 (O : Int)] 23) = W := ⟨_, rfl⟩
  have T0 : Hid (Below w.heap.size w W0) := Lib.hid (by subst hW0; exact (Below.refl _ _).alloc (Nat.le_refl _) _)
  have G0 : Hid (Row W0 B0 23 #[.int .i64 (R : Int), .int .i64 (B : Int), .int .i64 (T : Int), .int .i64 (S : Int), .int .i64 (O : Int)]) := Lib.hid (by subst hW0; exact gr_new w _ _ hB0)
  have HB0 := Lib.hid hB0
  have HW0 := Lib.hid hW0
  clear hB0 hW0
  go_enter Try.func7, Try.ntmps7

  go_wp2_with (first | rw [HB0.out] | rw [HW0.out])
  refine (awake11 _).mono ?_
  rintro e x1 ⟨rfl, hb2⟩
  have G_3 := Lib.hid (rw_fw G0.out (hb2))
  have hl4 := hb2
  have HT_5 : Hid (Below w.heap.size w x1) := Lib.hid (T0.out.trans ((hl4).mono T0.out.size))
  clear hb2 
  obtain ⟨c0, c1, c2, c3, c4⟩ := geo_cells G_3.out
  go_wp2_with fail
  clear c0 c1 c2 c3 c4
  refine (fair_any (R : Int) B T S O _).mono ?_
  rintro e x6 ⟨rfl, hb7⟩
  have G_8 := Lib.hid (rw_fw G_3.out (hb7))
  have hl9 := hb7
  have HT_10 : Hid (Below w.heap.size w x6) := Lib.hid (HT_5.out.trans ((hl9).mono HT_5.out.size))
  clear hb7 
  rw [decide_eq_true hf]
  clear hf
  obtain ⟨c0, c1, c2, c3, c4⟩ := geo_cells G_8.out
  go_wp2_with fail
  clear c0 c1 c2 c3 c4
  refine (SZ.out _).mono ?_
  rintro e x11 ⟨rfl, hb12⟩
  have G_13 := Lib.hid (rw_fw G_8.out (hb12))
  have hl14 := hb12
  have HT_15 : Hid (Below w.heap.size w x11) := Lib.hid (HT_10.out.trans ((hl14).mono HT_10.out.size))
  clear hb12 
  go_wp2_with fail
  refine (awake11 _).mono ?_
  rintro e x16 ⟨rfl, hb17⟩
  have G_18 := Lib.hid (rw_fw G_13.out (hb17))
  have hl19 := hb17
  have HT_20 : Hid (Below w.heap.size w x16) := Lib.hid (HT_15.out.trans ((hl19).mono HT_15.out.size))
  clear hb17 
  go_wp2_with fail
  go_ret
  exact ⟨rfl, HT_20.out⟩
set_option maxHeartbeats 4000000 in
set_option maxRecDepth 100000 in
theorem apart_long (R B T S O : Nat) (a : Int) (v : Value) (b : List Nat) (w : World) (hb : Bs w v b) (hf : Geo.fair (R : Int) B T S O) (h0 : ¬ a < 0) (h1 : ¬ ((R + B * (T * S) : Nat) : Int) ≤ a) (h2 : 64 < b.length) : Calls Try.prog 7 #[.agg #[.int .i64 (R : Int), .int .i64 (B : Int), .int .i64 (T : Int), .int .i64 (S : Int), .int .i64 (O : Int)], .int .i64 a, v] w (lawPost w) := by
  obtain ⟨A, cc, rfl⟩ := hb.form
  have HB := Lib.hid hb
  clear hb
  obtain ⟨m, hm⟩ : ∃ m, b.length = m := ⟨_, rfl⟩
  have EM := Lib.hid hm
  rw [hm] at HB h2 ⊢
  clear hm
  have HV := Lib.hid hf.1
  have SZ := Lib.hid fun w => rsize_any (R : Int) B T S O w
  rw [Geo.size_nat hf.1] at SZ
  obtain ⟨N, hN⟩ : ∃ N, R + B * (T * S) = N := ⟨_, rfl⟩
  have EN := Lib.hid hN
  rw [hN] at SZ
  rw [hN] at h1
  clear hN
  have d0 : decide (a < (0 : Int)) = false := decide_eq_false h0
  have d1 : decide ((N : Int) ≤ a) = false := decide_eq_false h1
  have d2 : decide ((64 : Int) < (m : Int)) = true := decide_eq_true (by omega)
  obtain ⟨B0, hB0⟩ : ∃ B, w.heap.size = B := ⟨_, rfl⟩
  obtain ⟨W0, hW0⟩ : ∃ W, w.alloc (.cells #[.int .i64 (R : Int), .int .i64 (B : Int), .int .i64 (T : Int), .int .i64 (S : Int), .int .i64 (O : Int)] 23) = W := ⟨_, rfl⟩
  have T0 : Hid (Below w.heap.size w W0) := Lib.hid (by subst hW0; exact (Below.refl _ _).alloc (Nat.le_refl _) _)
  have G0 : Hid (Row W0 B0 23 #[.int .i64 (R : Int), .int .i64 (B : Int), .int .i64 (T : Int), .int .i64 (S : Int), .int .i64 (O : Int)]) := Lib.hid (by subst hW0; exact gr_new w _ _ hB0)
  have HB0 := Lib.hid hB0
  have HW0 := Lib.hid hW0
  clear hB0 hW0
  go_enter Try.func7, Try.ntmps7

  go_wp2_with (first | rw [HB0.out] | rw [HW0.out])
  refine (awake11 _).mono ?_
  rintro e x1 ⟨rfl, hb2⟩
  have G_3 := Lib.hid (rw_fw G0.out (hb2))
  have hl4 := hb2
  have HT_5 : Hid (Below w.heap.size w x1) := Lib.hid (T0.out.trans ((hl4).mono T0.out.size))
  clear hb2 
  obtain ⟨c0, c1, c2, c3, c4⟩ := geo_cells G_3.out
  go_wp2_with fail
  clear c0 c1 c2 c3 c4
  refine (fair_any (R : Int) B T S O _).mono ?_
  rintro e x6 ⟨rfl, hb7⟩
  have G_8 := Lib.hid (rw_fw G_3.out (hb7))
  have hl9 := hb7
  have HT_10 : Hid (Below w.heap.size w x6) := Lib.hid (HT_5.out.trans ((hl9).mono HT_5.out.size))
  clear hb7 
  rw [decide_eq_true hf]
  clear hf
  obtain ⟨c0, c1, c2, c3, c4⟩ := geo_cells G_8.out
  go_wp2_with fail
  clear c0 c1 c2 c3 c4
  refine (SZ.out _).mono ?_
  rintro e x11 ⟨rfl, hb12⟩
  have G_13 := Lib.hid (rw_fw G_8.out (hb12))
  have hl14 := hb12
  have HT_15 : Hid (Below w.heap.size w x11) := Lib.hid (HT_10.out.trans ((hl14).mono HT_10.out.size))
  clear hb12 
  go_wp2_with fail
  refine (awake11 _).mono ?_
  rintro e x16 ⟨rfl, hb17⟩
  have G_18 := Lib.hid (rw_fw G_13.out (hb17))
  have hl19 := hb17
  have HT_20 : Hid (Below w.heap.size w x16) := Lib.hid (HT_15.out.trans ((hl19).mono HT_15.out.size))
  clear hb17 
  go_wp2_with fail
  go_ret
  exact ⟨rfl, HT_20.out⟩
set_option maxHeartbeats 4000000 in
set_option maxRecDepth 100000 in
theorem apart_main (R B T S O : Nat) (a : Int) (v : Value) (b : List Nat) (w : World) (hb : Bs w v b) (hf : Geo.fair (R : Int) B T S O) (h0 : ¬ a < 0) (h1 : ¬ ((R + B * (T * S) : Nat) : Int) ≤ a) (h2 : ¬ 64 < b.length) : Calls Try.prog 7 #[.agg #[.int .i64 (R : Int), .int .i64 (B : Int), .int .i64 (T : Int), .int .i64 (S : Int), .int .i64 (O : Int)], .int .i64 a, v] w (lawPost w) := by
  obtain ⟨A, cc, rfl⟩ := hb.form
  have HB := Lib.hid hb
  clear hb
  obtain ⟨m, hm⟩ : ∃ m, b.length = m := ⟨_, rfl⟩
  have EM := Lib.hid hm
  rw [hm] at HB h2 ⊢
  clear hm
  have HV := Lib.hid hf.1
  have SZ := Lib.hid fun w => rsize_any (R : Int) B T S O w
  rw [Geo.size_nat hf.1] at SZ
  obtain ⟨N, hN⟩ : ∃ N, R + B * (T * S) = N := ⟨_, rfl⟩
  have EN := Lib.hid hN
  rw [hN] at SZ
  rw [hN] at h1
  clear hN
  have d0 : decide (a < (0 : Int)) = false := decide_eq_false h0
  have d1 : decide ((N : Int) ≤ a) = false := decide_eq_false h1
  have d2 : decide ((64 : Int) < (m : Int)) = false := decide_eq_false (by omega)
  obtain ⟨i0, hi, hz0, hz1, hz2⟩ := info_pt info_u8a
  have I0 := Lib.hid (And.intro hi (And.intro hz0 (And.intro hz1 hz2)))
  clear hi hz0 hz1 hz2
  have WE := Lib.hid (show wrE (List.replicate (R + B * (T * S)) Med.blank) a b.length = 0 by unfold wrE; rw [if_pos (by rw [List.length_replicate, EN.out]; omega), if_neg (by rw [EM.out]; omega)])
  have RD := Lib.hid (wr_rd (l := List.replicate (R + B * (T * S)) Med.blank) HV.out a b.length (strOf b) (by rw [List.length_replicate, EN.out]; omega) (by rw [EM.out]; omega))
  obtain ⟨B0, hB0⟩ : ∃ B, w.heap.size = B := ⟨_, rfl⟩
  obtain ⟨W0, hW0⟩ : ∃ W, w.alloc (.cells #[.int .i64 (R : Int), .int .i64 (B : Int), .int .i64 (T : Int), .int .i64 (S : Int), .int .i64 (O : Int)] 23) = W := ⟨_, rfl⟩
  have T0 : Hid (Below w.heap.size w W0) := Lib.hid (by subst hW0; exact (Below.refl _ _).alloc (Nat.le_refl _) _)
  have G0 : Hid (Row W0 B0 23 #[.int .i64 (R : Int), .int .i64 (B : Int), .int .i64 (T : Int), .int .i64 (S : Int), .int .i64 (O : Int)]) := Lib.hid (by subst hW0; exact gr_new w _ _ hB0)
  have HB0 := Lib.hid hB0
  have HW0 := Lib.hid hW0
  clear hB0 hW0
  go_enter Try.func7, Try.ntmps7

  go_wp2_with (first | rw [HB0.out] | rw [HW0.out])
  refine (awake11 _).mono ?_
  rintro e x1 ⟨rfl, hb2⟩
  have G_3 := Lib.hid (rw_fw G0.out (hb2))
  have hl4 := hb2
  have HT_5 : Hid (Below w.heap.size w x1) := Lib.hid (T0.out.trans ((hl4).mono T0.out.size))
  clear hb2 
  obtain ⟨c0, c1, c2, c3, c4⟩ := geo_cells G_3.out
  go_wp2_with fail
  clear c0 c1 c2 c3 c4
  refine (fair_any (R : Int) B T S O _).mono ?_
  rintro e x6 ⟨rfl, hb7⟩
  have G_8 := Lib.hid (rw_fw G_3.out (hb7))
  have hl9 := hb7
  have HT_10 : Hid (Below w.heap.size w x6) := Lib.hid (HT_5.out.trans ((hl9).mono HT_5.out.size))
  clear hb7 
  rw [decide_eq_true hf]
  clear hf
  obtain ⟨c0, c1, c2, c3, c4⟩ := geo_cells G_8.out
  go_wp2_with fail
  clear c0 c1 c2 c3 c4
  refine (SZ.out _).mono ?_
  rintro e x11 ⟨rfl, hb12⟩
  have G_13 := Lib.hid (rw_fw G_8.out (hb12))
  have hl14 := hb12
  have HT_15 : Hid (Below w.heap.size w x11) := Lib.hid (HT_10.out.trans ((hl14).mono HT_10.out.size))
  clear hb12 
  obtain ⟨c0, c1, c2, c3, c4⟩ := geo_cells G_13.out
  go_wp2_with fail
  clear c0 c1 c2 c3 c4
  refine (pnew_ok R B T S O _ HV.out).mono ?_
  rintro e x17 ⟨M, X, rfl, hn19, hx16, hb18⟩
  have QP := Lib.hid (show w.heap.size ≤ M ∧ w.heap.size ≤ X ∧ B0 < M ∧ B0 < X from ⟨Nat.le_trans HT_15.out.size hx16.1, Nat.le_trans HT_15.out.size hx16.2, Nat.lt_of_lt_of_le G_13.out.lt hx16.1, Nat.lt_of_lt_of_le G_13.out.lt hx16.2⟩)
  have G_20 := Lib.hid (rw_fw G_13.out (hb18))
  have hl21 := hb18
  have HT_22 : Hid (Below w.heap.size w x17) := Lib.hid (HT_15.out.trans ((hl21).mono HT_15.out.size))
  have P_23 := Lib.hid (hn19)
  clear hb18 hn19
  clear hx16
  have BA := Lib.hid ((HB.out.below HT_22.out).alloc (.cells #[] 5))
  go_wp2_with (at_builtin; refine wpList_append_bs rfl (.tmp 45) (.tmp 46) 41 rfl x17.heap.size 5 i0 Try.underlying41 I0.out.1 I0.out.2.1 I0.out.2.2.1 I0.out.2.2.2 (.slice (some ⟨x17.heap.size, 0, none⟩) 0 0) (.slice A m cc) 0 [] rfl (World.ownsRow_made x17 #[] 0 (Nat.le_refl _) (Nat.zero_le _) rfl) b rfl BA.out (by rw [EM.out]; unfold maxLen; omega) (by rw [EM.out]; omega) (by simp) ?_; rw [EM.out]; intro v1 z1 ho hg; have HO := Lib.hid ho; have HG := Lib.hid (((Below.refl x17.heap.size x17).alloc (Nat.le_refl _) _).grown hg (by simp) (fun g hg => by cases hg; exact Nat.le_refl _)); clear ho hg)
  rw [Nat.zero_add] at HO
  have OI := Lib.hid (own_inc (l := b) HO.out EM.out HB.out.lt)
  have OB := Lib.hid (Bs.of_own (l := b) HO.out EM.out HB.out.lt)
  have KX := Lib.hid (show M < x17.heap.size ∧ X < x17.heap.size from ⟨P_23.out.row.lt, P_23.out.sx.lt⟩)
  have P_24 := Lib.hid (Md.fw P_23.out (HG.out))
  have hl25 := HG.out
  have HT_26 : Hid (Below w.heap.size w z1) := Lib.hid (HT_22.out.trans ((hl25).mono HT_22.out.size))
  have I1 := Lib.hid OI.out.1
  have KO := Lib.hid (show ∀ g, v1.ownBlock = some g → w.heap.size ≤ g ∧ g ≠ M ∧ g ≠ X by intro g hg; have q := OI.out.2 g hg; have := KX.out; have := QP.out; omega)
  clear BA HO HG
  go_wp2_with fail
  refine (pwr_any P_24.out a v1 b OB.out).mono ?_
  rintro e x27 ⟨rfl, hp, hc⟩
  rw [WE.out]
  have HT_28 : Hid (Below w.heap.size w x27) := Lib.hid (HT_26.out.trans (hc.below HT_26.out.size (fun j hj => by rw [hj]; exact QP.out.2.1)))
  have P1 := Lib.hid hp
  have I2 := Lib.hid (I1.out.chg hc (fun g hg => (KO.out g hg).2.2))
  clear hp hc I1 OB OI
  obtain ⟨A1, c1, e1⟩ : ∃ A c, v1 = .slice A m c := by obtain ⟨A, c, h, _⟩ := I2.out; exact ⟨A, c, h⟩
  subst e1
  obtain ⟨l1, hl1⟩ : ∃ l, wr (Geo.shadow (R : Int) B T S O a) (List.replicate (R + B * (T * S)) Med.blank) a b.length (strOf b) = l := ⟨_, rfl⟩
  rw [hl1] at P1 RD
  clear hl1
  go_wp2_with fail
  go_loopw [10] (fun i wr => ∃ k : Nat, k ≤ m ∧ i = .int .i64 (k : Int) ∧ Hid (Inc wr (.slice A1 m c1) m ∧ Chg (fun j => (Value.slice A1 m c1).ownBlock = some j) x27 wr)) (fun i _ => m - (intOf i).toNat)
  case atStart => exact ⟨0, Nat.zero_le _, rfl, Lib.hid ⟨I2.out, Chg.refl _ _⟩⟩
  case round =>
    obtain ⟨k, hk, rfl, V⟩ := hrel
    have mb : m ≤ 64 := by omega
    by_cases hlt : k < m
    · have kI : (k : Int) < (m : Int) := by omega
      obtain ⟨gq, x, hA, x9, hc, hz⟩ := V.out.1.cell hlt
      obtain ⟨y, hy⟩ : ∃ y, (x + 1) % 256 = y := ⟨_, rfl⟩
      have xy : IntKind.u8.wrap ((x : Int) + 1) = (y : Int) := by rw [← hy, IntKind.wrap_u8]; omega
      have y9 : y < 256 := by omega
      have VV := Lib.hid (show Inc (wr.setCell ⟨gq, k, none⟩ (.int .u8 (y : Int))) (.slice A1 m c1) m ∧ Chg (fun j => (Value.slice A1 m c1).ownBlock = some j) x27 (wr.setCell ⟨gq, k, none⟩ (.int .u8 (y : Int))) from ⟨by have := V.out.1; rw [hA] at this ⊢; exact this.set k y9, V.out.2.setCell (p := ⟨gq, k, none⟩) (by rw [hA]; rfl) _⟩)
      obtain ⟨An, hAn⟩ : ∃ An, A1 = An := ⟨_, rfl⟩
      rw [hAn] at hA VV ⊢
      subst hA
      clear V hy hAn
      go_wp2_with fail
      go_roundw
      case rel => exact ⟨k + 1, by omega, by go_num, Lib.hid VV.out⟩
      case measure => simp [intOf]; omega
    · obtain rfl : m = k := by omega
      have kI : ¬ (m : Int) < (m : Int) := by omega
      have dk : decide ((m : Int) < (m : Int)) = false := decide_eq_false kI
      have HT_29 : Hid (Below w.heap.size w wr) := Lib.hid (HT_28.out.trans (V.out.2.below HT_28.out.size (fun j hj => (KO.out j hj).1)))
      have P_30 := Lib.hid (P1.out.chg V.out.2 (fun e => (KO.out _ e).2.1 rfl) (fun e => (KO.out _ e).2.2 rfl))
      clear V
      go_wp2_with fail
      have RP := Lib.hid (prd_any P_30.out a)
      rw [RD.out.1, RD.out.2] at RP
      refine RP.out.mono ?_
      clear RP
      rintro e x31 ⟨vx, rfl, hv, hb⟩
      rw [bOf_strOf HB.out.lt] at hv
      have KXvx := Lib.hid (show ∀ g, vx.ownBlock = some g → w.heap.size ≤ g ∧ g ≠ M ∧ g ≠ X by intro g hg; have q := hv.inc.2 g hg; have := P_30.out.row.lt; have := P_30.out.sx.lt; have := HT_29.out.size; omega)
      have P_32 := Lib.hid (Md.fw P_30.out (hb))
      have hl33 := hb
      have HT_34 : Hid (Below w.heap.size w x31) := Lib.hid (HT_29.out.trans ((hl33).mono HT_29.out.size))
      have Vvx := Lib.hid hv
      obtain ⟨Avx, cvx, evx⟩ := hv.1.form
      rw [EM.out] at evx
      subst evx
      clear hv hb
      have I3 : Hid (Inc x31 (.slice Avx m cvx) m) := Lib.hid (by have := Vvx.out.inc.1; rw [EM.out] at this; exact this)
      have cv := cvb Avx m cvx b Vvx.out.1
      go_wp2_with fail
      clear cv
      go_loopw [14] (fun i wr => ∃ k : Nat, k ≤ m ∧ i = .int .i64 (k : Int) ∧ Hid (Inc wr (.slice Avx m cvx) m ∧ Chg (fun j => (Value.slice Avx m cvx).ownBlock = some j) x31 wr)) (fun i _ => m - (intOf i).toNat)
      case atStart => exact ⟨0, Nat.zero_le _, rfl, Lib.hid ⟨I3.out, Chg.refl _ _⟩⟩
      case round =>
        obtain ⟨k, hk, rfl, V⟩ := hrel
        have mb : m ≤ 64 := by omega
        by_cases hlt : k < m
        · have kI : (k : Int) < (m : Int) := by omega
          obtain ⟨gq, x, hA, x9, hc, hz⟩ := V.out.1.cell hlt
          obtain ⟨y, hy⟩ : ∃ y, (x + 1) % 256 = y := ⟨_, rfl⟩
          have xy : IntKind.u8.wrap ((x : Int) + 1) = (y : Int) := by rw [← hy, IntKind.wrap_u8]; omega
          have y9 : y < 256 := by omega
          have VV := Lib.hid (show Inc (wr.setCell ⟨gq, k, none⟩ (.int .u8 (y : Int))) (.slice Avx m cvx) m ∧ Chg (fun j => (Value.slice Avx m cvx).ownBlock = some j) x31 (wr.setCell ⟨gq, k, none⟩ (.int .u8 (y : Int))) from ⟨by have := V.out.1; rw [hA] at this ⊢; exact this.set k y9, V.out.2.setCell (p := ⟨gq, k, none⟩) (by rw [hA]; rfl) _⟩)
          obtain ⟨An, hAn⟩ : ∃ An, Avx = An := ⟨_, rfl⟩
          rw [hAn] at hA VV ⊢
          subst hA
          clear V hy hAn
          go_wp2_with fail
          go_roundw
          case rel => exact ⟨k + 1, by omega, by go_num, Lib.hid VV.out⟩
          case measure => simp [intOf]; omega
        · obtain rfl : m = k := by omega
          have kI : ¬ (m : Int) < (m : Int) := by omega
          have dk : decide ((m : Int) < (m : Int)) = false := decide_eq_false kI
          have HT_35 : Hid (Below w.heap.size w wr) := Lib.hid (HT_34.out.trans (V.out.2.below HT_34.out.size (fun j hj => (KXvx.out j hj).1)))
          have P_36 := Lib.hid (P_32.out.chg V.out.2 (fun e => (KXvx.out _ e).2.1 rfl) (fun e => (KXvx.out _ e).2.2 rfl))
          clear V
          go_wp2_with fail
          have RP := Lib.hid (prd_any P_36.out a)
          rw [RD.out.1, RD.out.2] at RP
          refine RP.out.mono ?_
          clear RP
          rintro e x37 ⟨vz, rfl, hv, hb⟩
          rw [bOf_strOf HB.out.lt] at hv
          have KXvz := Lib.hid (show ∀ g, vz.ownBlock = some g → w.heap.size ≤ g ∧ g ≠ M ∧ g ≠ X by intro g hg; have q := hv.inc.2 g hg; have := P_36.out.row.lt; have := P_36.out.sx.lt; have := HT_35.out.size; omega)
          have P_38 := Lib.hid (Md.fw P_36.out (hb))
          have hl39 := hb
          have HT_40 : Hid (Below w.heap.size w x37) := Lib.hid (HT_35.out.trans ((hl39).mono HT_35.out.size))
          have Vvz := Lib.hid hv
          obtain ⟨Avz, cvz, evz⟩ := hv.1.form
          rw [EM.out] at evz
          subst evz
          clear hv hb
          have cv1 := cvb A m cc b (HB.out.below HT_40.out)
          have cv2 := cvb Avz m cvz b Vvz.out.1
          go_wp2_with fail
          go_ret
          exact ⟨rfl, HT_40.out⟩
theorem apart_walk (r b t s o a : Int) (v : Value) (l : List Nat) (w : World) (hb : Bs w v l) : Calls Try.prog 7 #[.agg #[.int .i64 r, .int .i64 b, .int .i64 t, .int .i64 s, .int .i64 o], .int .i64 a, v] w (lawPost w) := by
  by_cases hf : Geo.fair r b t s o
  · obtain ⟨R, B, T, S, O, rfl, rfl, rfl, rfl, rfl⟩ := Geo.fair_nat hf
    by_cases h0 : a < 0
    · exact apart_low R B T S O a v l w hb hf h0
    · by_cases h1 : ((R + B * (T * S) : Nat) : Int) ≤ a
      · exact apart_high R B T S O a v l w hb hf h0 h1
      · by_cases h2 : 64 < l.length
        · exact apart_long R B T S O a v l w hb hf h0 h1 h2
        · exact apart_main R B T S O a v l w hb hf h0 h1 h2
  · exact apart_no r b t s o a v w hf
end Go.Proofs.Ytkaklgdjlanigaa
