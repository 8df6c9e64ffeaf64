/- The walk of the law on solving. WRITTEN BY gen_Ne.py. -/
import Derived.Test.YtiibdoibcbokcaaNc
namespace Go.Proofs.Ytiibdoibcbokcaa
open Go Go.RowKit Lin
set_option linter.unusedVariables false

theorem arr_in {H : Type} {enc : TypeId × Value → H} {P : Program} {w : World} {base b0 n : Nat} {spare : Nat → Bool} {held : Bool} {r : Reach} {t e : TypeId} {v : Value} {d : DataW H} {p : List MemPlace}
    (ht : P.underlying t = some (.array n e)) (he : P.underlying e = some (.int .u8)) (hc : P.cellsOf e = 1) (hC : P.cellsOf t = n) (hv : Value.okWide P w r b0 t v) (h : DataW.Trod enc P w base spare held t v d p) :
    ∃ xs : List Nat, xs.length = n ∧ (∀ x ∈ xs, x < 256) ∧ v = .agg (xs.map bv).toArray := by
  obtain ⟨cs, rfl, hsz⟩ : ∃ cs, v = .agg cs ∧ cs.size = P.cellsOf t := by
    simp only [Value.okWide, ht] at hv
    obtain ⟨cs, h1, h2, _⟩ := hv
    exact ⟨cs, h1, h2⟩
  rw [hC] at hsz
  obtain ⟨fuel, hf⟩ := h
  obtain ⟨ys, m, _, _, _, hl, hel⟩ := DataW.trod_array ht hf
  have key : ∀ i (hi : i < n), ∃ x : Nat, x < 256 ∧ cs[i]'(by omega) = bv x := fun i hi => by
    have q := hel i hi
    rw [hc, Nat.mul_one] at q
    have e1 : ((Value.agg cs).cells.toList.drop i).take 1 = [cs[i]'(by omega)] := by
      have : (Value.agg cs).cells = cs := rfl
      rw [this, List.drop_eq_getElem_cons (by simpa using (by omega : i < cs.size))]
      simp
    rw [e1, List.getElem?_eq_getElem (by omega)] at q
    obtain ⟨z, ez, _, wz⟩ := DataW.trod_int he q
    obtain ⟨x, rfl, hx⟩ := u8_nat wz
    exact ⟨x, hx, by simpa [bv] using ez⟩
  refine ⟨(List.range n).map fun i => (intOf (cs.getD i (.bool false))).toNat, by simp, fun x hx => ?_, ?_⟩
  · obtain ⟨i, hi, rfl⟩ := List.mem_map.1 hx
    have hi' := List.mem_range.1 hi
    obtain ⟨y, hy, e⟩ := key i hi'
    rw [show cs.getD i (.bool false) = cs[i]'(by omega) by simp [Array.getD, show i < cs.size by omega], e]
    simp [intOf, bv]
    exact hy
  · congr 1
    refine Array.ext (by simp [hsz]) fun i h1 h2 => ?_
    obtain ⟨y, hy, e⟩ := key i (by omega)
    simp only [List.getElem_toArray, List.getElem_map, List.getElem_range]
    rw [show cs.getD i (.bool false) = cs[i] by simp [Array.getD, h1], e]
    simp [intOf, bv]

/-- The inverse takes a product back. -/
theorem solve_back {n : Nat} {q : List (List Nat)} (hq : Rect n n q) (hr : (reduceF (augF n q) n).2.length = n) {x : List Nat} (hx : x.length = n) (hb : ∀ y ∈ x, y < 256) : applyL n n (invF n q) (applyL n n q x) = x := by
  refine list_ext 0 (by simp [applyL, hx]) fun i hi => ?_
  have hi' : i < n := by simpa [applyL] using hi
  rw [applyL_at _ _ _ _ _ hi']
  unfold dotE
  rw [xs_congr n _ (fun k => xs n (fun l => Gf.mul (Gf.mul (el (invF n q) i k) (el q k l)) (x.getD l 0))) fun k hk => by
    rw [applyL_at _ _ _ _ _ hk]
    unfold dotE
    rw [mul_xs]
    exact xs_congr _ _ _ fun l _ => (Gf.mul_assoc _ _ _ ((inv_rect hq).by i k) (hq.by k l) (getD_bytes hb l)).symm, xs_comm]
  rw [xs_congr n _ (fun l => Gf.mul (if i = l then 1 else 0) (x.getD l 0)) fun l hl => by
    rw [← (inv_ok hq hr hi' hl).1, xs_mul _ _ _ fun k _ => Gf.mul_lt _ _ ((inv_rect hq).by i k)]]
  rw [xs_single n i _ hi' fun l _ hne => by rw [if_neg fun e => hne e.symm, Gf.zero_mul], if_pos rfl, Gf.one_mul _ (getD_bytes hb i)]
theorem apply_rows {n : Nat} {m : List (List Nat)} {rows : List Nat} (hl : rows.length = n) (x : List Nat) {k : Nat} (hk : k < n) : (applyL n n (rowsL m rows) x).getD k 0 = dotE m x (rows.getD k 0) n := by
  rw [applyL_at _ _ _ _ _ hk]
  unfold dotE
  refine xs_congr _ _ _ fun l _ => ?_
  unfold el
  rw [rowsL_at (by rw [hl]; exact hk)]
theorem bs_head {w : World} {A : Addr} {n N c : Nat} {l : List Nat} (h : Bs w (.slice (some A) N c) l) (hn : n ≤ N) : Bs w (.slice (some A) n c) (l.take n) := by
  obtain ⟨A', c', hv, hm, hl, hz, hc⟩ := h
  injection hv with e1 e2 e3
  subst e1 e2 e3
  have e : (l.take n).length = n := by rw [List.length_take]; omega
  refine ⟨_, c, by rw [e], ⟨by omega, hm.2⟩, fun x hx => hl x (List.mem_of_mem_take hx), fun h => (by cases h), fun h0 => ?_⟩
  rw [e] at h0
  obtain ⟨b, off, he, hcell⟩ := hc (by omega)
  refine ⟨b, off, he, fun k hk => ?_⟩
  rw [e] at hk
  rw [hcell k (by omega), List.getD_eq_getElem?_getD, List.getD_eq_getElem?_getD, List.getElem?_take_of_lt hk]
/-- The array in its box. -/
theorem box_bs (w : World) (xs : List Nat) (t : TypeId) (n q B : Nat) (hB : w.heap.size = B) (hx : xs.length = q) (hb : ∀ x ∈ xs, x < 256) (hn : n ≤ q) (hq : q ≤ 1000) : Bs (w.alloc (.cells (xs.map bv).toArray t)) (.slice (some ⟨B, 0, none⟩) n q) (xs.take n) := by
  subst hB
  refine Bs.of_row (t := t) (cs := (xs.map bv).toArray) (heap_alloc_new w _) (by rw [List.length_take]; omega) ⟨hn, by unfold maxLen; omega⟩ (fun x hx => hb x (List.mem_of_mem_take hx)) fun k hk => ?_
  rw [List.getElem?_toArray, getD_bv (by omega)]
  have : (xs.take n).getD k 0 = xs.getD k 0 := by
    rw [List.getD_eq_getElem?_getD, List.getD_eq_getElem?_getD, List.getElem?_take_of_lt hk]
  rw [this]

set_option maxHeartbeats 8000000 in
set_option maxRecDepth 100000 in
theorem solve_e (v0 : Value) (a : List (List Nat)) (x : List Nat) (w : World) (h0 : Ms w v0 a) (hx : x.length = 8) (hxb : ∀ y ∈ x, y < 256) (s0 : smallB a = false) : Calls Try.prog 10 #[v0, .agg (x.map bv).toArray] w (lawPost w) := by
  have A := Lib.hid h0
  have S0 := Lib.hid s0
  have XL := Lib.hid hx
  have XB := Lib.hid hxb
  have BOX : Hid (Bs (w.alloc (.cells (x.map bv).toArray 55)) (.slice (some ⟨w.heap.size, 0, none⟩) 8 8) (x.take 8)) := Lib.hid (box_bs w x _ 8 8 _ rfl hx hxb (Nat.le_refl 8) (by decide))
  have hb0 : Below w.heap.size w (w.alloc (.cells (x.map bv).toArray 55)) := (Below.refl _ w).alloc (Nat.le_refl _) _
  have HB0 := Lib.hid hb0
  have A1 := Lib.hid (Ms.to A.out hb0)
  clear h0 s0 hx hxb hb0
  generalize (x.map bv).toArray = ar at *
  go_enter Try.func10, Try.ntmps10
  go_wp2_with fail
  refine (awake_any _).mono ?_
  rintro e x2 ⟨rfl, hb1⟩
  have A_3 := Lib.hid (Ms.to A1.out hb1)
  have BOX_4 := Lib.hid (Bs.to BOX.out hb1)
  have HB_5 := Lib.hid (bt HB0.out hb1)
  clear hb1
  go_wp2_with fail
  refine (small_b _ a _ false A_3.out S0.out).mono ?_
  rintro e w' ⟨rfl, rfl⟩
  go_wp2_with fail
  go_ret
  exact ⟨by first | rfl | simp, HB_5.out⟩
set_option maxHeartbeats 8000000 in
set_option maxRecDepth 100000 in
theorem solve_inv (v0 : Value) (a : List (List Nat)) (x : List Nat) (w : World) (h0 : Ms w v0 a) (hx : x.length = 8) (hxb : ∀ y ∈ x, y < 256) (s0 : smallB a = true) (hv : validB a = false) : Calls Try.prog 10 #[v0, .agg (x.map bv).toArray] w (lawPost w) := by
  have A := Lib.hid h0
  have S0 := Lib.hid s0
  have XL := Lib.hid hx
  have XB := Lib.hid hxb
  have VA := Lib.hid hv
  obtain ⟨A0, c0, rfl⟩ := Sl.form h0
  have BOX : Hid (Bs (w.alloc (.cells (x.map bv).toArray 55)) (.slice (some ⟨w.heap.size, 0, none⟩) 8 8) (x.take 8)) := Lib.hid (box_bs w x _ 8 8 _ rfl hx hxb (Nat.le_refl 8) (by decide))
  have hb0 : Below w.heap.size w (w.alloc (.cells (x.map bv).toArray 55)) := (Below.refl _ w).alloc (Nat.le_refl _) _
  have HB0 := Lib.hid hb0
  have A1 := Lib.hid (Ms.to A.out hb0)
  clear h0 s0 hv hx hxb hb0
  generalize (x.map bv).toArray = ar at *
  go_enter Try.func10, Try.ntmps10
  go_wp2_with fail
  refine (awake_any _).mono ?_
  rintro e x2 ⟨rfl, hb1⟩
  have A_3 := Lib.hid (Ms.to A1.out hb1)
  have BOX_4 := Lib.hid (Bs.to BOX.out hb1)
  have HB_5 := Lib.hid (bt HB0.out hb1)
  clear hb1
  go_wp2_with fail
  refine (small_b _ a _ true A_3.out S0.out).mono ?_
  rintro e w' ⟨rfl, rfl⟩
  go_wp2_with fail
  refine (rvalid_b _ a _ false A_3.out VA.out).mono ?_
  rintro e x7 ⟨rfl, hd6⟩
  have A_8 := Lib.hid (Ms.dr A_3.out hd6)
  have BOX_9 := Lib.hid (Bs.dr BOX_4.out hd6)
  have HB_10 := Lib.hid (bd2 HB_5.out hd6)
  clear hd6
  go_wp2_with fail
  go_ret
  exact ⟨by first | rfl | simp, HB_10.out⟩
set_option maxHeartbeats 8000000 in
set_option maxRecDepth 100000 in
theorem solve_div (v0 : Value) (a : List (List Nat)) (x : List Nat) (w : World) (h0 : Ms w v0 a) (hx : x.length = 8) (hxb : ∀ y ∈ x, y < 256) (s0 : smallB a = true) {r n : Nat} (hR : Rect r n a) (k0 : 0 < r) (k1 : 0 < n) (k2 : r ≤ 64) (k3 : n ≤ 64) {K : Nat} (hK : (indF n (el a) r).length = K) (hKn : K < n) : Calls Try.prog 10 #[v0, .agg (x.map bv).toArray] w (lawPost w) := by
  have A := Lib.hid h0
  have S0 := Lib.hid s0
  have XL := Lib.hid hx
  have XB := Lib.hid hxb
  have RA := Lib.hid hR
  have VA := Lib.hid (valid_of_rect hR k0 k1 k2 k3)
  obtain ⟨ba, oa, ca, rfl, -, -⟩ := Ms.open_ h0 hR k0 k1
  have hrI : (0 : Int) < (r : Int) := by omega
  have hnI : (0 : Int) < (n : Int) := by omega
  have KK := Lib.hid hK
  have KP : Hid ((pivT r n a).length < n) := Lib.hid (by rw [pivT_ind hR, hK]; exact hKn)
  have BOX : Hid (Bs (w.alloc (.cells (x.map bv).toArray 55)) (.slice (some ⟨w.heap.size, 0, none⟩) 8 8) (x.take 8)) := Lib.hid (box_bs w x _ 8 8 _ rfl hx hxb (Nat.le_refl 8) (by decide))
  have hb0 : Below w.heap.size w (w.alloc (.cells (x.map bv).toArray 55)) := (Below.refl _ w).alloc (Nat.le_refl _) _
  have HB0 := Lib.hid hb0
  have A1 := Lib.hid (Ms.to A.out hb0)
  clear h0 s0 hR hK hx hxb hb0
  generalize (x.map bv).toArray = ar at *
  go_enter Try.func10, Try.ntmps10
  go_wp2_with fail
  refine (awake_any _).mono ?_
  rintro e x2 ⟨rfl, hb1⟩
  have A_3 := Lib.hid (Ms.to A1.out hb1)
  have BOX_4 := Lib.hid (Bs.to BOX.out hb1)
  have HB_5 := Lib.hid (bt HB0.out hb1)
  clear hb1
  go_wp2_with fail
  refine (small_b _ a _ true A_3.out S0.out).mono ?_
  rintro e w' ⟨rfl, rfl⟩
  go_wp2_with fail
  refine (rvalid_b _ a _ true A_3.out VA.out).mono ?_
  rintro e x7 ⟨rfl, hd6⟩
  have A_8 := Lib.hid (Ms.dr A_3.out hd6)
  have BOX_9 := Lib.hid (Bs.dr BOX_4.out hd6)
  have HB_10 := Lib.hid (bd2 HB_5.out hd6)
  clear hd6
  go_wp2_with fail
  refine (left_div _ a _ A_8.out RA.out k0 k1 k2 k3 KP.out).mono ?_
  rintro e x12 ⟨rfl, hb11⟩
  have A_13 := Lib.hid (Ms.to A_8.out hb11)
  have BOX_14 := Lib.hid (Bs.to BOX_9.out hb11)
  have HB_15 := Lib.hid (bt HB_10.out hb11)
  clear hb11
  go_wp2_with fail
  go_ret
  exact ⟨by first | rfl | simp, HB_15.out⟩
set_option maxHeartbeats 8000000 in
set_option maxRecDepth 100000 in
theorem solve_full (v0 : Value) (a : List (List Nat)) (x : List Nat) (w : World) (h0 : Ms w v0 a) (hx : x.length = 8) (hxb : ∀ y ∈ x, y < 256) (s0 : smallB a = true) {r n : Nat} (hR : Rect r n a) (k0 : 0 < r) (k1 : 0 < n) (k2 : r ≤ 64) (k3 : n ≤ 64) (hK : (indF n (el a) r).length = n) : Calls Try.prog 10 #[v0, .agg (x.map bv).toArray] w (lawPost w) := by
  have A := Lib.hid h0
  have S0 := Lib.hid s0
  have XL := Lib.hid hx
  have XB := Lib.hid hxb
  have RA := Lib.hid hR
  have VA := Lib.hid (valid_of_rect hR k0 k1 k2 k3)
  obtain ⟨ba, oa, ca, rfl, -, -⟩ := Ms.open_ h0 hR k0 k1
  have hrI : (0 : Int) < (r : Int) := by omega
  have hnI : (0 : Int) < (n : Int) := by omega
  have KK := Lib.hid hK
  have KP : Hid ((pivT r n a).length = n) := Lib.hid (by rw [pivT_ind hR, hK])
  have PLT := Lib.hid (pivT_lt hR)
  have RSQ := Lib.hid (rowsL_rect hR KP.out (pivT_lt hR))
  have RI := Lib.hid (inv_rect RSQ.out)
  have SQ := Lib.hid (square_ok hR KP.out)
  have hn8 : n ≤ 8 := by have := ((smallB_iff a).1 s0).2 0 (by rw [hR.len]; exact k0); rw [(hR.row 0 k0).1] at this; exact this
  obtain ⟨i1, hi, hz0, hz1, hz2⟩ := info_parts info_u8
  have I1 := Lib.hid (And.intro hi (And.intro hz0 (And.intro hz1 hz2)))
  have L3 : 0 + (x.take n).length ≤ maxLen := by rw [List.length_take]; unfold maxLen; omega
  have L4 : 0 + (x.take n).length ≤ 140737488355328 := by rw [List.length_take]; omega
  have LL := Lib.hid (And.intro L3 L4)
  have XN : Hid ((x.take n).length = n) := Lib.hid (by rw [List.length_take]; omega)
  clear hi hz0 hz1 hz2 L3 L4
  have BOX : Hid (Bs (w.alloc (.cells (x.map bv).toArray 55)) (.slice (some ⟨w.heap.size, 0, none⟩) 8 8) (x.take 8)) := Lib.hid (box_bs w x _ 8 8 _ rfl hx hxb (Nat.le_refl 8) (by decide))
  have hb0 : Below w.heap.size w (w.alloc (.cells (x.map bv).toArray 55)) := (Below.refl _ w).alloc (Nat.le_refl _) _
  have HB0 := Lib.hid hb0
  have A1 := Lib.hid (Ms.to A.out hb0)
  clear h0 s0 hR hK hx hxb hb0
  generalize (x.map bv).toArray = ar at *
  go_enter Try.func10, Try.ntmps10
  go_wp2_with fail
  refine (awake_any _).mono ?_
  rintro e x2 ⟨rfl, hb1⟩
  have A_3 := Lib.hid (Ms.to A1.out hb1)
  have BOX_4 := Lib.hid (Bs.to BOX.out hb1)
  have HB_5 := Lib.hid (bt HB0.out hb1)
  clear hb1
  go_wp2_with fail
  refine (small_b _ a _ true A_3.out S0.out).mono ?_
  rintro e w' ⟨rfl, rfl⟩
  go_wp2_with fail
  refine (rvalid_b _ a _ true A_3.out VA.out).mono ?_
  rintro e x7 ⟨rfl, hd6⟩
  have A_8 := Lib.hid (Ms.dr A_3.out hd6)
  have BOX_9 := Lib.hid (Bs.dr BOX_4.out hd6)
  have HB_10 := Lib.hid (bd2 HB_5.out hd6)
  clear hd6
  go_wp2_with fail
  refine (left_new _ a _ A_8.out RA.out k0 k1 k2 k3 KP.out).mono ?_
  rintro e x14 ⟨bv, ov, cv, bp, op, cp, rfl, hn11, hm12, hb13⟩
  have A_15 := Lib.hid (Ms.to A_8.out hb13)
  have BOX_16 := Lib.hid (Bs.to BOX_9.out hb13)
  have HB_17 := Lib.hid (bt HB_10.out hb13)
  have V_18 := Lib.hid hn11
  have R_19 := Lib.hid hm12
  clear hn11 hm12 hb13
  obtain ⟨bz, oz, cz, hz⟩ := Ms.row0 A_15.out RA.out k0 k1
  have BN : Hid (Bs x14 (.slice (some ⟨w.heap.size, 0, none⟩) n 8) (x.take n)) := Lib.hid (by have h := bs_head BOX_16.out hn8; rwa [List.take_take, Nat.min_eq_left hn8] at h)
  have Y2 : ∀ o, (x14.alloc o).cell? ⟨ba, oa, none⟩ = some (.slice (some ⟨bz, oz, none⟩) n cz) := fun o => (World.cell?_alloc_lt _ o _ (World.block_lt_of_cell? _ _ hz)).trans hz
  have hn8I : (n : Int) ≤ 8 := by omega
  go_wp2_with (at_builtin; refine wpList_append_bs rfl (.tmp 35) (.tmp 40) 31 rfl x14.heap.size 5 i1 Try.underlying31 I1.out.1 I1.out.2.1 I1.out.2.2.1 I1.out.2.2.2 (.slice (some ⟨x14.heap.size, 0, none⟩) 0 0) (.slice (some ⟨w.heap.size, 0, none⟩) n 8) 0 [] rfl (World.ownsRow_made x14 #[] 0 (Nat.le_refl _) (Nat.zero_le _) rfl) (x.take n) rfl (BN.out.alloc _) LL.out.1 LL.out.2 (by simp) ?_; intro vl wl hownl hgl)
  have hbl : Below x14.heap.size x14 wl := ((Below.refl _ x14).alloc (Nat.le_refl _) _).grown hgl (by simp) fun q hq => by injection hq with hq; exact Nat.le_of_eq hq
  have LF := Lib.hid (Bs.of_own hownl (by simp) BN.out.lt)
  have A_20 := Lib.hid (Ms.to A_15.out hbl)
  have BOX_21 := Lib.hid (Bs.to BOX_16.out hbl)
  have V_22 := Lib.hid (Ms.to V_18.out hbl)
  have R_23 := Lib.hid (Is.to R_19.out hbl)
  have HB_24 := Lib.hid (bt HB_17.out hbl)
  clear hownl hgl hbl Y2 hz BN
  go_wp2_with fail
  refine (apply_ok _ _ a (x.take n) _ A_20.out RA.out k0 k1 k2 k3 LF.out XN.out).mono ?_
  rintro e x27 ⟨vy, rfl, hn25, hb26⟩
  have A_28 := Lib.hid (Ms.to A_20.out hb26)
  have BOX_29 := Lib.hid (Bs.to BOX_21.out hb26)
  have V_30 := Lib.hid (Ms.to V_22.out hb26)
  have R_31 := Lib.hid (Is.to R_23.out hb26)
  have L_32 := Lib.hid (Bs.to LF.out hb26)
  have HB_33 := Lib.hid (bt HB_24.out hb26)
  have Y_34 := Lib.hid hn25
  clear hn25 hb26
  obtain ⟨by1, oy, cy, hvy, -, hcy⟩ := Bs.at_ Y_34.out (by rw [applyL, List.length_map, List.length_range]; exact k0)
  have ey : (applyL r n a (x.take n)).length = r := by rw [applyL, List.length_map, List.length_range]
  rw [ey] at hvy hcy
  subst hvy
  have CY := Lib.hid hcy
  obtain ⟨bp2, op2, cp2, hvp, -, hcp⟩ := Is.at_ R_31.out (by rw [natsI_len, KP.out]; exact k1)
  rw [natsI_len, KP.out] at hvp hcp
  injection hvp with hvp1 hvp2 hvp3
  injection hvp1 with hvp1
  injection hvp1 with hvp1 hvp4
  subst hvp1 hvp4
  have CP := Lib.hid hcp
  clear hcy hcp ey hvp2 hvp3
  go_wp2_with fail
  go_loopw [11, 12] (fun v q wr => ∃ i : Nat, i ≤ n ∧ q = .int .i64 (i : Int) ∧ Hid (Below x27.heap.size x27 wr ∧ OwnL Bv wr x27.heap.size 5 v ((applyL n n (rowsL a (pivT r n a)) (x.take n)).take i))) (fun _ q _ => n - (intOf q).toNat)
  case atStart => exact ⟨0, Nat.zero_le _, rfl, Lib.hid ⟨Below.refl _ _, OwnL.nil_ _ _ _⟩⟩
  case round =>
    obtain ⟨i, hik, rfl, H⟩ := hrel
    by_cases hlt : i < n
    · have hiI : (i : Int) < (n : Int) := by omega
      have hlen : ((applyL n n (rowsL a (pivT r n a)) (x.take n)).take i).length = i := by rw [List.length_take, applyL, List.length_map, List.length_range]; omega
      have LN := Lib.hid hlen
      have p1 := CP.out i hlt
      rw [natsI_at _ i (by rw [KP.out]; exact hlt)] at p1
      have hxr := PLT.out i (by rw [KP.out]; exact hlt)
      have hs := apply_rows (m := a) KP.out (x.take n) hlt
      obtain ⟨p, ep⟩ : ∃ p, (pivT r n a).getD i 0 = p := ⟨_, rfl⟩
      rw [ep] at p1 hxr hs
      have p2 := CY.out p hxr
      rw [applyL_at _ _ _ _ _ hxr] at p2
      obtain ⟨s, es⟩ : ∃ s, dotE a (x.take n) p n = s := ⟨_, rfl⟩
      rw [es] at p2 hs
      have p1' := (H.out.1.cell (World.block_lt_of_cell? _ _ p1)).trans p1
      have p2' := (H.out.1.cell (World.block_lt_of_cell? _ _ p2)).trans p2
      have hs0 : decide ((p : Int) < 0) = false := by simp
      have hpI : (p : Int) < (r : Int) := by omega
      have T := Lib.hid (take_snoc 0 (applyL n n (rowsL a (pivT r n a)) (x.take n)) i (by rw [applyL, List.length_map, List.length_range]; exact hlt))
      have HSS := Lib.hid hs
      have F := Lib.hid (push_plain H.out.2 (Below.refl wr.heap.size wr) (fun _ => (rfl : Bv _ (.int .u8 (s : Int)) s)) 5 wr.heap.size rfl)
      have L1 : i + 1 ≤ maxLen := by unfold maxLen; omega
      have L2 : (i + 1) * 1 ≤ 140737488355328 := by omega
      have L := Lib.hid (And.intro L1 L2)
      have HS := Lib.hid H.out.1.size
      clear hlen p1 p2 ep es hs L1 L2
      go_wp2_with (at_builtin; refine wpList_push rfl _ _ 31 rfl x27.heap.size 5 i1 (.int .u8 0) 1 Try.underlying31 I1.out.1 I1.out.2.1 I1.out.2.2.1 I1.out.2.2.2 rfl Bv.keeps u11 _ rfl F.out.1 i LN.out wr.heap.size (.int .u8 (s : Int)) s rfl F.out.2.1 rfl F.out.2.2.1 F.out.2.2.2 L.out.1 L.out.2 (by simp; have := HS.out; omega) ?_; intro g3 cap3 w3 hown3 hgrow3)
      have HO3 := Lib.hid hown3
      have HG3 := Lib.hid hgrow3
      clear hown3 hgrow3
      go_wp2
      go_roundw
      case rel =>
        have hsz := HS.out
        refine ⟨i + 1, by omega, by go_num, Lib.hid ⟨?_, ?_⟩⟩
        · exact (H.out.1.alloc (by omega) _).grown HG3.out (by simp; omega) fun g hg => (H.out.2.own g hg).1
        · rw [T.out, HSS.out]; exact HO3.out
      case measure => simp [intOf]; omega
    · have en : i = n := by omega
      have hown := H.out.2
      rw [List.take_of_length_le (by rw [applyL, List.length_map, List.length_range]; omega)] at hown
      have SF := Lib.hid (hown.bs (applyL_bytes RSQ.out (x.take n)))
      have HE := Lib.hid H.out.1
      clear hown H en
      have A_35 := Lib.hid (Ms.to A_28.out HE.out)
      have BOX_36 := Lib.hid (Bs.to BOX_29.out HE.out)
      have V_37 := Lib.hid (Ms.to V_30.out HE.out)
      have R_38 := Lib.hid (Is.to R_31.out HE.out)
      have L_39 := Lib.hid (Bs.to L_32.out HE.out)
      have Y_40 := Lib.hid (Bs.to Y_34.out HE.out)
      have HB_41 := Lib.hid (bt HB_33.out HE.out)
      go_wp2_with fail
      refine (apply_ok _ _ _ _ _ V_37.out RI.out k1 k1 k3 k3 SF.out (by rw [applyL, List.length_map, List.length_range])).mono ?_
      rintro e x44 ⟨vz, rfl, hn42, hb43⟩
      have V_45 := Lib.hid (Ms.to V_37.out hb43)
      have L_46 := Lib.hid (Bs.to L_39.out hb43)
      have S_47 := Lib.hid (Bs.to SF.out hb43)
      have HB_48 := Lib.hid (bt HB_41.out hb43)
      have Z_49 := Lib.hid (show Bs _ _ (x.take n) by rw [← solve_back RSQ.out SQ.out XN.out (fun y hy => XB.out y (List.mem_of_mem_take hy))]; exact hn42)
      clear hn42 hb43
      go_wp2_with fail
      refine (bsame_c _ _ _ _ Z_49.out L_46.out).mono ?_
      rintro e w' ⟨rfl, rfl⟩
      go_wp2_with fail
      go_ret
      exact ⟨by first | rfl | simp, HB_48.out⟩
theorem solveslaw_walk (v0 : Value) (a : List (List Nat)) (x : List Nat) (w : World) (h0 : Ms w v0 a) (hx : x.length = 8) (hxb : ∀ y ∈ x, y < 256) : Calls Try.prog 10 #[v0, .agg (x.map bv).toArray] w (lawPost w) := by
  by_cases s0 : smallB a = true
  · by_cases hv : validB a = true
    · obtain ⟨r, n, hR, k0, k2, k1, k3⟩ := Rect.of_valid h0 hv
      have hle := indF_le hR
      by_cases hK : (indF n (el a) r).length = n
      · exact solve_full v0 a x w h0 hx hxb s0 hR k0 k1 k2 k3 hK
      · exact solve_div v0 a x w h0 hx hxb s0 hR k0 k1 k2 k3 rfl (by omega)
    · exact solve_inv v0 a x w h0 hx hxb s0 (by simpa using hv)
  · exact solve_e v0 a x w h0 hx hxb (by simpa using s0)
end Go.Proofs.Ytiibdoibcbokcaa
