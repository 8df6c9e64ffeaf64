/- Layer 12: steps in memory; the law's fair and start; the example of the document holds. WRITTEN BY gen_Ccm.py. -/
import Derived.Test.YtbaclcpnnompnaaCcl
import Derived.Test.YtbaclcpnnompnaaMdm
import Derived.Test.YtbaclcpnnompnaaGK
namespace Go.Proofs.Ytbaclcpnnompnaa
open Go Go.RowKit Med
set_option linter.unusedVariables false
set_option linter.unusedSimpArgs false

/-- A step: its kind, its operation, how many are kept. -/
structure Stp where
  kind : Nat
  op : Med.Op
  keep : Int
/-- The slice value v reads as these steps. -/
def Sls (w : World) (v : Value) (L : List Stp) : Prop :=
  ∃ A c, v = .slice A L.length c ∧ (L.length ≤ c ∧ c ≤ maxLen) ∧ (0 < L.length → ∃ b off, A = some ⟨b, off, none⟩ ∧ ∀ k (h : k < L.length), (L[k].kind < 256 ∧ w.cell? ⟨b, off + k * 5, none⟩ = some (.int .u8 (L[k].kind : Int))) ∧ w.cell? ⟨b, off + k * 5 + 1, none⟩ = some (.bool L[k].op.erase) ∧ w.cell? ⟨b, off + k * 5 + 2, none⟩ = some (.int .i64 L[k].op.pos) ∧ (∃ u, w.cell? ⟨b, off + k * 5 + 3, none⟩ = some u ∧ Bs w u L[k].op.bytes) ∧ w.cell? ⟨b, off + k * 5 + 4, none⟩ = some (.int .i64 L[k].keep))
theorem Sls.fw {w w' : World} {v : Value} {L : List Stp} (h : Sls w v L) (hb : Below w.heap.size w w') : Sls w' v L := by
  obtain ⟨A, c, rfl, hm, hc⟩ := h
  refine ⟨A, c, rfl, hm, fun hn => ?_⟩
  obtain ⟨b, off, rfl, hq⟩ := hc hn
  refine ⟨b, off, rfl, fun k hk => ?_⟩
  obtain ⟨h0, h1, h2, ⟨u, h3, h4⟩, h5⟩ := hq k hk
  exact ⟨⟨h0.1, ce_fw h0.2 hb⟩, ce_fw h1 hb, ce_fw h2 hb, ⟨u, ce_fw h3 hb, h4.below hb⟩, ce_fw h5 hb⟩
theorem Sls.nil_ (w : World) : Sls w (.slice none 0 0) [] := ⟨none, 0, rfl, ⟨Nat.le_refl _, by decide⟩, fun h => absurd h (Nat.lt_irrefl 0)⟩
theorem Sls.form {w : World} {v : Value} {L : List Stp} (h : Sls w v L) : ∃ A c, v = .slice A L.length c := by obtain ⟨A, c, h, _⟩ := h; exact ⟨A, c, h⟩
theorem Sls.len {w : World} {v : Value} {L : List Stp} (h : Sls w v L) : L.length ≤ 9223372036854775807 := by
  obtain ⟨A, c, _, hm, _⟩ := h
  have : maxLen ≤ 9223372036854775807 := by decide
  omega
theorem Sls.nth {w : World} {A : Option Addr} {n c : Nat} {L : List Stp} (h : Sls w (.slice A n c) L) {k : Nat} (hk : k < n) : ∃ b off u, ∃ hk2 : k < L.length, A = some ⟨b, off, none⟩ ∧ (L[k].kind < 256 ∧ w.cell? ⟨b, off + k * 5, none⟩ = some (.int .u8 (L[k].kind : Int))) ∧ w.cell? ⟨b, off + k * 5 + 1, none⟩ = some (.bool L[k].op.erase) ∧ w.cell? ⟨b, off + k * 5 + 2, none⟩ = some (.int .i64 L[k].op.pos) ∧ w.cell? ⟨b, off + k * 5 + 3, none⟩ = some u ∧ Bs w u L[k].op.bytes ∧ w.cell? ⟨b, off + k * 5 + 4, none⟩ = some (.int .i64 L[k].keep) := by
  obtain ⟨A', c', e, -, hc⟩ := h
  injection e with e1 e2 e3
  obtain ⟨b, off, h1, h2⟩ := hc (by omega)
  obtain ⟨h3, h4, h5, ⟨u, h6, h7⟩, h8⟩ := h2 k (by omega)
  exact ⟨b, off, u, by omega, by rw [e1, h1], h3, h4, h5, h6, h7, h8⟩
theorem st_rng {w : World} {b off k : Nat} {e : Bool} {p : Int} {u : Value} (h0 : w.cell? ⟨b, off + k * 5 + 1, none⟩ = some (.bool e)) (h1 : w.cell? ⟨b, off + k * 5 + 2, none⟩ = some (.int .i64 p)) (h2 : w.cell? ⟨b, off + k * 5 + 3, none⟩ = some u) : w.rangeAt b (off + k * 5 + 1) [.bool e, .int .i64 p, u] := fun j v hv => by
  match j, hv with
  | 0, hv => simp at hv; subst hv; exact h0
  | 1, hv => simp at hv; subst hv; exact h1
  | 2, hv => simp at hv; subst hv; exact h2
  | j + 3, hv => simp at hv
/-- What fair asks. -/
def Fair12 (r b t s o : Int) (L : List Stp) : Prop := Geo.GV r b t s o ∧ Geo.size r b t s o ≤ 150 ∧ L.length ≤ 40 ∧ ∀ k (h : k < L.length), L[k].op.bytes.length ≤ 100
def frPost (r b t s o : Int) (L : List Stp) (w : World) (e : Ending) (w' : World) : Prop := ∃ bb : Bool, e = .returned (.bool bb) ∧ (bb = true → Fair12 r b t s o L) ∧ Below w.heap.size w w'
set_option maxHeartbeats 4000000 in
set_option maxRecDepth 100000 in
theorem fair12_any (r b t s o : Int) (v : Value) (L : List Stp) (w : World) (h : Sls w v L) : Calls Try.prog 10 #[.agg #[.int .i64 r, .int .i64 b, .int .i64 t, .int .i64 s, .int .i64 o], v] w (frPost r b t s o L w) := by
  have HL := Lib.hid h.len
  obtain ⟨A, cc, rfl⟩ := h.form
  have HO := Lib.hid h
  clear h
  obtain ⟨B0, hB0⟩ : ∃ B, w.heap.size = B := ⟨_, rfl⟩
  obtain ⟨W0, hW0⟩ : ∃ W, w.alloc (.cells #[.int .i64 r, .int .i64 b, .int .i64 t, .int .i64 s, .int .i64 o] 23) = W := ⟨_, rfl⟩
  have BW : Hid (Below w.heap.size w W0) := Lib.hid (by subst hW0; exact (Below.refl _ _).alloc (Nat.le_refl _) _)
  have R0 : Hid (Row W0 B0 23 #[.int .i64 r, .int .i64 b, .int .i64 t, .int .i64 s, .int .i64 o]) := Lib.hid (by subst hW0; exact gr_new w _ _ hB0)
  have c0 := R0.out.cell 0
  have c1 := R0.out.cell 1
  have c2 := R0.out.cell 2
  have c3 := R0.out.cell 3
  have c4 := R0.out.cell 4
  simp only [List.getElem?_toArray, List.getElem?_cons_zero, List.getElem?_cons_succ] at c0 c1 c2 c3 c4
  have HB0 := Lib.hid hB0
  have HW0 := Lib.hid hW0
  clear hB0 hW0
  have SZ := Lib.hid fun w => rsize_any r b t s o w
  have RV := Lib.hid (rvalid_any r b t s o W0)
  obtain ⟨n, hn⟩ : ∃ n, L.length = n := ⟨_, rfl⟩
  have EN := Lib.hid hn
  rw [hn] at HO HL ⊢
  clear hn
  by_cases hv : Geo.GV r b t s o
  · rw [decide_eq_true hv] at RV
    have GVH := Lib.hid hv
    clear hv
    go_enter Try.func10, Try.ntmps10
    go_wp2_with (first | rw [HB0.out] | rw [HW0.out])
    refine RV.out.mono ?_
    rintro e w1 ⟨rfl, hb⟩
    replace c0 := ce_fw c0 hb
    replace c1 := ce_fw c1 hb
    replace c2 := ce_fw c2 hb
    replace c3 := ce_fw c3 hb
    replace c4 := ce_fw c4 hb
    have B1 := Lib.hid (BW.out.trans (hb.mono BW.out.size))
    clear hb RV
    go_wp2_with fail
    have SZ1 := Lib.hid (SZ.out w1)
    obtain ⟨z, hz⟩ : ∃ z, Geo.size r b t s o = z := ⟨_, rfl⟩
    have EZ := Lib.hid hz
    rw [hz] at SZ1
    clear hz
    refine SZ1.out.mono ?_
    rintro e w2 ⟨rfl, hb⟩
    have B2 := Lib.hid (B1.out.trans (hb.mono B1.out.size))
    clear hb SZ SZ1 c0 c1 c2 c3 c4
    by_cases h1 : (150 : Int) < z
    · have d1 : decide ((150 : Int) < z) = true := decide_eq_true h1
      go_wp2_with fail
      go_ret
      exact ⟨false, rfl, fun h => (by cases h), B2.out⟩
    · have d1 : decide ((150 : Int) < z) = false := decide_eq_false h1
      have Z1 := Lib.hid h1
      by_cases h2 : 40 < n
      · have d2 : decide ((40 : Int) < (n : Int)) = true := decide_eq_true (by omega)
        have h2I : (40 : Int) < (n : Int) := by omega
        go_wp2_with fail
        go_ret
        exact ⟨false, rfl, fun h => (by cases h), B2.out⟩
      · have d2 : decide ((40 : Int) < (n : Int)) = false := decide_eq_false (by omega)
        have Z2 := Lib.hid (show n ≤ 40 by omega)
        clear h1 h2
        go_wp2_with fail
        clear d1 d2
        go_loopw [5] (fun i wr => ∃ k : Nat, k ≤ n ∧ i = .int .i64 (k : Int) ∧ wr = w2 ∧ Hid (∀ j, j < k → ∀ hj : j < L.length, L[j].op.bytes.length ≤ 100)) (fun i _ => n - (intOf i).toNat)
        case atStart => exact ⟨0, Nat.zero_le _, rfl, rfl, Lib.hid fun j hj => absurd hj (Nat.not_lt_zero j)⟩
        case round =>
          obtain ⟨k, hk, rfl, hwr, U⟩ := hrel
          obtain rfl := hwr.symm
          have nb := Z2.out
          by_cases hlt : k < n
          · have kI : (k : Int) < (n : Int) := by omega
            obtain ⟨b2, off, u, hk2, rfl, -, -, -, f3, f4, -⟩ := (HO.out.fw B2.out).nth hlt
            obtain ⟨A3, c3, rfl⟩ := f4.form
            obtain ⟨m, hm⟩ : ∃ m, L[k].op.bytes.length = m := ⟨_, rfl⟩
            have EM := Lib.hid hm
            rw [hm] at f3
            clear f4 hm
            by_cases h100 : 100 < m
            · have d1 : decide ((100 : Int) < (m : Int)) = true := decide_eq_true (by omega)
              go_wp2_with fail
              go_ret
              exact ⟨false, rfl, fun h => (by cases h), B2.out⟩
            · have d1 : decide ((100 : Int) < (m : Int)) = false := decide_eq_false (by omega)
              have M1 := Lib.hid (show m ≤ 100 by omega)
              clear h100
              go_wp2_with fail
              go_roundw
              case rel =>
                refine ⟨k + 1, by omega, by go_num, by trivial, Lib.hid fun j hj hj2 => ?_⟩
                rcases Nat.lt_or_ge j k with h | h
                · exact U.out j h hj2
                · obtain rfl : j = k := by omega
                  rw [EM.out]; exact M1.out
              case measure => simp [intOf]; omega
          · obtain rfl : k = n := by omega
            have kI : ¬ (k : Int) < (k : Int) := by omega
            have dk : decide ((k : Int) < (k : Int)) = false := decide_eq_false kI
            go_wp2_with fail
            go_ret
            exact ⟨true, rfl, fun _ => ⟨GVH.out, by rw [EZ.out]; have := Z1.out; omega, by rw [EN.out]; exact Z2.out, fun j hj => U.out j (by have := EN.out; omega) hj⟩, B2.out⟩
  · rw [decide_eq_false hv] at RV
    clear hv
    go_enter Try.func10, Try.ntmps10
    go_wp2_with (first | rw [HB0.out] | rw [HW0.out])
    refine RV.out.mono ?_
    rintro e w1 ⟨rfl, hb⟩
    have B1 := Lib.hid (BW.out.trans (hb.mono BW.out.size))
    clear hb RV SZ
    go_wp2_with fail
    go_ret
    exact ⟨false, rfl, fun h => (by cases h), B1.out⟩

theorem results_tmp3 {fn : Func} {t u v : Tmp} (h : fn.results = #[.tmp t, .tmp u, .tmp v]) (tmps : Array Value) (P : Program) (w : World) :
    (results fn tmps).run P w = .ok (.tuple #[tmps.getD t undef, tmps.getD u undef, tmps.getD v undef]) w := by
  simp [results, h]
def blk0 (R B T S : Nat) : List Sec := List.replicate (R + B * (T * S)) Med.blank
def saPost (R B T S O : Nat) (w : World) (e : Ending) (w' : World) : Prop := ∃ K K', e = .returned (.tuple #[.pointer (some ⟨K, 0, none⟩), .pointer (some ⟨K', 0, none⟩), .bool true]) ∧ Ce w.heap.size w' K R B T S O (blk0 R B T S) [] ∧ Re w.heap.size w' K' R B T S O (blk0 R B T S) [] ∧ Below w.heap.size w w'
set_option maxHeartbeats 4000000 in
set_option maxRecDepth 100000 in
theorem start12_any (R B T S O : Nat) (w : World) (hv : Geo.GV (R : Int) B T S O) : Calls Try.prog 11 #[.agg #[.int .i64 (R : Int), .int .i64 (B : Int), .int .i64 (T : Int), .int .i64 (S : Int), .int .i64 (O : Int)]] w (saPost R B T S O w) := by
  have HV := Lib.hid hv
  clear hv
  obtain ⟨B0, hB0⟩ : ∃ B, w.heap.size = B := ⟨_, rfl⟩
  obtain ⟨W0, hW0⟩ : ∃ W, w.alloc (.cells #[.int .i64 (R : Int), .int .i64 (B : Int), .int .i64 (T : Int), .int .i64 (S : Int), .int .i64 (O : Int)] 23) = W := ⟨_, rfl⟩
  have T0 : Hid (Below w.heap.size w W0) := Lib.hid (by subst hW0; exact (Below.refl _ _).alloc (Nat.le_refl _) _)
  have G0 : Hid (Row W0 B0 23 #[.int .i64 (R : Int), .int .i64 (B : Int), .int .i64 (T : Int), .int .i64 (S : Int), .int .i64 (O : Int)]) := Lib.hid (by subst hW0; exact gr_new w _ _ hB0)
  have HB0 := Lib.hid hB0
  have HW0 := Lib.hid hW0
  clear hB0 hW0
  go_enter Try.func11, Try.ntmps11
  obtain ⟨c0, c1, c2, c3, c4⟩ := geo_cells G0.out
  go_wp2_with (first | rw [HB0.out] | rw [HW0.out])
  clear c0 c1 c2 c3 c4
  refine (pnew_ok R B T S O _ HV.out).mono ?_
  rintro e x2 ⟨M, X, rfl, hn4, hx1, hb3⟩
  have QP := Lib.hid (show w.heap.size ≤ M ∧ w.heap.size ≤ X ∧ B0 < M ∧ B0 < X from ⟨Nat.le_trans T0.out.size hx1.1, Nat.le_trans T0.out.size hx1.2, Nat.lt_of_lt_of_le G0.out.lt hx1.1, Nat.lt_of_lt_of_le G0.out.lt hx1.2⟩)
  have G_5 := Lib.hid (rw_fw G0.out (hb3))
  have hl6 := hb3
  have HT_7 : Hid (Below w.heap.size w x2) := Lib.hid (T0.out.trans ((hl6).mono T0.out.size))
  have P_8 := Lib.hid (hn4)
  clear hb3 hn4
  clear hx1
  obtain ⟨c0, c1, c2, c3, c4⟩ := geo_cells G_5.out
  go_wp2_with fail
  clear c0 c1 c2 c3 c4
  refine (rnew_ok R B T S O _ HV.out).mono ?_
  rintro e x10 ⟨M', X', rfl, hn12, hx9, hb11⟩
  have QR := Lib.hid (show w.heap.size ≤ M' ∧ w.heap.size ≤ X' ∧ B0 < M' ∧ B0 < X' from ⟨Nat.le_trans HT_7.out.size hx9.1, Nat.le_trans HT_7.out.size hx9.2, Nat.lt_of_lt_of_le G_5.out.lt hx9.1, Nat.lt_of_lt_of_le G_5.out.lt hx9.2⟩)
  have G_13 := Lib.hid (rw_fw G_5.out (hb11))
  have P_14 := Lib.hid (Md.fw P_8.out (hb11))
  have hl15 := hb11
  have HT_16 : Hid (Below w.heap.size w x10) := Lib.hid (HT_7.out.trans ((hl15).mono HT_7.out.size))
  have R_17 := Lib.hid (hn12)
  clear hb11 hn12
  clear hx9
  go_wp2_with fail
  refine (cnew_any P_14.out).mono ?_
  rintro e x18 ⟨K, rfl, hn20, hb19⟩
  have TL := Lib.hid HT_16.out.size
  have P_21 := Lib.hid (Md.fw P_14.out (hb19))
  have R_22 := Lib.hid (Md.fw R_17.out (hb19))
  have hl23 := hb19
  have HT_24 : Hid (Below w.heap.size w x18) := Lib.hid (HT_16.out.trans ((hl23).mono HT_16.out.size))
  have C_25 := Lib.hid (hn20.low TL.out)
  clear hb19 hn20
  go_wp2_with fail
  refine (rcn_any R_22.out).mono ?_
  rintro e x26 ⟨K', rfl, hn28, hb27⟩
  have TL2 := Lib.hid HT_24.out.size
  have P_29 := Lib.hid (Md.fw P_21.out (hb27))
  have R_30 := Lib.hid (Md.fw R_22.out (hb27))
  have C_31 := Lib.hid (Ce.fw C_25.out (hb27))
  have hl32 := hb27
  have HT_33 : Hid (Below w.heap.size w x26) := Lib.hid (HT_24.out.trans ((hl32).mono HT_24.out.size))
  have D_34 := Lib.hid (hn28.low TL2.out)
  clear hb27 hn28
  go_wp2_with fail
  refine bodyPost_ret (results_tmp3 rfl _ _ _) rfl ?_
  exact ⟨K, K', rfl, C_31.out, D_34.out, HT_33.out⟩
end Go.Proofs.Ytbaclcpnnompnaa
