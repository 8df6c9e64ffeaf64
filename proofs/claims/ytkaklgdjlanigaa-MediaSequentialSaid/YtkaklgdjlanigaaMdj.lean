/- Layer 11: operations in memory; Short, fair; the example of the document holds. -/
import Derived.Test.YtkaklgdjlanigaaMdi
import Derived.Test.YtkaklgdjlanigaaGK
import Derived.Lib.SlBytesConst
namespace Go.Proofs.Ytkaklgdjlanigaa
open Go Go.RowKit Med
set_option linter.unusedVariables false
set_option linter.unusedSimpArgs false
/-- The slice value v reads as these operations. -/
def Ols (w : World) (v : Value) (L : List Med.Op) : Prop :=
  ∃ A c, v = .slice A L.length c ∧ (L.length ≤ c ∧ c ≤ maxLen) ∧ (0 < L.length → ∃ b off, A = some ⟨b, off, none⟩ ∧ ∀ k (h : k < L.length), w.cell? ⟨b, off + k * 3, none⟩ = some (.bool L[k].erase) ∧ w.cell? ⟨b, off + k * 3 + 1, none⟩ = some (.int .i64 L[k].pos) ∧ ∃ u, w.cell? ⟨b, off + k * 3 + 2, none⟩ = some u ∧ Bs w u L[k].bytes)
theorem Ols.fw {w w' : World} {v : Value} {L : List Med.Op} (h : Ols w v L) (hb : Below w.heap.size w w') : Ols w' v L := by
  obtain ⟨A, c, rfl, hm, hc⟩ := h
  refine ⟨A, c, rfl, hm, fun hn => ?_⟩
  obtain ⟨b, off, rfl, hq⟩ := hc hn
  refine ⟨b, off, rfl, fun k hk => ?_⟩
  obtain ⟨h0, h1, u, h2, h3⟩ := hq k hk
  exact ⟨ce_fw h0 hb, ce_fw h1 hb, u, ce_fw h2 hb, h3.below hb⟩
theorem Ols.form {w : World} {v : Value} {L : List Med.Op} (h : Ols w v L) : ∃ A c, v = .slice A L.length c := by obtain ⟨A, c, h, _⟩ := h; exact ⟨A, c, h⟩
theorem Ols.len {w : World} {v : Value} {L : List Med.Op} (h : Ols w v L) : L.length ≤ 9223372036854775807 := by
  obtain ⟨A, c, _, hm, _⟩ := h
  have : maxLen ≤ 9223372036854775807 := by decide
  omega
/-- An operation's value. -/
def opV (o : Med.Op) (u : Value) : Value := .agg #[.bool o.erase, .int .i64 o.pos, u]
theorem Ols.nth {w : World} {A : Option Addr} {n c : Nat} {L : List Med.Op} (h : Ols w (.slice A n c) L) {k : Nat} (hk : k < n) : ∃ b off u, ∃ hk2 : k < L.length, A = some ⟨b, off, none⟩ ∧ w.cell? ⟨b, off + k * 3, none⟩ = some (.bool L[k].erase) ∧ w.cell? ⟨b, off + k * 3 + 1, none⟩ = some (.int .i64 L[k].pos) ∧ w.cell? ⟨b, off + k * 3 + 2, none⟩ = some u ∧ Bs w u L[k].bytes := by
  obtain ⟨A', c', e, -, hc⟩ := h
  injection e with e1 e2 e3
  obtain ⟨b, off, h1, h2⟩ := hc (by omega)
  obtain ⟨h3, h4, u, h5, h6⟩ := h2 k (by omega)
  exact ⟨b, off, u, by omega, by rw [e1, h1], h3, h4, h5, h6⟩
theorem op_rng {w : World} {b off k : Nat} {e : Bool} {p : Int} {u : Value} (h0 : w.cell? ⟨b, off + k * 3, none⟩ = some (.bool e)) (h1 : w.cell? ⟨b, off + k * 3 + 1, none⟩ = some (.int .i64 p)) (h2 : w.cell? ⟨b, off + k * 3 + 2, none⟩ = some u) : w.rangeAt b (off + k * 3) [.bool e, .int .i64 p, u] := fun j v hv => by
  match j, hv with
  | 0, hv => simp at hv; subst hv; exact h0
  | 1, hv => simp at hv; subst hv; exact h1
  | 2, hv => simp at hv; subst hv; exact h2
  | j + 3, hv => simp at hv
/-- 'string(b)'. -/
theorem cvb {w : World} (A : Option Addr) (n c : Nat) (l : List Nat) (h : Bs w (.slice A n c) l) : (convert 41 9 (.slice A n c)).run Try.prog w = .ok (.string (strOf l)) w :=
  conv_bs (P := Try.prog) 41 5 9 Try.underlying41 Try.underlying5 Try.underlying9 h
/-- A truth value is returned, and nothing changes. -/
def boPost (w : World) (e : Ending) (w' : World) : Prop := ∃ b : Bool, e = .returned (.bool b) ∧ w = w'
set_option maxHeartbeats 2000000 in
set_option maxRecDepth 100000 in
theorem short_any (v : Value) (L : List Med.Op) (w : World) (h : Ols w v L) : Calls Try.prog 10 #[v] w (boPost w) := by
  have HL := Lib.hid h.len
  obtain ⟨A, c, rfl⟩ := h.form
  have HO := Lib.hid h
  clear h
  generalize L.length = n at *
  by_cases h60 : 60 < n
  · have d0 : decide ((60 : Int) < (n : Int)) = true := decide_eq_true (by omega)
    go_enter Try.func10, Try.ntmps10
    go_wp2_with fail
    go_ret
    exact ⟨_, rfl, rfl⟩
  · have d0 : decide ((60 : Int) < (n : Int)) = false := decide_eq_false (by omega)
    go_enter Try.func10, Try.ntmps10
    go_wp2_with fail
    go_loopw [3] (fun i wr => ∃ k : Nat, k ≤ n ∧ i = .int .i64 (k : Int) ∧ wr = w) (fun i _ => n - (intOf i).toNat)
    case atStart => exact ⟨0, Nat.zero_le _, rfl, rfl⟩
    case round =>
      obtain ⟨k, hk, rfl, rfl⟩ := hrel
      by_cases hlt : k < n
      · have kI : (k : Int) < (n : Int) := by omega
        obtain ⟨b, off, u, hk2, rfl, h0, h1, h2, h3⟩ := HO.out.nth hlt
        obtain ⟨A3, c3, rfl⟩ := h3.form
        clear h3
        obtain ⟨m, hm⟩ : ∃ m, L[k].bytes.length = m := ⟨_, rfl⟩
        rw [hm] at h2
        clear hm h0 h1
        by_cases h100 : 100 < m
        · have d1 : decide ((100 : Int) < (m : Int)) = true := decide_eq_true (by omega)
          go_wp2_with fail
          go_ret
          exact ⟨_, rfl, rfl⟩
        · have d1 : decide ((100 : Int) < (m : Int)) = false := decide_eq_false (by omega)
          go_wp2_with fail
          go_roundw
          case rel => exact ⟨k + 1, by omega, by go_num, by trivial⟩
          case measure => simp [intOf]; omega
      · obtain rfl : k = n := by omega
        have kI : ¬ (k : Int) < (k : Int) := by omega
        have dk : decide ((k : Int) < (k : Int)) = false := decide_eq_false kI
        go_wp2_with fail
        go_ret
        exact ⟨_, rfl, rfl⟩
/-- Whether a geometry is small. -/
def Geo.fair (r b t s o : Int) : Prop := Geo.GV r b t s o ∧ Geo.size r b t s o ≤ 200
instance (r b t s o : Int) : Decidable (Geo.fair r b t s o) := by unfold Geo.fair; infer_instance
set_option maxHeartbeats 2000000 in
set_option maxRecDepth 100000 in
theorem fair_any (r b t s o : Int) (w : World) : Calls Try.prog 12 #[.agg #[.int .i64 r, .int .i64 b, .int .i64 t, .int .i64 s, .int .i64 o]] w (gPost (.bool (decide (Geo.fair r b t s o))) w) := by
  obtain ⟨B0, hB0⟩ : ∃ B, w.heap.size = B := ⟨_, rfl⟩
  obtain ⟨W0, hW0⟩ : ∃ W, w.alloc (.cells #[.int .i64 r, .int .i64 b, .int .i64 t, .int .i64 s, .int .i64 o] 23) = W := ⟨_, rfl⟩
  have BW : Hid (Below w.heap.size w W0) := Lib.hid (by subst hW0; exact (Below.refl _ _).alloc (Nat.le_refl _) _)
  have R0 : Hid (Row W0 B0 23 #[.int .i64 r, .int .i64 b, .int .i64 t, .int .i64 s, .int .i64 o]) := Lib.hid (by subst hW0; exact gr_new w _ _ hB0)
  have c0 := R0.out.cell 0
  have c1 := R0.out.cell 1
  have c2 := R0.out.cell 2
  have c3 := R0.out.cell 3
  have c4 := R0.out.cell 4
  simp only [List.getElem?_toArray, List.getElem?_cons_zero, List.getElem?_cons_succ] at c0 c1 c2 c3 c4
  have HB0 := Lib.hid hB0
  have HW0 := Lib.hid hW0
  clear hB0 hW0
  have E := Lib.hid (show decide (Geo.fair r b t s o) = (decide (Geo.GV r b t s o) && decide (Geo.size r b t s o ≤ 200)) by by_cases h1 : Geo.GV r b t s o <;> by_cases h2 : Geo.size r b t s o ≤ 200 <;> simp [Geo.fair, h1, h2])
  have SZ := Lib.hid fun w => rsize_any r b t s o w
  generalize decide (Geo.fair r b t s o) = q at *
  generalize Geo.size r b t s o = z at *
  go_enter Try.func12, Try.ntmps12
  go_wp2_with (first | rw [HB0.out] | rw [HW0.out])
  refine (rvalid_any r b t s o W0).mono ?_
  rintro e w1 ⟨rfl, hb⟩
  replace c0 := ce_fw c0 hb
  replace c1 := ce_fw c1 hb
  replace c2 := ce_fw c2 hb
  replace c3 := ce_fw c3 hb
  replace c4 := ce_fw c4 hb
  have B1 := Lib.hid (BW.out.trans (hb.mono BW.out.size))
  clear hb
  by_cases h : Geo.GV r b t s o
  · rw [decide_eq_true h]
    rw [decide_eq_true h] at E
    clear h
    go_wp2_with fail
    refine (SZ.out _).mono ?_
    rintro e w2 ⟨rfl, hb⟩
    have B2 := Lib.hid (B1.out.trans (hb.mono B1.out.size))
    clear hb
    go_wp2_with fail
    go_ret
    exact ⟨by rw [E.out]; simp, B2.out⟩
  · rw [decide_eq_false h]
    rw [decide_eq_false h] at E
    clear h
    go_wp2_with fail
    go_ret
    exact ⟨by rw [E.out]; simp, B1.out⟩
theorem bs_lit (w : World) (t : TypeId) (fr : Nat × Nat) (x : Nat) (hx : x < 256) : Bs (w.alloc (.cells #[.int .u8 (x : Int)] t fr)) (.slice (some ⟨w.heap.size, 0, none⟩) 1 1) [x] :=
  ⟨_, 1, rfl, ⟨Nat.le_refl _, by decide⟩, by simpa using hx, fun h => (by cases h), fun _ => ⟨w.heap.size, 0, rfl, fun k hk => by
    rw [Nat.zero_add, cell_of_row _ _ _ _ _ _ (heap_alloc_new w _)]
    obtain rfl : k = 0 := by simpa using hk
    rfl⟩⟩
def exL1 : List Sec := wr (Geo.shadow 0 1 2 2 1 2) (List.replicate 4 Med.blank) 2 1 (strOf [120])
def exL2 : List Sec := wr (Geo.shadow 0 1 2 2 1 0) exL1 0 1 (strOf [121])
theorem ex_e1 : wrE (List.replicate 4 Med.blank) 2 1 = 0 := by decide +kernel
theorem ex_e2 : wrE exL1 0 1 = 0 := by decide +kernel
theorem ex_r : rdE exL2 0 = 0 ∧ rdB exL2 0 = strOf [121] ∧ st exL2 0 = 1 ∧ st exL2 1 = 0 ∧ st exL2 2 = 2 := by decide +kernel
theorem ex_s : strOf [121] = ⟨#[121]⟩ := by decide +kernel
set_option maxHeartbeats 2000000 in
set_option maxRecDepth 100000 in
theorem awake11 (w : World) : Calls Try.prog 9 #[] w (gPost (.bool true) w) := by
  have kc := fun (w : World) (C : Array Value) (n c : Nat) => Lib.run_convert_bytes_const (P := Try.prog) w 41 5 C n c Try.underlying41 Try.underlying5
  have NW : Hid (Calls Try.prog 13 #[.agg #[.int .i64 0, .int .i64 1, .int .i64 2, .int .i64 2, .int .i64 1]] w (newPost 62 69 0 1 2 2 1 w)) := Lib.hid (pnew_ok 0 1 2 2 1 w (by decide))
  go_enter Try.func9, Try.ntmps9
  go_wp2_with fail
  refine NW.out.mono ?_
  rintro e w1 ⟨M, X, rfl, hm, hmx, hb⟩
  have B1 := Lib.hid hb
  have M1 := Lib.hid hm
  have MX := Lib.hid hmx
  clear hm hmx hb
  go_wp2_with fail
  have W1 : Hid (Calls Try.prog 27 #[.pointer (some ⟨M, 0, none⟩), .int .i64 2, .slice (some ⟨w1.heap.size, 0, none⟩) 1 1] (w1.alloc (.cells #[.int .u8 120] 5 (1, 2))) _) := Lib.hid (pwr_any (M1.out.fw ((Below.refl _ _).alloc (Nat.le_refl _) _)) 2 _ [120] (bs_lit w1 5 (1, 2) 120 (by decide)))
  refine W1.out.mono ?_
  rintro e w2 ⟨rfl, hm, hc⟩
  have B2 := Lib.hid (B1.out.trans ((((Below.refl w1.heap.size w1).alloc (Nat.le_refl _) _).mono B1.out.size).trans (hc.below (by have := B1.out.size; simp; omega) (fun j hj => by rw [hj]; exact MX.out.2))))
  have M2 : Hid (PMd w2 M X (0 + 1 * (2 * 2)) 0 1 2 2 1 exL1) := Lib.hid hm
  clear hm hc W1
  go_wp2_with fail
  have W2 : Hid (Calls Try.prog 27 #[.pointer (some ⟨M, 0, none⟩), .int .i64 0, .slice (some ⟨w2.heap.size, 0, none⟩) 1 1] (w2.alloc (.cells #[.int .u8 121] 5 (1, 2))) _) := Lib.hid (pwr_any (M2.out.fw ((Below.refl _ _).alloc (Nat.le_refl _) _)) 0 _ [121] (bs_lit w2 5 (1, 2) 121 (by decide)))
  refine W2.out.mono ?_
  rintro e w3 ⟨rfl, hm, hc⟩
  have B3 := Lib.hid (B2.out.trans ((((Below.refl w2.heap.size w2).alloc (Nat.le_refl _) _).mono B2.out.size).trans (hc.below (by have := B2.out.size; simp; omega) (fun j hj => by rw [hj]; exact MX.out.2))))
  have M3 : Hid (PMd w3 M X (0 + 1 * (2 * 2)) 0 1 2 2 1 exL2) := Lib.hid hm
  clear hm hc W2 kc
  go_wp2_with fail
  have RD := Lib.hid (prd_any M3.out 0)
  rw [ex_r.1, ex_r.2.1] at RD
  refine RD.out.mono ?_
  rintro e w4 ⟨v, rfl, hv, hb⟩
  rw [bOf_strOf (l := [121]) (by decide)] at hv
  have M4 := Lib.hid (M3.out.fw hb)
  have B4 := Lib.hid (B3.out.trans (hb.mono B3.out.size))
  obtain ⟨A, cc, rfl⟩ := hv.1.form
  have cv := cvb A 1 cc [121] hv.1
  rw [ex_s] at cv
  have S0 := Lib.hid (pst_any M4.out 0)
  have S1 := Lib.hid (pst_any M4.out 1)
  have S2 := Lib.hid (pst_any M4.out 2)
  rw [ex_r.2.2.1] at S0
  rw [ex_r.2.2.2.1] at S1
  rw [ex_r.2.2.2.2] at S2
  clear hv hb RD
  go_wp2_with fail
  refine S0.out.mono ?_
  rintro e w' ⟨rfl, rfl⟩
  go_wp2_with fail
  refine S1.out.mono ?_
  rintro e w' ⟨rfl, rfl⟩
  go_wp2_with fail
  refine S2.out.mono ?_
  rintro e w' ⟨rfl, rfl⟩
  go_wp2_with fail
  go_ret
  exact ⟨rfl, B4.out⟩
end Go.Proofs.Ytkaklgdjlanigaa

