/- Layer 14: the law's fair and only. WRITTEN BY gen_Dpo.py. -/
import Derived.Test.YtdjjihppaobbcaaDpn
namespace Go.Proofs.Ytdjjihppaobbcaa
open Go Go.RowKit Med Flt
set_option linter.unusedVariables false
set_option linter.unusedSimpArgs false
/-- The cells of a case. -/
abbrev csc (r b t s o : Int) (v0 v1 va : Value) : Array Value := #[.int .i64 r, .int .i64 b, .int .i64 t, .int .i64 s, .int .i64 o, v0, v1, va]
abbrev CBox (w : World) (g : Nat) (r b t s o : Int) (v0 v1 va : Value) : Prop := Row w g 45 (csc r b t s o v0 v1 va)
theorem CBox.cells {w : World} {g : Nat} {r b t s o : Int} {v0 v1 va : Value} (h : CBox w g r b t s o v0 v1 va) : (w.cell? ⟨g, 0, none⟩ = some (.int .i64 r) ∧ w.cell? ⟨g, 1, none⟩ = some (.int .i64 b) ∧ w.cell? ⟨g, 2, none⟩ = some (.int .i64 t) ∧ w.cell? ⟨g, 3, none⟩ = some (.int .i64 s) ∧ w.cell? ⟨g, 4, none⟩ = some (.int .i64 o)) ∧
    w.cell? ⟨g, 5, none⟩ = some v0 ∧ w.cell? ⟨g, 6, none⟩ = some v1 ∧ w.cell? ⟨g, 7, none⟩ = some va := by
  refine ⟨⟨?_, ?_, ?_, ?_, ?_⟩, ?_, ?_, ?_⟩ <;> (rw [Row.cell h]; rfl)
theorem CBox.all {w : World} {g : Nat} {r b t s o : Int} {v0 v1 va : Value} (h : CBox w g r b t s o v0 v1 va) : w.rangeAt g 0 [.int .i64 r, .int .i64 b, .int .i64 t, .int .i64 s, .int .i64 o, v0, v1, va] := by
  intro j v hv
  rw [Nat.zero_add, Row.cell h]
  simpa using hv
/-- A list of acts whose bytes are read from the world w. -/
def Acl (w : World) (v : Value) (L : List Ac) : Prop := St.Rd 6 acs w v L ∧ ∀ a ∈ L, AcOk w a
theorem Acl.fw {w w' : World} {v : Value} {L : List Ac} (h : Acl w v L) (hb : Below w.heap.size w w') : Acl w' v L := ⟨h.1.fw hb, fun a ha => (h.2 a ha).fw hb⟩
theorem Acl.form {w : World} {v : Value} {L : List Ac} (h : Acl w v L) : ∃ A c, v = .slice A L.length c := h.1.form
theorem Acl.len {w : World} {v : Value} {L : List Ac} (h : Acl w v L) : L.length ≤ 9223372036854775807 := h.1.len
theorem Acl.nth {w : World} {A : Option Addr} {n c : Nat} {L : List Ac} (h : Acl w (.slice A n c) L) {i : Nat} (hi : i < n) : ∃ (b off : Nat) (h2 : i < L.length), A = some ⟨b, off, none⟩ ∧ w.rangeAt b (off + i * 6) (acs L[i]) ∧ AcOk w L[i] := by
  obtain ⟨b, off, h2, h3, h4⟩ := h.1.nth hi
  exact ⟨b, off, h2, h3, h4, h.2 _ (List.getElem_mem h2)⟩
theorem acs_at {w : World} {b o : Nat} {a : Ac} (h : w.rangeAt b o (acs a)) : w.cell? ⟨b, o, none⟩ = some (.int .u8 (a.disk : Int)) ∧ w.cell? ⟨b, o + 1, none⟩ = some (.int .u8 (a.kind : Int)) ∧ w.cell? ⟨b, o + 2, none⟩ = some (.int .u64 (a.key : Int)) ∧ w.cell? ⟨b, o + 3, none⟩ = some (.int .i64 a.pos) ∧ w.cell? ⟨b, o + 4, none⟩ = some (.slice a.ua a.un a.uc) ∧ w.cell? ⟨b, o + 5, none⟩ = some (.bool a.force) :=
  ⟨h 0 _ rfl, h 1 _ rfl, h 2 _ rfl, h 3 _ rfl, h 4 _ rfl, h 5 _ rfl⟩
/-- What fair asks. -/
def Fair14 (r b t s o : Int) (L0 L1 : List F) (L : List Ac) : Prop := Geo.GV r b t s o ∧ Geo.size r b t s o ≤ 120 ∧ L.length ≤ 60 ∧ L0.length ≤ 20 ∧ L1.length ≤ 20 ∧ (∀ k (h : k < L.length), L[k].bytes.length ≤ 100) ∧ vld L0 = true ∧ vld L1 = true
theorem Fair14.nat {r b t s o : Int} {L0 L1 : List F} {L : List Ac} (h : Fair14 r b t s o L0 L1 L) : ∃ R B T S O : Nat, r = R ∧ b = B ∧ t = T ∧ s = S ∧ o = O := by
  obtain ⟨⟨h1, h2, h3, h4, h5⟩, -⟩ := h
  exact ⟨r.toNat, b.toNat, t.toNat, s.toNat, o.toNat, by omega, by omega, by omega, by omega, by omega⟩
def fr14 (r b t s o : Int) (L0 L1 : List F) (L : List Ac) (w : World) (e : Ending) (w' : World) : Prop := ∃ bb : Bool, e = .returned (.bool bb) ∧ (bb = true → Fair14 r b t s o L0 L1 L) ∧ Below w.heap.size w w'
set_option maxHeartbeats 4000000 in
set_option maxRecDepth 100000 in
theorem fair14_any (r b t s o : Int) (v0 v1 va : Value) (L0 L1 : List F) (L : List Ac) (w : World) (h0 : Fts w v0 L0) (h1 : Fts w v1 L1) (h : Acl w va L) : Calls Try.prog 20 #[.agg (csc r b t s o v0 v1 va)] w (fr14 r b t s o L0 L1 L w) := by
  have HL := Lib.hid h.len
  obtain ⟨A0, c0_, rfl⟩ := h0.form
  obtain ⟨A1, c1_, rfl⟩ := h1.form
  obtain ⟨Aa, ca, rfl⟩ := h.form
  have HO := Lib.hid h
  have H0 := Lib.hid h0
  have H1 := Lib.hid h1
  clear h h0 h1
  obtain ⟨n, hn⟩ : ∃ n, L.length = n := ⟨_, rfl⟩
  obtain ⟨n0, hn0⟩ : ∃ n, L0.length = n := ⟨_, rfl⟩
  obtain ⟨n1, hn1⟩ : ∃ n, L1.length = n := ⟨_, rfl⟩
  have EN := Lib.hid hn
  have EN0 := Lib.hid hn0
  have EN1 := Lib.hid hn1
  rw [hn] at HO HL ⊢
  rw [hn0] at H0 ⊢
  rw [hn1] at H1 ⊢
  clear hn hn0 hn1
  unfold csc
  obtain ⟨B0, hB0⟩ : ∃ B, w.heap.size = B := ⟨_, rfl⟩
  obtain ⟨W0, hW0⟩ : ∃ W, w.alloc (.cells #[.int .i64 r, .int .i64 b, .int .i64 t, .int .i64 s, .int .i64 o, .slice A0 n0 c0_, .slice A1 n1 c1_, .slice Aa n ca] 45) = W := ⟨_, rfl⟩
  have BW : Hid (Below w.heap.size w W0) := Lib.hid (by subst hW0; exact (Below.refl _ _).alloc (Nat.le_refl _) _)
  have R0 : Hid (CBox W0 B0 r b t s o (.slice A0 n0 c0_) (.slice A1 n1 c1_) (.slice Aa n ca)) := Lib.hid (by subst hW0; exact gr_new w _ _ hB0)
  obtain ⟨⟨c0, c1, c2, c3, c4⟩, -, -, -⟩ := CBox.cells R0.out
  have HB0 := Lib.hid hB0
  have HW0 := Lib.hid hW0
  clear hB0 hW0
  have SZ := Lib.hid fun w => rsize_any r b t s o w
  have RV := Lib.hid (rvalid_any r b t s o W0)
  by_cases hv : Geo.GV r b t s o
  · rw [decide_eq_true hv] at RV
    have GVH := Lib.hid hv
    clear hv
    go_enter Try.func20, Try.ntmps20
    go_wp2_with (first | rw [HB0.out] | rw [HW0.out])
    refine RV.out.mono ?_
    rintro e w1 ⟨rfl, hb⟩
    obtain ⟨⟨c0, c1, c2, c3, c4⟩, -, -, -⟩ := CBox.cells (Row.go R0.out hb)
    have R1 := Lib.hid (Row.go R0.out hb)
    have B1 := Lib.hid (BW.out.trans (hb.mono BW.out.size))
    clear hb RV
    go_wp2_with fail
    have SZ1 := Lib.hid (SZ.out w1)
    obtain ⟨z, hz⟩ : ∃ z, Geo.size r b t s o = z := ⟨_, rfl⟩
    have EZ := Lib.hid hz
    rw [hz] at SZ1
    clear hz
    refine SZ1.out.mono ?_
    rintro e w2 ⟨rfl, hb⟩
    obtain ⟨-, c5, c6, c7⟩ := CBox.cells (Row.go R1.out hb)
    have R2 := Lib.hid (Row.go R1.out hb)
    have B2 := Lib.hid (B1.out.trans (hb.mono B1.out.size))
    clear hb SZ SZ1
    by_cases h1 : (120 : Int) < z
    · have d1 : decide ((120 : Int) < z) = true := decide_eq_true h1
      go_wp2_with fail
      go_ret
      exact ⟨false, rfl, fun h => (by cases h), B2.out⟩
    have d1 : decide ((120 : Int) < z) = false := decide_eq_false h1
    have Z1 := Lib.hid h1
    by_cases h2 : 60 < n
    · have d2 : decide ((60 : Int) < (n : Int)) = true := decide_eq_true (by omega)
      have h2I : (60 : Int) < (n : Int) := by omega
      go_wp2_with fail
      go_ret
      exact ⟨false, rfl, fun h => (by cases h), B2.out⟩
    have d2 : decide ((60 : Int) < (n : Int)) = false := decide_eq_false (by omega)
    have Z2 := Lib.hid (show n ≤ 60 by omega)
    by_cases h3 : 20 < n0
    · have d3 : decide ((20 : Int) < (n0 : Int)) = true := decide_eq_true (by omega)
      have h3I : (20 : Int) < (n0 : Int) := by omega
      go_wp2_with fail
      go_ret
      exact ⟨false, rfl, fun h => (by cases h), B2.out⟩
    have d3 : decide ((20 : Int) < (n0 : Int)) = false := decide_eq_false (by omega)
    have Z3 := Lib.hid (show n0 ≤ 20 by omega)
    by_cases h4 : 20 < n1
    · have d4 : decide ((20 : Int) < (n1 : Int)) = true := decide_eq_true (by omega)
      have h4I : (20 : Int) < (n1 : Int) := by omega
      go_wp2_with fail
      go_ret
      exact ⟨false, rfl, fun h => (by cases h), B2.out⟩
    have d4 : decide ((20 : Int) < (n1 : Int)) = false := decide_eq_false (by omega)
    have Z4 := Lib.hid (show n1 ≤ 20 by omega)
    clear h1 h2 h3 h4
    go_wp2_with fail
    clear d1 d2 d3 d4
    go_loopw [3] (fun i wr => ∃ k : Nat, k ≤ n ∧ i = .int .i64 (k : Int) ∧ wr = w2 ∧ Hid (∀ j, j < k → ∀ hj : j < L.length, L[j].bytes.length ≤ 100)) (fun i _ => n - (intOf i).toNat)
    case atStart => exact ⟨0, Nat.zero_le _, rfl, rfl, Lib.hid fun j hj => absurd hj (Nat.not_lt_zero j)⟩
    case round =>
      obtain ⟨k, hk, rfl, hwr, U⟩ := hrel
      obtain rfl := hwr.symm
      have nb := Z2.out
      by_cases hlt : k < n
      · have kI : (k : Int) < (n : Int) := by omega
        obtain ⟨b2, off, hk2, rfl, hrg, hok⟩ := (HO.out.fw B2.out).nth hlt
        obtain ⟨-, -, -, -, f4, -⟩ := acs_at hrg
        obtain ⟨m, hm⟩ : ∃ m, L[k].un = m := ⟨_, rfl⟩
        have EM : Hid (L[k].bytes.length = m) := Lib.hid (by rw [← hm]; exact ((by_cap hok.2.2.2.2).1).symm)
        rw [hm] at f4
        clear hm hrg hok
        by_cases h100 : 100 < m
        · have d1 : decide ((100 : Int) < (m : Int)) = true := decide_eq_true (by omega)
          go_wp2_with fail
          go_ret
          exact ⟨false, rfl, fun h => (by cases h), B2.out⟩
        · have d1 : decide ((100 : Int) < (m : Int)) = false := decide_eq_false (by omega)
          have M1 := Lib.hid (show m ≤ 100 by omega)
          clear h100
          go_wp2_with fail
          go_roundw
          case rel =>
            refine ⟨k + 1, by omega, by go_num, by trivial, Lib.hid fun j hj hj2 => ?_⟩
            rcases Nat.lt_or_ge j k with h | h
            · exact U.out j h hj2
            · obtain rfl : j = k := by omega
              rw [EM.out]; exact M1.out
          case measure => simp [intOf]; omega
      · obtain rfl : k = n := by omega
        have kI : ¬ (k : Int) < (k : Int) := by omega
        have dk : decide ((k : Int) < (k : Int)) = false := decide_eq_false kI
        have V0 := Lib.hid (rvl_any _ L0 w2 (H0.out.fw B2.out))
        obtain ⟨q0, hq0⟩ : ∃ q, vld L0 = q := ⟨_, rfl⟩
        have Q0 := Lib.hid hq0
        rw [hq0] at V0
        clear hq0
        have FIN := Lib.hid (show (∀ k (h : k < L.length), L[k].bytes.length ≤ 100) from fun j hj => U.out j (by have := EN.out; omega) hj)
        cases q0 with
        | false =>
          go_wp2_with fail
          refine V0.out.mono ?_
          rintro e w3 ⟨rfl, hb⟩
          have B3 := Lib.hid (B2.out.trans (hb.mono B2.out.size))
          clear hb V0
          go_wp2_with fail
          go_ret
          exact ⟨false, rfl, fun h => (by cases h), B3.out⟩
        | true =>
          go_wp2_with fail
          refine V0.out.mono ?_
          rintro e w3 ⟨rfl, hb⟩
          have B3 := Lib.hid (B2.out.trans (hb.mono B2.out.size))
          obtain ⟨-, -, c6, -⟩ := CBox.cells (Row.go R2.out hb)
          have V1 := Lib.hid (rvl_any _ L1 w3 (H1.out.fw B3.out))
          obtain ⟨q1, hq1⟩ : ∃ q, vld L1 = q := ⟨_, rfl⟩
          have Q1 := Lib.hid hq1
          rw [hq1] at V1
          clear hb V0 hq1
          go_wp2_with fail
          refine V1.out.mono ?_
          rintro e w4 ⟨rfl, hb⟩
          have B4 := Lib.hid (B3.out.trans (hb.mono B3.out.size))
          clear hb V1
          go_wp2_with fail
          go_ret
          exact ⟨q1, rfl, fun h => ⟨GVH.out, by rw [EZ.out]; have := Z1.out; omega, by rw [EN.out]; exact Z2.out, by rw [EN0.out]; exact Z3.out, by rw [EN1.out]; exact Z4.out, FIN.out, Q0.out, Q1.out.trans h⟩, B4.out⟩
  · rw [decide_eq_false hv] at RV
    clear hv
    go_enter Try.func20, Try.ntmps20
    go_wp2_with (first | rw [HB0.out] | rw [HW0.out])
    refine RV.out.mono ?_
    rintro e w1 ⟨rfl, hb⟩
    have B1 := Lib.hid (BW.out.trans (hb.mono BW.out.size))
    clear hb RV SZ
    go_wp2_with fail
    go_ret
    exact ⟨false, rfl, fun h => (by cases h), B1.out⟩
end Go.Proofs.Ytdjjihppaobbcaa

