/- Contracts of the reference's Valid, Small, Same, SameInts, lead. -/
import Derived.Test.YtiibdoibcbokcaaMxa
namespace Go.Proofs.Ytiibdoibcbokcaa
open Go Go.RowKit

/-- The world but for some draws. -/
def Dr (w w' : World) : Prop := ∃ q, w' = w.drewN q
theorem Dr.refl (w : World) : Dr w w := ⟨0, rfl⟩
theorem Dr.more {w w' : World} (h : Dr w w') (q : Nat) : Dr w (w'.drewN q) := by
  obtain ⟨p, rfl⟩ := h
  exact ⟨p + q, by rw [World.drewN_drewN]⟩
theorem Dr.cell {w w' : World} (h : Dr w w') (a : Addr) : w'.cell? a = w.cell? a := by
  obtain ⟨p, rfl⟩ := h; rfl
theorem Dr.below {w w' : World} (h : Dr w w') (B : Nat) : Below B w w' := by
  obtain ⟨p, rfl⟩ := h
  exact ⟨rfl, rfl, rfl, Nat.le_refl _, fun _ _ => rfl⟩
theorem Dr.same {w w' : World} (h : Dr w w') : Same w w' := by
  obtain ⟨p, rfl⟩ := h
  exact ⟨Nat.le_refl _, fun _ _ => rfl⟩
theorem Dr.trans {a b c : World} (h : Dr a b) (k : Dr b c) : Dr a c := by
  obtain ⟨p, rfl⟩ := k
  exact h.more p

theorem list_ext' {α : Type} (d : α) {a b : List α} (hl : a.length = b.length) (h : ∀ i, i < a.length → a.getD i d = b.getD i d) : a = b := by
  refine List.ext_getElem hl fun i h1 h2 => ?_
  have := h i h1
  rwa [getD_in h1, getD_in h2] at this

def drPost (v : Value) (w : World) (e : Ending) (w' : World) : Prop := e = .returned v ∧ Dr w w'

set_option maxHeartbeats 1000000 in
set_option maxRecDepth 100000 in
theorem rvalid_any (v : Value) (m : List (List Nat)) (w : World) (h : Ms w v m) :
    Calls Try.prog 14 #[v] w (drPost (.bool (validB m)) w) := by
  have V := Lib.hid (validB_iff m)
  by_cases h1 : 1 ≤ m.length ∧ m.length ≤ 64
  · obtain ⟨b, off, c, rfl, -, hrow⟩ := Ms.at_ h h1.1
    have HR := Lib.hid hrow
    obtain ⟨A0, c0, q0, -⟩ := hrow 0 h1.1
    rw [Nat.add_zero] at q0
    clear hrow h
    obtain ⟨n, hn⟩ : ∃ n, m.length = n := ⟨_, rfl⟩
    obtain ⟨k0, hk0⟩ : ∃ k0, (m.getD 0 []).length = k0 := ⟨_, rfl⟩
    rw [hn] at h1 ⊢
    rw [hk0] at q0
    have N := Lib.hid hn
    have K := Lib.hid hk0
    clear hn hk0
    obtain ⟨h1, h1'⟩ := h1
    have hd1 : decide ((n : Int) < 1) = false := by simp; omega
    have hd2 : decide ((64 : Int) < (n : Int)) = false := by simp; omega
    by_cases h2 : 1 ≤ k0 ∧ k0 ≤ 64
    · obtain ⟨h2, h2'⟩ := h2
      have hd3 : decide ((k0 : Int) < 1) = false := by simp; omega
      go_enter Try.func14, Try.ntmps14
      go_wp2
      go_loopw [3] (fun i wr => ∃ k : Nat, k ≤ n ∧ i = .int .i64 (k : Int) ∧ Hid (Dr w wr ∧ ∀ j, j < k → (m.getD j []).length = k0)) (fun i _ => n - (intOf i).toNat)
      case atStart => exact ⟨0, Nat.zero_le _, rfl, Lib.hid ⟨Dr.refl w, fun j hj => absurd hj (Nat.not_lt_zero j)⟩⟩
      case round =>
        obtain ⟨k, hk, rfl, H⟩ := hrel
        by_cases hlt : k < n
        · obtain ⟨A1, c1, q1, -⟩ := HR.out k (by rw [N.out]; exact hlt)
          obtain ⟨k1, hk1⟩ : ∃ k1, (m.getD k []).length = k1 := ⟨_, rfl⟩
          rw [hk1, ← H.out.1.cell] at q1
          have q0' := q0
          rw [← H.out.1.cell] at q0'
          have K1 := Lib.hid hk1
          have hkI : (k : Int) < (n : Int) := by omega
          have hkI0 : (0 : Int) < (n : Int) := by omega
          clear hk1
          by_cases he : k1 = k0
          · have g : ((k1 : Int) != (k0 : Int)) = false := by simp [he]
            have E := Lib.hid he
            clear he
            go_wp2
            go_quiet (fail)
            go_wp2
            go_roundw
            case rel =>
              refine ⟨k + 1, by omega, by go_num, Lib.hid ⟨H.out.1.more _, fun j hj => ?_⟩⟩
              rcases Nat.lt_or_ge j k with h | h
              · exact H.out.2 j h
              · obtain rfl : j = k := by omega
                rw [K1.out, E.out]
            case measure => simp [intOf]; omega
          · have g : ((k1 : Int) != (k0 : Int)) = true := by simp; omega
            have E := Lib.hid he
            clear he
            go_wp2
            go_quiet (fail)
            go_wp2
            go_ret
            refine ⟨ret_bool ?_, H.out.1.more _⟩
            refine (Bool.eq_false_iff.2 fun hv => ?_).symm
            exact E.out (by rw [← K1.out, ← K.out]; exact (V.out.1 hv).2.2.2.2 k (by rw [N.out]; exact hlt))
        · go_wp2
          go_ret
          refine ⟨ret_bool ?_, H.out.1⟩
          exact (V.out.2 ⟨by rw [N.out]; exact h1, by rw [N.out]; exact h1', by rw [K.out]; exact h2, by rw [K.out]; exact h2', fun i hi => by rw [K.out]; exact H.out.2 i (by rw [N.out] at hi; omega)⟩).symm
    · have G : Hid (validB m = false) := Lib.hid (Bool.eq_false_iff.2 fun hv => h2 (by have := V.out.1 hv; rw [← K.out]; exact ⟨this.2.2.1, this.2.2.2.1⟩))
      by_cases h3 : k0 < 1
      · have hd3 : decide ((k0 : Int) < 1) = true := by simp; omega
        clear h2
        go_enter Try.func14, Try.ntmps14
        go_wp2
        go_ret
        exact ⟨ret_bool G.out.symm, Dr.refl w⟩
      · have hd3 : decide ((k0 : Int) < 1) = false := by simp; omega
        have hd4 : decide ((64 : Int) < (k0 : Int)) = true := by simp; omega
        clear h2
        go_enter Try.func14, Try.ntmps14
        go_wp2
        go_ret
        exact ⟨ret_bool G.out.symm, Dr.refl w⟩
  · have G : Hid (validB m = false) := Lib.hid (Bool.eq_false_iff.2 fun hv => h1 (by have := V.out.1 hv; exact ⟨this.1, this.2.1⟩))
    obtain ⟨A, c, rfl⟩ := Sl.form h
    clear h
    generalize m.length = n at *
    by_cases h3 : n < 1
    · have hd3 : decide ((n : Int) < 1) = true := by simp; omega
      clear h1
      go_enter Try.func14, Try.ntmps14
      go_wp2
      go_ret
      exact ⟨ret_bool G.out.symm, Dr.refl w⟩
    · have hd3 : decide ((n : Int) < 1) = false := by simp; omega
      have hd4 : decide ((64 : Int) < (n : Int)) = true := by simp; omega
      clear h1
      go_enter Try.func14, Try.ntmps14
      go_wp2
      go_ret
      exact ⟨ret_bool G.out.symm, Dr.refl w⟩

theorem smallB_iff (m : List (List Nat)) : smallB m = true ↔ m.length ≤ 8 ∧ ∀ i, i < m.length → (m.getD i []).length ≤ 8 := by
  unfold smallB; exact decide_eq_true_iff
set_option maxHeartbeats 1000000 in
set_option maxRecDepth 100000 in
theorem small_any (v : Value) (m : List (List Nat)) (w : World) (h : Ms w v m) :
    Calls Try.prog 17 #[v] w fun e w' => e = .returned (.bool (smallB m)) ∧ w = w' := by
  have V := Lib.hid (smallB_iff m)
  have hc : 0 < m.length → ∃ b off c, v = .slice (some ⟨b, off, none⟩) m.length c ∧ (m.length ≤ c ∧ c ≤ maxLen) ∧ ∀ k, k < m.length → ∃ A c', w.cell? ⟨b, off + k, none⟩ = some (.slice A (m.getD k []).length c') ∧ Bs w (.slice A (m.getD k []).length c') (m.getD k []) := Ms.at_ h
  obtain ⟨A, c, rfl⟩ := Sl.form h
  have HC := Lib.hid hc
  clear h hc
  obtain ⟨n, hn⟩ : ∃ n, m.length = n := ⟨_, rfl⟩
  rw [hn]
  have N := Lib.hid hn
  clear hn
  by_cases h1 : n ≤ 8
  · have hd : decide ((8 : Int) < (n : Int)) = false := by simp; omega
    go_enter Try.func17, Try.ntmps17
    go_wp2
    go_loop [3] (fun i => ∃ k : Nat, k ≤ n ∧ i = .int .i64 (k : Int) ∧ Hid (∀ j, j < k → (m.getD j []).length ≤ 8)) (fun i => n - (intOf i).toNat)
    case atStart => exact ⟨0, Nat.zero_le _, rfl, Lib.hid fun j hj => absurd hj (Nat.not_lt_zero j)⟩
    case round =>
      obtain ⟨k, hk, rfl, H⟩ := hrel
      by_cases hlt : k < n
      · obtain ⟨b, off, c', hv, -, hrow⟩ := HC.out (by rw [N.out]; omega)
        injection hv with hv1 hv2 hv3
        subst hv1
        obtain ⟨A1, c1, q1, -⟩ := hrow k (by rw [N.out]; exact hlt)
        obtain ⟨k1, hk1⟩ : ∃ k1, (m.getD k []).length = k1 := ⟨_, rfl⟩
        rw [hk1] at q1
        have K1 := Lib.hid hk1
        clear hk1 hrow hv2 hv3
        by_cases he : k1 ≤ 8
        · have g : decide ((8 : Int) < (k1 : Int)) = false := by simp; omega
          go_wp2
          go_round
          case rel =>
            refine ⟨k + 1, by omega, by go_num, Lib.hid fun j hj => ?_⟩
            rcases Nat.lt_or_ge j k with h | h
            · exact H.out j h
            · obtain rfl : j = k := by omega
              rw [K1.out]; exact he
          case measure => simp [intOf]; omega
        · have g : decide ((8 : Int) < (k1 : Int)) = true := by simp; omega
          go_wp2
          go_ret
          refine ⟨ret_bool ?_, rfl⟩
          refine (Bool.eq_false_iff.2 fun hv => ?_).symm
          exact he (by rw [← K1.out]; exact (V.out.1 hv).2 k (by rw [N.out]; exact hlt))
      · go_wp2
        go_ret
        refine ⟨ret_bool ?_, rfl⟩
        exact (V.out.2 ⟨by rw [N.out]; exact h1, fun i hi => H.out i (by rw [N.out] at hi; omega)⟩).symm
  · have hd : decide ((8 : Int) < (n : Int)) = true := by simp; omega
    have G : Hid (smallB m = false) := Lib.hid (Bool.eq_false_iff.2 fun hv => h1 (by rw [← N.out]; exact (V.out.1 hv).1))
    clear h1
    go_enter Try.func17, Try.ntmps17
    go_wp2
    go_ret
    exact ⟨ret_bool G.out.symm, rfl⟩

theorem same_quiet (v1 v2 : Value) (d s : List Nat) (w : World) (n : Nat) (h1 : Bs w v1 d) (h2 : Bs w v2 s) (b : Bool) (hb : decide (d = s) = b) :
    Calls Try.prog 21 #[v1, v2] (w.drewN n) fun e w'' => e = .returned (.bool b) ∧ ∃ m, w'' = w.drewN m :=
  Calls.quiet_of_same ((same_any v1 v2 d s (w.drewN n) (h1.keep fun _ _ => rfl) (h2.keep fun _ _ => rfl)).mono fun _ _ h => ⟨by rw [h.1, hb], h.2.symm⟩)

set_option maxHeartbeats 1000000 in
set_option maxRecDepth 100000 in
theorem msame_any (v1 v2 : Value) (m1 m2 : List (List Nat)) (w : World) (h1 : Ms w v1 m1) (h2 : Ms w v2 m2) :
    Calls Try.prog 15 #[v1, v2] w (drPost (.bool (decide (m1 = m2))) w) := by
  have hc1 := fun hn => Ms.at_ h1 hn
  have hc2 := fun hn => Ms.at_ h2 hn
  obtain ⟨A1, c1, rfl⟩ := Sl.form h1
  obtain ⟨A2, c2, rfl⟩ := Sl.form h2
  have HC1 := Lib.hid hc1
  have HC2 := Lib.hid hc2
  clear h1 h2 hc1 hc2
  obtain ⟨n, hn⟩ : ∃ n, m1.length = n := ⟨_, rfl⟩
  obtain ⟨n2, hn2⟩ : ∃ n, m2.length = n := ⟨_, rfl⟩
  rw [hn, hn2]
  have N := Lib.hid hn
  have N2 := Lib.hid hn2
  clear hn hn2
  by_cases he : n = n2
  · subst he
    have hm : (n : Int) ≤ 9223372036854775807 := by
      rcases Nat.eq_zero_or_pos n with h0 | h0
      · omega
      · obtain ⟨_, _, _, _, hm, _⟩ := HC1.out (by rw [N.out]; exact h0)
        rw [N.out] at hm; unfold maxLen at hm; omega
    go_enter Try.func15, Try.ntmps15
    go_wp2
    go_loopw [5] (fun i wr => ∃ k : Nat, k ≤ n ∧ i = .int .i64 (k : Int) ∧ Hid (Dr w wr ∧ ∀ j, j < k → m1.getD j [] = m2.getD j [])) (fun i _ => n - (intOf i).toNat)
    case atStart => exact ⟨0, Nat.zero_le _, rfl, Lib.hid ⟨Dr.refl w, fun j hj => absurd hj (Nat.not_lt_zero j)⟩⟩
    case round =>
      obtain ⟨k, hk, rfl, H⟩ := hrel
      by_cases hlt : k < n
      · obtain ⟨b1, o1, c1', hv, -, hrow1⟩ := HC1.out (by rw [N.out]; omega)
        injection hv with hv1 hv2 hv3
        subst hv1
        obtain ⟨b2, o2, c2', hv', -, hrow2⟩ := HC2.out (by rw [N2.out]; omega)
        injection hv' with hv1' hv2' hv3'
        subst hv1'
        clear hv2 hv3 hv2' hv3'
        obtain ⟨A3, c3, q1, r1⟩ := hrow1 k (by rw [N.out]; exact hlt)
        obtain ⟨A4, c4, q2, r2⟩ := hrow2 k (by rw [N2.out]; exact hlt)
        rw [← H.out.1.cell] at q1 q2
        have R1 := Lib.hid (r1.keep fun p _ => H.out.1.cell p)
        have R2 := Lib.hid (r2.keep fun p _ => H.out.1.cell p)
        clear hrow1 hrow2 r1 r2
        have hkI : (k : Int) < (n : Int) := by omega
        generalize hl1 : (m1.getD k []).length = k1 at q1 R1
        generalize hl2 : (m2.getD k []).length = k2 at q2 R2
        clear hl1 hl2
        by_cases hs : m1.getD k [] = m2.getD k []
        · have S := Lib.hid hs
          have D : Hid (decide (m1.getD k [] = m2.getD k []) = true) := Lib.hid (by simpa using hs)
          clear hs
          go_wp2
          go_quiet ((go_at_call 21; exact same_quiet _ _ _ _ _ _ R1.out R2.out true D.out))
          go_wp2
          go_roundw
          case rel =>
            refine ⟨k + 1, by omega, by go_num, Lib.hid ⟨H.out.1.more _, fun j hj => ?_⟩⟩
            rcases Nat.lt_or_ge j k with h | h
            · exact H.out.2 j h
            · obtain rfl : j = k := by omega
              exact S.out
          case measure => simp [intOf]; omega
        · have S := Lib.hid hs
          have D : Hid (decide (m1.getD k [] = m2.getD k []) = false) := Lib.hid (by simpa using hs)
          clear hs
          go_wp2
          go_quiet ((go_at_call 21; exact same_quiet _ _ _ _ _ _ R1.out R2.out false D.out))
          go_wp2
          go_ret
          refine ⟨ret_bool ?_, H.out.1.more _⟩
          exact (decide_eq_false fun e => S.out (by rw [e])).symm
      · go_wp2
        go_ret
        refine ⟨ret_bool ?_, H.out.1⟩
        refine (decide_eq_true ?_).symm
        refine list_ext' [] (by rw [N.out, N2.out]) fun i hi => H.out.2 i (by rw [N.out] at hi; omega)
  · have g0 : ((n : Int) != (n2 : Int)) = true := by simp; omega
    have G : Hid (decide (m1 = m2) = false) := Lib.hid (decide_eq_false fun e => he (by rw [← N.out, ← N2.out, e]))
    clear he
    go_enter Try.func15, Try.ntmps15
    go_wp2
    go_ret
    exact ⟨ret_bool G.out.symm, Dr.refl w⟩
end Go.Proofs.Ytiibdoibcbokcaa
