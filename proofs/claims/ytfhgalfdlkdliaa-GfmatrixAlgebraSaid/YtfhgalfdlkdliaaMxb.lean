/- Contracts of the reference's Valid, Small, Same, SameInts, lead. -/
import Derived.Test.YtfhgalfdlkdliaaMxa
namespace Go.Proofs.Ytfhgalfdlkdliaa
open Go Go.RowKit

/-- The world but for some draws. -/
def Dr (w w' : World) : Prop := ∃ q, w' = w.drewN q
theorem Dr.refl (w : World) : Dr w w := ⟨0, rfl⟩
theorem Dr.more {w w' : World} (h : Dr w w') (q : Nat) : Dr w (w'.drewN q) := by
  obtain ⟨p, rfl⟩ := h
  exact ⟨p + q, by rw [World.drewN_drewN]⟩
theorem Dr.cell {w w' : World} (h : Dr w w') (a : Addr) : w'.cell? a = w.cell? a := by
  obtain ⟨p, rfl⟩ := h; rfl
theorem Dr.below {w w' : World} (h : Dr w w') (B : Nat) : Below B w w' := by
  obtain ⟨p, rfl⟩ := h
  exact ⟨rfl, rfl, rfl, Nat.le_refl _, fun _ _ => rfl⟩
theorem Dr.same {w w' : World} (h : Dr w w') : Same w w' := by
  obtain ⟨p, rfl⟩ := h
  exact ⟨Nat.le_refl _, fun _ _ => rfl⟩
theorem Dr.trans {a b c : World} (h : Dr a b) (k : Dr b c) : Dr a c := by
  obtain ⟨p, rfl⟩ := k
  exact h.more p

theorem list_ext' {α : Type} (d : α) {a b : List α} (hl : a.length = b.length) (h : ∀ i, i < a.length → a.getD i d = b.getD i d) : a = b := by
  refine List.ext_getElem hl fun i h1 h2 => ?_
  have := h i h1
  rwa [getD_in h1, getD_in h2] at this

def drPost (v : Value) (w : World) (e : Ending) (w' : World) : Prop := e = .returned v ∧ Dr w w'

theorem smallB_iff (m : List (List Nat)) : smallB m = true ↔ m.length ≤ 8 ∧ ∀ i, i < m.length → (m.getD i []).length ≤ 8 := by
  unfold smallB; exact decide_eq_true_iff
theorem same_quiet (v1 v2 : Value) (d s : List Nat) (w : World) (n : Nat) (h1 : Bs w v1 d) (h2 : Bs w v2 s) (b : Bool) (hb : decide (d = s) = b) :
    Calls Try.prog 36 #[v1, v2] (w.drewN n) fun e w'' => e = .returned (.bool b) ∧ ∃ m, w'' = w.drewN m :=
  Calls.quiet_of_same ((same_any v1 v2 d s (w.drewN n) (h1.keep fun _ _ => rfl) (h2.keep fun _ _ => rfl)).mono fun _ _ h => ⟨by rw [h.1, hb], h.2.symm⟩)

set_option maxHeartbeats 1000000 in
set_option maxRecDepth 100000 in
theorem msame_any (v1 v2 : Value) (m1 m2 : List (List Nat)) (w : World) (h1 : Ms w v1 m1) (h2 : Ms w v2 m2) :
    Calls Try.prog 15 #[v1, v2] w (drPost (.bool (decide (m1 = m2))) w) := by
  have hc1 := fun hn => Ms.at_ h1 hn
  have hc2 := fun hn => Ms.at_ h2 hn
  obtain ⟨A1, c1, rfl⟩ := Sl.form h1
  obtain ⟨A2, c2, rfl⟩ := Sl.form h2
  have HC1 := Lib.hid hc1
  have HC2 := Lib.hid hc2
  clear h1 h2 hc1 hc2
  obtain ⟨n, hn⟩ : ∃ n, m1.length = n := ⟨_, rfl⟩
  obtain ⟨n2, hn2⟩ : ∃ n, m2.length = n := ⟨_, rfl⟩
  rw [hn, hn2]
  have N := Lib.hid hn
  have N2 := Lib.hid hn2
  clear hn hn2
  by_cases he : n = n2
  · subst he
    have hm : (n : Int) ≤ 9223372036854775807 := by
      rcases Nat.eq_zero_or_pos n with h0 | h0
      · omega
      · obtain ⟨_, _, _, _, hm, _⟩ := HC1.out (by rw [N.out]; exact h0)
        rw [N.out] at hm; unfold maxLen at hm; omega
    go_enter Try.func15, Try.ntmps15
    go_wp2
    go_loopw [5] (fun i wr => ∃ k : Nat, k ≤ n ∧ i = .int .i64 (k : Int) ∧ Hid (Dr w wr ∧ ∀ j, j < k → m1.getD j [] = m2.getD j [])) (fun i _ => n - (intOf i).toNat)
    case atStart => exact ⟨0, Nat.zero_le _, rfl, Lib.hid ⟨Dr.refl w, fun j hj => absurd hj (Nat.not_lt_zero j)⟩⟩
    case round =>
      obtain ⟨k, hk, rfl, H⟩ := hrel
      by_cases hlt : k < n
      · obtain ⟨b1, o1, c1', hv, -, hrow1⟩ := HC1.out (by rw [N.out]; omega)
        injection hv with hv1 hv2 hv3
        subst hv1
        obtain ⟨b2, o2, c2', hv', -, hrow2⟩ := HC2.out (by rw [N2.out]; omega)
        injection hv' with hv1' hv2' hv3'
        subst hv1'
        clear hv2 hv3 hv2' hv3'
        obtain ⟨A3, c3, q1, r1⟩ := hrow1 k (by rw [N.out]; exact hlt)
        obtain ⟨A4, c4, q2, r2⟩ := hrow2 k (by rw [N2.out]; exact hlt)
        rw [← H.out.1.cell] at q1 q2
        have R1 := Lib.hid (r1.keep fun p _ => H.out.1.cell p)
        have R2 := Lib.hid (r2.keep fun p _ => H.out.1.cell p)
        clear hrow1 hrow2 r1 r2
        have hkI : (k : Int) < (n : Int) := by omega
        generalize hl1 : (m1.getD k []).length = k1 at q1 R1
        generalize hl2 : (m2.getD k []).length = k2 at q2 R2
        clear hl1 hl2
        by_cases hs : m1.getD k [] = m2.getD k []
        · have S := Lib.hid hs
          have D : Hid (decide (m1.getD k [] = m2.getD k []) = true) := Lib.hid (by simpa using hs)
          clear hs
          go_wp2
          go_quiet ((go_at_call 36; exact same_quiet _ _ _ _ _ _ R1.out R2.out true D.out))
          go_wp2
          go_roundw
          case rel =>
            refine ⟨k + 1, by omega, by go_num, Lib.hid ⟨H.out.1.more _, fun j hj => ?_⟩⟩
            rcases Nat.lt_or_ge j k with h | h
            · exact H.out.2 j h
            · obtain rfl : j = k := by omega
              exact S.out
          case measure => simp [intOf]; omega
        · have S := Lib.hid hs
          have D : Hid (decide (m1.getD k [] = m2.getD k []) = false) := Lib.hid (by simpa using hs)
          clear hs
          go_wp2
          go_quiet ((go_at_call 36; exact same_quiet _ _ _ _ _ _ R1.out R2.out false D.out))
          go_wp2
          go_ret
          refine ⟨ret_bool ?_, H.out.1.more _⟩
          exact (decide_eq_false fun e => S.out (by rw [e])).symm
      · go_wp2
        go_ret
        refine ⟨ret_bool ?_, H.out.1⟩
        refine (decide_eq_true ?_).symm
        refine list_ext' [] (by rw [N.out, N2.out]) fun i hi => H.out.2 i (by rw [N.out] at hi; omega)
  · have g0 : ((n : Int) != (n2 : Int)) = true := by simp; omega
    have G : Hid (decide (m1 = m2) = false) := Lib.hid (decide_eq_false fun e => he (by rw [← N.out, ← N2.out, e]))
    clear he
    go_enter Try.func15, Try.ntmps15
    go_wp2
    go_ret
    exact ⟨ret_bool G.out.symm, Dr.refl w⟩
end Go.Proofs.Ytfhgalfdlkdliaa
