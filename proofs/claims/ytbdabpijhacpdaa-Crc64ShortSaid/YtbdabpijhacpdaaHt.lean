/- Contracts: the matrix of eight steps. -/
import Derived.Test.YtbdabpijhacpdaaHm
namespace Go.Proofs.Ytbdabpijhacpdaa
open Go Go.RowKit
set_option linter.unusedVariables false
set_option linter.unusedSimpArgs false
/-- The first k columns of a matrix of eight steps. -/
def Cols (cs : Array Value) (k : Nat) : Prop := cs.size = 64 ∧ ∀ i, i < k → cs[i]? = some (.int .u64 ((Crc.sts 8 (2 ^ i) : Nat) : Int))
theorem Cols.set {cs : Array Value} {k : Nat} (h : Cols cs k) (v : Value) : Cols (cs.setIfInBounds k v) k :=
  ⟨by rw [Array.size_setIfInBounds]; exact h.1, fun i hi => by rw [Array.getElem?_setIfInBounds_ne (by omega)]; exact h.2 i hi⟩
theorem Cols.done {cs : Array Value} {k : Nat} (h : Cols cs k) (hk : cs[k]? = some (.int .u64 ((Crc.sts 8 (2 ^ k) : Nat) : Int))) : Cols cs (k + 1) :=
  ⟨h.1, fun i hi => by
    by_cases e : i = k
    · rw [e]; exact hk
    · exact h.2 i (by omega)⟩
def StSt (w wr : World) (B k : Nat) : Prop := Below B w wr ∧ (∃ rs, Row wr B 41 rs ∧ rs.size = 64) ∧ ∃ cs, Row wr (B + 1) 41 cs ∧ Cols cs k
/-- Within column k: x stands there. -/
def StIn (w wr : World) (B k x : Nat) : Prop := Below B w wr ∧ (∃ rs, Row wr B 41 rs ∧ rs.size = 64) ∧ ∃ cs, Row wr (B + 1) 41 cs ∧ Cols cs k ∧ cs[k]? = some (.int .u64 (x : Int))
theorem StSt.put {w wr : World} {B k : Nat} (h : StSt w wr B k) (hk : k < 64) (x : Nat) : StIn w (wr.setCell ⟨B + 1, k, none⟩ (.int .u64 (x : Int))) B k x := by
  obtain ⟨h1, ⟨rs, h2, h3⟩, cs, h4, h5⟩ := h
  exact ⟨h1.setCell (p := ⟨B + 1, k, none⟩) (Nat.le_succ _) _, ⟨rs, mx_other h2 (by omega) _ _, h3⟩, _, h4.store k _, h5.set _, by rw [Array.getElem?_setIfInBounds_self_of_lt (by rw [h5.1]; exact hk)]⟩
theorem StIn.put {w wr : World} {B k y : Nat} (h : StIn w wr B k y) (hk : k < 64) (x : Nat) : StIn w (wr.setCell ⟨B + 1, k, none⟩ (.int .u64 (x : Int))) B k x := by
  obtain ⟨h1, h2, cs, h4, h5, -⟩ := h
  exact StSt.put ⟨h1, h2, cs, h4, h5⟩ hk x
theorem StIn.done {w wr : World} {B k : Nat} (h : StIn w wr B k (Crc.sts 8 (2 ^ k))) : StSt w wr B (k + 1) := by
  obtain ⟨h1, h2, cs, h4, h5, h6⟩ := h
  exact ⟨h1, h2, cs, h4, h5.done h6⟩
theorem StSt.at_ {w wr : World} {B k : Nat} (h : StSt w wr B k) {j : Nat} (hj : j < 64) : (∃ v, wr.cell? ⟨B + 1, j, none⟩ = some v) ∧ wr.frozen? ⟨B + 1, j, none⟩ = false := by
  obtain ⟨h1, h2, cs, h4, h5⟩ := h
  exact ⟨⟨_, by rw [h4.cell, Array.getElem?_eq_getElem (by rw [h5.1]; exact hj)]⟩, h4.frozen j⟩
theorem StIn.at_ {w wr : World} {B k x : Nat} (h : StIn w wr B k x) : wr.cell? ⟨B + 1, k, none⟩ = some (.int .u64 (x : Int)) ∧ wr.frozen? ⟨B + 1, k, none⟩ = false := by
  obtain ⟨h1, h2, cs, h4, h5, h6⟩ := h
  exact ⟨by rw [h4.cell, h6], h4.frozen k⟩
def stepsPost (w : World) (e : Ending) (w' : World) : Prop := ∃ cs, e = .returned (.agg cs) ∧ MC cs 8 ∧ Below w.heap.size w w'
set_option maxHeartbeats 1000000 in
set_option maxRecDepth 100000 in
theorem steps_any (w : World) : Calls Try.prog 21 #[.int .i64 8] w (stepsPost w) := by
  obtain ⟨B, hB⟩ : ∃ B, w.heap.size = B := ⟨_, rfl⟩
  have HB := Lib.hid hB
  unfold stepsPost
  rw [hB]
  clear hB
  go_enter Try.func21, Try.ntmps21
  go_wp2_with fail
  rw [HB.out]
  go_loopw [5] (fun i wr => ∃ k : Nat, k ≤ 64 ∧ i = .int .i64 (k : Int) ∧ Hid (StSt w wr B k)) (fun i _ => 64 - (intOf i).toNat)
  case atStart =>
    refine ⟨0, by omega, rfl, Lib.hid ⟨?_, ⟨_, mx_to (mx_new _ _ _ HB.out) ((Below.refl _ _).alloc (Nat.le_refl _) _) (by simp [HB.out]), rfl⟩, _, mx_new _ _ _ (by simp [HB.out]), rfl, fun i hi => absurd hi (Nat.not_lt_zero _)⟩⟩
    rw [← HB.out]; exact ((Below.refl _ _).alloc (Nat.le_refl _) _).alloc (by simp) _
  case round =>
    obtain ⟨k, hk, rfl, H⟩ := hrel
    by_cases hlt : k < 64
    · have kI : (k : Int) < 64 := by omega
      obtain ⟨⟨v0, cell⟩, fz⟩ := H.out.at_ hlt
      have W := Lib.hid (show IntKind.u64.wrap ((2 : Int) ^ k) = ((2 ^ k : Nat) : Int) by
        have h := two_lt hlt
        have e : ((2 : Int) ^ k) = ((2 ^ k : Nat) : Int) := by push_cast; rfl
        rw [e]
        generalize (2 ^ k : Nat) = y at h
        rw [IntKind.wrap_u64]; omega)
      have P0 := Lib.hid (H.out.put hlt (2 ^ k))
      have TL := Lib.hid (two_lt hlt)
      have DN := Lib.hid fun wr (h : StIn w wr B k (Crc.sts 8 (2 ^ k))) => h.done
      obtain ⟨x, hx⟩ : ∃ x, 2 ^ k = x := ⟨_, rfl⟩
      rw [hx] at W P0 TL DN
      clear hx H
      go_wp2_with fail
      rw [W.out]
      go_loopw [13] (fun i wr => ∃ j y : Nat, j ≤ 8 ∧ i = .int .i64 (j : Int) ∧ Hid (StIn w wr B k y ∧ y = Crc.sts j x ∧ y < 2 ^ 64)) (fun i _ => 8 - (intOf i).toNat)
      case atStart => exact ⟨0, x, by omega, rfl, Lib.hid ⟨P0.out, rfl, TL.out⟩⟩
      case round =>
        obtain ⟨j, y, hj, rfl, H⟩ := hrel
        by_cases hj8 : j < 8
        · have jI : (j : Int) < 8 := by omega
          obtain ⟨cell2, fz2⟩ := H.out.1.at_
          have ST := Lib.hid (fun w => step_any y w H.out.2.2)
          have E := Lib.hid (show Crc.st y = Crc.sts (j + 1) x by rw [Crc.sts_succ, ← H.out.2.1])
          have UL := Lib.hid (Crc.st_lt H.out.2.2)
          have PN := Lib.hid fun z => H.out.1.put hlt z
          clear H
          generalize Crc.st y = t at ST E UL
          go_wp2_with (go_at_call 19; refine (ST.out _).mono ?_; rintro e w' ⟨rfl, rfl⟩)
          go_roundw
          case rel => exact ⟨j + 1, t, by omega, by go_num, Lib.hid ⟨PN.out t, E.out, UL.out⟩⟩
          case measure => simp [intOf]; omega
        · obtain rfl : j = 8 := by omega
          have NX := Lib.hid (DN.out _ (by rw [← H.out.2.1]; exact H.out.1))
          clear H
          go_wp2_with fail
          go_roundw
          case rel => exact ⟨k + 1, by omega, by go_num, NX⟩
          case measure => simp [intOf]; omega
    · obtain rfl : k = 64 := by omega
      obtain ⟨hb, ⟨rs, hs, hr64⟩, cs, hr, h64, hcs⟩ := H.out
      have R1 := Lib.hid hr
      have MCs := Lib.hid (show MC cs 8 from ⟨h64, hcs⟩)
      have TH := Lib.hid (mx_there hs (n := cs.size) (by rw [h64, hr64]; exact Nat.le_refl _))
      have PB2 := Lib.hid (mx_below hb cs.toList B 0 (Nat.le_refl _))
      have PR := Lib.hid (mx_put hs (ds := cs) (by rw [h64, hr64]))
      clear H hb hr h64 hcs hs hr64
      go_wp2_with (first | (refine wpList_load_row rfl _ _ rfl _ rfl _ _ (0, 0) _ R1.out Try.underlying41 rfl MCs.out.info ?_) | (refine wpList_store_mid rfl _ _ _ rfl _ 0 _ rfl rfl TH.out MCs.out.info MCs.out.one ?_))
      refine bodyPost_ret (results_cell_row (g := B) (t := 41) (fr := (0, 0)) rfl _ _ _ _ rfl PR.out Try.underlying41 rfl MCs.out.info) rfl ?_
      exact ⟨cs, rfl, MCs.out, PB2.out⟩
end Go.Proofs.Ytbdabpijhacpdaa
