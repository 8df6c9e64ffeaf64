/- Contracts: table. -/
import Derived.Test.YtjbgfpbidjhlkaaDoorSd
import Derived.Deep.RegionWith
import Derived.Deep.OwnRows
import Derived.Shelf.Abstract
namespace Go.Proofs.YtjbgfpbidjhlkaaDoor
open Go Go.RowKit
set_option linter.unusedVariables false

/-- A function value that gives g on the elements, in this world and later ones. -/
def Fv (q : Nat) (g : Nat → Nat → Nat) (w : World) (v : Value) : Prop := ∃ k lb, v = .func (.func k) #[] lb ∧ Enters Tryd.prog k ∧
  ∀ w', Below w.heap.size w w' → ∀ a b, a < q → b < q → Calls Tryd.prog k (#[.int .i64 (a : Int), .int .i64 (b : Int)] ++ lb) w' (drPost (.int .i64 (g a b : Nat)) w')
theorem Fv.below {q : Nat} {g : Nat → Nat → Nat} {w w' : World} {v : Value} (h : Fv q g w v) (hb : Below w.heap.size w w') : Fv q g w' v := by
  obtain ⟨k, lb, hv, he, hc⟩ := h
  exact ⟨k, lb, hv, he, fun w'' hb' => hc w'' (hb.trans (hb'.mono hb.size))⟩
theorem Dr.size {w w' : World} (h : Dr w w') : w'.heap.size = w.heap.size := by
  obtain ⟨q, rfl⟩ := h; rfl
theorem Dr.row {w w' : World} (h : Dr w w') {b : Nat} {t : TypeId} {n : Nat} {f : Nat → Value} (hr : w.rowIs b t n f) : w'.rowIs b t n f := by
  obtain ⟨q, rfl⟩ := h; exact hr
theorem Dr.frozen {w w' : World} (h : Dr w w') (p : Addr) : w'.frozen? p = w.frozen? p := by
  obtain ⟨q, rfl⟩ := h; rfl

theorem info_ints : (Tryd.prog.info? 37).map (fun i => (i.zero, i.size, i.bytes)) = some (some (.slice none 0 0), 1, 24) := by kernel_rfl
theorem info_int : (Tryd.prog.info? 3).map (fun i => (i.zero, i.size, i.bytes)) = some (some (.int .i64 0), 1, 8) := by kernel_rfl

/-- The rows below k are there. -/
def TTop (w : World) (B q k : Nat) : Prop := w.rowIs B 37 q (fun i => if i < k then .slice (some ⟨B + 1 + i, 0, none⟩) q q else .slice none 0 0)
def TRow (w : World) (B q i : Nat) (f : Nat → Nat) : Prop := w.rowIs (B + 1 + i) 3 q (fun j => .int .i64 ((f j : Nat) : Int))
/-- The table of g. -/
def Tb (w : World) (v : Value) (q : Nat) (g : Nat → Nat → Nat) : Prop := ∃ B, v = .slice (some ⟨B, 0, none⟩) q q ∧ TTop w B q q ∧ ∀ i, i < q → TRow w B q i (g i)
theorem rowTo {w w' : World} {b : Nat} {t : TypeId} {n : Nat} {f : Nat → Value} (h : w.rowIs b t n f) (hb : Below w.heap.size w w') : w'.rowIs b t n f := h.of_block (hb.block _ h.lt)
theorem Tb.to {w w' : World} {v : Value} {q : Nat} {g : Nat → Nat → Nat} (h : Tb w v q g) (hb : Below w.heap.size w w') : Tb w' v q g := by
  obtain ⟨B, hv, ht, hr⟩ := h
  exact ⟨B, hv, rowTo ht hb, fun i hi => rowTo (hr i hi) hb⟩

set_option maxHeartbeats 2000000 in
set_option maxRecDepth 100000 in
theorem table_any (q : Nat) (g : Nat → Nat → Nat) (v : Value) (w : World) (hq : q ≤ 9) (hF : Fv q g w v) :
    Calls Tryd.prog 47 #[.int .i64 (q : Int), v] w fun e w' => ∃ u, e = .returned u ∧ Tb w' u q g ∧ Below w.heap.size w w' := by
  have hm1 := run_make_row' (P := Tryd.prog) 23 37 _ _ Tryd.underlying23 info_ints rfl .i64 .i64 q (by omega) (by omega)
  have hm2 := run_make_row' (P := Tryd.prog) 37 3 _ _ Tryd.underlying37 info_int rfl .i64 .i64 q (by omega) (by omega)
  obtain ⟨K, lb, rfl, hent, hcalls⟩ := hF
  have eK := hent
  have HC := Lib.hid hcalls
  clear hcalls hent
  unfold Enters at eK
  go_enter Tryd.func47, Tryd.ntmps47
  go_wp2
  go_loopw [6, 7, 12] (fun _ _ i wr => ∃ k : Nat, k ≤ q ∧ i = .int .i64 (k : Int) ∧ Hid (Below w.heap.size w wr ∧ wr.heap.size = w.heap.size + 1 + k ∧ TTop wr w.heap.size q k ∧ ∀ i, i < k → TRow wr w.heap.size q i (g i))) (fun _ _ i _ => q - (intOf i).toNat)
  case atStart =>
    refine ⟨0, Nat.zero_le _, rfl, Lib.hid ⟨(Below.refl _ _).alloc (Nat.le_refl _) _, by simp, ?_, fun i hi => absurd hi (Nat.not_lt_zero i)⟩⟩
    exact (World.rowIs_made w _ q _).congr fun i _ => by rw [if_neg (Nat.not_lt_zero i)]
  case round =>
    obtain ⟨a, hk, rfl, H⟩ := hrel
    obtain ⟨wo, rfl⟩ : ∃ wo, wo = wr := ⟨_, rfl⟩
    by_cases hlt : a < q
    · have haI : (a : Int) < (q : Int) := by omega
      obtain ⟨hbel, hsz, htop, hrows⟩ := H.out
      have q1 : ∀ o, (wo.alloc o).cell? ⟨w.heap.size, a, none⟩ = some (.slice none 0 0) := fun o => by
        have := (World.rowIs.alloc htop o).cell hlt
        rwa [if_neg (Nat.lt_irrefl a)] at this
      have q2 : ∀ o, (wo.alloc o).frozen? ⟨w.heap.size, a, none⟩ = false := fun o => (World.rowIs.alloc htop o).frozen a
      have HB := Lib.hid hbel
      have HS := Lib.hid hsz
      have HT := Lib.hid htop
      have HR := Lib.hid hrows
      clear hbel hsz htop hrows H
      go_wp2_with fail
      go_loopw [7, 25] (fun _ j wq => ∃ k : Nat, k ≤ q ∧ j = .int .i64 (k : Int) ∧ Hid (Below w.heap.size w wq ∧ wq.heap.size = w.heap.size + 1 + (a + 1) ∧ TTop wq w.heap.size q (a + 1) ∧ (∀ i, i < a → TRow wq w.heap.size q i (g i)) ∧ TRow wq w.heap.size q a (fun j => if j < k then g a j else 0))) (fun _ j _ => q - (intOf j).toNat)
      case atStart =>
        have hle : w.heap.size ≤ wo.heap.size := by have := HS.out; omega
        refine ⟨0, Nat.zero_le _, rfl, Lib.hid ⟨(HB.out.alloc hle _).setCell (Nat.le_refl _) _, by simp [World.setCell, HS.out]; omega, ?_, fun i hi => ?_, ?_⟩⟩
        · refine ((World.rowIs.alloc HT.out _).set a _).congr fun i hi => ?_
          by_cases e : i = a
          · rw [if_pos e, if_pos (by omega), e, HS.out]
          · rw [if_neg e]
            by_cases e2 : i < a
            · rw [if_pos e2, if_pos (by omega)]
            · rw [if_neg e2, if_neg (by omega)]
        · exact World.rowIs.setOther ((World.rowIs.alloc (HR.out i hi) _)) (by show w.heap.size + 1 + i ≠ w.heap.size; omega) _
        · refine World.rowIs.setOther ?_ (by show w.heap.size + 1 + a ≠ w.heap.size; omega) _
          rw [← HS.out]
          exact (World.rowIs_made wo _ q _).congr fun j _ => by simp
      case round =>
        obtain ⟨j, hj, rfl, H⟩ := hrel
        by_cases hltj : j < q
        · have hjI : (j : Int) < (q : Int) := by omega
          obtain ⟨hbel, hsz, htop, hrows, hrow⟩ := H.out
          have q1 := htop.cell hlt
          rw [if_pos (Nat.lt_succ_self a)] at q1
          have q3 := hrow.cell hltj
          simp only [if_neg (Nat.lt_irrefl j)] at q3
          have q4 := hrow.frozen j
          have cF := Lib.hid (HC.out wr.drew (hbel.drew) a j hlt hltj)
          have HB := Lib.hid hbel
          have HS2 := Lib.hid hsz
          have HT := Lib.hid htop
          have HR := Lib.hid hrows
          have HW := Lib.hid hrow
          clear hbel hsz htop hrows hrow H
          go_wp2_with fail
          go_region_with (go_at_fn K; refine cF.out.mono ?_; rintro e w2 ⟨rfl, hd⟩; have c1 := (hd.cell ⟨w.heap.size, a, none⟩).trans q1; have c3 := (hd.cell ⟨w.heap.size + 1 + a, j, none⟩).trans q3; have c4 := (hd.frozen ⟨w.heap.size + 1 + a, j, none⟩).trans q4; have HD := Lib.hid hd; clear hd)
          all_goals
            go_wp2
            go_roundw
            case rel =>
              have hd := HD.out
              refine ⟨j + 1, by omega, by go_num, Lib.hid ⟨(HB.out.drew.trans (hd.below _)).setCell (by show w.heap.size ≤ w.heap.size + 1 + a; omega) _, by simp [World.setCell, hd.size]; exact HS2.out, ?_, fun i hi => ?_, ?_⟩⟩
              · exact World.rowIs.setOther (hd.row HT.out) (by show w.heap.size ≠ w.heap.size + 1 + a; omega) _
              · exact World.rowIs.setOther (hd.row (HR.out i hi)) (by show w.heap.size + 1 + i ≠ w.heap.size + 1 + a; omega) _
              · refine ((hd.row HW.out).set j _).congr fun j' hj' => ?_
                show _ = Value.int .i64 (((if j' < j + 1 then g a j' else 0 : Nat)) : Int)
                by_cases e : j' = j
                · rw [if_pos e, if_pos (by omega), e]
                · rw [if_neg e]
                  by_cases e2 : j' < j
                  · simp only [if_pos e2, if_pos (show j' < j + 1 by omega)]
                  · simp only [if_neg e2, if_neg (show ¬ j' < j + 1 by omega)]
            case measure => simp [intOf]; omega
        · obtain rfl : j = q := by omega
          go_wp2
          go_roundw
          case rel =>
            obtain ⟨hbel, hsz, htop, hrows, hrow⟩ := H.out
            refine ⟨a + 1, by omega, by go_num, Lib.hid ⟨hbel, hsz, htop, fun i hi => ?_⟩⟩
            by_cases e : i < a
            · exact hrows i e
            · obtain rfl : i = a := by omega
              exact World.rowIs.congr hrow fun j' hj' => by simp only [if_pos hj']
          case measure => simp [intOf]; omega
    · obtain rfl : a = q := by omega
      obtain ⟨hbel, hsz, htop, hrows⟩ := H.out
      clear H
      have HB := Lib.hid hbel
      have HT := Lib.hid htop
      have HR := Lib.hid hrows
      clear hbel hsz htop hrows
      go_wp2
      go_ret
      exact ⟨_, rfl, ⟨_, rfl, HT.out, HR.out⟩, HB.out⟩
end Go.Proofs.YtjbgfpbidjhlkaaDoor
