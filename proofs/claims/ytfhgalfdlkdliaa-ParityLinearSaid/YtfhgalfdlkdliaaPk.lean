/- The reference's Group and Check. -/
import Derived.Test.YtfhgalfdlkdliaaPj
import Derived.Test.YtfhgalfdlkdliaaPe
import Derived.Test.YtfhgalfdlkdliaaBo
namespace Go.Proofs.Ytfhgalfdlkdliaa
open Go Go.RowKit
set_option linter.unusedVariables false

def blPost (D : List (List Nat)) (w : World) (e : Ending) (w' : World) : Prop := ∃ v, e = .returned v ∧ Bl w' v D ∧ Below w.heap.size w w'
set_option maxHeartbeats 1000000 in
set_option maxRecDepth 100000 in
theorem group_any (v : Value) (D : List (List Nat)) (w : World) (h : Bl w v D) (h13 : D.length ≤ 200) :
    Calls Try.prog 42 #[v] w (blPost (D ++ parL D) w) := by
  have RP := Lib.hid (fun w' (hb : Below w.heap.size w w') => rparity_any v D w' (h.below hb (Nat.le_refl _)) h13)
  have HV := Lib.hid h
  obtain ⟨A, c, rfl⟩ := h.form
  obtain ⟨n, hn⟩ : ∃ n, D.length = n := ⟨_, rfl⟩
  have N := Lib.hid hn
  rw [hn] at h13 RP HV ⊢
  clear h hn
  go_enter Try.func42, Try.ntmps42
  have L1 : Hid (([] : List (List Nat)).length + D.length ≤ 1000) := Lib.hid (by rw [N.out]; simp; omega)
  have L2 : Hid (([] ++ D : List (List Nat)).length + (parL D).length ≤ 1000) := Lib.hid (by rw [List.nil_append, N.out]; simp [parL]; omega)
  go_wp2_with (first
    | (at_builtin; refine wpList_append_bl rfl (.tmp 3) (.tmp 4) rfl w.heap.size (.slice (some ⟨w.heap.size, 0, none⟩) 0 0) (.slice A n c) [] D rfl (OwnB.new (Nat.le_refl _)) rfl (HV.out.alloc _) L1.out (by simp) ?_
       intro x0 w2 ho hg
       have HO := Lib.hid ho
       have HB : Hid (Below w.heap.size w w2) := Lib.hid (((Below.refl w.heap.size w).alloc (Nat.le_refl _) _).grown hg (by simp) (fun k e => by cases e; exact Nat.le_refl _))
       clear ho hg)
    | (go_at_call 22; refine (RP.out _ HB.out).mono ?_; rintro e w3 ⟨rfl, hr, hb⟩
       have HO3 := Lib.hid (HO.out.below hb (Nat.le_refl _))
       have HB3 := Lib.hid (HB.out.trans (hb.mono HB.out.size))
       have HR := Lib.hid (Bl.par hr)
       clear hr hb)
    | (at_builtin; refine wpList_append_bl rfl (.tmp 5) (.tmp 7) rfl w.heap.size x0 (.slice (some ⟨w2.heap.size, 0, none⟩) 3 3) ([] ++ D) (parL D) rfl HO3.out rfl HR.out L2.out HB3.out.size ?_
       intro x4 w4 ho hg
       have HO4 := Lib.hid ho
       have HB4 : Hid (Below w.heap.size w w4) := Lib.hid (HB3.out.grown hg HB3.out.size (fun k e => (HO3.out.lt k e).1))
       clear ho hg))
  go_ret
  exact ⟨_, rfl, HO4.out.bl, HB4.out⟩

/-- The reference's Check. -/
def belowB (b : Bool) (w : World) (e : Ending) (w' : World) : Prop := e = .returned (.bool b) ∧ Below w.heap.size w w'
set_option maxHeartbeats 1000000 in
set_option maxRecDepth 100000 in
theorem rcheck_any (v : Value) (D : List (List Nat)) (w : World) (h : Bl w v D) :
    Calls Try.prog 25 #[v] w (belowB (chk D) w) := by
  have HV := Lib.hid h
  have hm : D.length ≤ maxLen := by obtain ⟨_, _, _, hm, _⟩ := h; omega
  by_cases h4 : 4 ≤ D.length
  · by_cases h16 : D.length ≤ 16
    · obtain ⟨b, off, c, rfl, hc, hb, hr⟩ := h.at_ (by omega)
      have hT : Bl w (.slice (some ⟨b, off, none⟩) (D.length - 3) c) (D.take (D.length - 3)) := by
        have l1 : (D.take (D.length - 3)).length = D.length - 3 := by rw [List.length_take]; omega
        refine ⟨_, c, by rw [l1], ⟨by omega, hc.2⟩, fun d hd => h.ok d (List.mem_of_mem_take hd), fun e => (by cases e), fun _ => ⟨b, off, rfl, fun j u hu => ?_⟩⟩
        refine hr j u ?_
        obtain ⟨t, ht⟩ : ∃ t, D.flatten = (D.take (D.length - 3)).flatten ++ t := ⟨(D.drop (D.length - 3)).flatten, by rw [← List.flatten_append, List.take_append_drop]⟩
        rw [ht, List.map_append, List.getElem?_append_left (List.getElem?_eq_some_iff.1 hu).1]; exact hu
      have GR := Lib.hid (group_any _ _ w hT (by rw [List.length_take]; omega))
      have CK : Hid (chk D = decide (D = D.take (D.length - 3) ++ parL (D.take (D.length - 3)))) := Lib.hid (by
        unfold chk
        by_cases e : D = D.take (D.length - 3) ++ parL (D.take (D.length - 3))
        · rw [decide_eq_true ⟨h4, h16, e⟩, decide_eq_true e]
        · rw [decide_eq_false fun x => e x.2.2, decide_eq_false e])
      obtain ⟨n, hn⟩ : ∃ n, D.length = n := ⟨_, rfl⟩
      rw [hn] at hm h4 h16 GR HV CK hc ⊢
      have g1 : decide ((4 : Int) ≤ (n : Int)) = true := by simp; omega
      have g2 : decide ((n : Int) ≤ 16) = true := by simp; omega
      have e3 : ((n - 3 : Nat) : Int) = (n : Int) - 3 := by omega
      have g3 : (0 : Int) ≤ (n : Int) - 3 := by omega
      have g4 : (n : Int) - 3 ≤ (c : Int) := by omega
      have e4 : ((n : Int) - 3).toNat = n - 3 := by omega
      clear h hT hr hn
      go_enter Try.func25, Try.ntmps25
      go_wp2_with fail
      refine GR.out.mono ?_
      rintro e w1 ⟨x1, rfl, hx, hb⟩
      have HX := Lib.hid hx
      have HB := Lib.hid hb
      have HV1 := Lib.hid (HV.out.below hb (Nat.le_refl _))
      clear hx hb
      go_wp2_with fail
      refine (same_bl _ _ _ _ _ HV1.out HX.out).mono ?_
      rintro e w2 ⟨rfl, hd⟩
      have HB2 := Lib.hid (HB.out.trans (hd.below w.heap.size))
      clear hd
      go_wp2
      go_ret
      exact ⟨ret_bool CK.out.symm, HB2.out⟩
    · obtain ⟨A, c, rfl⟩ := h.form
      have CK : Hid (chk D = false) := Lib.hid (decide_eq_false fun x => h16 x.2.1)
      obtain ⟨n, hn⟩ : ∃ n, D.length = n := ⟨_, rfl⟩
      rw [hn] at hm h4 h16 ⊢
      have g1 : decide ((4 : Int) ≤ (n : Int)) = true := by simp; omega
      have g2 : decide ((n : Int) ≤ 16) = false := by simp; omega
      clear h hn HV
      go_enter Try.func25, Try.ntmps25
      go_wp2_with fail
      go_ret
      exact ⟨ret_bool CK.out.symm, Below.refl _ _⟩
  · obtain ⟨A, c, rfl⟩ := h.form
    have CK : Hid (chk D = false) := Lib.hid (decide_eq_false fun x => h4 x.1)
    obtain ⟨n, hn⟩ : ∃ n, D.length = n := ⟨_, rfl⟩
    rw [hn] at hm h4 ⊢
    have g1 : decide ((4 : Int) ≤ (n : Int)) = false := by simp; omega
    clear h hn HV
    go_enter Try.func25, Try.ntmps25
    go_wp2_with fail
    go_ret
    exact ⟨ret_bool CK.out.symm, Below.refl _ _⟩
end Go.Proofs.Ytfhgalfdlkdliaa
