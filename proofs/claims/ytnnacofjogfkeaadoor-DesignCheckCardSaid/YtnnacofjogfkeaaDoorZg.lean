/- Law walk: DesignCheck. -/
import Derived.Test.YtnnacofjogfkeaaDoorZa
import Derived.Test.YtnnacofjogfkeaaDoorCon
namespace Go.Proofs.YtnnacofjogfkeaaDoor
open Go Go.RowKit Pl Co
set_option linter.unusedVariables false
set_option linter.unusedSimpArgs false

theorem rchk_any (d : Int) (m : List (List Int)) (v : Value) (w : World) (h : Gi w v m) : Calls Tryd.prog 17 #[.agg #[.int .i64 d, v]] w (chkPost d m w) := by
  by_cases hb : d < 2 ∨ 60 < d ∨ m.length < 1 ∨ 4096 < m.length
  · exact rchk_bad d m v w h hb
  · exact rchk_ok d m v w h (by omega) (by omega) (by omega) (by omega)
set_option maxHeartbeats 4000000 in
set_option maxRecDepth 100000 in
theorem checklaw_walk (d : Int) (m : List (List Int)) (v : Value) (w : World) (hK : Kd w) (hP : Pd w) (h : Gi w v m) : Calls Tryd.prog 4 #[.agg #[.int .i64 d, v]] w (lawPost w) := by
  have FW := Lib.hid fun W (hb : Below w.heap.size w W) => few_any d m v W (h.to hb)
  have CA := Lib.hid fun W (hb : Below w.heap.size w W) => dcheck_any d m v W (h.to hb)
  have CB := Lib.hid fun W (hb : Below w.heap.size w W) => rchk_any d m v W (h.to hb)
  have AW := Lib.hid fun W (hb : Below w.heap.size w W) => awake7 W (hK.below hb) (hP.below hb)
  obtain ⟨f, hf⟩ : ∃ f, fewB m = f := ⟨_, rfl⟩
  rw [hf] at FW
  obtain ⟨A1, c1, rfl⟩ := slform h
  obtain ⟨N, hN⟩ : ∃ N, m.length = N := ⟨_, rfl⟩
  rw [hN] at h FW CA CB ⊢
  obtain ⟨B, hB⟩ : ∃ B, w.heap.size = B := ⟨_, rfl⟩
  obtain ⟨W, hW⟩ : ∃ W, w.alloc (.cells #[.int .i64 d, .slice A1 N c1] 25) = W := ⟨_, rfl⟩
  have hbw : Below w.heap.size w W := by rw [← hW]; exact (Below.refl _ _).alloc (Nat.le_refl _) _
  have r1 : Row W B 25 #[.int .i64 d, .slice A1 N c1] := by
    rw [← hW, ← hB]; exact row_new' w _ _
  have RW := Lib.hid r1
  have BW := Lib.hid hbw
  have HE := Lib.hid hB
  have HW := Lib.hid hW
  have UQ := Lib.hid (show ∀ r k r' k', BalZ d m r k → BalZ d m r' k' → r = r' ∧ k = k' from fun r k r' k' p q => by
    have hd := p.disks
    obtain ⟨D, rfl⟩ : ∃ D : Nat, d = (D : Int) := ⟨d.toNat, by omega⟩
    exact p.uniq q)
  clear h hN r1 hbw hB hW hf hK hP
  go_enter Tryd.func4, Tryd.ntmps4
  go_wp2_with fail
  rw [HE.out, HW.out]
  refine (AW.out W BW.out).mono ?_
  rintro e z1 ⟨rfl, hb⟩
  have BZ := Lib.hid (BW.out.trans (hb.mono BW.out.size))
  have RZ := Lib.hid (RW.out.go hb)
  have e0 : z1.cell? ⟨B, 0, none⟩ = some (.int .i64 d) := RZ.out.cell 0
  have e1 : z1.cell? ⟨B, 1, none⟩ = some (.slice A1 N c1) := RZ.out.cell 1
  clear hb AW
  go_wp2_with fail
  refine (FW.out z1 BZ.out).mono ?_
  rintro e z2 ⟨rfl, hb⟩
  have BY := Lib.hid (BZ.out.trans (hb.mono BZ.out.size))
  have RY := Lib.hid (RZ.out.go hb)
  clear hb FW e0 e1
  cases f with
  | false =>
    clear CA CB UQ
    go_wp2_with fail
    go_ret
    exact ⟨rfl, BY.out⟩
  | true =>
    have e0 : z2.cell? ⟨B, 0, none⟩ = some (.int .i64 d) := RY.out.cell 0
    have e1 : z2.cell? ⟨B, 1, none⟩ = some (.slice A1 N c1) := RY.out.cell 1
    go_wp2_with fail
    refine (CA.out z2 BY.out).mono ?_
    clear CA
    rintro e z3 ⟨hb, ⟨r, k, rfl, hz⟩ | ⟨rfl, hn⟩⟩
    · have B3 := Lib.hid (BY.out.trans (hb.mono BY.out.size))
      have R3 := Lib.hid (RY.out.go hb)
      have HZ := Lib.hid hz
      clear hb e0 e1 hz
      have e0 : z3.cell? ⟨B, 0, none⟩ = some (.int .i64 d) := R3.out.cell 0
      have e1 : z3.cell? ⟨B, 1, none⟩ = some (.slice A1 N c1) := R3.out.cell 1
      go_wp2_with fail
      refine (CB.out z3 B3.out).mono ?_
      clear CB
      rintro e z4 ⟨hb, r', k', b, rfl, hT, hF⟩
      have B4 := Lib.hid (B3.out.trans (hb.mono B3.out.size))
      cases b with
      | false => exact absurd HZ.out (hF rfl r k)
      | true =>
        obtain ⟨q1, q2⟩ := UQ.out r k r' k' HZ.out (hT rfl)
        subst q1 q2
        clear hb e0 e1 hT hF UQ HZ
        go_wp2_with fail
        go_ret
        exact ⟨rfl, B4.out⟩
    · have B3 := Lib.hid (BY.out.trans (hb.mono BY.out.size))
      have R3 := Lib.hid (RY.out.go hb)
      have HN := Lib.hid hn
      clear hb e0 e1 hn
      have e0 : z3.cell? ⟨B, 0, none⟩ = some (.int .i64 d) := R3.out.cell 0
      have e1 : z3.cell? ⟨B, 1, none⟩ = some (.slice A1 N c1) := R3.out.cell 1
      go_wp2_with fail
      refine (CB.out z3 B3.out).mono ?_
      clear CB
      rintro e z4 ⟨hb, r', k', b, rfl, hT, hF⟩
      have B4 := Lib.hid (B3.out.trans (hb.mono B3.out.size))
      cases b with
      | true => exact absurd (hT rfl) (HN.out r' k')
      | false =>
        clear hb e0 e1 hT hF UQ HN
        go_wp2_with fail
        go_ret
        exact ⟨rfl, B4.out⟩
end Go.Proofs.YtnnacofjogfkeaaDoor
