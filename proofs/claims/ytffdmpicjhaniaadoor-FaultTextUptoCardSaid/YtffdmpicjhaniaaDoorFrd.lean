/- Layer 13: contracts of the program: At, Within. -/
import Derived.Test.YtffdmpicjhaniaaDoorFrc
namespace Go.Proofs.YtffdmpicjhaniaaDoor
open Go Go.RowKit Flt
set_option linter.unusedVariables false
set_option linter.unusedSimpArgs false
set_option maxHeartbeats 2000000 in
set_option maxRecDepth 100000 in
/-- Has the fault this number? -/
theorem at1_any (x y z op : Int) (b : Nat) (w : World) (hb : w.cell? ⟨b, 0, none⟩ = some (.int .i64 op)) : Calls Tryd.prog 23 #[.agg #[.int .i64 x, .int .i64 y, .int .i64 z], .pointer (some ⟨b, 0, none⟩)] w (mPost (.bool (decide (x = op))) w) := by
  have AL := Lib.hid ((Below.refl w.heap.size w).alloc (Nat.le_refl _) (.cells #[.int .i64 x, .int .i64 y, .int .i64 z] 26))
  have C2 := Lib.hid (ce13 hb AL.out)
  have R2 := Lib.hid (new13 w #[.int .i64 x, .int .i64 y, .int .i64 z] 26 rfl)
  have DE : Hid ((x == op) = decide (x = op)) := Lib.hid (by by_cases h : x = op <;> simp [h])
  clear hb
  go_enter Tryd.func23, Tryd.ntmps23
  obtain ⟨b4, e4⟩ : ∃ b, w.heap.size = b := ⟨_, rfl⟩
  obtain ⟨w4, h4⟩ : ∃ x4, w.alloc (.cells #[.int .i64 x, .int .i64 y, .int .i64 z] 26) = x4 := ⟨_, rfl⟩
  rw [h4] at AL C2 R2
  rw [e4] at R2
  obtain ⟨q0, q1, q2⟩ := row3 R2.out
  have c2 := C2.out
  have HE := Lib.hid e4
  have HW := Lib.hid h4
  clear e4 h4
  go_wp2_with (first | rw [HE.out] | rw [HW.out])
  go_ret
  exact ⟨by rw [← DE.out]; rfl, AL.out⟩
/-- The place of the first fault with a number. -/
def pla (op : Int) : List F → Nat → Int
  | [], _ => -1
  | f :: L, i => if f.pos = op then (i : Int) else pla op L (i + 1)
theorem pla_no {op : Int} : ∀ (L : List F) (i : Nat), fnd op L = none → pla op L i = -1
  | [], _, _ => rfl
  | f :: L, i, h => by
    unfold fnd at h
    rw [List.find?_cons] at h
    by_cases e : f.pos = op
    · rw [decide_eq_true e] at h; cases h
    · rw [decide_eq_false e] at h
      rw [pla, if_neg e]
      exact pla_no L (i + 1) h
/-- What IndexFunc returns. -/
def ixPost (op : Int) (L : List F) (w : World) (e : Ending) (w' : World) : Prop :=
  ∃ i : Int, e = .returned (.int .i64 i) ∧ Below w.heap.size w w' ∧ ((i = -1 ∧ fnd op L = none) ∨ ∃ k : Nat, ∃ hk : k < L.length, i = k ∧ fnd op L = some L[k])
set_option maxHeartbeats 4000000 in
set_option maxRecDepth 100000 in
theorem ixf_any (v : Value) (L : List F) (op : Int) (b : Nat) (w : World) (h : Fts w v L) (hb : w.cell? ⟨b, 0, none⟩ = some (.int .i64 op)) :
    Calls Tryd.prog 22 #[v, .func (.func 23) #[] #[.pointer (some ⟨b, 0, none⟩)]] w (ixPost op L w) := by
  have HL := Lib.hid h.len
  obtain ⟨A, cc, rfl⟩ := h.form
  have HO := Lib.hid h
  have HB := Lib.hid hb
  clear h hb
  obtain ⟨n, hn⟩ : ∃ n, L.length = n := ⟨_, rfl⟩
  have EN := Lib.hid hn
  rw [hn] at HO HL ⊢
  clear hn
  go_enter Tryd.func22, Tryd.ntmps22
  go_wp2_with fail
  go_loopw [8] (fun i wr => ∃ k : Nat, k ≤ n ∧ i = .int .i64 (k : Int) ∧ Hid (Below w.heap.size w wr ∧ fnd op (L.take k) = none)) (fun i _ => n - (intOf i).toNat)
  case atStart => exact ⟨0, Nat.zero_le _, rfl, Lib.hid ⟨Below.refl _ _, rfl⟩⟩
  case round =>
    obtain ⟨k, hk, rfl, V⟩ := hrel
    have nb := HL.out
    by_cases hlt : k < n
    · have kI : (k : Int) < (n : Int) := by omega
      obtain ⟨b0, off, hk2, rfl, hr⟩ := (HO.out.fw V.out.1).nth hlt
      have FS := Lib.hid (fnd_step (op := op) hk2 V.out.2)
      have FT := Lib.hid (fun f => fnd_take (op := op) (L := L) (k := k + 1) (f := f))
      have TB := Lib.hid V.out.1
      obtain ⟨f, hf⟩ : ∃ f, L[k] = f := ⟨_, rfl⟩
      rw [hf] at hr FS
      have HKL := Lib.hid (show ∃ hk : k < L.length, L[k] = f from ⟨hk2, hf⟩)
      obtain ⟨x, y, z⟩ := f
      have RG := Lib.hid hr
      have AC := Lib.hid (at1_any x y z op b wr (ce13 HB.out TB.out))
      clear V hr hf
      go_wp2_with (refine wpList_load_mid rfl _ _ rfl b0 (off + k * 3) rfl [.int .i64 x, .int .i64 y, .int .i64 z] _ RG.out Tryd.underlying26 rfl (by kernel_rfl) ?_)
      refine AC.out.mono ?_
      rintro e w5 ⟨rfl, hb⟩
      have T5 := Lib.hid (TB.out.trans (hb.mono TB.out.size))
      clear hb AC
      by_cases hx : x = op
      · have dx : decide (x = op) = true := decide_eq_true hx
        have FO : Hid (fnd op L = some ⟨x, y, z⟩) := Lib.hid (FT.out _ (by rw [FS.out, if_pos hx]))
        clear hx FS FT
        rw [dx]
        clear dx
        go_wp2_with fail
        go_ret
        exact ⟨(k : Int), rfl, T5.out, Or.inr (HKL.out.elim fun hk e => ⟨k, hk, rfl, by rw [e]; exact FO.out⟩)⟩
      · have dx : decide (x = op) = false := decide_eq_false hx
        have FO : Hid (fnd op (L.take (k + 1)) = none) := Lib.hid (by rw [FS.out, if_neg hx])
        clear hx FS FT
        rw [dx]
        clear dx
        go_wp2_with fail
        go_roundw
        case rel => exact ⟨k + 1, by omega, by go_num, Lib.hid ⟨T5.out, FO.out⟩⟩
        case measure => simp [intOf]; omega
    · obtain rfl : k = n := by omega
      have kI : ¬ (k : Int) < (k : Int) := by omega
      have dk : decide ((k : Int) < (k : Int)) = false := decide_eq_false kI
      have VF : Hid (fnd op L = none) := Lib.hid (by have := V.out.2; rw [List.take_of_length_le (Nat.le_of_eq EN.out)] at this; exact this)
      have TB := Lib.hid V.out.1
      clear V
      go_wp2_with fail
      go_ret
      exact ⟨-1, rfl, TB.out, Or.inl ⟨rfl, VF.out⟩⟩
end Go.Proofs.YtffdmpicjhaniaaDoor
