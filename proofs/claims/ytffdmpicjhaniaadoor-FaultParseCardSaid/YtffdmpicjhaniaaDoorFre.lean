/- Layer 13: contracts of the program: At, Within. -/
import Derived.Test.YtffdmpicjhaniaaDoorFrd
namespace Go.Proofs.YtffdmpicjhaniaaDoor
open Go Go.RowKit Flt
set_option linter.unusedVariables false
set_option linter.unusedSimpArgs false
theorem fF_some {op : Int} {L : List F} {f : F} (h : fnd op L = some f) : fF (fnd op L) = f := by rw [h]; rfl
set_option maxHeartbeats 4000000 in
set_option maxRecDepth 100000 in
theorem pat_any (v : Value) (L : List F) (op : Int) (w : World) (h : Fts w v L) : Calls Tryd.prog 12 #[v, .int .i64 op] w (atPost op L w) := by
  have HL := Lib.hid h.len
  obtain ⟨A, cc, rfl⟩ := h.form
  have B1 := Lib.hid ((Below.refl w.heap.size w).alloc (Nat.le_refl _) (.cells #[.int .i64 op] 3))
  have B2 := Lib.hid (B1.out.alloc B1.out.size (.cells #[.int .i64 0, .int .i64 0, .int .i64 0] 26))
  have HO := Lib.hid (h.fw B2.out)
  have R0 := Lib.hid (new13 (w.alloc (.cells #[.int .i64 op] 3)) #[.int .i64 0, .int .i64 0, .int .i64 0] 26 (g := w.heap.size + 1) (by simp))
  have C0 : Hid (((w.alloc (.cells #[.int .i64 op] 3)).alloc (.cells #[.int .i64 0, .int .i64 0, .int .i64 0] 26)).cell? ⟨w.heap.size, 0, none⟩ = some (.int .i64 op)) :=
    Lib.hid (ce13 (w := w.alloc (.cells #[.int .i64 op] 3)) (by rw [(new13 w #[.int .i64 op] 3 rfl).cell]; rfl) ((Below.refl _ _).alloc (Nat.le_refl _) _))
  have CX := Lib.hid (ixf_any _ L op w.heap.size _ HO.out C0.out)
  clear h
  obtain ⟨n, hn⟩ : ∃ n, L.length = n := ⟨_, rfl⟩
  have EN := Lib.hid hn
  rw [hn] at HO HL CX ⊢
  clear hn C0
  go_enter Tryd.func12, Tryd.ntmps12
  go_wp2_with fail
  refine CX.out.mono ?_
  rintro e w3 ⟨i, rfl, hb, hi⟩
  have T3 := Lib.hid (B2.out.trans (hb.mono B2.out.size))
  have R3 := Lib.hid (rw13 R0.out hb)
  have O3 := Lib.hid (HO.out.fw hb)
  have E4 := Lib.hid (show w.heap.size ≤ w.heap.size + 1 by omega)
  clear hb CX HO B1 B2 R0
  obtain ⟨b4, e4⟩ : ∃ b, w.heap.size + 1 = b := ⟨_, rfl⟩
  have b4' : (w.heap.push (.cells #[.int .i64 op] 3)).size = b4 := by simpa using e4
  rw [e4] at R3 E4
  have HB4 := Lib.hid e4
  have f0 := R3.out.frozen 0
  have f1 := R3.out.frozen 1
  have f2 := R3.out.frozen 2
  obtain ⟨g0, g1, g2⟩ := row3 R3.out
  rcases hi with ⟨rfl, hf⟩ | ⟨k, hk, rfl, hf⟩
  · have FN := Lib.hid hf
    clear hf
    go_wp2_with (first | rw [HB4.out])
    refine bodyPost_ret (results_c1t1 (g := b4) (t := 26) (fr := (0, 0)) rfl _ _ _ _ (by rw [← HB4.out]; rfl) (row_set3 R3.out (x' := .int .i64 0) (y' := .int .i64 0) (z' := .int .i64 0)) Tryd.underlying26 rfl (by kernel_rfl)) rfl ?_
    refine ⟨by rw [FN.out]; rfl, ?_⟩
    exact ((T3.out.setCell (p := ⟨b4, 0, none⟩) E4.out _).setCell (p := ⟨b4, 1, none⟩) E4.out _).setCell (p := ⟨b4, 2, none⟩) E4.out _
  · have FN := Lib.hid hf
    clear hf
    have hkn : k < n := by have := EN.out; omega
    obtain ⟨b, off, hk2, rfl, hr⟩ := O3.out.nth hkn
    obtain ⟨f, hf⟩ : ∃ f, L[k] = f := ⟨_, rfl⟩
    rw [hf] at hr FN
    obtain ⟨x, y, z⟩ := f
    have RG := Lib.hid hr
    clear hr hf
    have kI : (k : Int) < (n : Int) := by omega
    have k0 : ¬ (k : Int) < 0 := by omega
    have dk : decide ((k : Int) < 0) = false := decide_eq_false k0
    have nb := HL.out
    go_wp2_with (first | rw [HB4.out] | (refine wpList_load_mid rfl _ _ rfl b (off + k * 3) rfl [.int .i64 x, .int .i64 y, .int .i64 z] _ RG.out Tryd.underlying26 rfl (by kernel_rfl) ?_))
    refine bodyPost_ret (results_c1t1 (g := b4) (t := 26) (fr := (0, 0)) rfl _ _ _ _ (by rw [← HB4.out]; rfl) (row_set3 R3.out (x' := .int .i64 x) (y' := .int .i64 y) (z' := .int .i64 z)) Tryd.underlying26 rfl (by kernel_rfl)) rfl ?_
    refine ⟨by rw [FN.out]; rfl, ?_⟩
    exact ((T3.out.setCell (p := ⟨b4, 0, none⟩) E4.out _).setCell (p := ⟨b4, 1, none⟩) E4.out _).setCell (p := ⟨b4, 2, none⟩) E4.out _
end Go.Proofs.YtffdmpicjhaniaaDoor
