/- Layer 13: contracts of the program: Within. -/
import Derived.Test.YtffdmpicjhaniaaDoorFre
namespace Go.Proofs.YtffdmpicjhaniaaDoor
open Go Go.RowKit Flt
set_option linter.unusedVariables false
set_option linter.unusedSimpArgs false
theorem row_rng {w : World} {b : Nat} {t : TypeId} {x y z : Int} (h : Row w b t #[.int .i64 x, .int .i64 y, .int .i64 z]) : w.rangeAt b 0 [.int .i64 x, .int .i64 y, .int .i64 z] := by
  intro j v hv
  rw [Nat.zero_add, h.cell]
  simpa using hv
set_option maxHeartbeats 4000000 in
set_option maxRecDepth 100000 in
theorem pwi_any (v : Value) (L : List F) (lo hi : Int) (w : World) (h : Fts w v L) (hl : L.length * 24 ≤ 140737488351232) : Calls Tryd.prog 15 #[v, .int .i64 lo, .int .i64 hi] w (wiPost lo hi L w) := by
  obtain ⟨A, cc, rfl⟩ := h.form
  have HO := Lib.hid h
  have HL := Lib.hid hl
  clear h hl
  obtain ⟨n, hn⟩ : ∃ n, L.length = n := ⟨_, rfl⟩
  have EN := Lib.hid hn
  rw [hn] at HO HL ⊢
  clear hn
  go_enter Tryd.func15, Tryd.ntmps15
  go_wp2_with fail
  go_loopw [7, 12] (fun o i wr => ∃ (k : Nat), k ≤ n ∧ i = .int .i64 (k : Int) ∧ Hid (Owf w.heap.size wr o (wit lo hi (L.take k)) ∧ Below w.heap.size w wr)) (fun _ i _ => n - (intOf i).toNat)
  case atStart => exact ⟨0, Nat.zero_le _, rfl, Lib.hid ⟨Owf.nil_ _ _, Below.refl _ _⟩⟩
  case round =>
    obtain ⟨k, hk, rfl, V⟩ := hrel
    have nb := HL.out
    by_cases hlt : k < n
    · have kI : (k : Int) < (n : Int) := by omega
      obtain ⟨b, off, hk2, rfl, hr⟩ := (HO.out.fw V.out.2).nth hlt
      have WS := Lib.hid (wit_step (a := lo) (b := hi) hk2)
      have FT := Lib.hid (show fits [L[k]] from fun f hf => (List.mem_singleton.1 hf) ▸ HO.out.fits _ (List.getElem_mem hk2))
      have LN := Lib.hid (show ((wit lo hi (L.take k)).length + 1) * 24 ≤ 140737488355328 from by have := wit_len lo hi (L.take k); rw [List.length_take] at this; omega)
      obtain ⟨f, hf⟩ : ∃ f, L[k] = f := ⟨_, rfl⟩
      rw [hf] at hr WS FT
      obtain ⟨x, y, z⟩ := f
      have RG := Lib.hid hr
      have TB := Lib.hid V.out.2
      have OV := Lib.hid V.out.1
      obtain ⟨A2, c2, rfl⟩ := V.out.1.form
      generalize wit lo hi (L.take k) = W at WS OV LN
      obtain ⟨N, hN⟩ : ∃ N, W.length = N := ⟨_, rfl⟩
      have EW := Lib.hid hN
      rw [hN] at OV LN ⊢
      clear V hr hf hN
      have AL := Lib.hid ((Below.refl wr.heap.size wr).alloc (Nat.le_refl _) (.cells #[.int .i64 x, .int .i64 y, .int .i64 z] 26))
      have RF := Lib.hid (new13 wr #[.int .i64 x, .int .i64 y, .int .i64 z] 26 rfl)
      have OA := Lib.hid (OV.out.fw AL.out)
      have TA := Lib.hid (TB.out.trans (AL.out.mono TB.out.size))
      by_cases g1 : lo ≤ x
      · by_cases g2 : x < hi
        · have WE := Lib.hid (WS.out.trans (by rw [if_pos (by simp [g1, g2])]))
          have RR := Lib.hid (row_rng RF.out)
          have AL2 := Lib.hid ((Below.refl (wr.alloc (.cells #[.int .i64 x, .int .i64 y, .int .i64 z] 26)).heap.size _).alloc (Nat.le_refl _) (.cells #[.int .i64 x, .int .i64 y, .int .i64 z] 26))
          have RW := Lib.hid (new13 (wr.alloc (.cells #[.int .i64 x, .int .i64 y, .int .i64 z] 26)) #[.int .i64 x, .int .i64 y, .int .i64 z] 26 rfl)
          have O2 := Lib.hid (OA.out.fw AL2.out)
          have T2 := Lib.hid (TA.out.trans (AL2.out.mono TA.out.size))
          have BL := Lib.hid T2.out.size
          go_wp2_with (first | (refine wpList_load_mid rfl _ _ rfl b (off + k * 3) rfl [.int .i64 x, .int .i64 y, .int .i64 z] _ RG.out Tryd.underlying26 rfl (by kernel_rfl) ?_) | (refine wpList_load_mid rfl _ _ rfl wr.heap.size 0 rfl [.int .i64 x, .int .i64 y, .int .i64 z] _ RR.out Tryd.underlying26 rfl (by kernel_rfl) ?_) | (refine wpList_plain rfl fun _ hK' => wp_build_f _ rfl x y z rfl (hK' _ _ ?_)) | (at_builtin; refine wpList_plain rfl fun _ hK' => wp_push_f (B := w.heap.size) _ _ rfl _ W N _ ⟨x, y, z⟩ rfl O2.out EW.out rfl RW.out FT.out LN.out BL.out ?_; intro gg cap w3 ho hb; refine hK' _ _ ?_))
          have O3 := Lib.hid ho
          have T3 := Lib.hid (T2.out.trans hb)
          clear ho hb
          go_roundw
          case rel => exact ⟨k + 1, by omega, by go_num, Lib.hid ⟨by rw [WE.out]; exact O3.out, T3.out⟩⟩
          case measure => simp [intOf]; omega
        · have WE := Lib.hid (WS.out.trans (by rw [if_neg (by simp [g2])]))
          have d2 : decide (x < hi) = false := decide_eq_false g2
          go_wp2_with (refine wpList_load_mid rfl _ _ rfl b (off + k * 3) rfl [.int .i64 x, .int .i64 y, .int .i64 z] _ RG.out Tryd.underlying26 rfl (by kernel_rfl) ?_)
          go_roundw
          case rel => exact ⟨k + 1, by omega, by go_num, Lib.hid ⟨by rw [WE.out, List.append_nil]; exact OA.out, TA.out⟩⟩
          case measure => simp [intOf]; omega
      · have WE := Lib.hid (WS.out.trans (by rw [if_neg (by simp [g1])]))
        have d2 : decide (lo ≤ x) = false := decide_eq_false g1
        go_wp2_with (refine wpList_load_mid rfl _ _ rfl b (off + k * 3) rfl [.int .i64 x, .int .i64 y, .int .i64 z] _ RG.out Tryd.underlying26 rfl (by kernel_rfl) ?_)
        go_roundw
        case rel => exact ⟨k + 1, by omega, by go_num, Lib.hid ⟨by rw [WE.out, List.append_nil]; exact OA.out, TA.out⟩⟩
        case measure => simp [intOf]; omega
    · obtain rfl : k = n := by omega
      have kI : ¬ (k : Int) < (k : Int) := by omega
      have dk : decide ((k : Int) < (k : Int)) = false := decide_eq_false kI
      have OV := Lib.hid V.out
      rw [List.take_of_length_le (Nat.le_of_eq EN.out)] at OV
      clear V
      go_wp2_with fail
      go_ret
      exact ⟨_, rfl, OV.out⟩
end Go.Proofs.YtffdmpicjhaniaaDoor
