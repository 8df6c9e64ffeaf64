/- Layer 13: contract of the reference: Text. -/
import Derived.Test.YtffdmpicjhaniaaDoorFh
namespace Go.Proofs.YtffdmpicjhaniaaDoor
open Go Go.RowKit Flt
set_option linter.unusedVariables false
set_option linter.unusedSimpArgs false
theorem text_le : ∀ L : List F, (∀ f ∈ L, (one f).length ≤ 48) → (text L).length ≤ L.length * 50
  | [], _ => Nat.le_refl _
  | f :: L, h => by
    have ih := text_le L fun g hg => h g (List.mem_cons_of_mem _ hg)
    have h1 := h f List.mem_cons_self
    rw [text_cons]
    split <;> simp [sep] <;> omega
theorem vld_ok {L : List F} (h : vld L = true) {k : Nat} (hk : k < L.length) : okF L[k] = true := vldP_mem L (-1) h _ (List.getElem_mem hk)
/-- The text of a list, valid or not. -/
def txt (L : List F) : List Nat := if vld L = true then text L else []
theorem text_step {L : List F} {k : Nat} (hk : k < L.length) : text (L.take (k + 1)) = text (L.take k) ++ (if k = 0 then [] else sep) ++ one L[k] := by
  rw [List.take_succ_eq_append_getElem hk, text_snoc]
  by_cases h : k = 0
  · subst h; simp
  · rw [if_neg h, if_neg]
    intro e
    have := congrArg List.length e
    rw [List.length_take, List.length_nil] at this
    omega
set_option maxHeartbeats 4000000 in
set_option maxRecDepth 100000 in
theorem rtx_any (v : Value) (L : List F) (w : World) (h : Fts w v L) (hl : L.length * 24 ≤ 140737488351232) : Calls Tryd.prog 18 #[v] w (mPost (.string (strOf (txt L))) w) := by
  have VL := Lib.hid (rvl_any v L w h)
  obtain ⟨A, cc, rfl⟩ := h.form
  have HO := Lib.hid h
  have HL := Lib.hid hl
  clear h hl
  obtain ⟨n, hn⟩ : ∃ n, L.length = n := ⟨_, rfl⟩
  have EN := Lib.hid hn
  rw [hn] at HO HL VL ⊢
  clear hn
  by_cases hv : vld L = true
  · have TX : Hid (txt L = text L) := Lib.hid (if_pos hv)
    have OKs : Hid (∀ k (hk : k < L.length), okF L[k] = true) := Lib.hid fun k hk => vld_ok hv hk
    have L48 : Hid (∀ k, (text (L.take k)).length ≤ k * 50) := Lib.hid fun k => Nat.le_trans (text_le _ fun f hf => by
      have hm := List.mem_of_mem_take hf
      have ft := HO.out.fits f hm
      exact one_le (vldP_mem L (-1) hv f hm) ft.1.2 ft.2.2.2) (by rw [List.length_take]; exact Nat.mul_le_mul_right _ (Nat.min_le_left _ _))
    rw [hv] at VL
    clear hv
    obtain ⟨OL, hOL⟩ : ∃ s, strOf (txt L) = s := ⟨_, rfl⟩
    have HOL := Lib.hid hOL
    rw [hOL]
    clear hOL
    go_enter Tryd.func18, Tryd.ntmps18
    go_wp2_with fail
    refine VL.out.mono ?_
    rintro e w1 ⟨rfl, hb⟩
    have T1 := Lib.hid hb
    clear hb VL
    go_wp2_with fail
    go_loopw [3, 4] (fun s i wr => ∃ (k : Nat) (t : ByteArray), k ≤ n ∧ s = .string t ∧ i = .int .i64 (k : Int) ∧ Hid (strOf (text (L.take k)) = t ∧ Below w.heap.size w wr)) (fun _ i _ => n - (intOf i).toNat)
    case atStart => exact ⟨0, ⟨#[]⟩, Nat.zero_le _, rfl, rfl, Lib.hid ⟨s_nil, T1.out⟩⟩
    case round =>
      obtain ⟨k, t, hk, rfl, rfl, V⟩ := hrel
      have nb := HL.out
      by_cases hlt : k < n
      · have kI : (k : Int) < (n : Int) := by omega
        obtain ⟨b, off, hk2, rfl, hr⟩ := (HO.out.fw V.out.2).nth hlt
        have TS := Lib.hid (text_step hk2)
        have ok := OKs.out k hk2
        have ft := HO.out.fits _ (List.getElem_mem hk2)
        have LK := L48.out k
        obtain ⟨f, hf⟩ : ∃ f, L[k] = f := ⟨_, rfl⟩
        rw [hf] at hr TS ok ft
        obtain ⟨x, y, z⟩ := f
        have RG := Lib.hid hr
        have O1 := Lib.hid (one_le ok ft.1.2 ft.2.2.2)
        have ON := Lib.hid fun w => ron_any x y z ok ft.1.2 ft.2.2.2 w
        have TB := Lib.hid V.out.2
        have ET := V.out.1
        obtain ⟨q, hq⟩ : ∃ l, text (L.take k) = l := ⟨_, rfl⟩
        rw [hq] at TS ET LK
        obtain ⟨u, hu⟩ : ∃ l, one ⟨x, y, z⟩ = l := ⟨_, rfl⟩
        rw [hu] at TS O1 ON
        clear V hr hf hq hu ok ft
        by_cases k0 : k = 0
        · have a2 := fun w => sx_add (P := Tryd.prog) w (a := q) (b := u) (by have := O1.out; omega)
          have d0 : decide ((0 : Int) < (k : Int)) = false := decide_eq_false (by omega)
          have kz : k = 0 := k0
          rw [ET] at a2
          obtain ⟨t2, ht2⟩ : ∃ s, strOf (q ++ u) = s := ⟨_, rfl⟩
          have E2 : Hid (strOf (text (L.take (k + 1))) = t2) := Lib.hid (by rw [TS.out, if_pos k0, List.append_nil, ht2])
          obtain ⟨t3, ht3⟩ : ∃ s, strOf u = s := ⟨_, rfl⟩
          rw [ht2, ht3] at a2
          rw [ht3] at ON
          clear ht2 ht3 k0 ET LK
          subst kz
          go_wp2_with (refine wpList_load_mid rfl _ _ rfl b (off + 0 * 3) rfl [.int .i64 x, .int .i64 y, .int .i64 z] _ RG.out Tryd.underlying26 rfl (by kernel_rfl) ?_)
          refine (ON.out _).mono ?_
          rintro e w3 ⟨rfl, hb⟩
          have T3 := Lib.hid (TB.out.trans (hb.mono TB.out.size))
          clear hb
          go_wp2_with fail
          go_roundw
          case rel => exact ⟨0 + 1, t2, by omega, rfl, by go_num, Lib.hid ⟨E2.out, T3.out⟩⟩
          case measure => simp [intOf]; omega
        · have a1 := fun w => sx_addc (P := Tryd.prog) (a := q) w s_sep (by simp [sep]; omega)
          have a2 := fun w => sx_add (P := Tryd.prog) w (a := q ++ sep) (b := u) (by have := O1.out; simp [sep]; omega)
          have d0 : decide ((0 : Int) < (k : Int)) = true := decide_eq_true (by omega)
          have kp : 0 < k := by omega
          rw [ET] at a1
          obtain ⟨t1, ht1⟩ : ∃ s, strOf (q ++ sep) = s := ⟨_, rfl⟩
          obtain ⟨t2, ht2⟩ : ∃ s, strOf (q ++ sep ++ u) = s := ⟨_, rfl⟩
          have E2 : Hid (strOf (text (L.take (k + 1))) = t2) := Lib.hid (by rw [TS.out, if_neg k0, ht2])
          obtain ⟨t3, ht3⟩ : ∃ s, strOf u = s := ⟨_, rfl⟩
          rw [ht1] at a1 a2
          rw [ht2, ht3] at a2
          rw [ht3] at ON
          clear ht1 ht2 ht3 k0 ET LK
          go_wp2_with (refine wpList_load_mid rfl _ _ rfl b (off + k * 3) rfl [.int .i64 x, .int .i64 y, .int .i64 z] _ RG.out Tryd.underlying26 rfl (by kernel_rfl) ?_)
          refine (ON.out _).mono ?_
          rintro e w3 ⟨rfl, hb⟩
          have T3 := Lib.hid (TB.out.trans (hb.mono TB.out.size))
          clear hb
          go_wp2_with fail
          go_roundw
          case rel => exact ⟨k + 1, t2, by omega, rfl, by go_num, Lib.hid ⟨E2.out, T3.out⟩⟩
          case measure => simp [intOf]; omega
      · obtain rfl : k = n := by omega
        have kI : ¬ (k : Int) < (k : Int) := by omega
        have dk : decide ((k : Int) < (k : Int)) = false := decide_eq_false kI
        have TB := Lib.hid V.out.2
        have ET : Hid (OL = t) := Lib.hid (by have := V.out.1; rw [List.take_of_length_le (Nat.le_of_eq EN.out)] at this; rw [← this, ← HOL.out, TX.out])
        clear V
        go_wp2_with fail
        go_ret
        exact ⟨by rw [ET.out]; rfl, TB.out⟩
  · have hv' : vld L = false := by simpa using hv
    have TX : Hid (strOf (txt L) = ⟨#[]⟩) := Lib.hid (by unfold txt; rw [if_neg hv]; exact s_nil)
    rw [hv'] at VL
    rw [TX.out]
    clear hv hv'
    go_enter Tryd.func18, Tryd.ntmps18
    go_wp2_with fail
    refine VL.out.mono ?_
    rintro e w1 ⟨rfl, hb⟩
    have T1 := Lib.hid hb
    clear hb VL
    go_wp2_with fail
    go_ret
    exact ⟨rfl, T1.out⟩
end Go.Proofs.YtffdmpicjhaniaaDoor
