/- Layer 13: contracts of the program: Text. -/
import Derived.Test.YtffdmpicjhaniaaDoorFrg
import Derived.Deep.OwnRows
namespace Go.Proofs.YtffdmpicjhaniaaDoor
open Go Go.RowKit Flt
set_option linter.unusedVariables false
set_option linter.unusedSimpArgs false
theorem info_st : (Tryd.prog.info? 9).map (fun i => (i.zero, i.size, i.bytes)) = some (some (.string ⟨#[]⟩), 1, 16) := by kernel_rfl
theorem join_one (sep a : List UInt8) : Lib.join [a] sep = a := by simp [Lib.join, List.intercalate]
theorem join_cons (sep a b : List UInt8) (l : List (List UInt8)) : Lib.join (a :: b :: l) sep = a ++ (sep ++ Lib.join (b :: l) sep) := by
  simp [Lib.join, List.intercalate]
theorem join_text : ∀ L : List F, Lib.join (L.map fun f => ub (one f)) uSep = ub (text L)
  | [] => rfl
  | [f] => join_one _ _
  | f :: g :: L => by
    have ih := join_text (g :: L)
    rw [List.map_cons, List.map_cons, join_cons, ← List.map_cons (f := fun f => ub (one f)), ih]
    show _ = ub (one f ++ sep ++ text (g :: L))
    rw [List.append_assoc, ub_app, ub_app]; rfl
/-- The texts of the first k faults, in memory. -/
def tfs (L : List F) (k j : Nat) : Value := .string (if j < k then strOf (one (L.getD j ⟨0, 0, 0⟩)) else ⟨#[]⟩)
theorem tfs_step {L : List F} {k : Nat} {f : F} (hf : L.getD k ⟨0, 0, 0⟩ = f) (j : Nat) : (if j = k then .string (strOf (one f)) else tfs L k j) = tfs L (k + 1) j := by
  unfold tfs
  by_cases e : j = k
  · subst e; rw [if_pos rfl, if_pos (by omega), hf]
  · rw [if_neg e]
    by_cases h : j < k
    · rw [if_pos h, if_pos (by omega)]
    · rw [if_neg h, if_neg (by omega)]
set_option maxHeartbeats 4000000 in
set_option maxRecDepth 100000 in
theorem ptx_any (v : Value) (L : List F) (w : World) (h : Fts w v L) (hl : L.length ≤ 1000000000) (T : Tab w) : Calls Tryd.prog 17 #[v] w (mPost (.string (strOf (txt L))) w) := by
  have VL := Lib.hid (pvl_any v L w h)
  obtain ⟨A, cc, rfl⟩ := h.form
  have HO := Lib.hid h
  have HL := Lib.hid hl
  have HT := Lib.hid T
  clear h hl T
  obtain ⟨n, hn⟩ : ∃ n, L.length = n := ⟨_, rfl⟩
  have EN := Lib.hid hn
  rw [hn] at HO HL VL ⊢
  clear hn
  by_cases hv : vld L = true
  · have TX : Hid (txt L = text L) := Lib.hid (if_pos hv)
    have OKs : Hid (∀ k (hk : k < L.length), okF L[k] = true) := Lib.hid fun k hk => vld_ok hv hk
    have L48 : Hid ((text L).length ≤ n * 50) := Lib.hid (Nat.le_trans (text_le _ fun f hm => by
      have ft := HO.out.fits f hm
      exact one_le (vldP_mem L (-1) hv f hm) ft.1.2 ft.2.2.2) (by rw [EN.out]; exact Nat.le_refl _))
    rw [hv] at VL
    clear hv
    obtain ⟨OL, hOL⟩ : ∃ s, strOf (txt L) = s := ⟨_, rfl⟩
    have HOL := Lib.hid hOL
    rw [hOL]
    clear hOL
    have hmk := run_make_row' (P := Tryd.prog) 41 9 _ _ Tryd.underlying41 info_st rfl .i64 .i64 n (by have := HL.out; omega) (by have := HL.out; omega)
    go_enter Tryd.func17, Tryd.ntmps17
    go_wp2_with fail
    refine VL.out.mono ?_
    rintro e w1 ⟨rfl, hb⟩
    have T1 := Lib.hid hb
    have H1 := Lib.hid (HT.out.fw hb)
    clear hb VL
    have Q2 := Lib.hid (World.rowIs_made w1 (.string ⟨#[]⟩) n 9)
    have A2 := Lib.hid ((Below.refl w1.heap.size w1).alloc (Nat.le_refl _) (.cells (madeCells #[.string ⟨#[]⟩] n) 9))
    have BT := Lib.hid T1.out.size
    obtain ⟨bT, hbT⟩ : ∃ b, w1.heap.size = b := ⟨_, rfl⟩
    obtain ⟨w2, hw2⟩ : ∃ x, w1.alloc (.cells (madeCells #[.string ⟨#[]⟩] n) 9) = x := ⟨_, rfl⟩
    rw [hw2] at Q2 A2
    rw [hbT] at Q2 BT
    have HB := Lib.hid hbT
    have HW := Lib.hid hw2
    have T2 := Lib.hid (T1.out.trans (A2.out.mono T1.out.size))
    have O2 := Lib.hid (HO.out.fw T2.out)
    have H2 := Lib.hid (H1.out.fw A2.out)
    clear hbT hw2
    go_wp2_with (first | rw [HB.out] | rw [HW.out])
    clear hmk
    go_loopw [14] (fun i wr => ∃ (k : Nat), k ≤ n ∧ i = .int .i64 (k : Int) ∧ Hid (wr.rowIs bT 9 n (tfs L k) ∧ Below w.heap.size w wr)) (fun i _ => n - (intOf i).toNat)
    case atStart => exact ⟨0, Nat.zero_le _, rfl, Lib.hid ⟨Q2.out.congr fun j _ => rfl, T2.out⟩⟩
    case round =>
      obtain ⟨k, hk, rfl, V⟩ := hrel
      have nb := HL.out
      by_cases hlt : k < n
      · have kI : (k : Int) < (n : Int) := by omega
        obtain ⟨b, off, hk2, rfl, hr⟩ := (HO.out.fw V.out.2).nth hlt
        have ok := OKs.out k hk2
        have ft := HO.out.fits _ (List.getElem_mem hk2)
        have hd : L.getD k ⟨0, 0, 0⟩ = L[k] := by rw [List.getD_eq_getElem?_getD, List.getElem?_eq_getElem hk2]; rfl
        obtain ⟨f, hf⟩ : ∃ f, L[k] = f := ⟨_, rfl⟩
        rw [hf] at hr ok ft hd
        obtain ⟨x, y, z⟩ := f
        have RG := Lib.hid hr
        have HD := Lib.hid hd
        have TB := Lib.hid V.out.2
        have RQ := Lib.hid V.out.1
        have AL := Lib.hid ((Below.refl wr.heap.size wr).alloc (Nat.le_refl _) (.cells #[.int .i64 x, .int .i64 y, .int .i64 z] 26))
        have RF := Lib.hid (row_rng (new13 wr #[.int .i64 x, .int .i64 y, .int .i64 z] 26 rfl))
        have TA := Lib.hid (TB.out.trans (AL.out.mono TB.out.size))
        have ON := Lib.hid (pon_any x y z ok ft.1.2 ft.2.2.2 _ (HT.out.fw TA.out))
        clear V hr hf ok ft hd
        go_wp2_with (first | (refine wpList_load_mid rfl _ _ rfl b (off + k * 3) rfl [.int .i64 x, .int .i64 y, .int .i64 z] _ RG.out Tryd.underlying26 rfl (by kernel_rfl) ?_) | (refine wpList_load_mid rfl _ _ rfl wr.heap.size 0 rfl [.int .i64 x, .int .i64 y, .int .i64 z] _ RF.out Tryd.underlying26 rfl (by kernel_rfl) ?_))
        refine ON.out.mono ?_
        rintro e w3 ⟨rfl, hb⟩
        have A3 := Lib.hid (AL.out.trans (hb.mono AL.out.size))
        have T3 := Lib.hid (TB.out.trans (A3.out.mono TB.out.size))
        have R3 := Lib.hid (RQ.out.of_block (A3.out.block bT RQ.out.lt))
        have S3 := Lib.hid (R3.out.set k (.string (strOf (one ⟨x, y, z⟩))))
        have S4 := Lib.hid (S3.out.congr fun j _ => tfs_step HD.out j)
        have T4 := Lib.hid (T3.out.setCell (p := ⟨bT, k, none⟩) BT.out (.string (strOf (one ⟨x, y, z⟩))))
        have c3 := R3.out.cell hlt
        have f3 := R3.out.frozen k
        obtain ⟨t, ht⟩ : ∃ t, strOf (one ⟨x, y, z⟩) = t := ⟨_, rfl⟩
        rw [ht] at S4 T4
        rw [ht]
        clear hb ON S3 ht
        go_wp2_with fail
        go_roundw
        case rel => exact ⟨k + 1, by omega, by go_num, Lib.hid ⟨S4.out, T4.out⟩⟩
        case measure => simp [intOf]; omega
      · obtain rfl : k = n := by omega
        have kI : ¬ (k : Int) < (k : Int) := by omega
        have dk : decide ((k : Int) < (k : Int)) = false := decide_eq_false kI
        have TB := Lib.hid V.out.2
        have RQ := Lib.hid V.out.1
        have JN : Hid (Calls Tryd.prog 25 #[.slice (some ⟨bT, 0, none⟩) k k, .string ⟨#[59, 32]⟩] wr (mPost (.string OL) wr)) := Lib.hid (by
          by_cases k0 : k = 0
          · subst k0
            refine (Tryd.strings_Join_none _ 0 _ wr).mono ?_
            rintro e w' ⟨rfl, rfl⟩
            obtain rfl : L = [] := List.length_eq_zero_iff.1 EN.out
            exact ⟨by rw [← HOL.out, TX.out]; exact congrArg _ (congrArg _ s_nil.symm), Below.refl _ _⟩
          · have J := Tryd.strings_Join bT 0 k (L.map fun f => strOf (one f)) ⟨#[59, 32]⟩ wr (fun j x hx => by
              rw [Nat.zero_add]
              obtain ⟨f, hf, rfl⟩ := (by simpa using hx : ∃ f, L[j]? = some f ∧ strOf (one f) = x)
              have hj : j < k := by have := (List.getElem?_eq_some_iff.1 hf).1; have := EN.out; omega
              rw [RQ.out.cell hj]
              unfold tfs
              rw [if_pos hj, List.getD_eq_getElem?_getD, hf]; rfl) RQ.out.lt (by rw [List.length_map, EN.out]; have := HL.out; omega) (by rw [List.length_map, EN.out]; exact Nat.le_refl _)
            have e1 : Lib.join ((L.map fun f => strOf (one f)).map fun x => x.data.toList) (⟨#[59, 32]⟩ : ByteArray).data.toList = ub (text L) := by
              rw [← join_text L, List.map_map]
              congr 1
              exact List.map_congr_left fun f _ => ub_str _
            rw [e1, List.length_map, EN.out, ub_len] at J
            refine (J (by have := L48.out; have := HL.out; omega)).mono ?_
            rintro e w' ⟨rfl, hb⟩
            exact ⟨by rw [str_ub, ← HOL.out, TX.out], hb⟩)
        clear V
        go_wp2_with fail
        refine JN.out.mono ?_
        rintro e w5 ⟨rfl, hb⟩
        have T5 := Lib.hid (TB.out.trans (hb.mono TB.out.size))
        clear hb JN
        go_wp2_with fail
        go_ret
        exact ⟨rfl, T5.out⟩
  · have hv' : vld L = false := by simpa using hv
    have TX : Hid (strOf (txt L) = ⟨#[]⟩) := Lib.hid (by unfold txt; rw [if_neg hv]; exact s_nil)
    rw [hv'] at VL
    rw [TX.out]
    clear hv hv'
    go_enter Tryd.func17, Tryd.ntmps17
    go_wp2_with fail
    refine VL.out.mono ?_
    rintro e w1 ⟨rfl, hb⟩
    have T1 := Lib.hid hb
    clear hb VL
    go_wp2_with fail
    go_ret
    exact ⟨rfl, T1.out⟩
end Go.Proofs.YtffdmpicjhaniaaDoor
