/- Layer 13: contract of the reference: Parse (the walk). -/
import Derived.Test.YtffdmpicjhaniaaDoorFk
namespace Go.Proofs.YtffdmpicjhaniaaDoor
open Go Go.RowKit Flt
set_option linter.unusedVariables false
set_option linter.unusedSimpArgs false
theorem rdV_some {l : List Nat} {f : F} {r : List Nat} (h : rd1 l = some (f, r)) : rdV l = .tuple #[fV f, .string (strOf r), .bool true] := by unfold rdV; rw [h]
theorem rdV_none {l : List Nat} (h : rd1 l = none) : rdV l = .tuple #[fV ⟨0, 0, 0⟩, .string (strOf l), .bool false] := by unfold rdV; rw [h]
set_option maxHeartbeats 4000000 in
set_option maxRecDepth 100000 in
theorem rpa_any (l : List Nat) (hl : By l) (ll : l.length ≤ 1000) (w : World) : Calls Tryd.prog 20 #[.string (strOf l)] w (paPost l w) := by
  have HL := Lib.hid hl
  have LL := Lib.hid ll
  obtain ⟨s, hs⟩ : ∃ s, strOf l = s := ⟨_, rfl⟩
  have ES := Lib.hid hs
  rw [hs]
  clear hl ll hs
  go_enter Tryd.func20, Tryd.ntmps20
  go_wp2_with fail
  go_loopw [4, 5, 6, 7, 8] (fun ov rv _ _ _ wr => ∃ (out : List F) (r : List Nat) (t : ByteArray), rv = .string t ∧ Hid (strOf r = t ∧ By r ∧ out.length + r.length ≤ l.length ∧ (rda r).map (out ++ ·) = rda l ∧ Owf w.heap.size wr ov out ∧ Below w.heap.size w wr)) (fun _ rv _ _ _ _ => (match rv with | .string s => s.size | _ => 0))
  case atStart => exact ⟨[], l, s, rfl, Lib.hid ⟨ES.out, HL.out, by simp, by cases rda l <;> simp, Owf.nil_ _ _, Below.refl _ _⟩⟩
  case round =>
    obtain ⟨out, r, t, rfl, V⟩ := hrel
    obtain ⟨A, cc, rfl⟩ := V.out.2.2.2.2.1.form
    have zt : t.size = r.length := by rw [← V.out.1, strOf_sz]
    obtain ⟨N, hN⟩ : ∃ N, out.length = N := ⟨_, rfl⟩
    have EN := Lib.hid hN
    rw [hN] at V ⊢
    clear hN
    by_cases h0 : r = []
    · subst h0
      have z0 : t.size = 0 := zt
      have RD : Hid (rda l = some out) := Lib.hid (by rw [← V.out.2.2.2.1, rda_nil]; simp)
      have OF := V.out.2.2.2.2.1
      have FT := OF.fts
      have LN : out.length * 24 ≤ 140737488351232 := by have := V.out.2.2.1; have := LL.out; have := EN.out; omega
      have TB := Lib.hid V.out.2.2.2.2.2
      have VL := Lib.hid (rvl_any _ out wr FT)
      have FH := Lib.hid FT
      have LNH := Lib.hid LN
      clear V zt OF FT LN
      by_cases hv : vld out = true
      · rw [hv] at VL
        have HV := Lib.hid hv
        clear hv
        go_wp2_with fail
        refine VL.out.mono ?_
        rintro e w1 ⟨rfl, hb⟩
        have T1 := Lib.hid (TB.out.trans (hb.mono TB.out.size))
        have F1 := Lib.hid (FH.out.fw hb)
        have TX := rtx_any _ out w1 F1.out LNH.out
        rw [show txt out = text out from if_pos HV.out] at TX
        have eq : ((strOf (text out)).toList == s.toList) = decide (text out = l) := by rw [← ES.out]; exact strOf_eq _ _ (text_by out) HL.out
        obtain ⟨u, hu⟩ : ∃ s, strOf (text out) = s := ⟨_, rfl⟩
        rw [hu] at TX eq
        have TXH := Lib.hid TX
        clear hb hu TX VL
        by_cases ht : text out = l
        · rw [decide_eq_true ht] at eq
          have PO : Hid (parse l = some out) := Lib.hid (by rw [parse_rda, RD.out]; exact if_pos ⟨HV.out, ht⟩)
          clear ht
          go_wp2_with fail
          refine TXH.out.mono ?_
          rintro e w2 ⟨rfl, hb⟩
          have T2 := Lib.hid (T1.out.trans (hb.mono T1.out.size))
          have F2 := Lib.hid (F1.out.fw hb)
          clear hb
          go_wp2_with fail
          refine bodyPost_ret (results_two rfl _ _ _) rfl ?_
          exact ⟨_, out, 0, rfl, F2.out, Or.inl ⟨PO.out, rfl⟩, T2.out⟩
        · rw [decide_eq_false ht] at eq
          have PO : Hid (parse l = none) := Lib.hid (by rw [parse_rda, RD.out]; exact if_neg fun h => ht h.2)
          clear ht
          go_wp2_with fail
          refine TXH.out.mono ?_
          rintro e w2 ⟨rfl, hb⟩
          have T2 := Lib.hid (T1.out.trans (hb.mono T1.out.size))
          clear hb
          go_wp2_with fail
          refine bodyPost_ret (results_two rfl _ _ _) rfl ?_
          exact ⟨_, [], 4, rfl, Fts.nil_ _, Or.inr ⟨PO.out, rfl, rfl⟩, T2.out⟩
      · have hv' : vld out = false := (Bool.not_eq_true _).mp hv
        rw [hv'] at VL
        have PO : Hid (parse l = none) := Lib.hid (by rw [parse_rda, RD.out]; exact if_neg fun h => hv h.1)
        clear hv hv'
        go_wp2_with fail
        refine VL.out.mono ?_
        rintro e w1 ⟨rfl, hb⟩
        have T1 := Lib.hid (TB.out.trans (hb.mono TB.out.size))
        clear hb
        go_wp2_with fail
        refine bodyPost_ret (results_two rfl _ _ _) rfl ?_
        exact ⟨_, [], 4, rfl, Fts.nil_ _, Or.inr ⟨PO.out, rfl, rfl⟩, T1.out⟩
    · have zp : (0 : Int) < (t.size : Int) := by rw [zt]; have := List.length_pos_iff.2 h0; omega
      have RE := rread_any r V.out.2.1 (by have := V.out.2.2.1; have := LL.out; omega) wr
      rw [V.out.1] at RE
      rcases h1 : rd1 r with _ | ⟨⟨x, y, z⟩, r1⟩
      · rw [rdV_none h1, V.out.1] at RE
        have RD : Hid (rda l = none) := Lib.hid (by rw [← V.out.2.2.2.1, rda_none h0 h1]; rfl)
        have TB := Lib.hid V.out.2.2.2.2.2
        have REH := Lib.hid RE
        clear V h0 h1 RE zt
        unfold fV at REH
        go_wp2_with fail
        refine REH.out.mono ?_
        rintro e w1 ⟨rfl, hb⟩
        have T1 := Lib.hid (TB.out.trans (hb.mono TB.out.size))
        clear hb REH
        go_wp2_with fail
        refine bodyPost_ret (results_two rfl _ _ _) rfl ?_
        exact pa_none RD.out (T1.out.alloc T1.out.size _)
      · rw [rdV_some h1] at RE
        have FT := Lib.hid (rd1_fit h1)
        have BR := Lib.hid (rd1_by V.out.2.1 h1)
        have L1 := Lib.hid (rd1_len h1)
        have H1 := Lib.hid h1
        have H0 := Lib.hid h0
        obtain ⟨t1, ht1⟩ : ∃ s, strOf r1 = s := ⟨_, rfl⟩
        have ET1 := Lib.hid ht1
        rw [show (((⟨x, y, z⟩ : F), r1) : F × List Nat).2 = r1 from rfl] at BR L1
        have RE2 := RE
        rw [ht1] at RE2
        have REH := Lib.hid RE2
        have TB := Lib.hid V.out.2.2.2.2.2
        have OV := Lib.hid V.out.2.2.2.2.1
        have LV := Lib.hid V.out.2.2.1
        have MV := Lib.hid V.out.2.2.2.1
        clear V h0 h1 RE RE2 ht1
        unfold fV at REH
        go_wp2_with fail
        refine REH.out.mono ?_
        rintro e w1 ⟨rfl, hb⟩
        have T1 := Lib.hid (TB.out.trans (hb.mono TB.out.size))
        have A1 := Lib.hid ((Below.refl w1.heap.size w1).alloc (Nat.le_refl _) (.cells #[.int .i64 x, .int .i64 y, .int .i64 z] 26))
        have A2 := Lib.hid ((Below.refl (w1.alloc (.cells #[.int .i64 x, .int .i64 y, .int .i64 z] 26)).heap.size _).alloc (Nat.le_refl _) (.cells #[.int .i64 x, .int .i64 y, .int .i64 z] 26))
        have A12 := Lib.hid (A1.out.trans (A2.out.mono A1.out.size))
        have O2 := Lib.hid ((OV.out.fw hb).fw A12.out)
        have RW := Lib.hid (new13 (w1.alloc (.cells #[.int .i64 x, .int .i64 y, .int .i64 z] 26)) #[.int .i64 x, .int .i64 y, .int .i64 z] 26 rfl)
        have BL := Lib.hid (Nat.le_trans T1.out.size A12.out.size)
        have NLn := Lib.hid (show (N + 1) * 24 ≤ 140737488355328 by have := LV.out; have := LL.out; have := EN.out; omega)
        clear hb REH
        go_wp2_with (first | (refine wpList_plain rfl fun _ hK' => wp_build_f _ rfl x y z rfl (hK' _ _ ?_)) | (at_builtin; refine wpList_plain rfl fun _ hK' => wp_push_f (B := w.heap.size) _ _ rfl _ out N _ ⟨x, y, z⟩ rfl O2.out EN.out rfl RW.out FT.out NLn.out BL.out ?_; intro gg cap w3 ho hb; refine hK' _ _ ?_))
        have O3 := Lib.hid ho
        have T3 := Lib.hid ((T1.out.trans (A12.out.mono T1.out.size)).trans hb)
        clear ho hb A1 A2 A12 O2 RW BL
        have BG := rbg_any r1 sep BR.out (by decide) (by have := L1.out; have := LV.out; have := LL.out; omega) (by decide) w3
        rw [ET1.out, s_sep] at BG
        by_cases hp : sep.isPrefixOf r1 = true
        · rw [hp] at BG
          have BGH := Lib.hid BG
          have AF := after_some hp
          have le2 : 2 ≤ r1.length := by have := after_len AF; simp [sep] at this; omega
          have sf : ∀ w, (Instr.slice 9 (.string t1) (some (.int .i64 2)) none none).run Tryd.prog w = .ok (.string (strOf (r1.drop 2))) w := fun w => by
            rw [← ET1.out]; exact sx_from (P := Tryd.prog) Tryd.underlying9 w (l := r1) (k := 2) le2
          obtain ⟨r2, hr2⟩ : ∃ r, r1.drop 2 = r := ⟨_, rfl⟩
          have AF2 : after sep r1 = some r2 := by rw [AF, ← hr2]; rfl
          rw [hr2] at sf
          obtain ⟨t2, ht2⟩ : ∃ s, strOf r2 = s := ⟨_, rfl⟩
          rw [ht2] at sf
          have REL := Lib.hid (show strOf r2 = t2 ∧ By r2 ∧ (out ++ [(⟨x, y, z⟩ : F)]).length + r2.length ≤ l.length ∧ (rda r2).map ((out ++ [(⟨x, y, z⟩ : F)]) ++ ·) = rda l from ⟨ht2, after_by BR.out AF2, by have := after_len AF2; have := L1.out; have := LV.out; have := EN.out; simp [sep] at *; omega, by
            rw [← MV.out, rda_sep H0.out H1.out AF2, Option.map_map]
            congr 1
            funext q
            simp⟩)
          have MS := Lib.hid (show t2.size < t.size by rw [zt, ← ht2, strOf_sz]; have := after_len AF2; have := L1.out; simp [sep] at *; omega)
          clear BG hp AF le2 hr2 ht2 AF2
          go_wp2_with fail
          refine BGH.out.mono ?_
          rintro e w' ⟨rfl, rfl⟩
          go_wp2_with fail
          go_roundw
          case rel => exact ⟨out ++ [⟨x, y, z⟩], r2, t2, rfl, Lib.hid ⟨REL.out.1, REL.out.2.1, REL.out.2.2.1, REL.out.2.2.2, O3.out, T3.out⟩⟩
          case measure => exact MS.out
        · have hp' : sep.isPrefixOf r1 = false := (Bool.not_eq_true _).mp hp
          rw [hp'] at BG
          have BGH := Lib.hid BG
          have RE := rda_end H0.out H1.out (after_none hp')
          have z1 : t1.size = r1.length := by rw [← ET1.out, strOf_sz]
          by_cases h2 : r1 = []
          · subst h2
            have z10 : t1.size = 0 := z1
            have MS := Lib.hid (show t1.size < t.size by rw [z10]; omega)
            have REL := Lib.hid (show (out ++ [(⟨x, y, z⟩ : F)]).length + ([] : List Nat).length ≤ l.length ∧ (rda []).map ((out ++ [(⟨x, y, z⟩ : F)]) ++ ·) = rda l from ⟨by have := L1.out; have := LV.out; have := EN.out; simp at *; omega, by
              rw [← MV.out, RE, rda_nil]; simp⟩)
            clear BG hp hp' RE z1
            go_wp2_with fail
            refine BGH.out.mono ?_
            rintro e w' ⟨rfl, rfl⟩
            go_wp2_with fail
            go_roundw
            case rel => exact ⟨out ++ [⟨x, y, z⟩], [], t1, rfl, Lib.hid ⟨ET1.out, BR.out, REL.out.1, REL.out.2, O3.out, T3.out⟩⟩
            case measure => exact MS.out
          · have zp1 : (0 : Int) < (t1.size : Int) := by rw [z1]; have := List.length_pos_iff.2 h2; omega
            have RD : Hid (rda l = none) := Lib.hid (by rw [← MV.out, RE, if_neg h2]; rfl)
            clear BG hp hp' RE z1 h2
            go_wp2_with fail
            refine BGH.out.mono ?_
            rintro e w' ⟨rfl, rfl⟩
            go_wp2_with fail
            refine bodyPost_ret (results_two rfl _ _ _) rfl ?_
            exact pa_none RD.out T3.out
end Go.Proofs.YtffdmpicjhaniaaDoor
