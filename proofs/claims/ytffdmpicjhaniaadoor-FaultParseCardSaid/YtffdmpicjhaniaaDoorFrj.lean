/- Layer 13: contracts of the program: Parse. -/
import Derived.Test.YtffdmpicjhaniaaDoorFri
import Derived.Test.YtffdmpicjhaniaaDoorChg
namespace Go.Proofs.YtffdmpicjhaniaaDoor
open Go Go.RowKit Flt
set_option linter.unusedVariables false
set_option linter.unusedSimpArgs false
theorem Owf.chg {B : Nat} {w w' : World} {v : Value} {L : List F} {o : Nat → Prop} (h : Owf B w v L) (hc : Chg o w w') (ho : ∀ k, B ≤ k → ¬ o k) : Owf B w' v L := by
  refine ⟨⟨h.1.1, ?_⟩, h.2⟩
  rcases h.1.2 with h1 | ⟨g, cap, cur, h1, h2, h3, h4⟩
  · exact Or.inl h1
  · have hg : g < w.heap.size := Row.lt (t := 26) (cs := cur) h3
    exact Or.inr ⟨g, cap, cur, h1, h2, (hc.block g hg (ho g h2)).trans h3, h4⟩
/-- What next returns: the text ahead of the mark; what follows stands in the variable. -/
def nxPost (b : Nat) (l : List UInt8) (w : World) (e : Ending) (w' : World) : Prop :=
  e = .returned (.string ⟨(Lib.cut l uSep).1.toArray⟩) ∧ Chg (fun j => j = b) w w' ∧ Row w' b 9 #[.string ⟨(Lib.cut l uSep).2.1.toArray⟩]
set_option maxHeartbeats 4000000 in
set_option maxRecDepth 100000 in
theorem pnx_any (b : Nat) (t : ByteArray) (ht : t.size < 4294967281) (w : World) (T : Tab w) (hR : Row w b 9 #[.string t]) : Calls Tryd.prog 27 #[.pointer (some ⟨b, 0, none⟩)] w (nxPost b t.data.toList w) := by
  have C1 := cut_any t ⟨#[59, 32]⟩ ht w T
  unfold cuV at C1
  unfold nxPost
  rw [show (⟨#[59, 32]⟩ : ByteArray).data.toList = uSep from rfl] at C1
  obtain ⟨p1, hp1⟩ : ∃ x, (⟨(Lib.cut t.data.toList uSep).1.toArray⟩ : ByteArray) = x := ⟨_, rfl⟩
  obtain ⟨p2, hp2⟩ : ∃ x, (⟨(Lib.cut t.data.toList uSep).2.1.toArray⟩ : ByteArray) = x := ⟨_, rfl⟩
  obtain ⟨b1, hb1⟩ : ∃ x, (Lib.cut t.data.toList uSep).2.2 = x := ⟨_, rfl⟩
  rw [hp1, hp2, hb1] at C1
  rw [hp1, hp2]
  have C1 := Lib.hid C1
  have R0 := Lib.hid hR
  have c0 : w.cell? ⟨b, 0, none⟩ = some (.string t) := by rw [hR.cell]; rfl
  clear hp1 hp2 hb1 hR T ht
  go_enter Tryd.func27, Tryd.ntmps27
  go_wp2_with fail
  refine C1.out.mono ?_
  rintro e w1 ⟨rfl, hb⟩
  have R1 := Lib.hid (rw13 R0.out hb)
  have H1 := Lib.hid (below_chg hb (fun j => j = b))
  have R2 := Lib.hid (R1.out.store 0 (.string p2))
  have H2 := Lib.hid (H1.out.setCell (p := ⟨b, 0, none⟩) rfl (.string p2))
  have c1 : w1.cell? ⟨b, 0, none⟩ = some (.string t) := by rw [R1.out.cell]; rfl
  have f1 := R1.out.frozen 0
  clear hb C1 c0
  go_wp2_with fail
  go_ret
  exact ⟨rfl, H2.out, R2.out⟩
/-- The length of the string in a cell. -/
def msz (b : Nat) (w : World) : Nat := match w.cell? ⟨b, 0, none⟩ with
  | some (.string t) => t.size
  | _ => 0
theorem msz_row {b : Nat} {w : World} {t : ByteArray} (h : Row w b 9 #[.string t]) : msz b w = t.size := by
  have : w.cell? ⟨b, 0, none⟩ = some (.string t) := by rw [h.cell]; rfl
  unfold msz; rw [this]
/-- A text that is short enough. -/
def Readable (l : List Nat) : Prop := By l ∧ l.length ≤ 100000000
set_option maxHeartbeats 4000000 in
set_option maxRecDepth 100000 in
theorem ppa_any (l : List Nat) (h : Readable l) (w : World) (T : Tab w) : Calls Tryd.prog 19 #[.string (strOf l)] w (paPost l w) := by
  have HL := Lib.hid h.1
  have LL := Lib.hid h.2
  have HT := Lib.hid T
  obtain ⟨s, hs⟩ : ∃ s, strOf l = s := ⟨_, rfl⟩
  have ES := Lib.hid hs
  have SD : Hid (s.data.toList = ub l) := Lib.hid (by rw [← hs, ub_str])
  have SZ : Hid (s.size = l.length) := Lib.hid (by rw [← hs, strOf_sz])
  rw [hs]
  clear h T hs
  obtain ⟨b4, hb4⟩ : ∃ B, w.heap.size = B := ⟨_, rfl⟩
  obtain ⟨w0, hw0⟩ : ∃ W, w.alloc (.cells #[.string s] 9) = W := ⟨_, rfl⟩
  have B0 : Hid (Below w.heap.size w w0) := Lib.hid (by subst hw0; exact (Below.refl _ _).alloc (Nat.le_refl _) _)
  have R0 : Hid (Row w0 b4 9 #[.string s]) := Lib.hid (by subst hw0; exact new13 w _ _ hb4)
  have Z0 : Hid (b4 + 1 ≤ w0.heap.size) := Lib.hid (R0.out.lt)
  have HE := Lib.hid hb4
  have HW := Lib.hid hw0
  clear hb4 hw0
  go_enter Tryd.func19, Tryd.ntmps19
  go_wp2_with fail
  rw [HW.out]
  simp only [HE.out]
  go_loopw [6] (fun lv wr => ∃ (out : List F) (t : ByteArray), Hid (Row wr b4 9 #[.string t] ∧ out ++ rds t.data.toList = rds s.data.toList ∧ out.length + t.size ≤ s.size ∧ Owf (b4 + 1) wr lv out ∧ Below w.heap.size w wr ∧ b4 + 1 ≤ wr.heap.size)) (fun _ wr => msz b4 wr)
  case atStart => exact ⟨[], s, Lib.hid ⟨R0.out, rfl, by simp, Owf.nil_ _ _, B0.out, Z0.out⟩⟩
  case round =>
    obtain ⟨out, t, V⟩ := hrel
    obtain ⟨A, cc, rfl⟩ := V.out.2.2.2.1.form
    obtain ⟨N, hN⟩ : ∃ N, out.length = N := ⟨_, rfl⟩
    have EN := Lib.hid hN
    rw [hN] at V ⊢
    clear hN
    have c0 : wr.cell? ⟨b4, 0, none⟩ = some (.string t) := by rw [V.out.1.cell]; rfl
    have TR := Lib.hid (HT.out.fw V.out.2.2.2.2.1)
    by_cases h0 : t = ⟨#[]⟩
    · subst h0
      have RD : Hid (out = rds (ub l)) := Lib.hid (by rw [← SD.out, ← V.out.2.1]; show out = out ++ rds []; rw [rds_nil, List.append_nil])
      have OF := V.out.2.2.2.1
      have TB := Lib.hid V.out.2.2.2.2.1
      have FH := Lib.hid OF.fts
      have TX := ptx_any _ out wr OF.fts (by have := V.out.2.2.1; have := LL.out; have := EN.out; have := SZ.out; omega) TR.out
      have eq : ((strOf (txt out)).toList == s.toList) = decide (txt out = l) := by
        rw [← ES.out]
        refine strOf_eq _ _ ?_ HL.out
        unfold txt
        split
        · exact text_by out
        · exact fun x hx => by cases hx
      obtain ⟨u, hu⟩ : ∃ s, strOf (txt out) = s := ⟨_, rfl⟩
      rw [hu] at TX eq
      have TXH := Lib.hid TX
      clear hu TX OF V TR
      by_cases ht : txt out = l
      · rw [decide_eq_true ht] at eq
        have PO : Hid (parse l = some out) := Lib.hid (by rw [RD.out]; exact parse_yes (by rw [← RD.out]; exact ht))
        clear ht
        go_wp2_with fail
        refine TXH.out.mono ?_
        rintro e w2 ⟨rfl, hb⟩
        have T2 := Lib.hid (TB.out.trans (hb.mono TB.out.size))
        have F2 := Lib.hid (FH.out.fw hb)
        clear hb
        go_wp2_with fail
        refine bodyPost_ret (results_two rfl _ _ _) rfl ?_
        exact ⟨_, out, 0, rfl, F2.out, Or.inl ⟨PO.out, rfl⟩, T2.out⟩
      · rw [decide_eq_false ht] at eq
        have PO : Hid (parse l = none) := Lib.hid (parse_no (by rw [← RD.out]; exact ht))
        clear ht
        go_wp2_with fail
        refine TXH.out.mono ?_
        rintro e w2 ⟨rfl, hb⟩
        have T2 := Lib.hid (TB.out.trans (hb.mono TB.out.size))
        clear hb
        go_wp2_with fail
        refine bodyPost_ret (results_two rfl _ _ _) rfl ?_
        exact ⟨_, [], 4, rfl, Fts.nil_ _, Or.inr ⟨PO.out, rfl, rfl⟩, T2.out⟩
    · have ne : t.toList.isEmpty = false := by
        rw [Bool.eq_false_iff]
        intro e
        rw [List.isEmpty_iff, ByteArray.toList_eq] at e
        exact h0 (str_eq e)
      have dne : t.data.toList ≠ [] := fun e => h0 (str_eq e)
      have tz : t.size < 4294967281 := by have := V.out.2.2.1; have := LL.out; have := SZ.out; omega
      have NX := Lib.hid (pnx_any b4 t tz wr TR.out V.out.1)
      obtain ⟨tl, htl⟩ : ∃ x, t.data.toList = x := ⟨_, rfl⟩
      have zt : tl.length = t.size := by rw [← htl]; simp
      rw [htl] at NX dne
      have RC := Lib.hid (rds_cons dne)
      have L1 := Lib.hid (cut_left tl uSep)
      have L2 := Lib.hid (cut_short dne (sep := uSep) (by decide))
      have MS := Lib.hid (msz_row V.out.1)
      have VR := V.out.2.1
      rw [htl, RC.out] at VR
      unfold nxPost at NX
      obtain ⟨p1, hp1⟩ : ∃ x, (Lib.cut tl uSep).1 = x := ⟨_, rfl⟩
      obtain ⟨p2, hp2⟩ : ∃ x, (Lib.cut tl uSep).2.1 = x := ⟨_, rfl⟩
      rw [hp1, hp2] at NX VR
      rw [hp1] at L1
      rw [hp2] at L2
      have FT := Lib.hid (rdf_fit p1)
      have RP := fun w T => pread_any ⟨p1.toArray⟩ (by rw [ba_sz]; have := L1.out; omega) w T
      rw [ba_dat] at RP
      obtain ⟨f, hf⟩ : ∃ f, rdf p1 = f := ⟨_, rfl⟩
      rw [hf] at FT RP VR
      obtain ⟨x, y, z⟩ := f
      unfold fV at RP
      obtain ⟨u1, hu1⟩ : ∃ u, (⟨p1.toArray⟩ : ByteArray) = u := ⟨_, rfl⟩
      obtain ⟨u2, hu2⟩ : ∃ u, (⟨p2.toArray⟩ : ByteArray) = u := ⟨_, rfl⟩
      have D2 := Lib.hid (show u2.data.toList = p2 ∧ u2.size = p2.length by rw [← hu2]; exact ⟨rfl, rfl⟩)
      rw [hu1, hu2] at NX
      rw [hu1] at RP
      have VRH := Lib.hid VR
      have RPH := Lib.hid RP
      have OV := Lib.hid V.out.2.2.2.1
      have TB := Lib.hid V.out.2.2.2.2.1
      have ZB := Lib.hid V.out.2.2.2.2.2
      have VL := Lib.hid V.out.2.2.1
      have LT := Lib.hid (show p2.length < t.size by rw [← zt]; exact L2.out)
      have LN := Lib.hid (show (N + 1) * 24 ≤ 140737488355328 by have := VL.out; have := LL.out; have := EN.out; have := SZ.out; have := LT.out; omega)
      clear V h0 dne tz htl zt VR hp1 hp2 hf hu1 hu2 RP TR
      go_wp2_with fail
      refine NX.out.mono ?_
      rintro e w1 ⟨rfl, hc, hr⟩
      have R1 := Lib.hid hr
      have O1 := Lib.hid (OV.out.chg hc (fun k hk e => by omega))
      have T1 := Lib.hid (TB.out.trans (hc.below (B := w.heap.size) TB.out.size (fun k e => by have := HE.out; omega)))
      have Z1 := Lib.hid (Nat.le_trans ZB.out hc.size)
      have H1 := Lib.hid (HT.out.fw T1.out)
      clear hc hr NX c0
      go_wp2_with fail
      refine (RPH.out _ H1.out).mono ?_
      rintro e w2 ⟨rfl, hb⟩
      have R2 := Lib.hid (rw13 R1.out hb)
      have O2 := Lib.hid (O1.out.fw hb)
      have T2 := Lib.hid (T1.out.trans (hb.mono T1.out.size))
      have Z2 := Lib.hid (Nat.le_trans Z1.out hb.size)
      have A3 := Lib.hid ((Below.refl w2.heap.size w2).alloc (Nat.le_refl _) (.cells #[.int .i64 x, .int .i64 y, .int .i64 z] 26))
      have R3 := Lib.hid (rw13 R2.out A3.out)
      have O3 := Lib.hid (O2.out.fw A3.out)
      have RW := Lib.hid (new13 w2 #[.int .i64 x, .int .i64 y, .int .i64 z] 26 rfl)
      have T3 := Lib.hid (T2.out.trans (A3.out.mono T2.out.size))
      have BL := Lib.hid (Nat.le_trans Z2.out A3.out.size)
      clear hb RPH
      go_wp2_with (first | (refine wpList_plain rfl fun _ hK' => wp_build_f _ rfl x y z rfl (hK' _ _ ?_)) | (at_builtin; refine wpList_plain rfl fun _ hK' => wp_push_f (B := b4 + 1) _ _ rfl _ out N _ ⟨x, y, z⟩ rfl O3.out EN.out rfl RW.out FT.out LN.out BL.out ?_; intro gg cap w3 ho hb; refine hK' _ _ ?_))
      have O4 := Lib.hid ho
      have R4 := Lib.hid (R3.out.below hb (by omega))
      have T4 := Lib.hid (T3.out.trans (hb.mono (by have := HE.out; omega)))
      have Z4 := Lib.hid (Nat.le_trans BL.out hb.size)
      clear ho hb
      go_roundw
      case rel => exact ⟨out ++ [⟨x, y, z⟩], u2, Lib.hid ⟨R4.out, by rw [D2.out.1, List.append_assoc]; exact VRH.out, by have := VL.out; have := EN.out; have := LT.out; have := D2.out.2; simp; omega, by have := EN.out; simpa [this] using O4.out, T4.out, Z4.out⟩⟩
      case measure => rw [msz_row R4.out, MS.out, D2.out.2]; exact LT.out
end Go.Proofs.YtffdmpicjhaniaaDoor
