/- Contracts: normalized of a space. WRITTEN BY gen_Ud.py. -/
import Derived.Test.YtjbgfpbidjhlkaaDoorUc
namespace Go.Proofs.YtjbgfpbidjhlkaaDoor
open Go Go.RowKit Pl
set_option linter.unusedVariables false
set_option linter.unusedSimpArgs false

theorem cell_to {w w' : World} {p : Addr} {u : Value} (h : w.cell? p = some u) (hb : Below w.heap.size w w') : w'.cell? p = some u := (hb.cell (World.block_lt_of_cell? w _ h)).trans h
/-- The first k coordinates are multiplied by i. -/
def sc (q i : Nat) (c : C3) (k : Nat) : C3 := (if 0 < k then Sf.mulF q c.1 i else c.1, if 1 < k then Sf.mulF q c.2.1 i else c.2.1, if 2 < k then Sf.mulF q c.2.2 i else c.2.2)
theorem sc_0 (q i : Nat) (c : C3) : sc q i c 0 = c := rfl
theorem sc_3 (q : Nat) (c : C3) : sc q (Sf.invF q (ld c)) c 3 = nrm q c := rfl
theorem Row.sc {w : World} {g : Nat} {t : TypeId} {q i : Nat} {c : C3} {k : Nat} (h : Row w g t (ka (sc q i c k))) (hk : k < 3) : Row (w.setCell ⟨g, k, none⟩ (.int .i64 (Sf.mulF q (g3 c k) i : Nat))) g t (ka (Proofs.YtjbgfpbidjhlkaaDoor.sc q i c (k + 1))) := by
  rcases (show k = 0 ∨ k = 1 ∨ k = 2 by omega) with rfl | rfl | rfl
  · exact h.store 0 _
  · exact h.store 1 _
  · exact h.store 2 _

set_option maxHeartbeats 4000000 in
set_option maxRecDepth 100000 in
theorem normalized_any (q S : Nat) (u : Value) (c : C3) (w : World) (hq : q ∈ szs) (h : Fs w S u q) (hc : El q c) (h0 : ld c ≠ 0) : Calls Tryd.prog 42 #[.pointer (some ⟨S, 0, none⟩), .agg (ka c)] w (bel (.agg (ka (nrm q c))) w) := by
  have QS := (szs_ok hq).1
  obtain ⟨B, hB⟩ : ∃ B, w.heap.size = B := ⟨_, rfl⟩
  obtain ⟨W, hW⟩ : ∃ W, (w.alloc (.cells (ka c) 53)).alloc (.cells #[.int .i64 0, .int .i64 0, .int .i64 0] 53) = W := ⟨_, rfl⟩
  have b1' : Below w.heap.size w W := by subst hW; exact ((Below.refl w.heap.size w).alloc (Nat.le_refl _) _).alloc (by simp) _
  have r1 : Row W B 53 (ka c) := by
    subst hW hB; exact (row_new' w _ _).go ((Below.refl _ _).alloc (Nat.le_refl _) _)
  have r3 : Row W (B + 1) 53 #[.int .i64 0, .int .i64 0, .int .i64 0] := by
    have := row_new' (w.alloc (.cells (ka c) 53)) #[.int .i64 0, .int .i64 0, .int .i64 0] 53
    rw [World.size_alloc, hB] at this
    subst hW; exact this
  have f1 := h.to b1'
  have HF0 := Lib.hid fun W' (hb : Below w.heap.size w W') => h.to hb
  have ldq : ld c < q := by unfold ld; split; exact hc.1; split; exact hc.2.1; exact hc.2.2
  have hi := (Sf.inv_ok QS ldq h0).1
  have LI := Lib.hid fun W' (h : Fs W' S u q) => inv_el q (ld c) u W' QS h.2 ldq h0
  have GL := Lib.hid fun k (hk : k < 3) => g3_lt hc hk
  have MM := Lib.hid fun W' x (h : Fs W' S u q) (hx : x < q) => mul_ok q x (Sf.invF q (ld c)) u W' QS h.2 hx hi
  have LD := Lib.hid (leading_any c)
  have KI := Lib.hid (g3_at c)
  have RS := Lib.hid fun W' k (h : Row W' B 53 (ka (sc q (Sf.invF q (ld c)) c k))) (hk : k < 3) => h.sc hk
  have A := Lib.hid r1.at3
  have RB := Lib.hid r1
  have F := Lib.hid f1
  have R := Lib.hid r3
  have HB := Lib.hid b1'
  have HE := Lib.hid hB
  have HW := Lib.hid hW
  rw [← sc_3]
  clear f1 r1 r3 b1' hB hW h hc hq QS ldq hi h0
  obtain ⟨l, hl⟩ : ∃ l, ld c = l := ⟨_, rfl⟩
  rw [hl] at LI MM LD RS ⊢
  clear hl
  obtain ⟨i, hi⟩ : ∃ i, Sf.invF q l = i := ⟨_, rfl⟩
  rw [hi] at LI MM RS ⊢
  clear hi
  have S0 := Lib.hid (sc_0 q i c)
  obtain ⟨f, hf⟩ : ∃ f, g3 c = f := ⟨_, rfl⟩
  rw [hf] at KI GL RS
  clear hf
  obtain ⟨s, hs⟩ : ∃ s, sc q i c = s := ⟨_, rfl⟩
  rw [hs] at S0 RS ⊢
  clear hs
  go_enter Tryd.func42, Tryd.ntmps42
  go_wp2_with fail
  rw [HE.out]
  rw [HW.out]
  refine wp_region_held (P := Tryd.prog) (S := (fun w' : World => Fs w' S u q ∧ At3 w' B 0 c)) rfl ?_
  change wpAnyH _ _ _ _ _ _ _ _ W.drew
  have hz2 : Below W.heap.size W W.drew := (Below.refl W.heap.size W).drew
  generalize W.drew = wz1 at hz2 ⊢
  have hq3 : Below W.heap.size W wz1 := hz2
  have A_4 := Lib.hid (At3.to A.out hq3)
  have F_5 := Lib.hid (Fs.to F.out hq3)
  have R_6 := Lib.hid (Row.go R.out hq3)
  have RB_7 := Lib.hid (Row.go RB.out hq3)
  have HB_8 : Hid (Below w.heap.size w wz1) := Lib.hid (HB.out.trans (hq3.mono HB.out.size))
  clear hq3
  clear hz2
  have hS9 : (fun w' : World => Fs w' S u q ∧ At3 w' B 0 c) wz1 := ⟨F_5.out, A_4.out⟩
  refine takeD (i := 0) (v := .pointer (some ⟨S, 0, none⟩)) (some 8) rfl rfl (by kernel_rfl) (by kernel_rfl) (by kernel_rfl) (fun _ _ _ h => h) (Or.inl ⟨by rfl, by rintro w' -; go_simp⟩) hS9 ?_
  simp only [Act.put, List.setIfInBounds_toArray, List.set_cons_zero, List.set_cons_succ]
  refine takeD (i := 1) (v := .pointer (some ⟨S, 0, none⟩)) (some 9) rfl rfl (by kernel_rfl) (by kernel_rfl) (by kernel_rfl) (fun _ _ _ h => h) (Or.inl ⟨by rfl, by rintro w' -; go_simp⟩) hS9 ?_
  simp only [Act.put, List.setIfInBounds_toArray, List.set_cons_zero, List.set_cons_succ]
  refine takeD (i := 2) (v := .pointer (some ⟨S, 0, none⟩)) (some 10) rfl rfl (by kernel_rfl) (by kernel_rfl) (by kernel_rfl) (fun _ _ _ h => h) (Or.inl ⟨by rfl, by rintro w' -; go_simp⟩) hS9 ?_
  simp only [Act.put, List.setIfInBounds_toArray, List.set_cons_zero, List.set_cons_succ]
  refine takeD (i := 3) (v := u) (some 11) rfl rfl (by kernel_rfl) (by kernel_rfl) (by kernel_rfl) (fun _ _ _ h => h) (Or.inl ⟨by rfl, by rintro w' h; have hc := h.1.1; go_simp⟩) hS9 ?_
  simp only [Act.put, List.setIfInBounds_toArray, List.set_cons_zero, List.set_cons_succ]
  refine takeD (i := 4) (v := .agg (ka c)) (some 12) rfl rfl (by kernel_rfl) (by kernel_rfl) (by kernel_rfl) (fun _ _ _ h => h) (yieldsIf_load_mid (by rfl) _ _ rfl _ _ rfl (kl c) _ (fun w' h => h.2) Tryd.underlying53 rfl (si3 c)) hS9 ?_
  simp only [Act.put, List.setIfInBounds_toArray, List.set_cons_zero, List.set_cons_succ]
  refine wpAnyH_ready (rs := [5]) (by kernel_rfl) (by simp) ?_
  refine AllReadyH.cons rfl (fun K10 hK10 => ?_) AllReadyH.nil
  have HK10 := Lib.hid hK10
  clear hK10
  rw [if_pos (by rfl)]
  go_simp
  refine (LD.out _).mono ?_
  rintro e x11 ⟨rfl, hb⟩
  have hq12 : Below wz1.heap.size wz1 x11 := hb
  have A_13 := Lib.hid (At3.to A_4.out hq12)
  have F_14 := Lib.hid (Fs.to F_5.out hq12)
  have R_15 := Lib.hid (Row.go R_6.out hq12)
  have RB_16 := Lib.hid (Row.go RB_7.out hq12)
  have HB_17 : Hid (Below w.heap.size w x11) := Lib.hid (HB_8.out.trans (hq12.mono HB_8.out.size))
  clear hq12
  clear hb
  have hS18 : (fun w' : World => Fs w' S u q ∧ At3 w' B 0 c) x11 := ⟨F_14.out, A_13.out⟩
  refine HK10.out _ _ hS18 fun _ => ?_
  try simp only [Act.put, List.setIfInBounds_toArray, List.set_cons_zero, List.set_cons_succ]
  refine wpAnyH_ready (rs := [6]) (by kernel_rfl) (by simp) ?_
  refine AllReadyH.cons rfl (fun K19 hK19 => ?_) AllReadyH.nil
  have HK19 := Lib.hid hK19
  clear hK19
  rw [if_pos (by rfl)]
  go_simp
  refine (LI.out _ F_14.out).mono ?_
  rintro e z9 ⟨rfl, hzz⟩
  obtain rfl := hzz.symm
  have hS20 : (fun w' : World => Fs w' S u q ∧ At3 w' B 0 c) x11 := ⟨F_14.out, A_13.out⟩
  refine HK19.out _ _ hS20 fun _ => ?_
  try simp only [Act.put, List.setIfInBounds_toArray, List.set_cons_zero, List.set_cons_succ]
  refine takeD (i := 7) (v := .int .i64 (i : Int)) (some 5) rfl rfl (by kernel_rfl) (by kernel_rfl) (by kernel_rfl) (fun _ _ _ h => h) (Or.inl ⟨by rfl, by rintro w' -; go_simp⟩) hS20 ?_
  simp only [Act.put, List.setIfInBounds_toArray, List.set_cons_zero, List.set_cons_succ]
  refine wpAnyH_done (by kernel_rfl) ?_ _
  have R1 : Hid (x11.rangeAt B 0 (kl c)) := Lib.hid A_13.out
  go_wp2_with (refine wpList_load_mid rfl _ _ rfl B 0 rfl (kl c) _ R1.out Tryd.underlying53 rfl (si3 c) ?_)
  obtain ⟨C, hC⟩ : ∃ C, kl c = C := ⟨_, rfl⟩
  rw [hC] at KI R1 ⊢
  clear hC
  go_loopw [6, 7, 16] (fun _ _ k wr => ∃ k' : Nat, k' ≤ 3 ∧ k = .int .i64 (k' : Int) ∧ Hid (Below w.heap.size w wr ∧ Fs wr S u q ∧ Row wr B 53 (ka (s k')) ∧ Row wr (B + 1) 53 #[.int .i64 0, .int .i64 0, .int .i64 0])) (fun _ _ k _ => 3 - (intOf k).toNat)
  case atStart => exact ⟨0, by omega, rfl, Lib.hid ⟨HB_17.out, F_14.out, by rw [S0.out]; exact RB_16.out, R_15.out⟩⟩
  case round =>
    obtain ⟨k, hk, rfl, H⟩ := hrel
    by_cases hlt : k < 3
    · have hkI : (k : Int) < 3 := by omega
      have hidx := KI.out k hlt
      have CU := H.out.2.1.1
      have MK := Lib.hid (MM.out wr (f k) H.out.2.1 (GL.out k hlt))
      have H2 := Lib.hid (RS.out wr k H.out.2.2.1 hlt)
      obtain ⟨x, hx⟩ : ∃ x, f k = x := ⟨_, rfl⟩
      rw [hx] at hidx MK H2
      obtain ⟨m, hm⟩ : ∃ m, Sf.mulF q x i = m := ⟨_, rfl⟩
      rw [hm] at MK H2
      have hcell : ∃ v, wr.cell? ⟨B, k, none⟩ = some v := ⟨_, (H.out.2.2.1.cell k).trans (Array.getElem?_eq_getElem (by show k < 3; exact hlt))⟩
      obtain ⟨v, hv⟩ := hcell
      have fz := H.out.2.2.1.frozen k
      have H3 : Hid (Below w.heap.size w (wr.setCell ⟨B, k, none⟩ (.int .i64 (m : Int))) ∧ Fs (wr.setCell ⟨B, k, none⟩ (.int .i64 (m : Int))) S u q ∧ Row (wr.setCell ⟨B, k, none⟩ (.int .i64 (m : Int))) (B + 1) 53 #[.int .i64 0, .int .i64 0, .int .i64 0]) := by
        have hb := H.out.1.setCell (p := ⟨B, k, none⟩) (Nat.le_of_eq HE.out) (.int .i64 (m : Int))
        exact Lib.hid ⟨hb, HF0.out _ hb, H.out.2.2.2.oth (by omega) k _⟩
      clear H hx hm
      go_wp2_with (first | (go_at_call 33; refine MK.out.mono ?_; rintro e w' ⟨rfl, hww⟩; obtain rfl := hww.symm))
      go_roundw
      case rel => exact ⟨k + 1, by omega, by go_num, Lib.hid ⟨H3.out.1, H3.out.2.1, H2.out, H3.out.2.2⟩⟩
      case measure => simp [intOf]; omega
    · obtain rfl : k = 3 := by omega
      have H1 : Hid (wr.rangeAt B 0 (kl (s 3))) := Lib.hid H.out.2.2.1.at3
      have TH := Lib.hid (H.out.2.2.2.thr (n := 3) (by simp))
      have R9 := Lib.hid (H.out.2.2.2.put3 rfl (s 3))
      have B9 := Lib.hid (below_set3 H.out.1 (g := B + 1) (by rw [HE.out]; omega) (s 3))
      clear H
      go_wp2_with (first | (refine wpList_load_mid rfl _ _ rfl B 0 rfl (kl (s 3)) _ H1.out Tryd.underlying53 rfl (si3 (s 3)) ?_) | (refine wpList_store_mid rfl _ _ _ rfl (B + 1) 0 (ka (s 3)) rfl rfl TH.out (si3 (s 3)) (ka_one _) ?_))
      refine bodyPost_ret (results_cell_row (g := B + 1) (t := 53) (fr := (0, 0)) rfl _ _ _ _ rfl R9.out Tryd.underlying53 rfl (si3 (s 3))) rfl ?_
      exact ⟨rfl, B9.out⟩
end Go.Proofs.YtjbgfpbidjhlkaaDoor
