/- Layer 9: the walk of CodecRoundTrip. WRITTEN BY gen_Jc.py. -/
import Derived.Test.YtajeboigkpelgaaJb
import Derived.Test.YtajeboigkpelgaaIx
namespace Go.Proofs.Ytajeboigkpelgaa
open Go Go.RowKit
set_option linter.unusedVariables false
set_option linter.unusedSimpArgs false
theorem rg_to {w w' : World} {b o : Nat} {l : List Value} (h : w.rangeAt b o l) (hb : Below w.heap.size w w') : w'.rangeAt b o l := fun j v hv => by
  have := h j v hv
  exact (hb.cell (World.block_lt_of_cell? w _ this)).trans this
/-- What stands at a place that holds a value. -/
theorem Va.parts {w : World} {b o : Nat} {y : VL} (h : Va w b o y) : ∃ A c, w.cell? ⟨b, o, none⟩ = some (.int .u64 (y.n : Int)) ∧ w.cell? ⟨b, o + 1, none⟩ = some (.int .i64 y.x) ∧ w.cell? ⟨b, o + 2, none⟩ = some (.slice A y.l.length c) ∧ Bs w (.slice A y.l.length c) y.l ∧ w.rangeAt b (o + 3) (y.k.map bv) ∧ y.ok := by
  obtain ⟨h1, s, h2, h3⟩ := h
  obtain ⟨A, c, rfl⟩ := h2.form
  refine ⟨A, c, h3 0 _ rfl, h3 1 _ rfl, h3 2 _ rfl, h2, fun j v hv => ?_, h1⟩
  have := h3 (3 + j) v (by show (Value.int .u64 (y.n : Int) :: Value.int .i64 y.x :: Value.slice A y.l.length c :: y.k.map bv)[3 + j]? = some v; rw [Nat.add_comm]; exact hv)
  rw [Nat.add_assoc]; exact this
theorem Vs.at_ {w : World} {A : Option Addr} {n c : Nat} {V : Nat → VL} (h : Vs w (.slice A n c) n V) {k : Nat} (hk : k < n) : ∃ b off, A = some ⟨b, off, none⟩ ∧ Va w b (off + k * 11) (V k) := by
  obtain ⟨A', c', e, hm, hr⟩ := h
  injection e with e1 e2 e3
  obtain ⟨b, off, h1, h2⟩ := hr (by omega)
  exact ⟨b, off, by rw [e1, h1], h2 k hk⟩
def R1St (w1 wr : World) (v : Value) (V : Nat → VL) (k n : Nat) : Prop := Bs wr v (Cod.cat V k) ∧ Below w1.heap.size w1 wr ∧ ∀ j, j < k → (V j).ok ∧ (V j).l.length ≤ 100
def R2St (w1 wr : World) (S : Nat) (o : Nat → Prop) (V : Nat → VL) (k n : Nat) : Prop := RdP wr S (Cod.sfx V k (n - k)) false o ∧ Below w1.heap.size w1 wr

theorem rw_rng {w : World} {g : Nat} {t : TypeId} {cs : Array Value} (h : Row w g t cs) : w.rangeAt g 0 cs.toList := fun j v hv => by
  rw [Nat.zero_add, h.cell]; rw [Array.getElem?_toList] at hv; exact hv
set_option maxHeartbeats 4000000 in
set_option maxRecDepth 100000 in
theorem rtlaw_main (v : Value) (n : Nat) (V : Nat → VL) (w : World) (h0 : Vs w v n V) (hn : n ≤ 10) : Calls Try.prog 5 #[v] w (lawPost w) := by
  have H0 := Lib.hid h0
  obtain ⟨A0, c0, e0, -, -⟩ := h0
  rw [e0]
  have F0 := Lib.hid (show Vs w (.slice A0 n c0) n V by rw [← e0]; exact H0.out)
  have g0 : ¬ (10 : Int) < (n : Int) := by omega
  have NB := Lib.hid hn
  clear e0 H0
  go_enter Try.func5, Try.ntmps5
  go_wp2_with fail
  refine (awake9 w).mono ?_
  rintro e w1 ⟨rfl, hb1⟩
  have F0_2 := Lib.hid (Vs.to F0.out (hb1))
  have hl3 := hb1
  have HT_4 : Hid (Below w.heap.size w w1) := Lib.hid (hl3)
  clear hb1 
  go_wp2_with fail
  have BW := Lib.hid HT_4.out
  have F1 := Lib.hid F0_2.out
  go_loopw [3, 4] (fun v i wr => ∃ k : Nat, k ≤ n ∧ i = .int .i64 (k : Int) ∧ Hid (R1St w1 wr v V k n)) (fun _ i _ => n - (intOf i).toNat)
  case atStart => exact ⟨0, Nat.zero_le _, rfl, Lib.hid ⟨Bs.nil_ _, Below.refl _ _, fun j hj => absurd hj (Nat.not_lt_zero j)⟩⟩
  case round =>
    obtain ⟨k, hk, rfl, V1⟩ := hrel
    by_cases hlt : k < n
    · have kI : (k : Int) < (n : Int) := by omega
      obtain ⟨b0, o0, rfl, hva⟩ := (F1.out.to V1.out.2.1).at_ hlt
      obtain ⟨A1, c1, h0, h1, h2, hs, hk8, hok⟩ := hva.parts
      obtain ⟨y, hy⟩ : ∃ y, V k = y := ⟨_, rfl⟩
      rw [hy] at h0 h1 h2 hs hk8 hok
      have HY := Lib.hid hy
      have C0 := Lib.hid h0
      have C1 := Lib.hid h1
      have C2 := Lib.hid h2
      have BS := Lib.hid hs
      have RG := Lib.hid hk8
      have OK := Lib.hid hok
      have VB := Lib.hid V1.out.1
      obtain ⟨n1, hn1⟩ : ∃ m, y.l.length = m := ⟨_, rfl⟩
      have HN1 := Lib.hid hn1
      rw [hn1] at h2 C2 BS
      have m63 : n1 ≤ 9223372036854775807 := by have := hs.len; unfold maxLen at this; omega
      clear hva h0 h1 hs hk8 hok hy hn1
      by_cases h100 : 100 < n1
      · have gI : (100 : Int) < (n1 : Int) := by omega
        go_wp2_with fail
        go_ret
        exact ⟨rfl, BW.out.trans (V1.out.2.1.mono BW.out.size)⟩
      · have gI : ¬ (100 : Int) < (n1 : Int) := by omega
        have LC := Lib.hid (Nat.le_trans (Cod.cat_len V1.out.2.2) (show 138 * k ≤ 1400 by have := NB.out; omega))
        have CN := Lib.hid (show Cod.cat V (k + 1) = (((Cod.cat V k ++ Cod.enc y.n) ++ Cod.enc (Cod.zig y.x)) ++ Cod.enc y.l.length ++ y.l) ++ y.k by rw [← HY.out]; rfl)
        have E1 := Lib.hid (Cod.enc_len10 OK.out.1)
        have E2 := Lib.hid (Cod.enc_len10 (Cod.zig_lt OK.out.2.1.1 OK.out.2.1.2))
        have E3 := Lib.hid (Cod.enc_len10 (n := y.l.length) (by have := HN1.out; omega))
        have QL := Lib.hid (show y.l.length ≤ 100 by have := HN1.out; omega)
        go_wp2_with fail
        clear h2
        refine wp_region_held (P := Try.prog) (S := (fun w' : World => Below wr.heap.size wr w')) rfl ?_
        change wpAnyH _ _ _ _ _ _ _ _ wr.drew
        have hz2 : Below wr.heap.size wr wr.drew := (Below.refl wr.heap.size wr).drew
        generalize wr.drew = wz1 at hz2 ⊢
        have C0_3 := Lib.hid (ce_to C0.out (hz2))
        have C1_4 := Lib.hid (ce_to C1.out (hz2))
        have C2_5 := Lib.hid (ce_to C2.out (hz2))
        have BS_6 := Lib.hid (Bs.below BS.out (hz2))
        have RG_7 := Lib.hid (rg_to RG.out (hz2))
        have VB_8 := Lib.hid (Bs.below VB.out (hz2))
        have hl9 := hz2
        have HT_10 : Hid (Below wr.heap.size wr wz1) := Lib.hid (hl9)
        refine wpAnyH_up (S' := (fun w' : World => Below wz1.heap.size wz1 w')) (fun w' h => hz2.trans (h.mono hz2.size)) ?_
        have hS11 : (fun w' : World => Below wz1.heap.size wz1 w') wz1 := Below.refl _ _
        refine takeD (i := 0) (v := u3) (some 33) rfl rfl (by kernel_rfl) (by kernel_rfl) (by kernel_rfl) (fun _ _ _ h => h) (Or.inl ⟨by rfl, by rintro w' -; go_simp⟩) hS11 ?_
        simp only [Act.put, List.setIfInBounds_toArray, List.set_cons_zero, List.set_cons_succ]
        refine takeD (i := 1) (v := .slice (some ⟨b0, o0, none⟩) n c0) (some 34) rfl rfl (by kernel_rfl) (by kernel_rfl) (by kernel_rfl) (fun _ _ _ h => h) (Or.inl ⟨by rfl, by rintro w' -; go_simp⟩) hS11 ?_
        simp only [Act.put, List.setIfInBounds_toArray, List.set_cons_zero, List.set_cons_succ]
        refine takeD (i := 2) (v := .int .i64 (k : Int)) (some 35) rfl rfl (by kernel_rfl) (by kernel_rfl) (by kernel_rfl) (fun _ _ _ h => h) (Or.inl ⟨by rfl, by rintro w' -; go_simp⟩) hS11 ?_
        simp only [Act.put, List.setIfInBounds_toArray, List.set_cons_zero, List.set_cons_succ]
        refine takeD (i := 3) (v := .pointer (some ⟨b0, o0 + k * 11, none⟩)) (some 36) rfl rfl (by kernel_rfl) (by kernel_rfl) (by kernel_rfl) (fun _ _ _ h => h) (Or.inl ⟨by rfl, by rintro w' -; go_simp⟩) hS11 ?_
        simp only [Act.put, List.setIfInBounds_toArray, List.set_cons_zero, List.set_cons_succ]
        refine takeD (i := 4) (v := .pointer (some ⟨b0, o0 + k * 11, none⟩)) (some 37) rfl rfl (by kernel_rfl) (by kernel_rfl) (by kernel_rfl) (fun _ _ _ h => h) (Or.inl ⟨by rfl, by rintro w' -; go_simp⟩) hS11 ?_
        simp only [Act.put, List.setIfInBounds_toArray, List.set_cons_zero, List.set_cons_succ]
        refine takeD (i := 5) (v := .int .u64 (y.n : Int)) (some 38) rfl rfl (by kernel_rfl) (by kernel_rfl) (by kernel_rfl) (fun _ _ _ h => h) (Or.inl ⟨by rfl, by rintro w' h; have hc := ce_to C0_3.out h; go_simp⟩) hS11 ?_
        simp only [Act.put, List.setIfInBounds_toArray, List.set_cons_zero, List.set_cons_succ]
        refine takeD (i := 7) (v := .slice (some ⟨b0, o0, none⟩) n c0) (some 40) rfl rfl (by kernel_rfl) (by kernel_rfl) (by kernel_rfl) (fun _ _ _ h => h) (Or.inl ⟨by rfl, by rintro w' -; go_simp⟩) hS11 ?_
        simp only [Act.put, List.setIfInBounds_toArray, List.set_cons_zero, List.set_cons_succ]
        refine takeD (i := 8) (v := .int .i64 (k : Int)) (some 41) rfl rfl (by kernel_rfl) (by kernel_rfl) (by kernel_rfl) (fun _ _ _ h => h) (Or.inl ⟨by rfl, by rintro w' -; go_simp⟩) hS11 ?_
        simp only [Act.put, List.setIfInBounds_toArray, List.set_cons_zero, List.set_cons_succ]
        refine takeD (i := 9) (v := .pointer (some ⟨b0, o0 + k * 11, none⟩)) (some 42) rfl rfl (by kernel_rfl) (by kernel_rfl) (by kernel_rfl) (fun _ _ _ h => h) (Or.inl ⟨by rfl, by rintro w' -; go_simp⟩) hS11 ?_
        simp only [Act.put, List.setIfInBounds_toArray, List.set_cons_zero, List.set_cons_succ]
        refine takeD (i := 10) (v := .pointer (some ⟨b0, o0 + k * 11 + 1, none⟩)) (some 43) rfl rfl (by kernel_rfl) (by kernel_rfl) (by kernel_rfl) (fun _ _ _ h => h) (Or.inl ⟨by rfl, by rintro w' -; go_simp⟩) hS11 ?_
        simp only [Act.put, List.setIfInBounds_toArray, List.set_cons_zero, List.set_cons_succ]
        refine takeD (i := 11) (v := .int .i64 y.x) (some 44) rfl rfl (by kernel_rfl) (by kernel_rfl) (by kernel_rfl) (fun _ _ _ h => h) (Or.inl ⟨by rfl, by rintro w' h; have hc := ce_to C1_4.out h; go_simp⟩) hS11 ?_
        simp only [Act.put, List.setIfInBounds_toArray, List.set_cons_zero, List.set_cons_succ]
        refine takeD (i := 13) (v := .slice (some ⟨b0, o0, none⟩) n c0) (some 46) rfl rfl (by kernel_rfl) (by kernel_rfl) (by kernel_rfl) (fun _ _ _ h => h) (Or.inl ⟨by rfl, by rintro w' -; go_simp⟩) hS11 ?_
        simp only [Act.put, List.setIfInBounds_toArray, List.set_cons_zero, List.set_cons_succ]
        refine takeD (i := 14) (v := .int .i64 (k : Int)) (some 47) rfl rfl (by kernel_rfl) (by kernel_rfl) (by kernel_rfl) (fun _ _ _ h => h) (Or.inl ⟨by rfl, by rintro w' -; go_simp⟩) hS11 ?_
        simp only [Act.put, List.setIfInBounds_toArray, List.set_cons_zero, List.set_cons_succ]
        refine takeD (i := 15) (v := .pointer (some ⟨b0, o0 + k * 11, none⟩)) (some 48) rfl rfl (by kernel_rfl) (by kernel_rfl) (by kernel_rfl) (fun _ _ _ h => h) (Or.inl ⟨by rfl, by rintro w' -; go_simp⟩) hS11 ?_
        simp only [Act.put, List.setIfInBounds_toArray, List.set_cons_zero, List.set_cons_succ]
        refine takeD (i := 16) (v := .pointer (some ⟨b0, o0 + k * 11 + 2, none⟩)) (some 49) rfl rfl (by kernel_rfl) (by kernel_rfl) (by kernel_rfl) (fun _ _ _ h => h) (Or.inl ⟨by rfl, by rintro w' -; go_simp⟩) hS11 ?_
        simp only [Act.put, List.setIfInBounds_toArray, List.set_cons_zero, List.set_cons_succ]
        refine takeD (i := 17) (v := .slice A1 n1 c1) (some 50) rfl rfl (by kernel_rfl) (by kernel_rfl) (by kernel_rfl) (fun _ _ _ h => h) (Or.inl ⟨by rfl, by rintro w' h; have hc := ce_to C2_5.out h; go_simp⟩) hS11 ?_
        simp only [Act.put, List.setIfInBounds_toArray, List.set_cons_zero, List.set_cons_succ]
        refine takeD (i := 19) (v := .slice (some ⟨b0, o0, none⟩) n c0) (some 52) rfl rfl (by kernel_rfl) (by kernel_rfl) (by kernel_rfl) (fun _ _ _ h => h) (Or.inl ⟨by rfl, by rintro w' -; go_simp⟩) hS11 ?_
        simp only [Act.put, List.setIfInBounds_toArray, List.set_cons_zero, List.set_cons_succ]
        refine takeD (i := 20) (v := .int .i64 (k : Int)) (some 53) rfl rfl (by kernel_rfl) (by kernel_rfl) (by kernel_rfl) (fun _ _ _ h => h) (Or.inl ⟨by rfl, by rintro w' -; go_simp⟩) hS11 ?_
        simp only [Act.put, List.setIfInBounds_toArray, List.set_cons_zero, List.set_cons_succ]
        refine takeD (i := 21) (v := .pointer (some ⟨b0, o0 + k * 11, none⟩)) (some 54) rfl rfl (by kernel_rfl) (by kernel_rfl) (by kernel_rfl) (fun _ _ _ h => h) (Or.inl ⟨by rfl, by rintro w' -; go_simp⟩) hS11 ?_
        simp only [Act.put, List.setIfInBounds_toArray, List.set_cons_zero, List.set_cons_succ]
        refine takeD (i := 22) (v := .pointer (some ⟨b0, o0 + k * 11 + 3, none⟩)) (some 55) rfl rfl (by kernel_rfl) (by kernel_rfl) (by kernel_rfl) (fun _ _ _ h => h) (Or.inl ⟨by rfl, by rintro w' -; go_simp⟩) hS11 ?_
        simp only [Act.put, List.setIfInBounds_toArray, List.set_cons_zero, List.set_cons_succ]
        refine takeD (i := 23) (v := .agg (bkc y.k)) (some 56) rfl rfl (by kernel_rfl) (by kernel_rfl) (by kernel_rfl) (fun _ _ _ h => h) (yieldsIf_load_mid (by rfl) _ _ rfl b0 (o0 + k * 11 + 3) rfl (y.k.map bv) _ (fun w' h => rg_to RG_7.out h) Try.underlying25 rfl (by rw [List.length_map, OK.out.2.2.1]; kernel_rfl)) hS11 ?_
        simp only [Act.put, List.setIfInBounds_toArray, List.set_cons_zero, List.set_cons_succ]
        refine wpAnyH_ready (rs := [6]) (by kernel_rfl) (by simp) ?_
        refine AllReadyH.cons rfl (fun K12 hK12 => ?_) AllReadyH.nil
        have HK12 := Lib.hid hK12
        clear hK12
        rw [if_pos (by rfl)]
        go_simp
        refine (papu_any u3 (Cod.cat V k) y.n _ VB_8.out OK.out.1 (by have := LC.out; omega)).mono ?_
        rintro e x13 ⟨v39, rfl, hn15, hb14⟩
        have C0_16 := Lib.hid (ce_to C0_3.out (hb14))
        have C1_17 := Lib.hid (ce_to C1_4.out (hb14))
        have C2_18 := Lib.hid (ce_to C2_5.out (hb14))
        have BS_19 := Lib.hid (Bs.below BS_6.out (hb14))
        have RG_20 := Lib.hid (rg_to RG_7.out (hb14))
        have VB_21 := Lib.hid (Bs.below VB_8.out (hb14))
        have hl22 := hb14
        have HT_23 : Hid (Below wr.heap.size wr x13) := Lib.hid (HT_10.out.trans ((hl22).mono HT_10.out.size))
        have f39_24 := Lib.hid ((hn15).bs)
        clear hb14 hn15
        have hb26 : Below wz1.heap.size wz1 x13 := hl22
        have hS25 : (fun w' : World => Below wz1.heap.size wz1 w') x13 := hb26
        refine HK12.out _ _ hS25 fun _ => ?_
        try simp only [Act.put, List.setIfInBounds_toArray, List.set_cons_zero, List.set_cons_succ]
        refine wpAnyH_up (S' := (fun w' : World => Below x13.heap.size x13 w')) (fun w' h => hb26.trans (h.mono hb26.size)) ?_
        have hS27 : (fun w' : World => Below x13.heap.size x13 w') x13 := Below.refl _ _
        refine wpAnyH_ready (rs := [12]) (by kernel_rfl) (by simp) ?_
        refine AllReadyH.cons rfl (fun K28 hK28 => ?_) AllReadyH.nil
        have HK28 := Lib.hid hK28
        clear hK28
        rw [if_pos (by rfl)]
        go_simp
        refine (papi_any v39 (Cod.cat V k ++ Cod.enc y.n) y.x _ f39_24.out OK.out.2.1.1 OK.out.2.1.2 (by have := LC.out; have := E1.out; rw [List.length_append]; omega)).mono ?_
        rintro e x29 ⟨v45, rfl, hn31, hb30⟩
        have C0_32 := Lib.hid (ce_to C0_16.out (hb30))
        have C1_33 := Lib.hid (ce_to C1_17.out (hb30))
        have C2_34 := Lib.hid (ce_to C2_18.out (hb30))
        have BS_35 := Lib.hid (Bs.below BS_19.out (hb30))
        have RG_36 := Lib.hid (rg_to RG_20.out (hb30))
        have VB_37 := Lib.hid (Bs.below VB_21.out (hb30))
        have f39_38 := Lib.hid (Bs.below f39_24.out (hb30))
        have hl39 := hb30
        have HT_40 : Hid (Below wr.heap.size wr x29) := Lib.hid (HT_23.out.trans ((hl39).mono HT_23.out.size))
        have f45_41 := Lib.hid ((hn31).bs)
        clear hb30 hn31
        have hb43 : Below x13.heap.size x13 x29 := hl39
        have hS42 : (fun w' : World => Below x13.heap.size x13 w') x29 := hb43
        refine HK28.out _ _ hS42 fun _ => ?_
        try simp only [Act.put, List.setIfInBounds_toArray, List.set_cons_zero, List.set_cons_succ]
        refine wpAnyH_up (S' := (fun w' : World => Below x29.heap.size x29 w')) (fun w' h => hb43.trans (h.mono hb43.size)) ?_
        have hS44 : (fun w' : World => Below x29.heap.size x29 w') x29 := Below.refl _ _
        refine wpAnyH_ready (rs := [18]) (by kernel_rfl) (by simp) ?_
        refine AllReadyH.cons rfl (fun K45 hK45 => ?_) AllReadyH.nil
        have HK45 := Lib.hid hK45
        clear hK45
        rw [if_pos (by rfl)]
        go_simp
        refine (papb_any v45 (.slice A1 n1 c1) (Cod.cat V k ++ Cod.enc y.n ++ Cod.enc (Cod.zig y.x)) y.l _ f45_41.out BS_35.out (by have := LC.out; have := E1.out; have := E2.out; rw [List.length_append, List.length_append]; omega) (by have := QL.out; omega)).mono ?_
        rintro e x46 ⟨v51, rfl, hn48, hb47⟩
        have C0_49 := Lib.hid (ce_to C0_32.out (hb47))
        have C1_50 := Lib.hid (ce_to C1_33.out (hb47))
        have C2_51 := Lib.hid (ce_to C2_34.out (hb47))
        have BS_52 := Lib.hid (Bs.below BS_35.out (hb47))
        have RG_53 := Lib.hid (rg_to RG_36.out (hb47))
        have VB_54 := Lib.hid (Bs.below VB_37.out (hb47))
        have f39_55 := Lib.hid (Bs.below f39_38.out (hb47))
        have f45_56 := Lib.hid (Bs.below f45_41.out (hb47))
        have hl57 := hb47
        have HT_58 : Hid (Below wr.heap.size wr x46) := Lib.hid (HT_40.out.trans ((hl57).mono HT_40.out.size))
        have f51_59 := Lib.hid ((hn48).bs)
        clear hb47 hn48
        have hb61 : Below x29.heap.size x29 x46 := hl57
        have hS60 : (fun w' : World => Below x29.heap.size x29 w') x46 := hb61
        refine HK45.out _ _ hS60 fun _ => ?_
        try simp only [Act.put, List.setIfInBounds_toArray, List.set_cons_zero, List.set_cons_succ]
        refine wpAnyH_up (S' := (fun w' : World => Below x46.heap.size x46 w')) (fun w' h => hb61.trans (h.mono hb61.size)) ?_
        have hS62 : (fun w' : World => Below x46.heap.size x46 w') x46 := Below.refl _ _
        refine wpAnyH_ready (rs := [24]) (by kernel_rfl) (by simp) ?_
        refine AllReadyH.cons rfl (fun K63 hK63 => ?_) AllReadyH.nil
        have HK63 := Lib.hid hK63
        clear hK63
        rw [if_pos (by rfl)]
        go_simp
        refine (papk_any v51 (Cod.cat V k ++ Cod.enc y.n ++ Cod.enc (Cod.zig y.x) ++ Cod.enc y.l.length ++ y.l) y.k _ f51_59.out OK.out.2.2 (by have := LC.out; have := E1.out; have := E2.out; have := E3.out; have := QL.out; rw [List.length_append, List.length_append, List.length_append, List.length_append]; omega)).mono ?_
        rintro e x64 ⟨v57, rfl, hn66, hb65⟩
        have C0_67 := Lib.hid (ce_to C0_49.out (hb65))
        have C1_68 := Lib.hid (ce_to C1_50.out (hb65))
        have C2_69 := Lib.hid (ce_to C2_51.out (hb65))
        have BS_70 := Lib.hid (Bs.below BS_52.out (hb65))
        have RG_71 := Lib.hid (rg_to RG_53.out (hb65))
        have VB_72 := Lib.hid (Bs.below VB_54.out (hb65))
        have f39_73 := Lib.hid (Bs.below f39_55.out (hb65))
        have f45_74 := Lib.hid (Bs.below f45_56.out (hb65))
        have f51_75 := Lib.hid (Bs.below f51_59.out (hb65))
        have hl76 := hb65
        have HT_77 : Hid (Below wr.heap.size wr x64) := Lib.hid (HT_58.out.trans ((hl76).mono HT_58.out.size))
        have f57_78 := Lib.hid ((hn66).bs)
        clear hb65 hn66
        have hb80 : Below x46.heap.size x46 x64 := hl76
        have hS79 : (fun w' : World => Below x46.heap.size x46 w') x64 := hb80
        refine HK63.out _ _ hS79 fun _ => ?_
        try simp only [Act.put, List.setIfInBounds_toArray, List.set_cons_zero, List.set_cons_succ]
        refine wpAnyH_up (S' := (fun w' : World => Below x64.heap.size x64 w')) (fun w' h => hb80.trans (h.mono hb80.size)) ?_
        have hS81 : (fun w' : World => Below x64.heap.size x64 w') x64 := Below.refl _ _
        refine takeD (i := 25) (v := v57) (some 3) rfl rfl (by kernel_rfl) (by kernel_rfl) (by kernel_rfl) (fun _ _ _ h => h) (Or.inl ⟨by rfl, by rintro w' -; go_simp⟩) hS81 ?_
        simp only [Act.put, List.setIfInBounds_toArray, List.set_cons_zero, List.set_cons_succ]
        refine wpAnyH_done (by kernel_rfl) ?_ _
        go_wp2_with fail
        go_roundw
        case rel => exact ⟨k + 1, by omega, by go_num, Lib.hid ⟨by rw [CN.out]; exact f57_78.out, V1.out.2.1.trans (HT_77.out.mono V1.out.2.1.size), fun j hj => by
          rcases Nat.lt_or_ge j k with h | h
          · exact V1.out.2.2 j h
          · obtain rfl : j = k := by omega
            rw [HY.out]; exact ⟨OK.out, QL.out⟩⟩⟩
        case measure => simp [intOf]; omega
    · obtain rfl : k = n := by omega
      have ALL := Lib.hid V1.out.2.2
      have LC := Lib.hid (Nat.le_trans (Cod.cat_len V1.out.2.2) (show 138 * k ≤ 1400 by have := NB.out; omega))
      have CA := Lib.hid (Cod.cat_all V k)
      go_wp2_with fail
      refine (pnew_any u3 (Cod.cat V k) wr V1.out.1 (by have := LC.out; omega)).mono ?_
      rintro e w2 ⟨S, o, rfl, hr, ho, hb⟩
      have GE := Lib.hid (show ∀ j, o j → w1.heap.size ≤ j from fun j hj => Nat.le_trans V1.out.2.1.size (ho j hj))
      have ST := Lib.hid (show R2St w1 w2 S o V 0 k from ⟨by rw [Nat.sub_zero, ← CA.out]; exact hr, V1.out.2.1.trans (hb.mono V1.out.2.1.size)⟩)
      clear hr ho hb V1 hlt
      obtain ⟨n, hn2⟩ : ∃ n, k = n := ⟨_, rfl⟩
      have LEN := Lib.hid fun j (hj : j ≤ k) => (show (Cod.sfx V j (k - j)).length ≤ 1400 by
        have h := congrArg List.length (Cod.cat_sfx V (k - j) j)
        rw [List.length_append, show j + (k - j) = k by omega] at h
        have := LC.out; omega)
      rw [hn2] at ALL ST LEN F1 NB
      rw [hn2]
      clear hn2 LC CA hk
      go_wp2_with fail
      go_loopw [6] (fun i wr => ∃ k : Nat, k ≤ n ∧ i = .int .i64 (k : Int) ∧ Hid (R2St w1 wr S o V k n)) (fun i _ => n - (intOf i).toNat)
      case atStart => exact ⟨0, Nat.zero_le _, rfl, ST⟩
      case round =>
        obtain ⟨k, hk, rfl, V2⟩ := hrel
        by_cases hlt : k < n
        · have kI : (k : Int) < (n : Int) := by omega
          have nb : n ≤ 10 := NB.out
          obtain ⟨hok, h100⟩ := ALL.out k hlt
          obtain ⟨m, hm⟩ : ∃ m, n - k = m + 1 := ⟨n - k - 1, by omega⟩
          have hP := V2.out.1
          have hL := LEN.out k hk
          rw [hm] at hP hL
          have P0 : Hid (RdP _ S (Cod.encE (V k) (Cod.sfx V (k + 1) m)) false o) := Lib.hid hP
          have L0 := Lib.hid (show (Cod.encE (V k) (Cod.sfx V (k + 1) m)).length ≤ 1400 from hL)
          have MM := Lib.hid (show n - (k + 1) = m by omega)
          have B0 := Lib.hid V2.out.2
          obtain ⟨T, hT⟩ : ∃ T, Cod.sfx V (k + 1) m = T := ⟨_, rfl⟩
          rw [hT] at P0 L0
          have HT := Lib.hid hT
          obtain ⟨b0, o0, rfl, hva⟩ := F1.out.at_ hlt
          have VA := Lib.hid hva
          obtain ⟨y, hy⟩ : ∃ y, V k = y := ⟨_, rfl⟩
          rw [hy] at P0 L0 VA hok h100
          have OK := Lib.hid hok
          have Q100 := Lib.hid h100
          have XU := Lib.hid (Cod.rU_E y T hok)
          have XI := Lib.hid (Cod.rI_E y (Cod.enc y.l.length ++ (y.l ++ (y.k ++ T))) hok)
          have XB := Lib.hid (Cod.rB_E y (y.k ++ T) (by omega))
          have XK := Lib.hid (Cod.rK_E y T hok)
          have LL := Lib.hid (show (Cod.enc (Cod.zig y.x) ++ (Cod.enc y.l.length ++ (y.l ++ (y.k ++ T)))).length ≤ 1400 ∧ (Cod.enc y.l.length ++ (y.l ++ (y.k ++ T))).length ≤ 1400 ∧ (y.k ++ T).length ≤ 1400 by
            have := L0.out
            unfold Cod.encE at this
            simp only [List.length_append] at this ⊢
            omega)
          obtain ⟨l0, e0⟩ : ∃ l, Cod.encE y T = l := ⟨_, rfl⟩
          obtain ⟨l1, e1⟩ : ∃ l, Cod.enc (Cod.zig y.x) ++ (Cod.enc y.l.length ++ (y.l ++ (y.k ++ T))) = l := ⟨_, rfl⟩
          obtain ⟨l2, e2⟩ : ∃ l, Cod.enc y.l.length ++ (y.l ++ (y.k ++ T)) = l := ⟨_, rfl⟩
          obtain ⟨l3, e3⟩ : ∃ l, y.k ++ T = l := ⟨_, rfl⟩
          rw [e0] at P0 L0 XU
          rw [e1] at XU XI LL
          rw [e2] at XI XB LL
          rw [e3] at XB XK LL
          clear e0 e1 e2 e3 hT hy hP hL hva hok h100 V2 hm
          go_wp2_with fail
          have RD1 := Lib.hid (puint_any S l0 false o _ P0.out (by have := L0.out; omega))
          unfold uPost at RD1
          rw [XU.out] at RD1
          refine RD1.out.mono ?_
          rintro e x1 ⟨rfl, hrd, hc⟩
          have P1 := Lib.hid hrd
          have B1 := Lib.hid (B0.out.trans (hc.below B0.out.size GE.out))
          clear hc hrd RD1
          go_wp2_with fail
          have RD2 := Lib.hid (pint_any S l1 false o x1 P1.out (by have := LL.out.1; omega))
          unfold iPost at RD2
          rw [XI.out] at RD2
          refine RD2.out.mono ?_
          rintro e x2 ⟨rfl, hrd, hc⟩
          have P2 := Lib.hid hrd
          have B2 := Lib.hid (B1.out.trans (hc.below B1.out.size GE.out))
          clear hc hrd RD2
          go_wp2_with fail
          have RD3 := Lib.hid (pbytes_any S l2 false o x2 P2.out (by have := LL.out.2.1; omega))
          unfold bPost at RD3
          rw [XB.out] at RD3
          refine RD3.out.mono ?_
          rintro e x3 ⟨vx, rfl, hbx, hnx, hrd, hc⟩
          have P3 := Lib.hid hrd
          have B3 := Lib.hid (B2.out.trans (hc.below B2.out.size GE.out))
          have BX := Lib.hid hbx
          have NX := Lib.hid hnx
          have O3 := Lib.hid (P2.out.lt)
          obtain ⟨AX, cX, rfl⟩ := hbx.form
          clear hbx hnx
          clear hc hrd RD3
          go_wp2_with fail
          have RD4 := Lib.hid (pblock_any S l3 false o x3 P3.out (by have := LL.out.2.2; omega))
          unfold kPost at RD4
          rw [XK.out] at RD4
          refine RD4.out.mono ?_
          rintro e x4 ⟨rfl, hrd, hc⟩
          have P4 := Lib.hid hrd
          have B4 := Lib.hid (B3.out.trans (hc.below B3.out.size GE.out))
          have BX4 := Lib.hid (BX.out.chg hc fun j hj h2 => by have := NX.out j hj; have := O3.out j h2; omega)
          clear hc hrd RD4
          obtain ⟨C, hC⟩ : ∃ C, bkc y.k = C := ⟨_, rfl⟩
          have NI := Lib.hid (bkc_info OK.out.2.2.1)
          have ON := Lib.hid (bkc_one y.k)
          have SZ := Lib.hid (show C.size = 8 by rw [← hC, bkc_size, OK.out.2.2.1])
          have HC := Lib.hid hC
          rw [hC]
          rw [hC] at NI ON
          clear hC
          have TH := Lib.hid fun (w : World) (Z : Array Value) (hz : Z.size = 8) => rw_there (rw_new w Z 25 rfl) (n := C.size) (by rw [SZ.out, hz]; exact Nat.le_refl _)
          have PT := Lib.hid fun (w : World) (Z : Array Value) (hz : Z.size = 8) => rw_put (rw_new w Z 25 rfl) (ds := C) (by rw [SZ.out, hz])
          have BL := Lib.hid fun (w : World) (Z : Array Value) => rw_below ((Below.refl w.heap.size w).alloc (Nat.le_refl _) (.cells Z 25)) C.toList w.heap.size 0 (Nat.le_refl _)
          go_wp2_with (refine wpList_store_mid rfl _ _ _ rfl _ 0 _ rfl rfl (TH.out _ _ rfl) NI.out ON.out ?_)
          obtain ⟨Z, hZ⟩ : ∃ Z : Array Value, #[.int .u8 0, .int .u8 0, .int .u8 0, .int .u8 0, .int .u8 0, .int .u8 0, .int .u8 0, .int .u8 0] = Z := ⟨_, rfl⟩
          have Z8 : Z.size = 8 := by rw [← hZ]; rfl
          try rw [hZ]
          have RY := Lib.hid (PT.out x4 Z Z8)
          have BA := Lib.hid (BL.out x4 Z)
          obtain ⟨gy, hgy⟩ : ∃ g, x4.heap.size = g := ⟨_, rfl⟩
          rw [hgy] at RY BA ⊢
          generalize hww : World.setCells (World.alloc x4 _) gy 0 C.toList = x5 at RY BA ⊢
          rw [← hgy] at BA
          clear hww hZ Z8
          have B5 := Lib.hid (B4.out.trans (BA.out.mono B4.out.size))
          have BX5 := Lib.hid (BX4.out.below BA.out)
          have P5 := Lib.hid (P4.out.below BA.out)
          obtain ⟨A1, c1, h0, h1, h2, hs, hk8, -⟩ := (VA.out.to B5.out).parts
          have C0 := Lib.hid h0
          have C1 := Lib.hid h1
          have C2 := Lib.hid h2
          have BS := Lib.hid hs
          have RG : Hid (x5.rangeAt b0 (o0 + k * 11 + 3) C.toList) := Lib.hid (by rw [← HC.out]; exact hk8)
          have e8 := fun w => bneq8 y.k y.k OK.out.2.2 OK.out.2.2 w
          rw [HC.out] at e8
          obtain ⟨t, ht⟩ : ∃ t, strOf y.l = t := ⟨_, rfl⟩
          have HTT := Lib.hid ht
          clear h0 h1 h2 hs hk8 hgy ht
          refine wp_region_held (P := Try.prog) (S := (fun w' : World => Below x5.heap.size x5 w')) rfl ?_
          change wpAnyH _ _ _ _ _ _ _ _ x5.drew
          have hz2 : Below x5.heap.size x5 x5.drew := (Below.refl x5.heap.size x5).drew
          generalize x5.drew = wz1 at hz2 ⊢
          have C0_3 := Lib.hid (ce_to C0.out (hz2))
          have C1_4 := Lib.hid (ce_to C1.out (hz2))
          have C2_5 := Lib.hid (ce_to C2.out (hz2))
          have BS_6 := Lib.hid (Bs.below BS.out (hz2))
          have RG_7 := Lib.hid (rg_to RG.out (hz2))
          have BX5_8 := Lib.hid (Bs.below BX5.out (hz2))
          have RY_9 := Lib.hid (rw_fw RY.out (hz2))
          have P5_10 := Lib.hid (RdP.below P5.out (hz2))
          have hl11 := hz2
          have HT_12 : Hid (Below x5.heap.size x5 wz1) := Lib.hid (hl11)
          refine wpAnyH_up (S' := (fun w' : World => Below wz1.heap.size wz1 w')) (fun w' h => hz2.trans (h.mono hz2.size)) ?_
          have hS13 : (fun w' : World => Below wz1.heap.size wz1 w') wz1 := Below.refl _ _
          refine takeD (i := 0) (v := .int .i64 0) (some 88) rfl rfl (by kernel_rfl) (by kernel_rfl) (by kernel_rfl) (fun _ _ _ h => h) (Or.inl ⟨by rfl, by rintro w' -; go_simp⟩) hS13 ?_
          simp only [Act.put, List.setIfInBounds_toArray, List.set_cons_zero, List.set_cons_succ]
          refine takeD (i := 1) (v := .bool false) (some 89) rfl rfl (by kernel_rfl) (by kernel_rfl) (by kernel_rfl) (fun _ _ _ h => h) (Or.inl ⟨by rfl, by rintro w' -; go_simp⟩) hS13 ?_
          simp only [Act.put, List.setIfInBounds_toArray, List.set_cons_zero, List.set_cons_succ]
          refine takeD (i := 2) (v := .bool false) (some 90) rfl rfl (by kernel_rfl) (by kernel_rfl) (by kernel_rfl) (fun _ _ _ h => h) (Or.inl ⟨by rfl, by rintro w' -; go_simp⟩) hS13 ?_
          simp only [Act.put, List.setIfInBounds_toArray, List.set_cons_zero, List.set_cons_succ]
          refine takeD (i := 3) (v := .int .i64 0) (some 91) rfl rfl (by kernel_rfl) (by kernel_rfl) (by kernel_rfl) (fun _ _ _ h => h) (Or.inl ⟨by rfl, by rintro w' -; go_simp⟩) hS13 ?_
          simp only [Act.put, List.setIfInBounds_toArray, List.set_cons_zero, List.set_cons_succ]
          refine takeD (i := 4) (v := .bool false) (some 92) rfl rfl (by kernel_rfl) (by kernel_rfl) (by kernel_rfl) (fun _ _ _ h => h) (Or.inl ⟨by rfl, by rintro w' -; go_simp⟩) hS13 ?_
          simp only [Act.put, List.setIfInBounds_toArray, List.set_cons_zero, List.set_cons_succ]
          refine takeD (i := 5) (v := .bool false) (some 93) rfl rfl (by kernel_rfl) (by kernel_rfl) (by kernel_rfl) (fun _ _ _ h => h) (Or.inl ⟨by rfl, by rintro w' -; go_simp⟩) hS13 ?_
          simp only [Act.put, List.setIfInBounds_toArray, List.set_cons_zero, List.set_cons_succ]
          refine takeD (i := 6) (v := .bool false) (some 94) rfl rfl (by kernel_rfl) (by kernel_rfl) (by kernel_rfl) (fun _ _ _ h => h) (Or.inl ⟨by rfl, by rintro w' -; go_simp⟩) hS13 ?_
          simp only [Act.put, List.setIfInBounds_toArray, List.set_cons_zero, List.set_cons_succ]
          refine takeD (i := 7) (v := .int .i64 0) (some 95) rfl rfl (by kernel_rfl) (by kernel_rfl) (by kernel_rfl) (fun _ _ _ h => h) (Or.inl ⟨by rfl, by rintro w' -; go_simp⟩) hS13 ?_
          simp only [Act.put, List.setIfInBounds_toArray, List.set_cons_zero, List.set_cons_succ]
          refine takeD (i := 8) (v := .bool false) (some 96) rfl rfl (by kernel_rfl) (by kernel_rfl) (by kernel_rfl) (fun _ _ _ h => h) (Or.inl ⟨by rfl, by rintro w' -; go_simp⟩) hS13 ?_
          simp only [Act.put, List.setIfInBounds_toArray, List.set_cons_zero, List.set_cons_succ]
          refine takeD (i := 9) (v := .bool false) (some 97) rfl rfl (by kernel_rfl) (by kernel_rfl) (by kernel_rfl) (fun _ _ _ h => h) (Or.inl ⟨by rfl, by rintro w' -; go_simp⟩) hS13 ?_
          simp only [Act.put, List.setIfInBounds_toArray, List.set_cons_zero, List.set_cons_succ]
          refine takeD (i := 10) (v := .bool false) (some 98) rfl rfl (by kernel_rfl) (by kernel_rfl) (by kernel_rfl) (fun _ _ _ h => h) (Or.inl ⟨by rfl, by rintro w' -; go_simp⟩) hS13 ?_
          simp only [Act.put, List.setIfInBounds_toArray, List.set_cons_zero, List.set_cons_succ]
          refine takeD (i := 11) (v := .int .i64 0) (some 99) rfl rfl (by kernel_rfl) (by kernel_rfl) (by kernel_rfl) (fun _ _ _ h => h) (Or.inl ⟨by rfl, by rintro w' -; go_simp⟩) hS13 ?_
          simp only [Act.put, List.setIfInBounds_toArray, List.set_cons_zero, List.set_cons_succ]
          refine takeD (i := 12) (v := .bool false) (some 100) rfl rfl (by kernel_rfl) (by kernel_rfl) (by kernel_rfl) (fun _ _ _ h => h) (Or.inl ⟨by rfl, by rintro w' -; go_simp⟩) hS13 ?_
          simp only [Act.put, List.setIfInBounds_toArray, List.set_cons_zero, List.set_cons_succ]
          refine takeD (i := 13) (v := .bool false) (some 101) rfl rfl (by kernel_rfl) (by kernel_rfl) (by kernel_rfl) (fun _ _ _ h => h) (Or.inl ⟨by rfl, by rintro w' -; go_simp⟩) hS13 ?_
          simp only [Act.put, List.setIfInBounds_toArray, List.set_cons_zero, List.set_cons_succ]
          refine takeD (i := 14) (v := .bool false) (some 102) rfl rfl (by kernel_rfl) (by kernel_rfl) (by kernel_rfl) (fun _ _ _ h => h) (Or.inl ⟨by rfl, by rintro w' -; go_simp⟩) hS13 ?_
          simp only [Act.put, List.setIfInBounds_toArray, List.set_cons_zero, List.set_cons_succ]
          refine takeD (i := 15) (v := .int .u64 (y.n : Int)) (some 103) rfl rfl (by kernel_rfl) (by kernel_rfl) (by kernel_rfl) (fun _ _ _ h => h) (Or.inl ⟨by rfl, by rintro w' -; go_simp⟩) hS13 ?_
          simp only [Act.put, List.setIfInBounds_toArray, List.set_cons_zero, List.set_cons_succ]
          refine takeD (i := 16) (v := .slice (some ⟨b0, o0, none⟩) n c0) (some 104) rfl rfl (by kernel_rfl) (by kernel_rfl) (by kernel_rfl) (fun _ _ _ h => h) (Or.inl ⟨by rfl, by rintro w' -; go_simp⟩) hS13 ?_
          simp only [Act.put, List.setIfInBounds_toArray, List.set_cons_zero, List.set_cons_succ]
          refine takeD (i := 17) (v := .int .i64 (k : Int)) (some 105) rfl rfl (by kernel_rfl) (by kernel_rfl) (by kernel_rfl) (fun _ _ _ h => h) (Or.inl ⟨by rfl, by rintro w' -; go_simp⟩) hS13 ?_
          simp only [Act.put, List.setIfInBounds_toArray, List.set_cons_zero, List.set_cons_succ]
          refine takeD (i := 18) (v := .pointer (some ⟨b0, o0 + k * 11, none⟩)) (some 106) rfl rfl (by kernel_rfl) (by kernel_rfl) (by kernel_rfl) (fun _ _ _ h => h) (Or.inl ⟨by rfl, by rintro w' -; go_simp⟩) hS13 ?_
          simp only [Act.put, List.setIfInBounds_toArray, List.set_cons_zero, List.set_cons_succ]
          refine takeD (i := 19) (v := .pointer (some ⟨b0, o0 + k * 11, none⟩)) (some 107) rfl rfl (by kernel_rfl) (by kernel_rfl) (by kernel_rfl) (fun _ _ _ h => h) (Or.inl ⟨by rfl, by rintro w' -; go_simp⟩) hS13 ?_
          simp only [Act.put, List.setIfInBounds_toArray, List.set_cons_zero, List.set_cons_succ]
          refine takeD (i := 20) (v := .int .u64 (y.n : Int)) (some 108) rfl rfl (by kernel_rfl) (by kernel_rfl) (by kernel_rfl) (fun _ _ _ h => h) (Or.inl ⟨by rfl, by rintro w' h; have hc := ce_to C0_3.out h; go_simp⟩) hS13 ?_
          simp only [Act.put, List.setIfInBounds_toArray, List.set_cons_zero, List.set_cons_succ]
          refine takeD (i := 21) (v := .bool false) (some 109) rfl rfl (by kernel_rfl) (by kernel_rfl) (by kernel_rfl) (fun _ _ _ h => h) (Or.inl ⟨by rfl, by rintro w' -; go_simp⟩) hS13 ?_
          simp only [Act.put, List.setIfInBounds_toArray, List.set_cons_zero, List.set_cons_succ]
          refine takeD (i := 22) (v := .bool false) (some 110) rfl rfl (by kernel_rfl) (by kernel_rfl) (by kernel_rfl) (fun _ _ _ h => h) (Or.inl ⟨by rfl, by rintro w' -; go_simp⟩) hS13 ?_
          simp only [Act.put, List.setIfInBounds_toArray, List.set_cons_zero, List.set_cons_succ]
          refine takeD (i := 23) (v := .bool false) (some 111) rfl rfl (by kernel_rfl) (by kernel_rfl) (by kernel_rfl) (fun _ _ _ h => h) (Or.inl ⟨by rfl, by rintro w' -; go_simp⟩) hS13 ?_
          simp only [Act.put, List.setIfInBounds_toArray, List.set_cons_zero, List.set_cons_succ]
          refine takeD (i := 24) (v := .int .i64 y.x) (some 112) rfl rfl (by kernel_rfl) (by kernel_rfl) (by kernel_rfl) (fun _ _ _ h => h) (Or.inl ⟨by rfl, by rintro w' -; go_simp⟩) hS13 ?_
          simp only [Act.put, List.setIfInBounds_toArray, List.set_cons_zero, List.set_cons_succ]
          refine takeD (i := 25) (v := .slice (some ⟨b0, o0, none⟩) n c0) (some 113) rfl rfl (by kernel_rfl) (by kernel_rfl) (by kernel_rfl) (fun _ _ _ h => h) (Or.inl ⟨by rfl, by rintro w' -; go_simp⟩) hS13 ?_
          simp only [Act.put, List.setIfInBounds_toArray, List.set_cons_zero, List.set_cons_succ]
          refine takeD (i := 26) (v := .int .i64 (k : Int)) (some 114) rfl rfl (by kernel_rfl) (by kernel_rfl) (by kernel_rfl) (fun _ _ _ h => h) (Or.inl ⟨by rfl, by rintro w' -; go_simp⟩) hS13 ?_
          simp only [Act.put, List.setIfInBounds_toArray, List.set_cons_zero, List.set_cons_succ]
          refine takeD (i := 27) (v := .pointer (some ⟨b0, o0 + k * 11, none⟩)) (some 115) rfl rfl (by kernel_rfl) (by kernel_rfl) (by kernel_rfl) (fun _ _ _ h => h) (Or.inl ⟨by rfl, by rintro w' -; go_simp⟩) hS13 ?_
          simp only [Act.put, List.setIfInBounds_toArray, List.set_cons_zero, List.set_cons_succ]
          refine takeD (i := 28) (v := .pointer (some ⟨b0, o0 + k * 11 + 1, none⟩)) (some 116) rfl rfl (by kernel_rfl) (by kernel_rfl) (by kernel_rfl) (fun _ _ _ h => h) (Or.inl ⟨by rfl, by rintro w' -; go_simp⟩) hS13 ?_
          simp only [Act.put, List.setIfInBounds_toArray, List.set_cons_zero, List.set_cons_succ]
          refine takeD (i := 29) (v := .int .i64 y.x) (some 117) rfl rfl (by kernel_rfl) (by kernel_rfl) (by kernel_rfl) (fun _ _ _ h => h) (Or.inl ⟨by rfl, by rintro w' h; have hc := ce_to C1_4.out h; go_simp⟩) hS13 ?_
          simp only [Act.put, List.setIfInBounds_toArray, List.set_cons_zero, List.set_cons_succ]
          refine takeD (i := 30) (v := .bool false) (some 118) rfl rfl (by kernel_rfl) (by kernel_rfl) (by kernel_rfl) (fun _ _ _ h => h) (Or.inl ⟨by rfl, by rintro w' -; go_simp⟩) hS13 ?_
          simp only [Act.put, List.setIfInBounds_toArray, List.set_cons_zero, List.set_cons_succ]
          refine takeD (i := 31) (v := .bool false) (some 119) rfl rfl (by kernel_rfl) (by kernel_rfl) (by kernel_rfl) (fun _ _ _ h => h) (Or.inl ⟨by rfl, by rintro w' -; go_simp⟩) hS13 ?_
          simp only [Act.put, List.setIfInBounds_toArray, List.set_cons_zero, List.set_cons_succ]
          refine takeD (i := 32) (v := .bool false) (some 120) rfl rfl (by kernel_rfl) (by kernel_rfl) (by kernel_rfl) (fun _ _ _ h => h) (Or.inl ⟨by rfl, by rintro w' -; go_simp⟩) hS13 ?_
          simp only [Act.put, List.setIfInBounds_toArray, List.set_cons_zero, List.set_cons_succ]
          refine takeD (i := 33) (v := .slice AX y.l.length cX) (some 121) rfl rfl (by kernel_rfl) (by kernel_rfl) (by kernel_rfl) (fun _ _ _ h => h) (Or.inl ⟨by rfl, by rintro w' -; go_simp⟩) hS13 ?_
          simp only [Act.put, List.setIfInBounds_toArray, List.set_cons_zero, List.set_cons_succ]
          refine takeD (i := 34) (v := .string t) (some 122) rfl rfl (by kernel_rfl) (by kernel_rfl) (by kernel_rfl) (fun _ _ _ h => h) (Or.inl ⟨by rfl, by rintro w' h; have hc := conv_bs 22 5 9 Try.underlying22 Try.underlying5 Try.underlying9 ((BX5_8.out).below h); rw [HTT.out] at hc; go_simp⟩) hS13 ?_
          simp only [Act.put, List.setIfInBounds_toArray, List.set_cons_zero, List.set_cons_succ]
          refine takeD (i := 35) (v := .slice (some ⟨b0, o0, none⟩) n c0) (some 123) rfl rfl (by kernel_rfl) (by kernel_rfl) (by kernel_rfl) (fun _ _ _ h => h) (Or.inl ⟨by rfl, by rintro w' -; go_simp⟩) hS13 ?_
          simp only [Act.put, List.setIfInBounds_toArray, List.set_cons_zero, List.set_cons_succ]
          refine takeD (i := 36) (v := .int .i64 (k : Int)) (some 124) rfl rfl (by kernel_rfl) (by kernel_rfl) (by kernel_rfl) (fun _ _ _ h => h) (Or.inl ⟨by rfl, by rintro w' -; go_simp⟩) hS13 ?_
          simp only [Act.put, List.setIfInBounds_toArray, List.set_cons_zero, List.set_cons_succ]
          refine takeD (i := 37) (v := .pointer (some ⟨b0, o0 + k * 11, none⟩)) (some 125) rfl rfl (by kernel_rfl) (by kernel_rfl) (by kernel_rfl) (fun _ _ _ h => h) (Or.inl ⟨by rfl, by rintro w' -; go_simp⟩) hS13 ?_
          simp only [Act.put, List.setIfInBounds_toArray, List.set_cons_zero, List.set_cons_succ]
          refine takeD (i := 38) (v := .pointer (some ⟨b0, o0 + k * 11 + 2, none⟩)) (some 126) rfl rfl (by kernel_rfl) (by kernel_rfl) (by kernel_rfl) (fun _ _ _ h => h) (Or.inl ⟨by rfl, by rintro w' -; go_simp⟩) hS13 ?_
          simp only [Act.put, List.setIfInBounds_toArray, List.set_cons_zero, List.set_cons_succ]
          refine takeD (i := 39) (v := .slice A1 y.l.length c1) (some 127) rfl rfl (by kernel_rfl) (by kernel_rfl) (by kernel_rfl) (fun _ _ _ h => h) (Or.inl ⟨by rfl, by rintro w' h; have hc := ce_to C2_5.out h; go_simp⟩) hS13 ?_
          simp only [Act.put, List.setIfInBounds_toArray, List.set_cons_zero, List.set_cons_succ]
          refine takeD (i := 40) (v := .string t) (some 128) rfl rfl (by kernel_rfl) (by kernel_rfl) (by kernel_rfl) (fun _ _ _ h => h) (Or.inl ⟨by rfl, by rintro w' h; have hc := conv_bs 22 5 9 Try.underlying22 Try.underlying5 Try.underlying9 ((BS_6.out).below h); rw [HTT.out] at hc; go_simp⟩) hS13 ?_
          simp only [Act.put, List.setIfInBounds_toArray, List.set_cons_zero, List.set_cons_succ]
          refine takeD (i := 41) (v := .bool false) (some 129) rfl rfl (by kernel_rfl) (by kernel_rfl) (by kernel_rfl) (fun _ _ _ h => h) (Or.inl ⟨by rfl, by rintro w' -; go_simp⟩) hS13 ?_
          simp only [Act.put, List.setIfInBounds_toArray, List.set_cons_zero, List.set_cons_succ]
          refine takeD (i := 42) (v := .bool false) (some 130) rfl rfl (by kernel_rfl) (by kernel_rfl) (by kernel_rfl) (fun _ _ _ h => h) (Or.inl ⟨by rfl, by rintro w' -; go_simp⟩) hS13 ?_
          simp only [Act.put, List.setIfInBounds_toArray, List.set_cons_zero, List.set_cons_succ]
          refine takeD (i := 43) (v := .bool false) (some 131) rfl rfl (by kernel_rfl) (by kernel_rfl) (by kernel_rfl) (fun _ _ _ h => h) (Or.inl ⟨by rfl, by rintro w' -; go_simp⟩) hS13 ?_
          simp only [Act.put, List.setIfInBounds_toArray, List.set_cons_zero, List.set_cons_succ]
          refine takeD (i := 44) (v := .agg C) (some 132) rfl rfl (by kernel_rfl) (by kernel_rfl) (by kernel_rfl) (fun _ _ _ h => h) (yieldsIf_load_mid (by rfl) _ _ rfl gy 0 rfl C.toList _ (fun w' h => rw_rng (rw_fw RY_9.out h)) Try.underlying25 rfl (by rw [Array.length_toList]; exact NI.out)) hS13 ?_
          simp only [Act.put, List.setIfInBounds_toArray, List.set_cons_zero, List.set_cons_succ]
          refine takeD (i := 45) (v := .slice (some ⟨b0, o0, none⟩) n c0) (some 133) rfl rfl (by kernel_rfl) (by kernel_rfl) (by kernel_rfl) (fun _ _ _ h => h) (Or.inl ⟨by rfl, by rintro w' -; go_simp⟩) hS13 ?_
          simp only [Act.put, List.setIfInBounds_toArray, List.set_cons_zero, List.set_cons_succ]
          refine takeD (i := 46) (v := .int .i64 (k : Int)) (some 134) rfl rfl (by kernel_rfl) (by kernel_rfl) (by kernel_rfl) (fun _ _ _ h => h) (Or.inl ⟨by rfl, by rintro w' -; go_simp⟩) hS13 ?_
          simp only [Act.put, List.setIfInBounds_toArray, List.set_cons_zero, List.set_cons_succ]
          refine takeD (i := 47) (v := .pointer (some ⟨b0, o0 + k * 11, none⟩)) (some 135) rfl rfl (by kernel_rfl) (by kernel_rfl) (by kernel_rfl) (fun _ _ _ h => h) (Or.inl ⟨by rfl, by rintro w' -; go_simp⟩) hS13 ?_
          simp only [Act.put, List.setIfInBounds_toArray, List.set_cons_zero, List.set_cons_succ]
          refine takeD (i := 48) (v := .pointer (some ⟨b0, o0 + k * 11 + 3, none⟩)) (some 136) rfl rfl (by kernel_rfl) (by kernel_rfl) (by kernel_rfl) (fun _ _ _ h => h) (Or.inl ⟨by rfl, by rintro w' -; go_simp⟩) hS13 ?_
          simp only [Act.put, List.setIfInBounds_toArray, List.set_cons_zero, List.set_cons_succ]
          refine takeD (i := 49) (v := .agg C) (some 137) rfl rfl (by kernel_rfl) (by kernel_rfl) (by kernel_rfl) (fun _ _ _ h => h) (yieldsIf_load_mid (by rfl) _ _ rfl b0 (o0 + k * 11 + 3) rfl C.toList _ (fun w' h => rg_to RG_7.out h) Try.underlying25 rfl (by rw [Array.length_toList]; exact NI.out)) hS13 ?_
          simp only [Act.put, List.setIfInBounds_toArray, List.set_cons_zero, List.set_cons_succ]
          refine takeD (i := 50) (v := .bool false) (some 138) rfl rfl (by kernel_rfl) (by kernel_rfl) (by kernel_rfl) (fun _ _ _ h => h) (Or.inl ⟨by rfl, by rintro w' -; go_simp⟩) hS13 ?_
          simp only [Act.put, List.setIfInBounds_toArray, List.set_cons_zero, List.set_cons_succ]
          refine takeD (i := 51) (v := .bool false) (some 139) rfl rfl (by kernel_rfl) (by kernel_rfl) (by kernel_rfl) (fun _ _ _ h => h) (Or.inl ⟨by rfl, by rintro w' -; go_simp⟩) hS13 ?_
          simp only [Act.put, List.setIfInBounds_toArray, List.set_cons_zero, List.set_cons_succ]
          refine wpAnyH_done (by kernel_rfl) ?_ _
          go_wp2_with fail
          go_roundw
          case rel => exact ⟨k + 1, by omega, by go_num, Lib.hid ⟨by rw [MM.out, HT.out]; exact P5_10.out, B5.out.trans (HT_12.out.mono B5.out.size)⟩⟩
          case measure => simp [intOf]; omega
        · obtain rfl : k = n := by omega
          have P0 := Lib.hid (show RdP _ S [] false o from by have := V2.out.1; rw [Nat.sub_self] at this; exact this)
          have B0 := Lib.hid V2.out.2
          clear V2
          go_wp2_with fail
          refine (pleft_any S [] false o _ P0.out (by decide)).mono ?_
          rintro e x1 ⟨rfl, hb⟩
          have P1 := Lib.hid (P0.out.below hb)
          have B1 := Lib.hid (B0.out.trans (hb.mono B0.out.size))
          clear hb
          go_wp2_with fail
          refine (pdone_any S [] false o _ P1.out (by decide)).mono ?_
          rintro e x2 ⟨rfl, hb⟩
          have B2 := Lib.hid (B1.out.trans (hb.mono B1.out.size))
          clear hb
          go_wp2_with fail
          go_ret
          exact ⟨rfl, BW.out.trans (B2.out.mono BW.out.size)⟩
set_option maxHeartbeats 1000000 in
set_option maxRecDepth 100000 in
theorem rtlaw_early (v : Value) (n : Nat) (V : Nat → VL) (w : World) (h0 : Vs w v n V) (hno : 10 < n) : Calls Try.prog 5 #[v] w (lawPost w) := by
  obtain ⟨A0, c0, rfl, hm, -⟩ := h0
  have m0 : n ≤ 9223372036854775807 := by have := hm.2; unfold maxLen at this; omega
  have g0 : (10 : Int) < (n : Int) := by omega
  clear hm
  go_enter Try.func5, Try.ntmps5
  go_wp2_with fail
  refine (awake9 w).mono ?_
  rintro e w1 ⟨rfl, hbel⟩
  have B1 := Lib.hid hbel
  clear hbel
  go_wp2_with fail
  go_ret
  exact ⟨rfl, B1.out⟩
theorem rtlaw_walk (v : Value) (n : Nat) (V : Nat → VL) (w : World) (h0 : Vs w v n V) : Calls Try.prog 5 #[v] w (lawPost w) := by
  by_cases h : 10 < n
  · exact rtlaw_early v n V w h0 h
  · exact rtlaw_main v n V w h0 (by omega)
end Go.Proofs.Ytajeboigkpelgaa
