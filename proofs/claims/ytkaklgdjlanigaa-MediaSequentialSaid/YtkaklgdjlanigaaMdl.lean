/- Layer 11: the law's same, play. WRITTEN BY gen_Mdl.py. -/
import Derived.Test.YtkaklgdjlanigaaMdj
namespace Go.Proofs.Ytkaklgdjlanigaa
open Go Go.RowKit Med
set_option linter.unusedVariables false
set_option linter.unusedSimpArgs false

theorem md_ne {w : World} {M X c R B T S O : Nat} {l : List Sec} {M' X' c' R' B' T' S' O' : Nat} {l' : List Sec} (h1 : PMd w M X c R B T S O l) (h2 : RMd w M' X' c' R' B' T' S' O' l') : M ≠ X' ∧ M' ≠ X ∧ X ≠ X' ∧ M ≠ M' := by
  obtain ⟨cs, hr, -⟩ := h1.sx
  obtain ⟨cs', hr', -⟩ := h2.sx
  have key : ∀ (a b : Nat) (x y : Array Value) (s t : TypeId), Row w a s x → Row w b t y → s ≠ t → a ≠ b := by
    rintro a b x y s t ha hb hn rfl
    have := ha.symm.trans hb
    injection this with this
    injection this with _ e _
    exact hn e
  exact ⟨key _ _ _ _ _ _ h1.row hr' (by decide), key _ _ _ _ _ _ h2.row hr (by decide), key _ _ _ _ _ _ hr hr' (by decide), key _ _ _ _ _ _ h1.row h2.row (by decide)⟩
theorem rng_fw {w w' : World} {b off : Nat} {cs : List Value} (h : w.rangeAt b off cs) (hb : Below w.heap.size w w') : w'.rangeAt b off cs := fun j v hv => ce_fw (h j v hv) hb
/-- What the law's play returns. -/
def plPost (M X c M' X' c' R B T S O : Nat) (l : List Sec) (w : World) (e : Ending) (w' : World) : Prop := e = .returned (.bool true) ∧ PMd w' M X c R B T S O l ∧ RMd w' M' X' c' R B T S O l ∧ Chg (fun j => j = X ∨ j = X') w w'
set_option maxHeartbeats 4000000 in
set_option maxRecDepth 100000 in
theorem play_any {w W : World} {M X c M' X' c' R B T S O : Nat} {l : List Sec} (v : Value) (L : List Med.Op) (h1 : PMd w M X c R B T S O l) (h2 : RMd w M' X' c' R B T S O l) (hO : Ols W v L) (hW : Below W.heap.size W w) (hX : W.heap.size ≤ X) (hX' : W.heap.size ≤ X') :
    Calls Try.prog 15 #[.pointer (some ⟨M, 0, none⟩), .pointer (some ⟨M', 0, none⟩), v] w (plPost M X c M' X' c' R B T S O (Med.play R B T S O l L) w) := by
  have HL := Lib.hid hO.len
  obtain ⟨A, cc, rfl⟩ := hO.form
  have HO := Lib.hid hO
  have HW := Lib.hid hW
  have H1 := Lib.hid h1
  have H2 := Lib.hid h2
  have HX := Lib.hid hX
  have HX2 := Lib.hid hX'
  have NE := Lib.hid (md_ne h1 h2)
  obtain ⟨n, hn⟩ : ∃ n, L.length = n := ⟨_, rfl⟩
  have EN := Lib.hid hn
  rw [hn] at HO HL ⊢
  clear h1 h2 hO hW hX hX' hn
  go_enter Try.func15, Try.ntmps15
  go_wp2_with fail
  go_loopw [7] (fun i wr => ∃ k : Nat, k ≤ n ∧ i = .int .i64 (k : Int) ∧ Hid (PMd wr M X c R B T S O (Med.play R B T S O l (L.take k)) ∧ RMd wr M' X' c' R B T S O (Med.play R B T S O l (L.take k)) ∧ Chg (fun j => j = X ∨ j = X') w wr)) (fun i _ => n - (intOf i).toNat)
  case atStart => exact ⟨0, Nat.zero_le _, rfl, Lib.hid ⟨H1.out, H2.out, Chg.refl _ _⟩⟩
  case round =>
    obtain ⟨k, hk, rfl, V⟩ := hrel
    have nb := HL.out
    by_cases hlt : k < n
    · have kI : (k : Int) < (n : Int) := by omega
      obtain ⟨b, off, u, hk2, rfl, f0, f1, f2, f3⟩ := HO.out.nth hlt
      have PK := Lib.hid (play_take R B T S O l L hk2)
      have RG := Lib.hid (op_rng f0 f1 f2)
      have HU := Lib.hid f3
      obtain ⟨P1, R1, C1⟩ := V.out
      obtain ⟨lk, hlk⟩ : ∃ x, Med.play R B T S O l (L.take k) = x := ⟨_, rfl⟩
      rw [hlk] at P1 R1 PK
      obtain ⟨o, ho⟩ : ∃ o, L[k] = o := ⟨_, rfl⟩
      rw [ho] at PK RG HU
      have P_0 := Lib.hid P1
      have R_0 := Lib.hid R1
      have C_0 := Lib.hid C1
      have TB : Hid (Below W.heap.size W wr) := Lib.hid (HW.out.trans (C1.below HW.out.size (fun j hj => by rcases hj with rfl | rfl; exact HX.out; exact HX2.out)))
      clear f0 f1 f2 f3 P1 R1 C1 V hlk ho
      go_wp2_with fail
      refine wp_region_held (P := Try.prog) (S := (fun w' : World => Below W.heap.size W w')) rfl ?_
      change wpAnyH _ _ _ _ _ _ _ _ wr.drew
      have hz2 : Below wr.heap.size wr wr.drew := (Below.refl wr.heap.size wr).drew
      generalize wr.drew = wz1 at hz2 ⊢
      have hq3 : Below wr.heap.size wr wz1 := hz2
      have P_4 := Lib.hid (Md.fw P_0.out hq3)
      have R_5 := Lib.hid (Md.fw R_0.out hq3)
      have C_6 := Lib.hid (C_0.out.trans (below_chg hq3 _))
      have HB_7 : Hid (Below W.heap.size W wz1) := Lib.hid (TB.out.trans (hq3.mono TB.out.size))
      clear hq3
      clear hz2
      have hS8 : (fun w' : World => Below W.heap.size W w') wz1 := HB_7.out
      refine takeD (i := 0) (v := .pointer (some ⟨M, 0, none⟩)) (some 14) rfl rfl (by kernel_rfl) (by kernel_rfl) (by kernel_rfl) (fun _ _ _ h => h) (Or.inl ⟨by rfl, by rintro w' -; go_simp⟩) hS8 ?_
      simp only [Act.put, List.setIfInBounds_toArray, List.set_cons_zero, List.set_cons_succ]
      refine takeD (i := 1) (v := .slice (some ⟨b, off, none⟩) n cc) (some 15) rfl rfl (by kernel_rfl) (by kernel_rfl) (by kernel_rfl) (fun _ _ _ h => h) (Or.inl ⟨by rfl, by rintro w' -; go_simp⟩) hS8 ?_
      simp only [Act.put, List.setIfInBounds_toArray, List.set_cons_zero, List.set_cons_succ]
      refine takeD (i := 2) (v := .int .i64 (k : Int)) (some 16) rfl rfl (by kernel_rfl) (by kernel_rfl) (by kernel_rfl) (fun _ _ _ h => h) (Or.inl ⟨by rfl, by rintro w' -; go_simp⟩) hS8 ?_
      simp only [Act.put, List.setIfInBounds_toArray, List.set_cons_zero, List.set_cons_succ]
      refine takeD (i := 3) (v := .pointer (some ⟨b, off + k * 3, none⟩)) (some 17) rfl rfl (by kernel_rfl) (by kernel_rfl) (by kernel_rfl) (fun _ _ _ h => h) (Or.inl ⟨by rfl, by rintro w' -; go_simp⟩) hS8 ?_
      simp only [Act.put, List.setIfInBounds_toArray, List.set_cons_zero, List.set_cons_succ]
      refine takeD (i := 4) (v := .agg #[.bool o.erase, .int .i64 o.pos, u]) (some 18) rfl rfl (by kernel_rfl) (by kernel_rfl) (by kernel_rfl) (fun _ _ _ h => h) (yieldsIf_load_mid (by rfl) _ _ rfl b (off + k * 3) rfl [.bool o.erase, .int .i64 o.pos, u] _ (fun w' h => rng_fw RG.out h) Try.underlying43 rfl (by kernel_rfl)) hS8 ?_
      simp only [Act.put, List.setIfInBounds_toArray, List.set_cons_zero, List.set_cons_succ]
      refine takeD (i := 6) (v := .pointer (some ⟨M', 0, none⟩)) (some 20) rfl rfl (by kernel_rfl) (by kernel_rfl) (by kernel_rfl) (fun _ _ _ h => h) (Or.inl ⟨by rfl, by rintro w' -; go_simp⟩) hS8 ?_
      simp only [Act.put, List.setIfInBounds_toArray, List.set_cons_zero, List.set_cons_succ]
      refine takeD (i := 7) (v := .slice (some ⟨b, off, none⟩) n cc) (some 21) rfl rfl (by kernel_rfl) (by kernel_rfl) (by kernel_rfl) (fun _ _ _ h => h) (Or.inl ⟨by rfl, by rintro w' -; go_simp⟩) hS8 ?_
      simp only [Act.put, List.setIfInBounds_toArray, List.set_cons_zero, List.set_cons_succ]
      refine takeD (i := 8) (v := .int .i64 (k : Int)) (some 22) rfl rfl (by kernel_rfl) (by kernel_rfl) (by kernel_rfl) (fun _ _ _ h => h) (Or.inl ⟨by rfl, by rintro w' -; go_simp⟩) hS8 ?_
      simp only [Act.put, List.setIfInBounds_toArray, List.set_cons_zero, List.set_cons_succ]
      refine takeD (i := 9) (v := .pointer (some ⟨b, off + k * 3, none⟩)) (some 23) rfl rfl (by kernel_rfl) (by kernel_rfl) (by kernel_rfl) (fun _ _ _ h => h) (Or.inl ⟨by rfl, by rintro w' -; go_simp⟩) hS8 ?_
      simp only [Act.put, List.setIfInBounds_toArray, List.set_cons_zero, List.set_cons_succ]
      refine takeD (i := 10) (v := .agg #[.bool o.erase, .int .i64 o.pos, u]) (some 24) rfl rfl (by kernel_rfl) (by kernel_rfl) (by kernel_rfl) (fun _ _ _ h => h) (yieldsIf_load_mid (by rfl) _ _ rfl b (off + k * 3) rfl [.bool o.erase, .int .i64 o.pos, u] _ (fun w' h => rng_fw RG.out h) Try.underlying43 rfl (by kernel_rfl)) hS8 ?_
      simp only [Act.put, List.setIfInBounds_toArray, List.set_cons_zero, List.set_cons_succ]
      refine wpAnyH_ready (rs := [5]) (by kernel_rfl) (by simp) ?_
      refine AllReadyH.cons rfl (fun K9 hK9 => ?_) AllReadyH.nil
      have HK9 := Lib.hid hK9
      clear hK9
      rw [if_pos (by rfl)]
      go_simp
      refine (pdo_any P_4.out o u (HU.out.below HB_7.out)).mono ?_
      rintro e x10 ⟨rfl, hm, hc⟩
      have P11 := Lib.hid hm
      have R12 := Lib.hid (R_5.out.chg hc (fun e => NE.out.2.1 e) (fun e => NE.out.2.2.1 e.symm))
      have C13 := Lib.hid (C_6.out.trans (hc.mono (fun j h => Or.inl h)))
      have HB_14 : Hid (Below W.heap.size W x10) := Lib.hid (HB_7.out.trans (hc.below HB_7.out.size (fun j hj => by rw [hj]; exact HX.out)))
      clear hm hc
      have hS15 : (fun w' : World => Below W.heap.size W w') x10 := HB_14.out
      refine HK9.out _ _ hS15 fun _ => ?_
      try simp only [Act.put, List.setIfInBounds_toArray, List.set_cons_zero, List.set_cons_succ]
      refine wpAnyH_ready (rs := [11]) (by kernel_rfl) (by simp) ?_
      refine AllReadyH.cons rfl (fun K16 hK16 => ?_) AllReadyH.nil
      have HK16 := Lib.hid hK16
      clear hK16
      rw [if_pos (by rfl)]
      go_simp
      refine (rdo_any R12.out o u (HU.out.below HB_14.out)).mono ?_
      rintro e x17 ⟨rfl, hm, hc⟩
      have P18 := Lib.hid hm
      have R19 := Lib.hid (P11.out.chg hc (fun e => NE.out.1 e) (fun e => NE.out.2.2.1 e))
      have C20 := Lib.hid (C13.out.trans (hc.mono (fun j h => Or.inr h)))
      have HB_21 : Hid (Below W.heap.size W x17) := Lib.hid (HB_14.out.trans (hc.below HB_14.out.size (fun j hj => by rw [hj]; exact HX2.out)))
      clear hm hc
      have hS22 : (fun w' : World => Below W.heap.size W w') x17 := HB_21.out
      refine HK16.out _ _ hS22 fun _ => ?_
      try simp only [Act.put, List.setIfInBounds_toArray, List.set_cons_zero, List.set_cons_succ]
      refine takeD (i := 12) (v := .bool false) (some 26) rfl rfl (by kernel_rfl) (by kernel_rfl) (by kernel_rfl) (fun _ _ _ h => h) (Or.inl ⟨by rfl, by rintro w' -; go_simp⟩) hS22 ?_
      simp only [Act.put, List.setIfInBounds_toArray, List.set_cons_zero, List.set_cons_succ]
      refine wpAnyH_done (by kernel_rfl) ?_ _
      go_wp2_with fail
      go_roundw
      case rel => exact ⟨k + 1, by omega, by go_num, Lib.hid ⟨by rw [PK.out]; exact R19.out, by rw [PK.out]; exact P18.out, C20.out⟩⟩
      case measure => simp [intOf]; omega
    · obtain rfl : k = n := by omega
      have kI : ¬ (k : Int) < (k : Int) := by omega
      have dk : decide ((k : Int) < (k : Int)) = false := decide_eq_false kI
      have tk : L.take k = L := List.take_of_length_le (Nat.le_of_eq EN.out)
      rw [tk] at V
      clear tk
      go_wp2_with fail
      go_ret
      exact ⟨rfl, V.out⟩
set_option maxHeartbeats 4000000 in
set_option maxRecDepth 100000 in
theorem same_any {w : World} {M X c M' X' c' R B T S O : Nat} {l : List Sec} (h1 : PMd w M X c R B T S O l) (h2 : RMd w M' X' c' R B T S O l) :
    Calls Try.prog 16 #[.pointer (some ⟨M, 0, none⟩), .pointer (some ⟨M', 0, none⟩)] w (gPost (.bool true) w) := by
  have H1 := Lib.hid h1
  have H2 := Lib.hid h2
  have sm := h1.small
  obtain ⟨n, hn⟩ : ∃ n, l.length = n := ⟨_, rfl⟩
  have EN := Lib.hid hn
  rw [hn] at sm
  clear h1 h2 hn
  go_enter Try.func16, Try.ntmps16
  go_wp2_with fail
  refine wp_region_held (P := Try.prog) (S := (fun w' : World => Below w.heap.size w w')) rfl ?_
  change wpAnyH _ _ _ _ _ _ _ _ w.drew
  have hz2 : Below w.heap.size w w.drew := (Below.refl w.heap.size w).drew
  generalize w.drew = wz1 at hz2 ⊢
  have P_3 := Lib.hid (Md.fw H1.out (hz2))
  have R_4 := Lib.hid (Md.fw H2.out (hz2))
  have hl5 := hz2
  have HT_6 : Hid (Below w.heap.size w wz1) := Lib.hid (hl5)
  refine wpAnyH_up (S' := (fun w' : World => Below wz1.heap.size wz1 w')) (fun w' h => hz2.trans (h.mono hz2.size)) ?_
  have hS7 : (fun w' : World => Below wz1.heap.size wz1 w') wz1 := Below.refl _ _
  refine takeD (i := 0) (v := .pointer (some ⟨M, 0, none⟩)) (some 10) rfl rfl (by kernel_rfl) (by kernel_rfl) (by kernel_rfl) (fun _ _ _ h => h) (Or.inl ⟨by rfl, by rintro w' -; go_simp⟩) hS7 ?_
  simp only [Act.put, List.setIfInBounds_toArray, List.set_cons_zero, List.set_cons_succ]
  refine takeD (i := 1) (v := .bool false) (some 11) rfl rfl (by kernel_rfl) (by kernel_rfl) (by kernel_rfl) (fun _ _ _ h => h) (Or.inl ⟨by rfl, by rintro w' -; go_simp⟩) hS7 ?_
  simp only [Act.put, List.setIfInBounds_toArray, List.set_cons_zero, List.set_cons_succ]
  refine takeD (i := 2) (v := .bool false) (some 12) rfl rfl (by kernel_rfl) (by kernel_rfl) (by kernel_rfl) (fun _ _ _ h => h) (Or.inl ⟨by rfl, by rintro w' -; go_simp⟩) hS7 ?_
  simp only [Act.put, List.setIfInBounds_toArray, List.set_cons_zero, List.set_cons_succ]
  refine takeD (i := 3) (v := .pointer (some ⟨M, 0, none⟩)) (some 13) rfl rfl (by kernel_rfl) (by kernel_rfl) (by kernel_rfl) (fun _ _ _ h => h) (Or.inl ⟨by rfl, by rintro w' -; go_simp⟩) hS7 ?_
  simp only [Act.put, List.setIfInBounds_toArray, List.set_cons_zero, List.set_cons_succ]
  refine takeD (i := 5) (v := .pointer (some ⟨M', 0, none⟩)) (some 15) rfl rfl (by kernel_rfl) (by kernel_rfl) (by kernel_rfl) (fun _ _ _ h => h) (Or.inl ⟨by rfl, by rintro w' -; go_simp⟩) hS7 ?_
  simp only [Act.put, List.setIfInBounds_toArray, List.set_cons_zero, List.set_cons_succ]
  refine takeD (i := 6) (v := .pointer (some ⟨M', 0, none⟩)) (some 16) rfl rfl (by kernel_rfl) (by kernel_rfl) (by kernel_rfl) (fun _ _ _ h => h) (Or.inl ⟨by rfl, by rintro w' -; go_simp⟩) hS7 ?_
  simp only [Act.put, List.setIfInBounds_toArray, List.set_cons_zero, List.set_cons_succ]
  refine takeD (i := 7) (v := .pointer (some ⟨M', 0, none⟩)) (some 17) rfl rfl (by kernel_rfl) (by kernel_rfl) (by kernel_rfl) (fun _ _ _ h => h) (Or.inl ⟨by rfl, by rintro w' -; go_simp⟩) hS7 ?_
  simp only [Act.put, List.setIfInBounds_toArray, List.set_cons_zero, List.set_cons_succ]
  refine takeD (i := 8) (v := .agg #[.int .i64 (R : Int), .int .i64 (B : Int), .int .i64 (T : Int), .int .i64 (S : Int), .int .i64 (O : Int)]) (some 18) rfl rfl (by kernel_rfl) (by kernel_rfl) (by kernel_rfl) (fun _ _ _ h => h) (yieldsIf_load_mid (by rfl) _ _ rfl M' 0 rfl [.int .i64 (R : Int), .int .i64 (B : Int), .int .i64 (T : Int), .int .i64 (S : Int), .int .i64 (O : Int)] _ (fun w' h => (Md.fw R_4.out h).rng) Try.underlying23 rfl (by kernel_rfl)) hS7 ?_
  simp only [Act.put, List.setIfInBounds_toArray, List.set_cons_zero, List.set_cons_succ]
  refine wpAnyH_ready (rs := [4]) (by kernel_rfl) (by simp) ?_
  refine AllReadyH.cons rfl (fun K8 hK8 => ?_) AllReadyH.nil
  have HK8 := Lib.hid hK8
  clear hK8
  rw [if_pos (by rfl)]
  go_simp
  refine (pge_any P_3.out).mono ?_
  rintro e x9 ⟨rfl, hb10⟩
  have P_11 := Lib.hid (Md.fw P_3.out (hb10))
  have R_12 := Lib.hid (Md.fw R_4.out (hb10))
  have hl13 := hb10
  have HT_14 : Hid (Below w.heap.size w x9) := Lib.hid (HT_6.out.trans ((hl13).mono HT_6.out.size))
  clear hb10 
  have hb16 : Below wz1.heap.size wz1 x9 := hl13
  have hS15 : (fun w' : World => Below wz1.heap.size wz1 w') x9 := hb16
  refine HK8.out _ _ hS15 fun _ => ?_
  try simp only [Act.put, List.setIfInBounds_toArray, List.set_cons_zero, List.set_cons_succ]
  refine wpAnyH_up (S' := (fun w' : World => Below x9.heap.size x9 w')) (fun w' h => hb16.trans (h.mono hb16.size)) ?_
  have hS17 : (fun w' : World => Below x9.heap.size x9 w') x9 := Below.refl _ _
  refine takeD (i := 9) (v := .bool false) (some 19) rfl rfl (by kernel_rfl) (by kernel_rfl) (by kernel_rfl) (fun _ _ _ h => h) (Or.inl ⟨by rfl, by rintro w' -; go_simp⟩) hS17 ?_
  simp only [Act.put, List.setIfInBounds_toArray, List.set_cons_zero, List.set_cons_succ]
  refine takeD (i := 10) (v := .bool false) (some 20) rfl rfl (by kernel_rfl) (by kernel_rfl) (by kernel_rfl) (fun _ _ _ h => h) (Or.inl ⟨by rfl, by rintro w' -; go_simp⟩) hS17 ?_
  simp only [Act.put, List.setIfInBounds_toArray, List.set_cons_zero, List.set_cons_succ]
  refine wpAnyH_done (by kernel_rfl) ?_ _
  have T1 := Lib.hid HT_14.out
  have P1 := Lib.hid P_11.out
  have R1 := Lib.hid R_12.out
  go_wp2_with fail
  go_loopw [5, 6, 7, 8, 9] (fun i _ _ _ _ wr => ∃ k : Nat, k ≤ n + 2 ∧ i = .int .i64 ((k : Int) - 1) ∧ Hid (Below w.heap.size w wr ∧ PMd wr M X c R B T S O l ∧ RMd wr M' X' c' R B T S O l)) (fun i _ _ _ _ _ => n + 2 - (intOf i + 1).toNat)
  case atStart => exact ⟨0, Nat.zero_le _, rfl, Lib.hid ⟨T1.out, P1.out, R1.out⟩⟩
  case round =>
    obtain ⟨k, hk, rfl, V⟩ := hrel
    have c5 := V.out.2.2.c5
    rw [EN.out] at c5
    by_cases hlt : k < n + 2
    · have kI : (k : Int) - 1 ≤ (n : Int) := by omega
      have kb : n ≤ 100000 := by omega
      have RP := Lib.hid (prd_any V.out.2.1 ((k : Int) - 1))
      have VV := Lib.hid V.out.2
      have TV := Lib.hid V.out.1
      clear V
      go_wp2_with fail
      refine RP.out.mono ?_
      rintro e x1 ⟨v1, rfl, hv1, hb⟩
      have P2 := Lib.hid (VV.out.1.fw hb)
      have R2 := Lib.hid (VV.out.2.fw hb)
      have T2 := Lib.hid (TV.out.trans (hb.mono TV.out.size))
      have V1 := Lib.hid hv1.1
      have RR := Lib.hid (rrd_any R2.out ((k : Int) - 1))
      clear hv1 hb RP VV TV c5
      go_wp2_with fail
      refine RR.out.mono ?_
      rintro e x2 ⟨v2, rfl, hv2, hb⟩
      have P3 := Lib.hid (P2.out.fw hb)
      have R3 := Lib.hid (R2.out.fw hb)
      have T3 := Lib.hid (T2.out.trans (hb.mono T2.out.size))
      have V1b := V1.out.below hb
      have V2 := hv2.1
      obtain ⟨A1, a1, rfl⟩ := V1b.form
      obtain ⟨A2, a2, rfl⟩ := V2.form
      have cv1 := cvb A1 _ a1 _ V1b
      have cv2 := cvb A2 _ a2 _ V2
      rw [strOf_bOf] at cv1 cv2
      obtain ⟨m, hm⟩ : ∃ m, (bOf (rdB l ((k : Int) - 1))).length = m := ⟨_, rfl⟩
      rw [hm] at cv1 cv2 ⊢
      obtain ⟨sb, hsb⟩ : ∃ s, rdB l ((k : Int) - 1) = s := ⟨_, rfl⟩
      rw [hsb] at cv1 cv2
      obtain ⟨re, hre⟩ : ∃ s, rdE l ((k : Int) - 1) = s := ⟨_, rfl⟩
      rw [hre]
      have S1 := Lib.hid (pst_any P3.out ((k : Int) - 1))
      have S2 := Lib.hid (rst_any R3.out ((k : Int) - 1))
      generalize st l ((k : Int) - 1) = sv at S1 S2
      clear V1b V2 hv2 hb hm hsb hre V1 P2 R2 RR T2
      go_wp2_with fail
      refine S1.out.mono ?_
      rintro e w' ⟨rfl, rfl⟩
      go_wp2_with fail
      refine S2.out.mono ?_
      rintro e w' ⟨rfl, rfl⟩
      go_wp2_with fail
      go_roundw
      case rel => exact ⟨k + 1, by omega, by go_num, Lib.hid ⟨T3.out, P3.out, R3.out⟩⟩
      case measure => simp [intOf]; omega
    · have kI : ¬ (k : Int) - 1 ≤ (n : Int) := by omega
      have dk : decide ((k : Int) - 1 ≤ (n : Int)) = false := decide_eq_false kI
      have TV := Lib.hid V.out.1
      clear V
      go_wp2_with fail
      go_ret
      exact ⟨rfl, TV.out⟩
end Go.Proofs.Ytkaklgdjlanigaa
