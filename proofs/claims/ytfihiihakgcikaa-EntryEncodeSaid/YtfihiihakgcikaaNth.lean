/- Layer 15: Decode: the reference's. WRITTEN BY gen_Nth.py. -/
import Derived.Test.YtfihiihakgcikaaNtg
import Derived.Test.YtfihiihakgcikaaRu
import Derived.Deep.RegionHeld3
namespace Go.Proofs.Ytfihiihakgcikaa
open Go Go.RowKit Ent
set_option linter.unusedVariables false
set_option linter.unusedSimpArgs false
theorem str_ne {a b : List Nat} (ha : ∀ x ∈ a, x < 256) (hb : ∀ x ∈ b, x < 256) {r : Bool} (h : decide (a = b) = !r) : (!((strOf a).toList == (strOf b).toList)) = r := by
  rw [strOf_eq a b ha hb, h, Bool.not_not]
set_option maxHeartbeats 4000000 in
set_option maxRecDepth 100000 in
theorem rdec_len (v : Value) (b : List Nat) (w : World) (hb : Bs w v b) (h37 : b.length ≠ 37) : Calls Try.prog 13 #[v] w (decPost b w) := by
  refine Calls.mono ?_ fun r w' h => dec_fin (x := 5) (by decide) (decE_len h37) h
  obtain ⟨A, c, rfl⟩ := hb.form
  have hI : ((b.length : Int) != 37) = true := by simp; omega
  generalize b.length = n at *
  clear hb h37
  go_enter Try.func13, Try.ntmps13
  go_wp2_with fail
  refine bodyPost_ret (results_cell3 (g := w.heap.size) (t := 26) (fr := (0, 0)) rfl _ _ _ _ rfl (eb_zero w rfl) Try.underlying26 rfl (by kernel_rfl)) rfl ?_
  exact ⟨rfl, (Below.refl _ _).alloc (Nat.le_refl _) _⟩
set_option maxHeartbeats 4000000 in
set_option maxRecDepth 100000 in
theorem rdec_sum (v : Value) (b : List Nat) (w : World) (hb : Bs w v b) (h37 : b.length = 37) (hs : Crc.crc (b.take 29) ≠ Crc.num (sub b 29 8)) : Calls Try.prog 13 #[v] w (decPost b w) := by
  have E6 := Lib.hid (decE_sum h37 hb.lt hs)
  have hq : decide (sld (b.take 29) = b) = !true := decide_eq_false fun q => hs ((sum_iff h37 hb.lt).1 q)
  have BS0 := hb
  obtain ⟨g, off, c, rfl, hc⟩ := form37 hb h37
  obtain ⟨B0, hB0⟩ : ∃ B, w.heap.size = B := ⟨_, rfl⟩
  obtain ⟨W, hW⟩ : ∃ W, w.alloc (.cells #[.int .i64 0, .int .i64 0, .int .u64 0, .int .u8 0, .int .u8 0, .int .u8 0, .int .u8 0, .int .u8 0, .int .u8 0, .int .u8 0, .int .u8 0] 26) = W := ⟨_, rfl⟩
  have BW : Below w.heap.size w W := by rw [← hW]; exact (Below.refl _ _).alloc (Nat.le_refl _) _
  have R0 : Hid (Eb W B0 ez) := Lib.hid (by rw [← hW]; exact eb_zero w hB0)
  have F0 := Lib.hid (hb.below BW)
  have S29 := Lib.hid fun w' (h : Bs w' (.slice (some ⟨g, off, none⟩) 37 c) b) => bs_take h (k := 29) (by omega)
  have L29 : Hid ((b.take 29).length = 29) := Lib.hid (by rw [List.length_take]; omega)
  have NE : Hid ((!((strOf (sld (b.take 29))).toList == (strOf b).toList)) = true) := Lib.hid (str_ne (sld_lt fun x hx => hb.lt x (List.mem_of_mem_take hx)) hb.lt (hq))
  have K1 := (cut_h (some ⟨g, off, none⟩) 37 c 29 (by omega) hc)
  have k1 : ∀ w, (Instr.slice 27 (.slice (some ⟨g, off, none⟩) 37 c) none (some (.int .i64 29)) none).run Try.prog w = .ok (.slice (some ⟨g, off, none⟩) 29 c) w := K1.1
  have k1' : ∀ w, (Instr.sliceAt 27 (.slice (some ⟨g, off, none⟩) 37 c) none (some (.int .i64 29)) none).run Try.prog w = .ok (.slice (some ⟨g, off, none⟩) 29 c) w := K1.2
  obtain ⟨sl, hsl⟩ : ∃ l, sld (b.take 29) = l := ⟨_, rfl⟩
  have SEAL := Lib.hid fun w' (h : Bs w' (.slice (some ⟨g, off, none⟩) 37 c) b) => (show Calls Try.prog 14 #[.slice (some ⟨g, off, none⟩) 29 c] w' (newB sl w') from by
    have := rseal_any _ _ w' (S29.out w' h) (by rw [L29.out]; omega)
    rw [hsl] at this
    exact this)
  rw [hsl] at NE
  obtain ⟨ta, hta⟩ : ∃ t, strOf sl = t := ⟨_, rfl⟩
  obtain ⟨tb, htb⟩ : ∃ t, strOf b = t := ⟨_, rfl⟩
  rw [hta, htb] at NE
  have TA := Lib.hid hta
  have TB := Lib.hid htb
  obtain ⟨Z, hZ, hz⟩ := zero_cells
  have EZ := Lib.hid hZ
  have HZ := Lib.hid hz
  rw [hZ] at hW
  have HB1 := Lib.hid hB0
  have HW1 := Lib.hid hW
  have BL := Lib.hid BW
  clear hb h37 hs hB0 hW BW BS0 K1 hsl hta htb hZ hz hq
  go_enter Try.func13, Try.ntmps13
  go_wp2_with (first | rw [EZ.out] | rw [HB1.out] | rw [HW1.out])
  refine wp_region_held (P := Try.prog) (S := (fun w' : World => Below W.heap.size W w')) rfl ?_
  change wpAnyH _ _ _ _ _ _ _ _ W.drew
  have uhz2 : Below W.heap.size W W.drew := (Below.refl W.heap.size W).drew
  generalize W.drew = uwz1 at uhz2 ⊢
  have uF0_3 := Lib.hid (Bs.below F0.out (uhz2))
  have uR0_4 := Lib.hid (Eb.below R0.out (uhz2))
  have uhl5 := uhz2
  have uHT_6 : Hid (Below W.heap.size W uwz1) := Lib.hid (uhl5)
  refine wpAnyH_up (S' := (fun w' : World => Below uwz1.heap.size uwz1 w')) (fun w' h => uhz2.trans (h.mono uhz2.size)) ?_
  have uhS7 : (fun w' : World => Below uwz1.heap.size uwz1 w') uwz1 := Below.refl _ _
  refine takeD (i := 0) (v := .slice (some ⟨g, off, none⟩) 37 c) (some 11) rfl rfl (by kernel_rfl) (by kernel_rfl) (by kernel_rfl) (fun _ _ _ h => h) (Or.inl ⟨by rfl, by rintro w' -; go_simp⟩) uhS7 ?_
  simp only [Act.put, List.setIfInBounds_toArray, List.set_cons_zero, List.set_cons_succ]
  refine takeD (i := 1) (v := .slice (some ⟨g, off, none⟩) 29 c) (some 12) rfl rfl (by kernel_rfl) (by kernel_rfl) (by kernel_rfl) (fun _ _ _ h => h) (Or.inl ⟨by rfl, by rintro w' -; go_simp⟩) uhS7 ?_
  simp only [Act.put, List.setIfInBounds_toArray, List.set_cons_zero, List.set_cons_succ]
  refine takeD (i := 4) (v := .slice (some ⟨g, off, none⟩) 37 c) (some 15) rfl rfl (by kernel_rfl) (by kernel_rfl) (by kernel_rfl) (fun _ _ _ h => h) (Or.inl ⟨by rfl, by rintro w' -; go_simp⟩) uhS7 ?_
  simp only [Act.put, List.setIfInBounds_toArray, List.set_cons_zero, List.set_cons_succ]
  refine takeD (i := 5) (v := .string tb) (some 16) rfl rfl (by kernel_rfl) (by kernel_rfl) (by kernel_rfl) (fun _ _ _ h => h) (Or.inl ⟨by rfl, by rintro w' h; have hc := conv_bs 27 5 9 Try.underlying27 Try.underlying5 Try.underlying9 ((uF0_3.out).below h); rw [TB.out] at hc; go_simp⟩) uhS7 ?_
  simp only [Act.put, List.setIfInBounds_toArray, List.set_cons_zero, List.set_cons_succ]
  refine wpAnyH_ready (rs := [2]) (by kernel_rfl) (by simp) ?_
  refine AllReadyH.cons rfl (fun uK8 huK8 => ?_) AllReadyH.nil
  have HuK8 := Lib.hid huK8
  clear huK8
  rw [if_pos (by rfl)]
  go_simp
  refine (SEAL.out _ uF0_3.out).mono ?_
  rintro e ux9 ⟨vs, rfl, uhn11, uhb10⟩
  have uF0_12 := Lib.hid (Bs.below uF0_3.out (uhb10))
  have uR0_13 := Lib.hid (Eb.below uR0_4.out (uhb10))
  have uhl14 := uhb10
  have uHT_15 : Hid (Below W.heap.size W ux9) := Lib.hid (uHT_6.out.trans ((uhl14).mono uHT_6.out.size))
  have ufs_16 := Lib.hid ((uhn11).bs)
  clear uhb10 uhn11
  have uhb18 : Below uwz1.heap.size uwz1 ux9 := uhl14
  have uhS17 : (fun w' : World => Below uwz1.heap.size uwz1 w') ux9 := uhb18
  refine HuK8.out _ _ uhS17 fun _ => ?_
  try simp only [Act.put, List.setIfInBounds_toArray, List.set_cons_zero, List.set_cons_succ]
  refine wpAnyH_up (S' := (fun w' : World => Below ux9.heap.size ux9 w')) (fun w' h => uhb18.trans (h.mono uhb18.size)) ?_
  have uhS19 : (fun w' : World => Below ux9.heap.size ux9 w') ux9 := Below.refl _ _
  refine takeD (i := 3) (v := .string ta) (some 14) rfl rfl (by kernel_rfl) (by kernel_rfl) (by kernel_rfl) (fun _ _ _ h => h) (Or.inl ⟨by rfl, by rintro w' h; have hc := conv_bs 27 5 9 Try.underlying27 Try.underlying5 Try.underlying9 ((ufs_16.out).below h); rw [TA.out] at hc; go_simp⟩) uhS19 ?_
  simp only [Act.put, List.setIfInBounds_toArray, List.set_cons_zero, List.set_cons_succ]
  refine takeD (i := 6) (v := .bool true) (some 17) rfl rfl (by kernel_rfl) (by kernel_rfl) (by kernel_rfl) (fun _ _ _ h => h) (Or.inl ⟨by rfl, by rintro w' -; have hne := NE.out; go_simp⟩) uhS19 ?_
  simp only [Act.put, List.setIfInBounds_toArray, List.set_cons_zero, List.set_cons_succ]
  refine wpAnyH_done (by kernel_rfl) ?_ _
  have TH := Lib.hid (show ux9.there B0 0 Z.size by rw [HZ.out.size]; exact (uR0_13.out).there ez_fit)
  have FIN := Lib.hid ((uR0_13.out).zero ez_fit HZ.out)
  have BF := Lib.hid (below_setCells15 (BL.out.trans ((uHT_15.out).mono BL.out.size)) Z.toList B0 0 (by rw [HB1.out]; exact Nat.le_refl _))
  go_wp2_with (first | rw [EZ.out] | (refine wpList_store_mid rfl _ _ _ rfl B0 0 Z rfl rfl TH.out HZ.out.info HZ.out.one ?_))
  refine bodyPost_ret (results_cell3 (g := B0) (t := 26) (fr := (0, 0)) rfl _ _ _ _ rfl FIN.out Try.underlying26 rfl HZ.out.info) rfl ?_
  refine dec_fin (x := 6) (by decide) E6.out ⟨?_, BF.out⟩
  rw [HZ.out.ez]; rfl
def mixd (D : List Nat) (k : Nat) : List Nat := D.take k ++ List.replicate (8 - k) 0
theorem mixd_len {D : List Nat} (h : D.length = 8) {k : Nat} (hk : k ≤ 8) : (mixd D k).length = 8 := by simp [mixd]; omega
theorem mixd_lt {D : List Nat} (h : ∀ x ∈ D, x < 256) (k : Nat) : ∀ x ∈ mixd D k, x < 256 := by
  intro x hx
  rcases List.mem_append.1 hx with hx | hx
  · exact h x (List.mem_of_mem_take hx)
  · rw [List.eq_of_mem_replicate hx]; decide
theorem mixd_succ {D : List Nat} (h : D.length = 8) {k : Nat} (hk : k < 8) : (mixd D k).set k (D.getD k 0) = mixd D (k + 1) := by
  unfold mixd
  rw [List.set_append_right _ _ (by rw [List.length_take]; omega), List.length_take, Nat.min_eq_left (by omega), Nat.sub_self, show 8 - k = (8 - (k + 1)) + 1 by omega, List.replicate_succ, List.set_cons_zero, List.take_succ_eq_append_getElem (by omega), getD_in (by omega), List.append_assoc]
  rfl
theorem mixd_8 {D : List Nat} (h : D.length = 8) : mixd D 8 = D := by simp [mixd, ← h]
theorem Eb.dset {w : World} {b : Nat} {e : E} (h : Eb w b e) (hf : Fit e) {k x : Nat} (hk : k < 8) : Eb (w.setCell ⟨b, 3 + k, none⟩ (.int .u8 (x : Int))) b { e with data := e.data.set k x } := by
  have hr : Row w b 26 (ecs e).toArray := h
  have h1 := hr.store (3 + k) (.int .u8 (x : Int))
  have e1 : (ecs e).toArray.setIfInBounds (3 + k) (.int .u8 (x : Int)) = (ecs { e with data := e.data.set k x }).toArray := by
    simp only [ecs, List.setIfInBounds_toArray, List.map_set]
    rw [Nat.add_comm 3 k]
    rfl
  rw [e1] at h1
  exact h1
theorem Eb.other {w : World} {b : Nat} {e : E} (h : Eb w b e) {k : Nat} (hk : b ≠ k) (i : Nat) (u : Value) : Eb (w.setCell ⟨k, i, none⟩ u) b e := rw_other h hk i u
theorem Eb.dcell {w : World} {b : Nat} {e : E} (h : Eb w b e) (hf : Fit e) {k : Nat} (hk : k < 8) : (∃ v, w.cell? ⟨b, 3 + k, none⟩ = some v) ∧ w.frozen? ⟨b, 3 + k, none⟩ = false :=
  ⟨⟨_, h.data k _ (getD_bv (by have := hf.2.1; omega))⟩, Row.frozen h _⟩
set_option maxHeartbeats 4000000 in
set_option maxRecDepth 100000 in
theorem rdec_val (v : Value) (b : List Nat) (w : World) (hb : Bs w v b) (h37 : b.length = 37) (hs : Crc.crc (b.take 29) = Crc.num (sub b 29 8)) : Calls Try.prog 13 #[v] w (decPost b w) := by
  have HE := Lib.hid (decE_val h37 hb.lt hs)
  have FT := Lib.hid (rdE_fit h37 hb.lt)
  have hq : decide (sld (b.take 29) = b) = !false := decide_eq_true ((sum_iff h37 hb.lt).2 hs)
  have BS0 := hb
  obtain ⟨g, off, c, rfl, hc⟩ := form37 hb h37
  obtain ⟨B0, hB0⟩ : ∃ B, w.heap.size = B := ⟨_, rfl⟩
  obtain ⟨W, hW⟩ : ∃ W, w.alloc (.cells #[.int .i64 0, .int .i64 0, .int .u64 0, .int .u8 0, .int .u8 0, .int .u8 0, .int .u8 0, .int .u8 0, .int .u8 0, .int .u8 0, .int .u8 0] 26) = W := ⟨_, rfl⟩
  have BW : Below w.heap.size w W := by rw [← hW]; exact (Below.refl _ _).alloc (Nat.le_refl _) _
  have R0 : Hid (Eb W B0 ez) := Lib.hid (by rw [← hW]; exact eb_zero w hB0)
  have F0 := Lib.hid (hb.below BW)
  have S29 := Lib.hid fun w' (h : Bs w' (.slice (some ⟨g, off, none⟩) 37 c) b) => bs_take h (k := 29) (by omega)
  have L29 : Hid ((b.take 29).length = 29) := Lib.hid (by rw [List.length_take]; omega)
  have NE : Hid ((!((strOf (sld (b.take 29))).toList == (strOf b).toList)) = false) := Lib.hid (str_ne (sld_lt fun x hx => hb.lt x (List.mem_of_mem_take hx)) hb.lt (hq))
  have K1 := (cut_h (some ⟨g, off, none⟩) 37 c 29 (by omega) hc)
  have k1 : ∀ w, (Instr.slice 27 (.slice (some ⟨g, off, none⟩) 37 c) none (some (.int .i64 29)) none).run Try.prog w = .ok (.slice (some ⟨g, off, none⟩) 29 c) w := K1.1
  have k1' : ∀ w, (Instr.sliceAt 27 (.slice (some ⟨g, off, none⟩) 37 c) none (some (.int .i64 29)) none).run Try.prog w = .ok (.slice (some ⟨g, off, none⟩) 29 c) w := K1.2
  obtain ⟨sl, hsl⟩ : ∃ l, sld (b.take 29) = l := ⟨_, rfl⟩
  have SEAL := Lib.hid fun w' (h : Bs w' (.slice (some ⟨g, off, none⟩) 37 c) b) => (show Calls Try.prog 14 #[.slice (some ⟨g, off, none⟩) 29 c] w' (newB sl w') from by
    have := rseal_any _ _ w' (S29.out w' h) (by rw [L29.out]; omega)
    rw [hsl] at this
    exact this)
  rw [hsl] at NE
  obtain ⟨ta, hta⟩ : ∃ t, strOf sl = t := ⟨_, rfl⟩
  obtain ⟨tb, htb⟩ : ∃ t, strOf b = t := ⟨_, rfl⟩
  rw [hta, htb] at NE
  have TA := Lib.hid hta
  have TB := Lib.hid htb
  obtain ⟨Z, hZ, hz⟩ := zero_cells
  have EZ := Lib.hid hZ
  have HZ := Lib.hid hz
  rw [hZ] at hW
  have HB1 := Lib.hid hB0
  have HW1 := Lib.hid hW
  have BL := Lib.hid BW
  have M0 := cut_lh g off 37 c 1 5 (by omega) (by omega) (by omega)
  have m0 : ∀ w, (Instr.slice 27 (.slice (some ⟨g, off, none⟩) 37 c) (some (.int .i64 1)) (some (.int .i64 5)) none).run Try.prog w = .ok (.slice (some ⟨g, off + 1, none⟩) 4 (c - 1)) w := M0.1
  have m0' : ∀ w, (Instr.sliceAt 27 (.slice (some ⟨g, off, none⟩) 37 c) (some (.int .i64 1)) (some (.int .i64 5)) none).run Try.prog w = .ok (.slice (some ⟨g, off + 1, none⟩) 4 (c - 1)) w := M0.2
  clear M0
  have M1 := cut_lh g off 37 c 5 13 (by omega) (by omega) (by omega)
  have m1 : ∀ w, (Instr.slice 27 (.slice (some ⟨g, off, none⟩) 37 c) (some (.int .i64 5)) (some (.int .i64 13)) none).run Try.prog w = .ok (.slice (some ⟨g, off + 5, none⟩) 8 (c - 5)) w := M1.1
  have m1' : ∀ w, (Instr.sliceAt 27 (.slice (some ⟨g, off, none⟩) 37 c) (some (.int .i64 5)) (some (.int .i64 13)) none).run Try.prog w = .ok (.slice (some ⟨g, off + 5, none⟩) 8 (c - 5)) w := M1.2
  clear M1
  have M2 := cut_lh g off 37 c 21 29 (by omega) (by omega) (by omega)
  have m2 : ∀ w, (Instr.slice 27 (.slice (some ⟨g, off, none⟩) 37 c) (some (.int .i64 21)) (some (.int .i64 29)) none).run Try.prog w = .ok (.slice (some ⟨g, off + 21, none⟩) 8 (c - 21)) w := M2.1
  have m2' : ∀ w, (Instr.sliceAt 27 (.slice (some ⟨g, off, none⟩) 37 c) (some (.int .i64 21)) (some (.int .i64 29)) none).run Try.prog w = .ok (.slice (some ⟨g, off + 21, none⟩) 8 (c - 21)) w := M2.2
  clear M2
  have k0 : b.getD 0 0 = Crc.num (sub b 0 1) := (num_one hb.lt (by omega)).symm
  have x0 : b.getD 0 0 < 256 := hb.getD_lt 0
  have n4 := Crc.num_lt (sub_lt hb.lt 1 4)
  rw [sub_len (by omega)] at n4
  have DL : Hid ((sub b 13 8).length = 8) := Lib.hid (sub_len (by omega))
  have DB := Lib.hid (sub_lt hb.lt 13 8)
  have G1 := Lib.hid fun w' (h : Bs w' (.slice (some ⟨g, off, none⟩) 37 c) b) => rget_any (.slice (some ⟨g, off + 1, none⟩) 4 (c - 1)) (sub b 1 4) w' (bs_sub h (lo := 1) (n := 4) (by omega) (by omega)) (by rw [sub_len (by omega)]; omega)
  have G2 := Lib.hid fun w' (h : Bs w' (.slice (some ⟨g, off, none⟩) 37 c) b) => rget_any (.slice (some ⟨g, off + 5, none⟩) 8 (c - 5)) (sub b 5 8) w' (bs_sub h (lo := 5) (n := 8) (by omega) (by omega)) (by rw [sub_len (by omega)]; omega)
  have G3 := Lib.hid fun w' (h : Below w.heap.size w w') => rget_any (.slice (some ⟨g, off + 21, none⟩) 8 (c - 21)) (sub b 21 8) w' (bs_sub (hb.below h) (lo := 21) (n := 8) (by omega) (by omega)) (by rw [sub_len (by omega)]; omega)
  have C0 := Lib.hid fun w' (h : Bs w' (.slice (some ⟨g, off, none⟩) 37 c) b) => (show w'.cell? ⟨g, off, none⟩ = some (.int .u8 ((b.getD 0 0 : Nat) : Int)) from by
    obtain ⟨g', o', e1, hq⟩ := Bs.nth h rfl (k := 0) (by omega)
    injection e1 with e1
    injection e1 with e2 e3
    subst e2 e3
    exact hq)
  have CB := Lib.hid fun w' (h : Below w.heap.size w w') k (hk : k < 8) => (show w'.cell? ⟨g, off + (13 + k), none⟩ = some (.int .u8 (((sub b 13 8).getD k 0 : Nat) : Int)) from by
    have := Bs.rng (hb.below h) (lo := 13) (n := 8) (by omega) (by omega) k _ (getD_bv (by rw [DL.out]; exact hk))
    rw [Nat.add_assoc] at this
    exact this)
  rw [k0] at C0 x0
  have HR := Lib.hid (show rdE b = ⟨((Crc.num (sub b 0 1) : Nat) : Int), ((Crc.num (sub b 1 4) : Nat) : Int), Crc.num (sub b 5 8), sub b 13 8⟩ from rfl)
  have HT := Lib.hid (show rdT b = Crc.num (sub b 21 8) from rfl)
  obtain ⟨p0, hp0⟩ : ∃ x, Crc.num (sub b 0 1) = x := ⟨_, rfl⟩
  obtain ⟨p1, hp1⟩ : ∃ x, Crc.num (sub b 1 4) = x := ⟨_, rfl⟩
  obtain ⟨p2, hp2⟩ : ∃ x, Crc.num (sub b 5 8) = x := ⟨_, rfl⟩
  obtain ⟨p3, hp3⟩ : ∃ x, Crc.num (sub b 21 8) = x := ⟨_, rfl⟩
  obtain ⟨D, hD⟩ : ∃ x, sub b 13 8 = x := ⟨_, rfl⟩
  rw [hp0] at C0 x0 HR
  rw [hp1] at G1 n4 HR
  rw [hp2] at G2 HR
  rw [hp3] at G3 HT
  rw [hD] at DL DB CB HR
  rw [HR.out] at FT
  have FE : Hid (Fit (⟨(p0 : Int), (p1 : Int), p2, List.replicate 8 0⟩ : E)) := Lib.hid ⟨FT.out.1, List.length_replicate, fun x hx => by rw [List.eq_of_mem_replicate hx]; decide⟩
  obtain ⟨Y, hY⟩ : ∃ Y : Array Value, #[.int .i64 (p0 : Int), .int .i64 (p1 : Int), .int .u64 (p2 : Int), .int .u8 0, .int .u8 0, .int .u8 0, .int .u8 0, .int .u8 0, .int .u8 0, .int .u8 0, .int .u8 0] = Y := ⟨_, rfl⟩
  have EY := Lib.hid hY
  have HY : Hid (Y = (ecs (⟨(p0 : Int), (p1 : Int), p2, List.replicate 8 0⟩ : E)).toArray) := Lib.hid (by rw [← hY]; rfl)
  have SY : Hid ((Try.prog.info? 26).map (·.size) = some Y.size) := Lib.hid (by rw [HY.out, List.size_toArray, ecs_len FE.out]; kernel_rfl)
  have OY : Hid (Y.all (·.oneCell') = true) := Lib.hid (by rw [HY.out]; exact all_oneCell_toArray (ecs_one _))
  have WP0 := Lib.hid (i64_small (p := p0) (Nat.lt_trans x0 (by decide)))
  have WP1 := Lib.hid (i64_small (p := p1) n4)
  clear hb h37 hs hB0 hW BW BS0 K1 hsl hta htb hZ hz hq hY k0 x0 n4 hp0 hp1 hp2 hp3 hD
  go_enter Try.func13, Try.ntmps13
  go_wp2_with (first | rw [EZ.out] | rw [HB1.out] | rw [HW1.out])
  refine wp_region_held (P := Try.prog) (S := (fun w' : World => Below W.heap.size W w')) rfl ?_
  change wpAnyH _ _ _ _ _ _ _ _ W.drew
  have uhz2 : Below W.heap.size W W.drew := (Below.refl W.heap.size W).drew
  generalize W.drew = uwz1 at uhz2 ⊢
  have uF0_3 := Lib.hid (Bs.below F0.out (uhz2))
  have uR0_4 := Lib.hid (Eb.below R0.out (uhz2))
  have uhl5 := uhz2
  have uHT_6 : Hid (Below W.heap.size W uwz1) := Lib.hid (uhl5)
  refine wpAnyH_up (S' := (fun w' : World => Below uwz1.heap.size uwz1 w')) (fun w' h => uhz2.trans (h.mono uhz2.size)) ?_
  have uhS7 : (fun w' : World => Below uwz1.heap.size uwz1 w') uwz1 := Below.refl _ _
  refine takeD (i := 0) (v := .slice (some ⟨g, off, none⟩) 37 c) (some 11) rfl rfl (by kernel_rfl) (by kernel_rfl) (by kernel_rfl) (fun _ _ _ h => h) (Or.inl ⟨by rfl, by rintro w' -; go_simp⟩) uhS7 ?_
  simp only [Act.put, List.setIfInBounds_toArray, List.set_cons_zero, List.set_cons_succ]
  refine takeD (i := 1) (v := .slice (some ⟨g, off, none⟩) 29 c) (some 12) rfl rfl (by kernel_rfl) (by kernel_rfl) (by kernel_rfl) (fun _ _ _ h => h) (Or.inl ⟨by rfl, by rintro w' -; go_simp⟩) uhS7 ?_
  simp only [Act.put, List.setIfInBounds_toArray, List.set_cons_zero, List.set_cons_succ]
  refine takeD (i := 4) (v := .slice (some ⟨g, off, none⟩) 37 c) (some 15) rfl rfl (by kernel_rfl) (by kernel_rfl) (by kernel_rfl) (fun _ _ _ h => h) (Or.inl ⟨by rfl, by rintro w' -; go_simp⟩) uhS7 ?_
  simp only [Act.put, List.setIfInBounds_toArray, List.set_cons_zero, List.set_cons_succ]
  refine takeD (i := 5) (v := .string tb) (some 16) rfl rfl (by kernel_rfl) (by kernel_rfl) (by kernel_rfl) (fun _ _ _ h => h) (Or.inl ⟨by rfl, by rintro w' h; have hc := conv_bs 27 5 9 Try.underlying27 Try.underlying5 Try.underlying9 ((uF0_3.out).below h); rw [TB.out] at hc; go_simp⟩) uhS7 ?_
  simp only [Act.put, List.setIfInBounds_toArray, List.set_cons_zero, List.set_cons_succ]
  refine wpAnyH_ready (rs := [2]) (by kernel_rfl) (by simp) ?_
  refine AllReadyH.cons rfl (fun uK8 huK8 => ?_) AllReadyH.nil
  have HuK8 := Lib.hid huK8
  clear huK8
  rw [if_pos (by rfl)]
  go_simp
  refine (SEAL.out _ uF0_3.out).mono ?_
  rintro e ux9 ⟨vs, rfl, uhn11, uhb10⟩
  have uF0_12 := Lib.hid (Bs.below uF0_3.out (uhb10))
  have uR0_13 := Lib.hid (Eb.below uR0_4.out (uhb10))
  have uhl14 := uhb10
  have uHT_15 : Hid (Below W.heap.size W ux9) := Lib.hid (uHT_6.out.trans ((uhl14).mono uHT_6.out.size))
  have ufs_16 := Lib.hid ((uhn11).bs)
  clear uhb10 uhn11
  have uhb18 : Below uwz1.heap.size uwz1 ux9 := uhl14
  have uhS17 : (fun w' : World => Below uwz1.heap.size uwz1 w') ux9 := uhb18
  refine HuK8.out _ _ uhS17 fun _ => ?_
  try simp only [Act.put, List.setIfInBounds_toArray, List.set_cons_zero, List.set_cons_succ]
  refine wpAnyH_up (S' := (fun w' : World => Below ux9.heap.size ux9 w')) (fun w' h => uhb18.trans (h.mono uhb18.size)) ?_
  have uhS19 : (fun w' : World => Below ux9.heap.size ux9 w') ux9 := Below.refl _ _
  refine takeD (i := 3) (v := .string ta) (some 14) rfl rfl (by kernel_rfl) (by kernel_rfl) (by kernel_rfl) (fun _ _ _ h => h) (Or.inl ⟨by rfl, by rintro w' h; have hc := conv_bs 27 5 9 Try.underlying27 Try.underlying5 Try.underlying9 ((ufs_16.out).below h); rw [TA.out] at hc; go_simp⟩) uhS19 ?_
  simp only [Act.put, List.setIfInBounds_toArray, List.set_cons_zero, List.set_cons_succ]
  refine takeD (i := 6) (v := .bool false) (some 17) rfl rfl (by kernel_rfl) (by kernel_rfl) (by kernel_rfl) (fun _ _ _ h => h) (Or.inl ⟨by rfl, by rintro w' -; have hne := NE.out; go_simp⟩) uhS19 ?_
  simp only [Act.put, List.setIfInBounds_toArray, List.set_cons_zero, List.set_cons_succ]
  refine wpAnyH_done (by kernel_rfl) ?_ _
  obtain ⟨wv, hwv⟩ : ∃ wv, ux9 = wv := ⟨_, rfl⟩
  rw [hwv]
  have FV := Lib.hid (show Bs wv _ b by rw [← hwv]; exact uF0_12.out)
  have RV := Lib.hid (show Eb wv B0 ez by rw [← hwv]; exact uR0_13.out)
  have BV := Lib.hid (show Below w.heap.size w wv by rw [← hwv]; exact BL.out.trans ((uHT_15.out).mono BL.out.size))
  clear hwv
  have FE0 := Lib.hid fun w' (h : Below wv.heap.size wv w') => RV.out.below h
  have ELT : Hid (B0 < wv.heap.size) := Lib.hid (Row.lt (show Row wv B0 26 (ecs ez).toArray from RV.out))
  have FC0 := Lib.hid fun w' (h : Below wv.heap.size wv w') => C0.out _ (FV.out.below h)
  have GET1 := Lib.hid fun w' (h : Below wv.heap.size wv w') => G1.out _ (FV.out.below h)
  have GET2 := Lib.hid fun w' (h : Below wv.heap.size wv w') => G2.out _ (FV.out.below h)
  clear G1 G2 C0
  go_wp2_with fail
  refine wp_region_held (P := Try.prog) (S := (fun w' : World => Below wv.heap.size wv w')) rfl ?_
  change wpAnyH _ _ _ _ _ _ _ _ wv.drew
  have vhz21 : Below wv.heap.size wv wv.drew := (Below.refl wv.heap.size wv).drew
  generalize wv.drew = vwz20 at vhz21 ⊢
  have vhq22 : Below wv.heap.size wv vwz20 := vhz21
  have vHB_23 : Hid (Below wv.heap.size wv vwz20) := Lib.hid (vhq22)
  clear vhq22
  clear vhz21
  have vhS24 : (fun w' : World => Below wv.heap.size wv w') vwz20 := vHB_23.out
  refine takeD (i := 0) (v := .slice (some ⟨g, off, none⟩) 37 c) (some 19) rfl rfl (by kernel_rfl) (by kernel_rfl) (by kernel_rfl) (fun _ _ _ h => h) (Or.inl ⟨by rfl, by rintro w' -; go_simp⟩) vhS24 ?_
  simp only [Act.put, List.setIfInBounds_toArray, List.set_cons_zero, List.set_cons_succ]
  refine takeD (i := 1) (v := .pointer (some ⟨g, off, none⟩)) (some 20) rfl rfl (by kernel_rfl) (by kernel_rfl) (by kernel_rfl) (fun _ _ _ h => h) (Or.inl ⟨by rfl, by rintro w' -; go_simp⟩) vhS24 ?_
  simp only [Act.put, List.setIfInBounds_toArray, List.set_cons_zero, List.set_cons_succ]
  refine takeD (i := 2) (v := .int .u8 (p0 : Int)) (some 21) rfl rfl (by kernel_rfl) (by kernel_rfl) (by kernel_rfl) (fun _ _ _ h => h) (Or.inl ⟨by rfl, by rintro w' h; have hc := FC0.out w' h; go_simp⟩) vhS24 ?_
  simp only [Act.put, List.setIfInBounds_toArray, List.set_cons_zero, List.set_cons_succ]
  refine takeD (i := 3) (v := .int .i64 (p0 : Int)) (some 22) rfl rfl (by kernel_rfl) (by kernel_rfl) (by kernel_rfl) (fun _ _ _ h => h) (Or.inl ⟨by rfl, by rintro w' h; have hc := WP0.out; go_simp⟩) vhS24 ?_
  simp only [Act.put, List.setIfInBounds_toArray, List.set_cons_zero, List.set_cons_succ]
  refine takeD (i := 4) (v := .slice (some ⟨g, off, none⟩) 37 c) (some 23) rfl rfl (by kernel_rfl) (by kernel_rfl) (by kernel_rfl) (fun _ _ _ h => h) (Or.inl ⟨by rfl, by rintro w' -; go_simp⟩) vhS24 ?_
  simp only [Act.put, List.setIfInBounds_toArray, List.set_cons_zero, List.set_cons_succ]
  refine takeD (i := 5) (v := .slice (some ⟨g, off + 1, none⟩) 4 (c - 1)) (some 24) rfl rfl (by kernel_rfl) (by kernel_rfl) (by kernel_rfl) (fun _ _ _ h => h) (Or.inl ⟨by rfl, by rintro w' -; go_simp⟩) vhS24 ?_
  simp only [Act.put, List.setIfInBounds_toArray, List.set_cons_zero, List.set_cons_succ]
  refine takeD (i := 8) (v := .slice (some ⟨g, off, none⟩) 37 c) (some 27) rfl rfl (by kernel_rfl) (by kernel_rfl) (by kernel_rfl) (fun _ _ _ h => h) (Or.inl ⟨by rfl, by rintro w' -; go_simp⟩) vhS24 ?_
  simp only [Act.put, List.setIfInBounds_toArray, List.set_cons_zero, List.set_cons_succ]
  refine takeD (i := 9) (v := .slice (some ⟨g, off + 5, none⟩) 8 (c - 5)) (some 28) rfl rfl (by kernel_rfl) (by kernel_rfl) (by kernel_rfl) (fun _ _ _ h => h) (Or.inl ⟨by rfl, by rintro w' -; go_simp⟩) vhS24 ?_
  simp only [Act.put, List.setIfInBounds_toArray, List.set_cons_zero, List.set_cons_succ]
  refine wpAnyH_ready (rs := [6, 12]) (by kernel_rfl) (by simp) ?_
  refine AllReadyH.cons rfl (fun KK hK => ?_) (AllReadyH.cons rfl (fun KK hK => ?_) AllReadyH.nil)
  · have HvK25 := Lib.hid hK
    clear hK
    rw [if_pos (by rfl)]
    go_simp
    refine (GET1.out _ vHB_23.out).mono ?_
    rintro e _ ⟨rfl, rfl⟩
    have vhS26 : (fun w' : World => Below wv.heap.size wv w') vwz20 := vHB_23.out
    refine HvK25.out _ _ vhS26 fun _ => ?_
    try simp only [Act.put, List.setIfInBounds_toArray, List.set_cons_zero, List.set_cons_succ]
    refine takeD (i := 7) (v := .int .i64 (p1 : Int)) (some 26) rfl rfl (by kernel_rfl) (by kernel_rfl) (by kernel_rfl) (fun _ _ _ h => h) (Or.inl ⟨by rfl, by rintro w' h; have hc := WP1.out; go_simp⟩) vhS26 ?_
    simp only [Act.put, List.setIfInBounds_toArray, List.set_cons_zero, List.set_cons_succ]
    refine wpAnyH_ready (rs := [10, 12]) (by kernel_rfl) (by simp) ?_
    refine AllReadyH.cons rfl (fun KK hK => ?_) (AllReadyH.cons rfl (fun KK hK => ?_) AllReadyH.nil)
    · have HvK27 := Lib.hid hK
      clear hK
      rw [if_pos (by rfl)]
      go_simp
      refine (GET2.out _ vHB_23.out).mono ?_
      rintro e _ ⟨rfl, rfl⟩
      have vhS28 : (fun w' : World => Below wv.heap.size wv w') vwz20 := vHB_23.out
      refine HvK27.out _ _ vhS28 fun _ => ?_
      try simp only [Act.put, List.setIfInBounds_toArray, List.set_cons_zero, List.set_cons_succ]
      refine takeD (i := 11) (v := .agg Y) (some 30) rfl rfl (by kernel_rfl) (by kernel_rfl) (by kernel_rfl) (fun _ _ _ h => h) (Or.inl ⟨by rfl, by rintro w' h; have hc := EY.out; go_simp⟩) vhS28 ?_
      simp only [Act.put, List.setIfInBounds_toArray, List.set_cons_zero, List.set_cons_succ]
      refine wpAnyH_ready (rs := [12]) (by kernel_rfl) (by simp) ?_
      refine AllReadyH.cons rfl (fun vK29 hvK29 => ?_) AllReadyH.nil
      have HvK29 := Lib.hid hvK29
      clear hvK29
      rw [if_pos (by rfl)]
      go_simp
      obtain ⟨nb, hnb⟩ : ∃ nb, vwz20.heap.size = nb := ⟨_, rfl⟩
      obtain ⟨vwa30, hwa⟩ : ∃ wa, vwz20.alloc (.cells #[.int .i64 0, .int .i64 0, .int .u64 0, .int .u8 0, .int .u8 0, .int .u8 0, .int .u8 0, .int .u8 0, .int .u8 0, .int .u8 0, .int .u8 0] 26) = wa := ⟨_, rfl⟩
      have hra : Eb vwa30 nb ez := by rw [← hwa]; exact eb_zero _ hnb
      have hba : Below wv.heap.size vwz20 vwa30 := by rw [← hwa]; exact (Below.refl _ _).alloc vHB_23.out.size _
      have NBW := Lib.hid (show wv.heap.size ≤ nb by rw [← hnb]; exact vHB_23.out.size)
      rw [hnb, hwa]
      have RNA := Lib.hid hra
      have vHB_31 : Hid (Below wv.heap.size wv vwa30) := Lib.hid (vHB_23.out.trans (hba))
      clear hra hba hnb hwa
      have vhS32 : (fun w' : World => Below wv.heap.size wv w') vwa30 := vHB_31.out
      refine HvK29.out _ _ vhS32 fun _ => ?_
      try simp only [Act.put, List.setIfInBounds_toArray, List.set_cons_zero, List.set_cons_succ]
      refine wpAnyH_ready (rs := [13]) (by kernel_rfl) (by simp) ?_
      refine AllReadyH.cons rfl (fun vK33 hvK33 => ?_) AllReadyH.nil
      have HvK33 := Lib.hid hvK33
      clear hvK33
      rw [if_pos (by rfl)]
      refine wp_store_mid _ _ _ rfl nb 0 Y rfl rfl (show vwa30.there nb 0 Y.size by rw [HY.out, List.size_toArray, ecs_len FE.out]; exact RNA.out.there ez_fit) SY.out OY.out ?_
      have hrb : Eb (vwa30.setCells nb 0 Y.toList) nb ⟨(p0 : Int), (p1 : Int), p2, List.replicate 8 0⟩ := by rw [HY.out]; exact RNA.out.put ez_fit FE.out
      have hbb : Below wv.heap.size vwa30 (vwa30.setCells nb 0 Y.toList) := below_setCells15 (Below.refl _ _) _ _ _ NBW.out
      generalize vwa30.setCells nb 0 Y.toList = vws34 at hrb hbb ⊢
      have RNB := Lib.hid hrb
      have vHB_35 : Hid (Below wv.heap.size wv vws34) := Lib.hid (vHB_31.out.trans (hbb))
      clear hrb hbb
      have vhS36 : (fun w' : World => Below wv.heap.size wv w') vws34 := vHB_35.out
      refine HvK33.out _ _ vhS36 fun _ => ?_
      refine wpAnyH_done (by kernel_rfl) ?_ _
      have ST := Lib.hid (show Eb vws34 nb ⟨(p0 : Int), (p1 : Int), p2, mixd D 0⟩ ∧ Eb vws34 B0 ez ∧ Below w.heap.size w vws34 from ⟨RNB.out, FE0.out _ vHB_35.out, BV.out.trans ((vHB_35.out).mono BV.out.size)⟩)
      have NB := Lib.hid (show w.heap.size ≤ nb by have := NBW.out; have := BV.out.size; omega)
      have NE0 : Hid (B0 ≠ nb) := Lib.hid (by have := NBW.out; have := ELT.out; omega)
      clear FE0 GET1 GET2 FC0
      go_wp2_with fail
      go_loopw [6] (fun i wr => ∃ k : Nat, k ≤ 8 ∧ i = .int .i64 (k : Int) ∧ Hid (Eb wr nb ⟨(p0 : Int), (p1 : Int), p2, mixd D k⟩ ∧ Eb wr B0 ez ∧ Below w.heap.size w wr)) (fun i _ => 8 - (intOf i).toNat)
      case atStart => exact ⟨0, Nat.zero_le _, rfl, ST⟩
      case round =>
        obtain ⟨k, hk, rfl, H⟩ := hrel
        by_cases hlt : k < 8
        · have kI : (k : Int) < 8 := by omega
          have mf := mixd_len DL.out hk
          have FK : Fit (⟨(p0 : Int), (p1 : Int), p2, mixd D k⟩ : E) := ⟨FT.out.1, mf, mixd_lt DB.out k⟩
          obtain ⟨⟨vv, q1⟩, q2⟩ := H.out.1.dcell FK hlt
          obtain ⟨x, hx⟩ : ∃ x, D.getD k 0 = x := ⟨_, rfl⟩
          have q3 := CB.out _ H.out.2.2 k hlt
          rw [hx] at q3
          have H2 := Lib.hid (show Eb (wr.setCell ⟨nb, 3 + k, none⟩ (.int .u8 (x : Int))) nb ⟨(p0 : Int), (p1 : Int), p2, mixd D (k + 1)⟩ ∧ Eb (wr.setCell ⟨nb, 3 + k, none⟩ (.int .u8 (x : Int))) B0 ez ∧ Below w.heap.size w (wr.setCell ⟨nb, 3 + k, none⟩ (.int .u8 (x : Int))) from by
            have e1 := H.out.1.dset FK (x := x) hlt
            rw [← hx] at e1 ⊢
            rw [show (⟨(p0 : Int), (p1 : Int), p2, mixd D k⟩ : E).data.set k (D.getD k 0) = mixd D (k + 1) from mixd_succ DL.out hlt] at e1
            exact ⟨e1, H.out.2.1.other NE0.out _ _, H.out.2.2.setCell (p := ⟨nb, 3 + k, none⟩) NB.out _⟩)
          clear H FK mf hx
          go_wp2_with fail
          go_roundw
          case rel => exact ⟨k + 1, by omega, by go_num, H2⟩
          case measure => simp [intOf]; omega
        · have ek : k = 8 := by omega
          subst ek
          have R8 : Hid (Eb wr nb (rdE b)) := Lib.hid (by rw [HR.out, ← mixd_8 DL.out]; exact H.out.1)
          have FT8 : Hid (Fit (rdE b)) := Lib.hid (by rw [HR.out]; exact FT.out)
          have RZ := Lib.hid H.out.2.1
          have BL2 := Lib.hid H.out.2.2
          obtain ⟨Y2, hY2⟩ : ∃ Y : List Value, ecs (rdE b) = Y := ⟨_, rfl⟩
          have HY2 := Lib.hid hY2
          have RY : Hid (wr.rangeAt nb 0 Y2) := Lib.hid (by rw [← hY2]; exact R8.out.rng)
          have SY2 : Hid ((Try.prog.info? 26).map (·.size) = some Y2.length) := Lib.hid (by rw [← hY2, ecs_len FT8.out]; kernel_rfl)
          have VA := Lib.hid (rvalid_any (rdE b) wr FT8.out)
          have EVY : Hid (ev (rdE b) = .agg Y2.toArray) := Lib.hid (by rw [← hY2]; rfl)
          rw [EVY.out] at VA
          clear hY2 H EY HY SY OY WP0 WP1 DB CB ST
          go_wp2_with (refine wpList_load_mid rfl _ _ rfl nb 0 rfl Y2 _ RY.out Try.underlying26 rfl SY2.out ?_)
          refine VA.out.mono ?_
          rintro r w3 ⟨rfl, hb3⟩
          have BL3 : Hid (Below w.heap.size w w3) := Lib.hid (BL2.out.trans (hb3.mono BL2.out.size))
          have R3 := Lib.hid (R8.out.below hb3)
          have RZ3 := Lib.hid (RZ.out.below hb3)
          clear hb3
          by_cases ho : ok (rdE b)
          · rw [show decide (ok (rdE b)) = true from decide_eq_true ho]
            have E0 : Hid (decE b = 0) := Lib.hid (by rw [HE.out, if_pos ho])
            clear ho HE EZ HZ RY VA R8 RZ BL2
            go_wp2_with fail
            have B3 := below_drew15 w3 1
            have R4 := Lib.hid (R3.out.below B3)
            have RZ4 := Lib.hid (RZ3.out.below B3)
            have BL4 : Hid (Below w.heap.size w (w3.drewN 1)) := Lib.hid (BL3.out.trans (B3.mono BL3.out.size))
            have C5 := Lib.hid (G3.out (w3.drewN 1) BL4.out)
            have RY4 : Hid ((w3.drewN 1).rangeAt nb 0 Y2) := Lib.hid (by rw [← HY2.out]; exact R4.out.rng)
            have TH4 := Lib.hid (show (w3.drewN 1).there B0 0 Y2.toArray.size by rw [← HY2.out, List.size_toArray, ecs_len FT8.out]; exact RZ4.out.there ez_fit)
            have OY2 : Hid (Y2.toArray.all (·.oneCell') = true) := Lib.hid (by rw [← HY2.out]; exact all_oneCell_toArray (ecs_one _))
            have SY3 : Hid ((Try.prog.info? 26).map (·.size) = some Y2.toArray.size) := SY2
            have FIN : Hid (((w3.drewN 1).setCells B0 0 Y2.toArray.toList).heap[B0]? = some (.cells Y2.toArray 26 (0, 0))) := Lib.hid (by rw [← HY2.out]; exact RZ4.out.put ez_fit FT8.out)
            have BF := Lib.hid (below_setCells15 BL4.out Y2.toArray.toList B0 0 (by rw [HB1.out]; exact Nat.le_refl _))
            clear B3
            refine wp_region_still_tail 4 (by kernel_rfl) (by kernel_rfl) ?_
            simp only [List.take_succ_cons, List.take_zero, List.drop_succ_cons, List.drop_zero]
            change wpStill _ _ (w3.drewN 1) _ _ _
            refine still_load (by rfl) _ _ rfl nb 0 rfl Y2 _ RY4.out Try.underlying26 rfl SY2.out ?_
            iterate 2 still_step
            still_call (C5.out.mono fun _ _ h => ⟨h.1, h.2.symm⟩)
            refine wpStill_nil ?_
            change wpList _ _ _ _ _ (w3.drewN 1)
            go_wp2_with (first | (refine wpList_store_mid rfl _ _ _ rfl B0 0 Y2.toArray rfl rfl TH4.out SY3.out OY2.out ?_))
            refine bodyPost_ret (results_cell3 (g := B0) (t := 26) (fr := (0, 0)) rfl _ _ _ _ rfl FIN.out Try.underlying26 rfl SY3.out) rfl ?_
            refine dec_ok E0.out ⟨?_, BF.out⟩
            rw [EVY.out, HT.out]; rfl
          · rw [show decide (ok (rdE b)) = false from decide_eq_false ho]
            have E0 : Hid (decE b = 5) := Lib.hid (by rw [HE.out, if_neg ho])
            clear ho HE RY VA R8 RZ BL2 G3
            have TH4 := Lib.hid (show w3.there B0 0 Z.size by rw [HZ.out.size]; exact RZ3.out.there ez_fit)
            have FIN := Lib.hid (RZ3.out.zero ez_fit HZ.out)
            have BF := Lib.hid (below_setCells15 BL3.out Z.toList B0 0 (by rw [HB1.out]; exact Nat.le_refl _))
            go_wp2_with (first | rw [EZ.out] | (refine wpList_store_mid rfl _ _ _ rfl B0 0 Z rfl rfl TH4.out HZ.out.info HZ.out.one ?_))
            refine bodyPost_ret (results_cell3 (g := B0) (t := 26) (fr := (0, 0)) rfl _ _ _ _ rfl FIN.out Try.underlying26 rfl HZ.out.info) rfl ?_
            refine dec_fin (x := 5) (by decide) E0.out ⟨?_, BF.out⟩
            rw [HZ.out.ez]; rfl
    · have HvK27 := Lib.hid hK
      clear hK
      rw [if_pos (by rfl)]
      go_simp
      obtain ⟨nb, hnb⟩ : ∃ nb, vwz20.heap.size = nb := ⟨_, rfl⟩
      obtain ⟨vwa28, hwa⟩ : ∃ wa, vwz20.alloc (.cells #[.int .i64 0, .int .i64 0, .int .u64 0, .int .u8 0, .int .u8 0, .int .u8 0, .int .u8 0, .int .u8 0, .int .u8 0, .int .u8 0, .int .u8 0] 26) = wa := ⟨_, rfl⟩
      have hra : Eb vwa28 nb ez := by rw [← hwa]; exact eb_zero _ hnb
      have hba : Below wv.heap.size vwz20 vwa28 := by rw [← hwa]; exact (Below.refl _ _).alloc vHB_23.out.size _
      have NBW := Lib.hid (show wv.heap.size ≤ nb by rw [← hnb]; exact vHB_23.out.size)
      rw [hnb, hwa]
      have RNA := Lib.hid hra
      have vHB_29 : Hid (Below wv.heap.size wv vwa28) := Lib.hid (vHB_23.out.trans (hba))
      clear hra hba hnb hwa
      have vhS30 : (fun w' : World => Below wv.heap.size wv w') vwa28 := vHB_29.out
      refine HvK27.out _ _ vhS30 fun _ => ?_
      try simp only [Act.put, List.setIfInBounds_toArray, List.set_cons_zero, List.set_cons_succ]
      refine wpAnyH_ready (rs := [10]) (by kernel_rfl) (by simp) ?_
      refine AllReadyH.cons rfl (fun vK31 hvK31 => ?_) AllReadyH.nil
      have HvK31 := Lib.hid hvK31
      clear hvK31
      rw [if_pos (by rfl)]
      go_simp
      refine (GET2.out _ vHB_29.out).mono ?_
      rintro e _ ⟨rfl, rfl⟩
      have vhS32 : (fun w' : World => Below wv.heap.size wv w') vwa28 := vHB_29.out
      refine HvK31.out _ _ vhS32 fun _ => ?_
      try simp only [Act.put, List.setIfInBounds_toArray, List.set_cons_zero, List.set_cons_succ]
      refine takeD (i := 11) (v := .agg Y) (some 30) rfl rfl (by kernel_rfl) (by kernel_rfl) (by kernel_rfl) (fun _ _ _ h => h) (Or.inl ⟨by rfl, by rintro w' h; have hc := EY.out; go_simp⟩) vhS32 ?_
      simp only [Act.put, List.setIfInBounds_toArray, List.set_cons_zero, List.set_cons_succ]
      refine wpAnyH_ready (rs := [13]) (by kernel_rfl) (by simp) ?_
      refine AllReadyH.cons rfl (fun vK33 hvK33 => ?_) AllReadyH.nil
      have HvK33 := Lib.hid hvK33
      clear hvK33
      rw [if_pos (by rfl)]
      refine wp_store_mid _ _ _ rfl nb 0 Y rfl rfl (show vwa28.there nb 0 Y.size by rw [HY.out, List.size_toArray, ecs_len FE.out]; exact RNA.out.there ez_fit) SY.out OY.out ?_
      have hrb : Eb (vwa28.setCells nb 0 Y.toList) nb ⟨(p0 : Int), (p1 : Int), p2, List.replicate 8 0⟩ := by rw [HY.out]; exact RNA.out.put ez_fit FE.out
      have hbb : Below wv.heap.size vwa28 (vwa28.setCells nb 0 Y.toList) := below_setCells15 (Below.refl _ _) _ _ _ NBW.out
      generalize vwa28.setCells nb 0 Y.toList = vws34 at hrb hbb ⊢
      have RNB := Lib.hid hrb
      have vHB_35 : Hid (Below wv.heap.size wv vws34) := Lib.hid (vHB_29.out.trans (hbb))
      clear hrb hbb
      have vhS36 : (fun w' : World => Below wv.heap.size wv w') vws34 := vHB_35.out
      refine HvK33.out _ _ vhS36 fun _ => ?_
      refine wpAnyH_done (by kernel_rfl) ?_ _
      have ST := Lib.hid (show Eb vws34 nb ⟨(p0 : Int), (p1 : Int), p2, mixd D 0⟩ ∧ Eb vws34 B0 ez ∧ Below w.heap.size w vws34 from ⟨RNB.out, FE0.out _ vHB_35.out, BV.out.trans ((vHB_35.out).mono BV.out.size)⟩)
      have NB := Lib.hid (show w.heap.size ≤ nb by have := NBW.out; have := BV.out.size; omega)
      have NE0 : Hid (B0 ≠ nb) := Lib.hid (by have := NBW.out; have := ELT.out; omega)
      clear FE0 GET1 GET2 FC0
      go_wp2_with fail
      go_loopw [6] (fun i wr => ∃ k : Nat, k ≤ 8 ∧ i = .int .i64 (k : Int) ∧ Hid (Eb wr nb ⟨(p0 : Int), (p1 : Int), p2, mixd D k⟩ ∧ Eb wr B0 ez ∧ Below w.heap.size w wr)) (fun i _ => 8 - (intOf i).toNat)
      case atStart => exact ⟨0, Nat.zero_le _, rfl, ST⟩
      case round =>
        obtain ⟨k, hk, rfl, H⟩ := hrel
        by_cases hlt : k < 8
        · have kI : (k : Int) < 8 := by omega
          have mf := mixd_len DL.out hk
          have FK : Fit (⟨(p0 : Int), (p1 : Int), p2, mixd D k⟩ : E) := ⟨FT.out.1, mf, mixd_lt DB.out k⟩
          obtain ⟨⟨vv, q1⟩, q2⟩ := H.out.1.dcell FK hlt
          obtain ⟨x, hx⟩ : ∃ x, D.getD k 0 = x := ⟨_, rfl⟩
          have q3 := CB.out _ H.out.2.2 k hlt
          rw [hx] at q3
          have H2 := Lib.hid (show Eb (wr.setCell ⟨nb, 3 + k, none⟩ (.int .u8 (x : Int))) nb ⟨(p0 : Int), (p1 : Int), p2, mixd D (k + 1)⟩ ∧ Eb (wr.setCell ⟨nb, 3 + k, none⟩ (.int .u8 (x : Int))) B0 ez ∧ Below w.heap.size w (wr.setCell ⟨nb, 3 + k, none⟩ (.int .u8 (x : Int))) from by
            have e1 := H.out.1.dset FK (x := x) hlt
            rw [← hx] at e1 ⊢
            rw [show (⟨(p0 : Int), (p1 : Int), p2, mixd D k⟩ : E).data.set k (D.getD k 0) = mixd D (k + 1) from mixd_succ DL.out hlt] at e1
            exact ⟨e1, H.out.2.1.other NE0.out _ _, H.out.2.2.setCell (p := ⟨nb, 3 + k, none⟩) NB.out _⟩)
          clear H FK mf hx
          go_wp2_with fail
          go_roundw
          case rel => exact ⟨k + 1, by omega, by go_num, H2⟩
          case measure => simp [intOf]; omega
        · have ek : k = 8 := by omega
          subst ek
          have R8 : Hid (Eb wr nb (rdE b)) := Lib.hid (by rw [HR.out, ← mixd_8 DL.out]; exact H.out.1)
          have FT8 : Hid (Fit (rdE b)) := Lib.hid (by rw [HR.out]; exact FT.out)
          have RZ := Lib.hid H.out.2.1
          have BL2 := Lib.hid H.out.2.2
          obtain ⟨Y2, hY2⟩ : ∃ Y : List Value, ecs (rdE b) = Y := ⟨_, rfl⟩
          have HY2 := Lib.hid hY2
          have RY : Hid (wr.rangeAt nb 0 Y2) := Lib.hid (by rw [← hY2]; exact R8.out.rng)
          have SY2 : Hid ((Try.prog.info? 26).map (·.size) = some Y2.length) := Lib.hid (by rw [← hY2, ecs_len FT8.out]; kernel_rfl)
          have VA := Lib.hid (rvalid_any (rdE b) wr FT8.out)
          have EVY : Hid (ev (rdE b) = .agg Y2.toArray) := Lib.hid (by rw [← hY2]; rfl)
          rw [EVY.out] at VA
          clear hY2 H EY HY SY OY WP0 WP1 DB CB ST
          go_wp2_with (refine wpList_load_mid rfl _ _ rfl nb 0 rfl Y2 _ RY.out Try.underlying26 rfl SY2.out ?_)
          refine VA.out.mono ?_
          rintro r w3 ⟨rfl, hb3⟩
          have BL3 : Hid (Below w.heap.size w w3) := Lib.hid (BL2.out.trans (hb3.mono BL2.out.size))
          have R3 := Lib.hid (R8.out.below hb3)
          have RZ3 := Lib.hid (RZ.out.below hb3)
          clear hb3
          by_cases ho : ok (rdE b)
          · rw [show decide (ok (rdE b)) = true from decide_eq_true ho]
            have E0 : Hid (decE b = 0) := Lib.hid (by rw [HE.out, if_pos ho])
            clear ho HE EZ HZ RY VA R8 RZ BL2
            go_wp2_with fail
            have B3 := below_drew15 w3 1
            have R4 := Lib.hid (R3.out.below B3)
            have RZ4 := Lib.hid (RZ3.out.below B3)
            have BL4 : Hid (Below w.heap.size w (w3.drewN 1)) := Lib.hid (BL3.out.trans (B3.mono BL3.out.size))
            have C5 := Lib.hid (G3.out (w3.drewN 1) BL4.out)
            have RY4 : Hid ((w3.drewN 1).rangeAt nb 0 Y2) := Lib.hid (by rw [← HY2.out]; exact R4.out.rng)
            have TH4 := Lib.hid (show (w3.drewN 1).there B0 0 Y2.toArray.size by rw [← HY2.out, List.size_toArray, ecs_len FT8.out]; exact RZ4.out.there ez_fit)
            have OY2 : Hid (Y2.toArray.all (·.oneCell') = true) := Lib.hid (by rw [← HY2.out]; exact all_oneCell_toArray (ecs_one _))
            have SY3 : Hid ((Try.prog.info? 26).map (·.size) = some Y2.toArray.size) := SY2
            have FIN : Hid (((w3.drewN 1).setCells B0 0 Y2.toArray.toList).heap[B0]? = some (.cells Y2.toArray 26 (0, 0))) := Lib.hid (by rw [← HY2.out]; exact RZ4.out.put ez_fit FT8.out)
            have BF := Lib.hid (below_setCells15 BL4.out Y2.toArray.toList B0 0 (by rw [HB1.out]; exact Nat.le_refl _))
            clear B3
            refine wp_region_still_tail 4 (by kernel_rfl) (by kernel_rfl) ?_
            simp only [List.take_succ_cons, List.take_zero, List.drop_succ_cons, List.drop_zero]
            change wpStill _ _ (w3.drewN 1) _ _ _
            refine still_load (by rfl) _ _ rfl nb 0 rfl Y2 _ RY4.out Try.underlying26 rfl SY2.out ?_
            iterate 2 still_step
            still_call (C5.out.mono fun _ _ h => ⟨h.1, h.2.symm⟩)
            refine wpStill_nil ?_
            change wpList _ _ _ _ _ (w3.drewN 1)
            go_wp2_with (first | (refine wpList_store_mid rfl _ _ _ rfl B0 0 Y2.toArray rfl rfl TH4.out SY3.out OY2.out ?_))
            refine bodyPost_ret (results_cell3 (g := B0) (t := 26) (fr := (0, 0)) rfl _ _ _ _ rfl FIN.out Try.underlying26 rfl SY3.out) rfl ?_
            refine dec_ok E0.out ⟨?_, BF.out⟩
            rw [EVY.out, HT.out]; rfl
          · rw [show decide (ok (rdE b)) = false from decide_eq_false ho]
            have E0 : Hid (decE b = 5) := Lib.hid (by rw [HE.out, if_neg ho])
            clear ho HE RY VA R8 RZ BL2 G3
            have TH4 := Lib.hid (show w3.there B0 0 Z.size by rw [HZ.out.size]; exact RZ3.out.there ez_fit)
            have FIN := Lib.hid (RZ3.out.zero ez_fit HZ.out)
            have BF := Lib.hid (below_setCells15 BL3.out Z.toList B0 0 (by rw [HB1.out]; exact Nat.le_refl _))
            go_wp2_with (first | rw [EZ.out] | (refine wpList_store_mid rfl _ _ _ rfl B0 0 Z rfl rfl TH4.out HZ.out.info HZ.out.one ?_))
            refine bodyPost_ret (results_cell3 (g := B0) (t := 26) (fr := (0, 0)) rfl _ _ _ _ rfl FIN.out Try.underlying26 rfl HZ.out.info) rfl ?_
            refine dec_fin (x := 5) (by decide) E0.out ⟨?_, BF.out⟩
            rw [HZ.out.ez]; rfl
  · have HvK25 := Lib.hid hK
    clear hK
    rw [if_pos (by rfl)]
    go_simp
    obtain ⟨nb, hnb⟩ : ∃ nb, vwz20.heap.size = nb := ⟨_, rfl⟩
    obtain ⟨vwa26, hwa⟩ : ∃ wa, vwz20.alloc (.cells #[.int .i64 0, .int .i64 0, .int .u64 0, .int .u8 0, .int .u8 0, .int .u8 0, .int .u8 0, .int .u8 0, .int .u8 0, .int .u8 0, .int .u8 0] 26) = wa := ⟨_, rfl⟩
    have hra : Eb vwa26 nb ez := by rw [← hwa]; exact eb_zero _ hnb
    have hba : Below wv.heap.size vwz20 vwa26 := by rw [← hwa]; exact (Below.refl _ _).alloc vHB_23.out.size _
    have NBW := Lib.hid (show wv.heap.size ≤ nb by rw [← hnb]; exact vHB_23.out.size)
    rw [hnb, hwa]
    have RNA := Lib.hid hra
    have vHB_27 : Hid (Below wv.heap.size wv vwa26) := Lib.hid (vHB_23.out.trans (hba))
    clear hra hba hnb hwa
    have vhS28 : (fun w' : World => Below wv.heap.size wv w') vwa26 := vHB_27.out
    refine HvK25.out _ _ vhS28 fun _ => ?_
    try simp only [Act.put, List.setIfInBounds_toArray, List.set_cons_zero, List.set_cons_succ]
    refine wpAnyH_ready (rs := [6]) (by kernel_rfl) (by simp) ?_
    refine AllReadyH.cons rfl (fun vK29 hvK29 => ?_) AllReadyH.nil
    have HvK29 := Lib.hid hvK29
    clear hvK29
    rw [if_pos (by rfl)]
    go_simp
    refine (GET1.out _ vHB_27.out).mono ?_
    rintro e _ ⟨rfl, rfl⟩
    have vhS30 : (fun w' : World => Below wv.heap.size wv w') vwa26 := vHB_27.out
    refine HvK29.out _ _ vhS30 fun _ => ?_
    try simp only [Act.put, List.setIfInBounds_toArray, List.set_cons_zero, List.set_cons_succ]
    refine takeD (i := 7) (v := .int .i64 (p1 : Int)) (some 26) rfl rfl (by kernel_rfl) (by kernel_rfl) (by kernel_rfl) (fun _ _ _ h => h) (Or.inl ⟨by rfl, by rintro w' h; have hc := WP1.out; go_simp⟩) vhS30 ?_
    simp only [Act.put, List.setIfInBounds_toArray, List.set_cons_zero, List.set_cons_succ]
    refine wpAnyH_ready (rs := [10]) (by kernel_rfl) (by simp) ?_
    refine AllReadyH.cons rfl (fun vK31 hvK31 => ?_) AllReadyH.nil
    have HvK31 := Lib.hid hvK31
    clear hvK31
    rw [if_pos (by rfl)]
    go_simp
    refine (GET2.out _ vHB_27.out).mono ?_
    rintro e _ ⟨rfl, rfl⟩
    have vhS32 : (fun w' : World => Below wv.heap.size wv w') vwa26 := vHB_27.out
    refine HvK31.out _ _ vhS32 fun _ => ?_
    try simp only [Act.put, List.setIfInBounds_toArray, List.set_cons_zero, List.set_cons_succ]
    refine takeD (i := 11) (v := .agg Y) (some 30) rfl rfl (by kernel_rfl) (by kernel_rfl) (by kernel_rfl) (fun _ _ _ h => h) (Or.inl ⟨by rfl, by rintro w' h; have hc := EY.out; go_simp⟩) vhS32 ?_
    simp only [Act.put, List.setIfInBounds_toArray, List.set_cons_zero, List.set_cons_succ]
    refine wpAnyH_ready (rs := [13]) (by kernel_rfl) (by simp) ?_
    refine AllReadyH.cons rfl (fun vK33 hvK33 => ?_) AllReadyH.nil
    have HvK33 := Lib.hid hvK33
    clear hvK33
    rw [if_pos (by rfl)]
    refine wp_store_mid _ _ _ rfl nb 0 Y rfl rfl (show vwa26.there nb 0 Y.size by rw [HY.out, List.size_toArray, ecs_len FE.out]; exact RNA.out.there ez_fit) SY.out OY.out ?_
    have hrb : Eb (vwa26.setCells nb 0 Y.toList) nb ⟨(p0 : Int), (p1 : Int), p2, List.replicate 8 0⟩ := by rw [HY.out]; exact RNA.out.put ez_fit FE.out
    have hbb : Below wv.heap.size vwa26 (vwa26.setCells nb 0 Y.toList) := below_setCells15 (Below.refl _ _) _ _ _ NBW.out
    generalize vwa26.setCells nb 0 Y.toList = vws34 at hrb hbb ⊢
    have RNB := Lib.hid hrb
    have vHB_35 : Hid (Below wv.heap.size wv vws34) := Lib.hid (vHB_27.out.trans (hbb))
    clear hrb hbb
    have vhS36 : (fun w' : World => Below wv.heap.size wv w') vws34 := vHB_35.out
    refine HvK33.out _ _ vhS36 fun _ => ?_
    refine wpAnyH_done (by kernel_rfl) ?_ _
    have ST := Lib.hid (show Eb vws34 nb ⟨(p0 : Int), (p1 : Int), p2, mixd D 0⟩ ∧ Eb vws34 B0 ez ∧ Below w.heap.size w vws34 from ⟨RNB.out, FE0.out _ vHB_35.out, BV.out.trans ((vHB_35.out).mono BV.out.size)⟩)
    have NB := Lib.hid (show w.heap.size ≤ nb by have := NBW.out; have := BV.out.size; omega)
    have NE0 : Hid (B0 ≠ nb) := Lib.hid (by have := NBW.out; have := ELT.out; omega)
    clear FE0 GET1 GET2 FC0
    go_wp2_with fail
    go_loopw [6] (fun i wr => ∃ k : Nat, k ≤ 8 ∧ i = .int .i64 (k : Int) ∧ Hid (Eb wr nb ⟨(p0 : Int), (p1 : Int), p2, mixd D k⟩ ∧ Eb wr B0 ez ∧ Below w.heap.size w wr)) (fun i _ => 8 - (intOf i).toNat)
    case atStart => exact ⟨0, Nat.zero_le _, rfl, ST⟩
    case round =>
      obtain ⟨k, hk, rfl, H⟩ := hrel
      by_cases hlt : k < 8
      · have kI : (k : Int) < 8 := by omega
        have mf := mixd_len DL.out hk
        have FK : Fit (⟨(p0 : Int), (p1 : Int), p2, mixd D k⟩ : E) := ⟨FT.out.1, mf, mixd_lt DB.out k⟩
        obtain ⟨⟨vv, q1⟩, q2⟩ := H.out.1.dcell FK hlt
        obtain ⟨x, hx⟩ : ∃ x, D.getD k 0 = x := ⟨_, rfl⟩
        have q3 := CB.out _ H.out.2.2 k hlt
        rw [hx] at q3
        have H2 := Lib.hid (show Eb (wr.setCell ⟨nb, 3 + k, none⟩ (.int .u8 (x : Int))) nb ⟨(p0 : Int), (p1 : Int), p2, mixd D (k + 1)⟩ ∧ Eb (wr.setCell ⟨nb, 3 + k, none⟩ (.int .u8 (x : Int))) B0 ez ∧ Below w.heap.size w (wr.setCell ⟨nb, 3 + k, none⟩ (.int .u8 (x : Int))) from by
          have e1 := H.out.1.dset FK (x := x) hlt
          rw [← hx] at e1 ⊢
          rw [show (⟨(p0 : Int), (p1 : Int), p2, mixd D k⟩ : E).data.set k (D.getD k 0) = mixd D (k + 1) from mixd_succ DL.out hlt] at e1
          exact ⟨e1, H.out.2.1.other NE0.out _ _, H.out.2.2.setCell (p := ⟨nb, 3 + k, none⟩) NB.out _⟩)
        clear H FK mf hx
        go_wp2_with fail
        go_roundw
        case rel => exact ⟨k + 1, by omega, by go_num, H2⟩
        case measure => simp [intOf]; omega
      · have ek : k = 8 := by omega
        subst ek
        have R8 : Hid (Eb wr nb (rdE b)) := Lib.hid (by rw [HR.out, ← mixd_8 DL.out]; exact H.out.1)
        have FT8 : Hid (Fit (rdE b)) := Lib.hid (by rw [HR.out]; exact FT.out)
        have RZ := Lib.hid H.out.2.1
        have BL2 := Lib.hid H.out.2.2
        obtain ⟨Y2, hY2⟩ : ∃ Y : List Value, ecs (rdE b) = Y := ⟨_, rfl⟩
        have HY2 := Lib.hid hY2
        have RY : Hid (wr.rangeAt nb 0 Y2) := Lib.hid (by rw [← hY2]; exact R8.out.rng)
        have SY2 : Hid ((Try.prog.info? 26).map (·.size) = some Y2.length) := Lib.hid (by rw [← hY2, ecs_len FT8.out]; kernel_rfl)
        have VA := Lib.hid (rvalid_any (rdE b) wr FT8.out)
        have EVY : Hid (ev (rdE b) = .agg Y2.toArray) := Lib.hid (by rw [← hY2]; rfl)
        rw [EVY.out] at VA
        clear hY2 H EY HY SY OY WP0 WP1 DB CB ST
        go_wp2_with (refine wpList_load_mid rfl _ _ rfl nb 0 rfl Y2 _ RY.out Try.underlying26 rfl SY2.out ?_)
        refine VA.out.mono ?_
        rintro r w3 ⟨rfl, hb3⟩
        have BL3 : Hid (Below w.heap.size w w3) := Lib.hid (BL2.out.trans (hb3.mono BL2.out.size))
        have R3 := Lib.hid (R8.out.below hb3)
        have RZ3 := Lib.hid (RZ.out.below hb3)
        clear hb3
        by_cases ho : ok (rdE b)
        · rw [show decide (ok (rdE b)) = true from decide_eq_true ho]
          have E0 : Hid (decE b = 0) := Lib.hid (by rw [HE.out, if_pos ho])
          clear ho HE EZ HZ RY VA R8 RZ BL2
          go_wp2_with fail
          have B3 := below_drew15 w3 1
          have R4 := Lib.hid (R3.out.below B3)
          have RZ4 := Lib.hid (RZ3.out.below B3)
          have BL4 : Hid (Below w.heap.size w (w3.drewN 1)) := Lib.hid (BL3.out.trans (B3.mono BL3.out.size))
          have C5 := Lib.hid (G3.out (w3.drewN 1) BL4.out)
          have RY4 : Hid ((w3.drewN 1).rangeAt nb 0 Y2) := Lib.hid (by rw [← HY2.out]; exact R4.out.rng)
          have TH4 := Lib.hid (show (w3.drewN 1).there B0 0 Y2.toArray.size by rw [← HY2.out, List.size_toArray, ecs_len FT8.out]; exact RZ4.out.there ez_fit)
          have OY2 : Hid (Y2.toArray.all (·.oneCell') = true) := Lib.hid (by rw [← HY2.out]; exact all_oneCell_toArray (ecs_one _))
          have SY3 : Hid ((Try.prog.info? 26).map (·.size) = some Y2.toArray.size) := SY2
          have FIN : Hid (((w3.drewN 1).setCells B0 0 Y2.toArray.toList).heap[B0]? = some (.cells Y2.toArray 26 (0, 0))) := Lib.hid (by rw [← HY2.out]; exact RZ4.out.put ez_fit FT8.out)
          have BF := Lib.hid (below_setCells15 BL4.out Y2.toArray.toList B0 0 (by rw [HB1.out]; exact Nat.le_refl _))
          clear B3
          refine wp_region_still_tail 4 (by kernel_rfl) (by kernel_rfl) ?_
          simp only [List.take_succ_cons, List.take_zero, List.drop_succ_cons, List.drop_zero]
          change wpStill _ _ (w3.drewN 1) _ _ _
          refine still_load (by rfl) _ _ rfl nb 0 rfl Y2 _ RY4.out Try.underlying26 rfl SY2.out ?_
          iterate 2 still_step
          still_call (C5.out.mono fun _ _ h => ⟨h.1, h.2.symm⟩)
          refine wpStill_nil ?_
          change wpList _ _ _ _ _ (w3.drewN 1)
          go_wp2_with (first | (refine wpList_store_mid rfl _ _ _ rfl B0 0 Y2.toArray rfl rfl TH4.out SY3.out OY2.out ?_))
          refine bodyPost_ret (results_cell3 (g := B0) (t := 26) (fr := (0, 0)) rfl _ _ _ _ rfl FIN.out Try.underlying26 rfl SY3.out) rfl ?_
          refine dec_ok E0.out ⟨?_, BF.out⟩
          rw [EVY.out, HT.out]; rfl
        · rw [show decide (ok (rdE b)) = false from decide_eq_false ho]
          have E0 : Hid (decE b = 5) := Lib.hid (by rw [HE.out, if_neg ho])
          clear ho HE RY VA R8 RZ BL2 G3
          have TH4 := Lib.hid (show w3.there B0 0 Z.size by rw [HZ.out.size]; exact RZ3.out.there ez_fit)
          have FIN := Lib.hid (RZ3.out.zero ez_fit HZ.out)
          have BF := Lib.hid (below_setCells15 BL3.out Z.toList B0 0 (by rw [HB1.out]; exact Nat.le_refl _))
          go_wp2_with (first | rw [EZ.out] | (refine wpList_store_mid rfl _ _ _ rfl B0 0 Z rfl rfl TH4.out HZ.out.info HZ.out.one ?_))
          refine bodyPost_ret (results_cell3 (g := B0) (t := 26) (fr := (0, 0)) rfl _ _ _ _ rfl FIN.out Try.underlying26 rfl HZ.out.info) rfl ?_
          refine dec_fin (x := 5) (by decide) E0.out ⟨?_, BF.out⟩
          rw [HZ.out.ez]; rfl
theorem rdec_any (v : Value) (b : List Nat) (w : World) (hb : Bs w v b) : Calls Try.prog 13 #[v] w (decPost b w) := by
  by_cases h37 : b.length = 37
  · by_cases hs : Crc.crc (b.take 29) = Crc.num (sub b 29 8)
    · exact rdec_val v b w hb h37 hs
    · exact rdec_sum v b w hb h37 hs
  · exact rdec_len v b w hb h37
end Go.Proofs.Ytfihiihakgcikaa
