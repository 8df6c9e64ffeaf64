/- Media: Clone, Geometry, of the program and of the reference; the methods at nil. WRITTEN BY gen_Mdh.py. -/
import Derived.Test.YtbaclcpnnompnaaMdg
import Derived.Test.YtbaclcpnnompnaaRu
import Derived.Deep.MidRow
namespace Go.Proofs.Ytbaclcpnnompnaa
open Go Go.RowKit Med
set_option linter.unusedVariables false
set_option linter.unusedSimpArgs false

/-- What Clone returns. -/
def clPost (tm ts : TypeId) (R B T S O : Nat) (l : List Sec) (w : World) (e : Ending) (w' : World) : Prop := ∃ M X c, e = .returned (.pointer (some ⟨M, 0, none⟩)) ∧ Md tm ts w' M X c R B T S O l ∧ (w.heap.size ≤ M ∧ w.heap.size ≤ X) ∧ Below w.heap.size w w'
theorem grown_chg {w w' : World} {b : Nat} (h : w.grownBy w' (some b)) : Chg (fun k => k = b) w w' := ⟨h.os, h.tape, h.output, h.size, fun k hk hn => h.block k hk (by simpa using fun e => hn e)⟩
set_option maxHeartbeats 4000000 in
set_option maxRecDepth 100000 in
theorem pcl_any {w : World} {M X c R B T S O : Nat} {l : List Sec} (h : PMd w M X c R B T S O l) : Calls Try.prog 43 #[.pointer (some ⟨M, 0, none⟩)] w (clPost 84 81 R B T S O l w) := by
  have HM := Lib.hid h
  have HV := Lib.hid h.v
  have HS := Lib.hid h.sh
  have sm := h.small
  obtain ⟨n, hn⟩ : ∃ n, l.length = n := ⟨_, rfl⟩
  have LN := Lib.hid hn
  rw [hn] at sm
  have LL := Lib.hid h.len
  clear h hn
  go_enter Try.func43, Try.ntmps43
  go_wp2_with fail
  refine wp_region_held (P := Try.prog) (S := (fun w' : World => Below w.heap.size w w')) rfl ?_
  change wpAnyH _ _ _ _ _ _ _ _ w.drew
  have hz2 : Below w.heap.size w w.drew := (Below.refl w.heap.size w).drew
  generalize w.drew = wz1 at hz2 ⊢
  have M_3 := Lib.hid (Md.fw HM.out (hz2))
  have hl4 := hz2
  have HT_5 : Hid (Below w.heap.size w wz1) := Lib.hid (hl4)
  refine wpAnyH_up (S' := (fun w' : World => Below wz1.heap.size wz1 w')) (fun w' h => hz2.trans (h.mono hz2.size)) ?_
  have hS6 : (fun w' : World => Below wz1.heap.size wz1 w') wz1 := Below.refl _ _
  refine takeD (i := 0) (v := .pointer (some ⟨M, 0, none⟩)) (some 5) rfl rfl (by kernel_rfl) (by kernel_rfl) (by kernel_rfl) (fun _ _ _ h => h) (Or.inl ⟨by rfl, by rintro w' -; go_simp⟩) hS6 ?_
  simp only [Act.put, List.setIfInBounds_toArray, List.set_cons_zero, List.set_cons_succ]
  refine takeD (i := 1) (v := .pointer (some ⟨M, 0, none⟩)) (some 6) rfl rfl (by kernel_rfl) (by kernel_rfl) (by kernel_rfl) (fun _ _ _ h => h) (Or.inl ⟨by rfl, by rintro w' -; go_simp⟩) hS6 ?_
  simp only [Act.put, List.setIfInBounds_toArray, List.set_cons_zero, List.set_cons_succ]
  refine takeD (i := 2) (v := .pointer (some ⟨M, 0, none⟩)) (some 7) rfl rfl (by kernel_rfl) (by kernel_rfl) (by kernel_rfl) (fun _ _ _ h => h) (Or.inl ⟨by rfl, by rintro w' -; go_simp⟩) hS6 ?_
  simp only [Act.put, List.setIfInBounds_toArray, List.set_cons_zero, List.set_cons_succ]
  refine takeD (i := 3) (v := .agg #[.int .i64 (R : Int), .int .i64 (B : Int), .int .i64 (T : Int), .int .i64 (S : Int), .int .i64 (O : Int)]) (some 8) rfl rfl (by kernel_rfl) (by kernel_rfl) (by kernel_rfl) (fun _ _ _ h => h) (yieldsIf_load_mid (by rfl) _ _ rfl M 0 rfl [.int .i64 (R : Int), .int .i64 (B : Int), .int .i64 (T : Int), .int .i64 (S : Int), .int .i64 (O : Int)] _ (fun w' h => (Md.fw M_3.out h).rng) Try.underlying23 rfl (by kernel_rfl)) hS6 ?_
  simp only [Act.put, List.setIfInBounds_toArray, List.set_cons_zero, List.set_cons_succ]
  refine takeD (i := 4) (v := .pointer (some ⟨M, 0, none⟩)) (some 9) rfl rfl (by kernel_rfl) (by kernel_rfl) (by kernel_rfl) (fun _ _ _ h => h) (Or.inl ⟨by rfl, by rintro w' -; go_simp⟩) hS6 ?_
  simp only [Act.put, List.setIfInBounds_toArray, List.set_cons_zero, List.set_cons_succ]
  refine takeD (i := 5) (v := .pointer (some ⟨M, 0, none⟩)) (some 10) rfl rfl (by kernel_rfl) (by kernel_rfl) (by kernel_rfl) (fun _ _ _ h => h) (Or.inl ⟨by rfl, by rintro w' -; go_simp⟩) hS6 ?_
  simp only [Act.put, List.setIfInBounds_toArray, List.set_cons_zero, List.set_cons_succ]
  refine takeD (i := 6) (v := .pointer (some ⟨M, 5, none⟩)) (some 11) rfl rfl (by kernel_rfl) (by kernel_rfl) (by kernel_rfl) (fun _ _ _ h => h) (Or.inl ⟨by rfl, by rintro w' -; go_simp⟩) hS6 ?_
  simp only [Act.put, List.setIfInBounds_toArray, List.set_cons_zero, List.set_cons_succ]
  refine takeD (i := 7) (v := .slice (some ⟨X, 0, none⟩) n c) (some 12) rfl rfl (by kernel_rfl) (by kernel_rfl) (by kernel_rfl) (fun _ _ _ h => h) (Or.inl ⟨by rfl, by rintro w' h; have hc := (Md.fw M_3.out h).c5; rw [LN.out] at hc; go_simp⟩) hS6 ?_
  simp only [Act.put, List.setIfInBounds_toArray, List.set_cons_zero, List.set_cons_succ]
  refine wpAnyH_ready (rs := [8]) (by kernel_rfl) (by simp) ?_
  refine AllReadyH.cons rfl (fun K7 hK7 => ?_) AllReadyH.nil
  have HK7 := Lib.hid hK7
  clear hK7
  rw [if_pos (by rfl)]
  go_simp
  refine (sclone_any X n c l wz1 M_3.out.sx LN.out (by omega) (by omega)).mono ?_
  rintro e x8 ⟨gX, gc, rfl, hx1, hx2, hb⟩
  have GX := Lib.hid (Nat.le_trans HT_5.out.size hx2)
  have M_9 := Lib.hid (Md.fw M_3.out (hb))
  have hl10 := hb
  have HT_11 : Hid (Below w.heap.size w x8) := Lib.hid (HT_5.out.trans ((hl10).mono HT_5.out.size))
  have HX := Lib.hid hx1
  clear hb hx1 hx2
  have hb13 : Below wz1.heap.size wz1 x8 := hl10
  have hS12 : (fun w' : World => Below wz1.heap.size wz1 w') x8 := hb13
  refine HK7.out _ _ hS12 fun _ => ?_
  try simp only [Act.put, List.setIfInBounds_toArray, List.set_cons_zero, List.set_cons_succ]
  refine wpAnyH_up (S' := (fun w' : World => Below x8.heap.size x8 w')) (fun w' h => hb13.trans (h.mono hb13.size)) ?_
  have hS14 : (fun w' : World => Below x8.heap.size x8 w') x8 := Below.refl _ _
  refine takeD (i := 9) (v := .agg #[.int .i64 (R : Int), .int .i64 (B : Int), .int .i64 (T : Int), .int .i64 (S : Int), .int .i64 (O : Int), .slice (some ⟨gX, 0, none⟩) n gc]) (some 14) rfl rfl (by kernel_rfl) (by kernel_rfl) (by kernel_rfl) (fun _ _ _ h => h) (Or.inl ⟨by rfl, by rintro w' -; go_simp⟩) hS14 ?_
  simp only [Act.put, List.setIfInBounds_toArray, List.set_cons_zero, List.set_cons_succ]
  refine wpAnyH_ready (rs := [10]) (by kernel_rfl) (by simp) ?_
  refine AllReadyH.cons rfl (fun K15 hK15 => ?_) AllReadyH.nil
  have HK15 := Lib.hid hK15
  clear hK15
  rw [if_pos (by rfl)]
  go_simp
  obtain ⟨N1, hN1⟩ : ∃ n, x8.heap.size = n := ⟨_, rfl⟩
  have SB := md_box (tm := 84) hN1 HX.out HV.out LL.out LN.out HS.out
  obtain ⟨x16, hxb⟩ : ∃ q, x8.alloc (.cells #[.int .i64 (R : Int), .int .i64 (B : Int), .int .i64 (T : Int), .int .i64 (S : Int), .int .i64 (O : Int), .slice (some ⟨gX, 0, none⟩) n gc] 84) = q := ⟨_, rfl⟩
  have hbx : Below x8.heap.size x8 x16 := by rw [← hxb]; exact (Below.refl _ _).alloc (Nat.le_refl _) _
  rw [hxb] at SB
  rw [hxb]
  rw [hN1]
  have NG := Lib.hid (show w.heap.size ≤ N1 from by rw [← hN1]; exact HT_11.out.size)
  have M_17 := Lib.hid (Md.fw M_9.out (hbx))
  have S_18 := Lib.hid (Sx.fw HX.out (hbx))
  have hl19 := hbx
  have HT_20 : Hid (Below w.heap.size w x16) := Lib.hid (HT_11.out.trans ((hl19).mono HT_11.out.size))
  have SBH := Lib.hid SB
  clear SB
  clear hbx hxb hN1
  have hb22 : Below x8.heap.size x8 x16 := hl19
  have hS21 : (fun w' : World => Below x8.heap.size x8 w') x16 := hb22
  refine HK15.out _ _ hS21 fun _ => ?_
  try simp only [Act.put, List.setIfInBounds_toArray, List.set_cons_zero, List.set_cons_succ]
  refine wpAnyH_up (S' := (fun w' : World => Below x16.heap.size x16 w')) (fun w' h => hb22.trans (h.mono hb22.size)) ?_
  have hS23 : (fun w' : World => Below x16.heap.size x16 w') x16 := Below.refl _ _
  refine takeD (i := 11) (v := .pointer (some ⟨N1, 0, none⟩)) (some 2) rfl rfl (by kernel_rfl) (by kernel_rfl) (by kernel_rfl) (fun _ _ _ h => h) (Or.inl ⟨by rfl, by rintro w' -; go_simp⟩) hS23 ?_
  simp only [Act.put, List.setIfInBounds_toArray, List.set_cons_zero, List.set_cons_succ]
  refine wpAnyH_done (by kernel_rfl) ?_ _
  go_wp2_with fail
  go_ret
  exact ⟨N1, gX, gc, rfl, SBH.out, ⟨NG.out, GX.out⟩, HT_20.out⟩
set_option maxHeartbeats 4000000 in
set_option maxRecDepth 100000 in
theorem rcl_any {w : World} {M X c R B T S O : Nat} {l : List Sec} (h : RMd w M X c R B T S O l) : Calls Try.prog 46 #[.pointer (some ⟨M, 0, none⟩)] w (clPost 73 92 R B T S O l w) := by
  have HM := Lib.hid h
  have HV := Lib.hid h.v
  have HS := Lib.hid h.sh
  have sm := h.small
  obtain ⟨n, hn⟩ : ∃ n, l.length = n := ⟨_, rfl⟩
  have LN := Lib.hid hn
  rw [hn] at sm
  have LL := Lib.hid h.len
  clear h hn
  go_enter Try.func46, Try.ntmps46
  go_wp2_with fail
  refine wp_region_held (P := Try.prog) (S := (fun w' : World => Below w.heap.size w w')) rfl ?_
  change wpAnyH _ _ _ _ _ _ _ _ w.drew
  have hz2 : Below w.heap.size w w.drew := (Below.refl w.heap.size w).drew
  generalize w.drew = wz1 at hz2 ⊢
  have M_3 := Lib.hid (Md.fw HM.out (hz2))
  have hl4 := hz2
  have HT_5 : Hid (Below w.heap.size w wz1) := Lib.hid (hl4)
  refine wpAnyH_up (S' := (fun w' : World => Below wz1.heap.size wz1 w')) (fun w' h => hz2.trans (h.mono hz2.size)) ?_
  have hS6 : (fun w' : World => Below wz1.heap.size wz1 w') wz1 := Below.refl _ _
  refine takeD (i := 0) (v := .pointer (some ⟨M, 0, none⟩)) (some 3) rfl rfl (by kernel_rfl) (by kernel_rfl) (by kernel_rfl) (fun _ _ _ h => h) (Or.inl ⟨by rfl, by rintro w' -; go_simp⟩) hS6 ?_
  simp only [Act.put, List.setIfInBounds_toArray, List.set_cons_zero, List.set_cons_succ]
  refine takeD (i := 1) (v := .pointer (some ⟨M, 0, none⟩)) (some 4) rfl rfl (by kernel_rfl) (by kernel_rfl) (by kernel_rfl) (fun _ _ _ h => h) (Or.inl ⟨by rfl, by rintro w' -; go_simp⟩) hS6 ?_
  simp only [Act.put, List.setIfInBounds_toArray, List.set_cons_zero, List.set_cons_succ]
  refine takeD (i := 2) (v := .pointer (some ⟨M, 0, none⟩)) (some 5) rfl rfl (by kernel_rfl) (by kernel_rfl) (by kernel_rfl) (fun _ _ _ h => h) (Or.inl ⟨by rfl, by rintro w' -; go_simp⟩) hS6 ?_
  simp only [Act.put, List.setIfInBounds_toArray, List.set_cons_zero, List.set_cons_succ]
  refine takeD (i := 3) (v := .agg #[.int .i64 (R : Int), .int .i64 (B : Int), .int .i64 (T : Int), .int .i64 (S : Int), .int .i64 (O : Int)]) (some 6) rfl rfl (by kernel_rfl) (by kernel_rfl) (by kernel_rfl) (fun _ _ _ h => h) (yieldsIf_load_mid (by rfl) _ _ rfl M 0 rfl [.int .i64 (R : Int), .int .i64 (B : Int), .int .i64 (T : Int), .int .i64 (S : Int), .int .i64 (O : Int)] _ (fun w' h => (Md.fw M_3.out h).rng) Try.underlying23 rfl (by kernel_rfl)) hS6 ?_
  simp only [Act.put, List.setIfInBounds_toArray, List.set_cons_zero, List.set_cons_succ]
  refine takeD (i := 5) (v := .pointer (some ⟨M, 0, none⟩)) (some 8) rfl rfl (by kernel_rfl) (by kernel_rfl) (by kernel_rfl) (fun _ _ _ h => h) (Or.inl ⟨by rfl, by rintro w' -; go_simp⟩) hS6 ?_
  simp only [Act.put, List.setIfInBounds_toArray, List.set_cons_zero, List.set_cons_succ]
  refine takeD (i := 6) (v := .pointer (some ⟨M, 0, none⟩)) (some 9) rfl rfl (by kernel_rfl) (by kernel_rfl) (by kernel_rfl) (fun _ _ _ h => h) (Or.inl ⟨by rfl, by rintro w' -; go_simp⟩) hS6 ?_
  simp only [Act.put, List.setIfInBounds_toArray, List.set_cons_zero, List.set_cons_succ]
  refine takeD (i := 7) (v := .pointer (some ⟨M, 5, none⟩)) (some 10) rfl rfl (by kernel_rfl) (by kernel_rfl) (by kernel_rfl) (fun _ _ _ h => h) (Or.inl ⟨by rfl, by rintro w' -; go_simp⟩) hS6 ?_
  simp only [Act.put, List.setIfInBounds_toArray, List.set_cons_zero, List.set_cons_succ]
  refine takeD (i := 8) (v := .slice (some ⟨X, 0, none⟩) n c) (some 11) rfl rfl (by kernel_rfl) (by kernel_rfl) (by kernel_rfl) (fun _ _ _ h => h) (Or.inl ⟨by rfl, by rintro w' h; have hc := (Md.fw M_3.out h).c5; rw [LN.out] at hc; go_simp⟩) hS6 ?_
  simp only [Act.put, List.setIfInBounds_toArray, List.set_cons_zero, List.set_cons_succ]
  refine wpAnyH_ready (rs := [4]) (by kernel_rfl) (by simp) ?_
  refine AllReadyH.cons rfl (fun K7 hK7 => ?_) AllReadyH.nil
  have HK7 := Lib.hid hK7
  clear hK7
  rw [if_pos (by rfl)]
  refine wp_build_sec Try.underlying71 rinfo_sec rfl ?_
  have hq9 : Below wz1.heap.size wz1 (wz1.alloc (.cells #[] 92)) := (Below.refl _ _).alloc (Nat.le_refl _) _
  have hh10 := gr_new wz1 #[] 92 rfl
  have BG := Lib.hid HT_5.out.size
  generalize wz1.alloc (.cells #[] 92) = x8 at hq9 hh10 ⊢
  obtain ⟨b0, hb0⟩ : ∃ b, wz1.heap.size = b := ⟨_, rfl⟩
  rw [hb0] at BG hh10 ⊢
  have MB := Lib.hid (And.intro (show M < b0 from by rw [← hb0]; exact M_3.out.row.lt) (show X < b0 from by rw [← hb0]; exact M_3.out.sx.lt))
  have QB := Lib.hid hb0
  have M_11 := Lib.hid (Md.fw M_3.out (hq9))
  have hl12 := hq9
  have HT_13 : Hid (Below w.heap.size w x8) := Lib.hid (HT_5.out.trans ((hl12).mono HT_5.out.size))
  have RB := Lib.hid hh10
  clear hq9 hh10 hb0
  have hb15 : Below wz1.heap.size wz1 x8 := hl12
  have hS14 : (fun w' : World => Below wz1.heap.size wz1 w') x8 := hb15
  refine HK7.out _ _ hS14 fun _ => ?_
  try simp only [Act.put, List.setIfInBounds_toArray, List.set_cons_zero, List.set_cons_succ]
  refine wpAnyH_up (S' := (fun w' : World => Chg (fun j => j = b0) x8 w')) (fun w' h => hb15.trans (h.below hb15.size (fun j hj => Nat.le_of_eq (by rw [hj]; exact QB.out)))) ?_
  have hS16 : (fun w' : World => Chg (fun j => j = b0) x8 w') x8 := Chg.refl _ _
  refine wpAnyH_ready (rs := [9]) (by kernel_rfl) (by simp) ?_
  refine AllReadyH.cons rfl (fun K17 hK17 => ?_) AllReadyH.nil
  have HK17 := Lib.hid hK17
  clear hK17
  rw [if_pos (by rfl)]
  refine wp_copy_sec Try.underlying71 rinfo_sec (.tmp 7) (.tmp 11) rfl b0 X n c c l rfl RB.out rfl LN.out (by omega) (by omega) M_11.out.sx ?_
  intro gX gc x18 hx1 hg hx2
  have GX := Lib.hid (Nat.le_trans BG.out hx2)
  have hc : Chg (fun j => j = b0) x8 x18 := grown_chg hg
  have HM2 := Lib.hid (M_11.out.chg hc (fun e => by have := MB.out; omega) (fun e => by have := MB.out; omega))
  have HT_19 : Hid (Below w.heap.size w x18) := Lib.hid (HT_13.out.trans (hc.below HT_13.out.size (fun j hj => by rw [hj]; exact BG.out)))
  have HX := Lib.hid hx1
  clear hg hx1 hx2
  have hb21 : Chg (fun j => j = b0) x8 x18 := hc
  have hS20 : (fun w' : World => Chg (fun j => j = b0) x8 w') x18 := hb21
  refine HK17.out _ _ hS20 fun _ => ?_
  try simp only [Act.put, List.setIfInBounds_toArray, List.set_cons_zero, List.set_cons_succ]
  refine wpAnyH_up (S' := (fun w' : World => Below x18.heap.size x18 w')) (fun w' h => hb21.trans (below_chg h (fun j => j = b0))) ?_
  have hS22 : (fun w' : World => Below x18.heap.size x18 w') x18 := Below.refl _ _
  refine takeD (i := 10) (v := .agg #[.int .i64 (R : Int), .int .i64 (B : Int), .int .i64 (T : Int), .int .i64 (S : Int), .int .i64 (O : Int), .slice (some ⟨gX, 0, none⟩) n gc]) (some 13) rfl rfl (by kernel_rfl) (by kernel_rfl) (by kernel_rfl) (fun _ _ _ h => h) (Or.inl ⟨by rfl, by rintro w' -; go_simp⟩) hS22 ?_
  simp only [Act.put, List.setIfInBounds_toArray, List.set_cons_zero, List.set_cons_succ]
  refine wpAnyH_ready (rs := [11]) (by kernel_rfl) (by simp) ?_
  refine AllReadyH.cons rfl (fun K23 hK23 => ?_) AllReadyH.nil
  have HK23 := Lib.hid hK23
  clear hK23
  rw [if_pos (by rfl)]
  go_simp
  obtain ⟨N1, hN1⟩ : ∃ n, x18.heap.size = n := ⟨_, rfl⟩
  have SB := md_box (tm := 73) hN1 HX.out HV.out LL.out LN.out HS.out
  obtain ⟨x24, hxb⟩ : ∃ q, x18.alloc (.cells #[.int .i64 (R : Int), .int .i64 (B : Int), .int .i64 (T : Int), .int .i64 (S : Int), .int .i64 (O : Int), .slice (some ⟨gX, 0, none⟩) n gc] 73) = q := ⟨_, rfl⟩
  have hbx : Below x18.heap.size x18 x24 := by rw [← hxb]; exact (Below.refl _ _).alloc (Nat.le_refl _) _
  rw [hxb] at SB
  rw [hxb]
  rw [hN1]
  have NG := Lib.hid (show w.heap.size ≤ N1 from by rw [← hN1]; exact HT_19.out.size)
  have M_25 := Lib.hid (Md.fw HM2.out (hbx))
  have S_26 := Lib.hid (Sx.fw HX.out (hbx))
  have hl27 := hbx
  have HT_28 : Hid (Below w.heap.size w x24) := Lib.hid (HT_19.out.trans ((hl27).mono HT_19.out.size))
  have SBH := Lib.hid SB
  clear SB
  clear hbx hxb hN1
  have hb30 : Below x18.heap.size x18 x24 := hl27
  have hS29 : (fun w' : World => Below x18.heap.size x18 w') x24 := hb30
  refine HK23.out _ _ hS29 fun _ => ?_
  try simp only [Act.put, List.setIfInBounds_toArray, List.set_cons_zero, List.set_cons_succ]
  refine wpAnyH_up (S' := (fun w' : World => Below x24.heap.size x24 w')) (fun w' h => hb30.trans (h.mono hb30.size)) ?_
  have hS31 : (fun w' : World => Below x24.heap.size x24 w') x24 := Below.refl _ _
  refine takeD (i := 12) (v := .pointer (some ⟨N1, 0, none⟩)) (some 2) rfl rfl (by kernel_rfl) (by kernel_rfl) (by kernel_rfl) (fun _ _ _ h => h) (Or.inl ⟨by rfl, by rintro w' -; go_simp⟩) hS31 ?_
  simp only [Act.put, List.setIfInBounds_toArray, List.set_cons_zero, List.set_cons_succ]
  refine wpAnyH_done (by kernel_rfl) ?_ _
  go_wp2_with fail
  go_ret
  exact ⟨N1, gX, gc, rfl, SBH.out, ⟨NG.out, GX.out⟩, HT_28.out⟩
end Go.Proofs.Ytbaclcpnnompnaa
