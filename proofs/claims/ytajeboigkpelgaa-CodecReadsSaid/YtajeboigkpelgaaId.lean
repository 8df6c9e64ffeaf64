/- The reference's AppendBlock. WRITTEN BY gen_Id.py. -/
import Derived.Test.YtajeboigkpelgaaIc
import Derived.Test.YtajeboigkpelgaaRr
import Derived.Deep.RegionHeld3
namespace Go.Proofs.Ytajeboigkpelgaa
open Go Go.RowKit
set_option linter.unusedVariables false
set_option linter.unusedSimpArgs false
theorem bs_blk {w : World} {g : Nat} {t : TypeId} {l : List Nat} (h : Row w g t (l.map bv).toArray) (hl : l.length = 8) (h8 : ∀ x ∈ l, x < 256) : Bs w (.slice (some ⟨g, 0, none⟩) 8 8) l :=
  Bs.of_row h hl ⟨by decide, by decide⟩ h8 fun k hk => by rw [List.getElem?_toArray]; exact getD_bv (by omega)
theorem run_blk {g : Nat} : ∀ w, (Instr.sliceAt 25 (.pointer (some ⟨g, 0, none⟩)) none none none).run Try.prog w = .ok (.slice (some ⟨g, 0, none⟩) 8 8) w := by
  intro w
  have hl : Try.prog.arrayLen 25 = 8 := by kernel_rfl
  obtain ⟨i, hi, hzz⟩ := Option.map_eq_some_iff.1 info_u8
  simp only [Prod.mk.injEq] at hzz
  have hel : Try.prog.elem 25 = 5 := by kernel_rfl
  rw [run_sliceAt_array_all w 25 ⟨g, 0, none⟩ (by rw [hl, hel]; exact Try.underlying25), hel, hl]
  simp [sizeOf, typeInfo, hi, hzz.2.1, Result.andThen, slicedAt]
  rfl

set_option maxHeartbeats 4000000 in
set_option maxRecDepth 100000 in
theorem rapk_any (v : Value) (b x : List Nat) (w : World) (hb : Bs w v b) (hx : x.length = 8 ∧ ∀ y ∈ x, y < 256) (hl : b.length ≤ 1000000) : Calls Try.prog 18 #[v, .agg (x.map bv).toArray] w (newB (b ++ x) w) := by
  obtain ⟨A1, c1, e1⟩ := hb.form
  obtain ⟨n1, hn1⟩ : ∃ n, b.length = n := ⟨_, rfl⟩
  rw [hn1] at e1
  have HE := Lib.hid e1
  have HN := Lib.hid hn1
  have HB0 := Lib.hid hb
  have HX := Lib.hid hx
  have LL := Lib.hid hl
  rw [e1]
  clear hb hx e1 hn1 hl
  obtain ⟨C, hC⟩ : ∃ C, (x.map bv).toArray = C := ⟨_, rfl⟩
  obtain ⟨B0, hB0⟩ : ∃ B, w.heap.size = B := ⟨_, rfl⟩
  obtain ⟨W, hW⟩ : ∃ W, w.alloc (.cells C 25) = W := ⟨_, rfl⟩
  rw [hC]
  have BW : Hid (Below w.heap.size w W) := Lib.hid (by subst hW; exact (Below.refl _ _).alloc (Nat.le_refl _) _)
  have FB := Lib.hid fun W' (h : Below W.heap.size W W') => (show Bs W' (.slice A1 n1 c1) b by rw [← HE.out]; exact (HB0.out.below BW.out).below h)
  have RX : Hid (Bs W (.slice (some ⟨B0, 0, none⟩) 8 8) x) := Lib.hid (by
    have := bs_blk (t := 25) (w := W) (g := B0) (l := x) (by rw [hC]; subst hW hB0; exact heap_alloc_new w _) HX.out.1 HX.out.2
    exact this)
  have FX := Lib.hid fun W' (h : Below W.heap.size W W') => RX.out.below h
  have pa := run_blk (g := B0)
  have HB1 := Lib.hid hB0
  have HW1 := Lib.hid hW
  clear hC hB0 hW
  go_enter Try.func18, Try.ntmps18
  go_wp2_with fail
  rw [HB1.out, HW1.out]
  refine wp_region_held (P := Try.prog) (S := (fun w' : World => Below W.heap.size W w')) rfl ?_
  change wpAnyH _ _ _ _ _ _ _ _ W.drew
  have hz2 : Below W.heap.size W W.drew := (Below.refl W.heap.size W).drew
  generalize W.drew = wz1 at hz2 ⊢
  have hq3 : Below W.heap.size W wz1 := hz2
  have HB_4 : Hid (Below W.heap.size W wz1) := Lib.hid (hq3)
  clear hq3
  clear hz2
  have hS5 : (fun w' : World => Below W.heap.size W w') wz1 := HB_4.out
  refine takeD (i := 1) (v := .slice A1 n1 c1) (some 6) rfl rfl (by kernel_rfl) (by kernel_rfl) (by kernel_rfl) (fun _ _ _ h => h) (Or.inl ⟨by rfl, by rintro w' -; go_simp⟩) hS5 ?_
  simp only [Act.put, List.setIfInBounds_toArray, List.set_cons_zero, List.set_cons_succ]
  refine takeD (i := 3) (v := .slice (some ⟨B0, 0, none⟩) 8 8) (some 8) rfl rfl (by kernel_rfl) (by kernel_rfl) (by kernel_rfl) (fun _ _ _ h => h) (Or.inl ⟨by rfl, by rintro w' -; go_simp⟩) hS5 ?_
  simp only [Act.put, List.setIfInBounds_toArray, List.set_cons_zero, List.set_cons_succ]
  refine wpAnyH_ready (rs := [0]) (by kernel_rfl) (by simp) ?_
  refine AllReadyH.cons rfl (fun K6 hK6 => ?_) AllReadyH.nil
  have HK6 := Lib.hid hK6
  clear hK6
  rw [if_pos (by rfl)]
  refine wpB_build_0 rfl ?_
  obtain ⟨b7, hb8⟩ : ∃ b, wz1.heap.size = b := ⟨_, rfl⟩
  have HO10 := Lib.hid (OwB.made wz1 (B := W.heap.size) HB_4.out.size)
  have hq11 : Below W.heap.size wz1 (wz1.alloc (.cells #[] 5)) := (Below.refl _ _).alloc HB_4.out.size _
  rw [hb8] at HO10 ⊢
  generalize wz1.alloc (.cells #[] 5) = x9 at hq11 HO10 ⊢
  have HB_13 : Hid (Below W.heap.size W x9) := Lib.hid (HB_4.out.trans (hq11))
  clear hq11 hb8
  have hS14 : (fun w' : World => Below W.heap.size W w') x9 := HB_13.out
  refine HK6.out _ _ hS14 fun _ => ?_
  try simp only [Act.put, List.setIfInBounds_toArray, List.set_cons_zero, List.set_cons_succ]
  refine wpAnyH_ready (rs := [2]) (by kernel_rfl) (by simp) ?_
  refine AllReadyH.cons rfl (fun K15 hK15 => ?_) AllReadyH.nil
  have HK15 := Lib.hid hK15
  clear hK15
  rw [if_pos (by rfl)]
  refine wpO_app (.tmp 5) (.tmp 6) rfl W.heap.size (.slice (some ⟨b7, 0, none⟩) 0 0) (.slice A1 n1 c1) [] b rfl rfl HO10.out (FB.out _ HB_13.out) (by have := LL.out; have := HN.out; simp; omega) HB_13.out.size ?_
  intro v17 x16 ho20 hb19
  have HO18 := Lib.hid ho20
  have HB_21 : Hid (Below W.heap.size W x16) := Lib.hid (HB_13.out.trans (hb19))
  clear hb19 ho20
  rw [List.nil_append] at HO18
  have hS22 : (fun w' : World => Below W.heap.size W w') x16 := HB_21.out
  refine HK15.out _ _ hS22 fun _ => ?_
  try simp only [Act.put, List.setIfInBounds_toArray, List.set_cons_zero, List.set_cons_succ]
  refine wpAnyH_ready (rs := [4]) (by kernel_rfl) (by simp) ?_
  refine AllReadyH.cons rfl (fun K23 hK23 => ?_) AllReadyH.nil
  have HK23 := Lib.hid hK23
  clear hK23
  rw [if_pos (by rfl)]
  refine wpO_app (.tmp 7) (.tmp 8) rfl W.heap.size v17 (.slice (some ⟨B0, 0, none⟩) 8 8) b x rfl rfl HO18.out (FX.out _ HB_21.out) (by have := LL.out; have := HX.out.1; omega) HB_21.out.size ?_
  intro v25 x24 ho28 hb27
  have HO26 := Lib.hid ho28
  have HB_29 : Hid (Below W.heap.size W x24) := Lib.hid (HB_21.out.trans (hb27))
  clear hb27 ho28
  have hS30 : (fun w' : World => Below W.heap.size W w') x24 := HB_29.out
  refine HK23.out _ _ hS30 fun _ => ?_
  try simp only [Act.put, List.setIfInBounds_toArray, List.set_cons_zero, List.set_cons_succ]
  refine takeD (i := 5) (v := v25) (some 4) rfl rfl (by kernel_rfl) (by kernel_rfl) (by kernel_rfl) (fun _ _ _ h => h) (Or.inl ⟨by rfl, by rintro w' -; go_simp⟩) hS30 ?_
  simp only [Act.put, List.setIfInBounds_toArray, List.set_cons_zero, List.set_cons_succ]
  refine wpAnyH_done (by kernel_rfl) ?_ _
  go_wp2_with fail
  go_ret
  exact ⟨v25, rfl, HO26.out.mono BW.out.size, BW.out.trans (HB_29.out.mono BW.out.size)⟩
end Go.Proofs.Ytajeboigkpelgaa
