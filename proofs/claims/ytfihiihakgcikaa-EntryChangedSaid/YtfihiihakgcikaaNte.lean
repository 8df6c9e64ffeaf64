/- Layer 15: the reference's Seal and Encode. WRITTEN BY gen_Nte.py. -/
import Derived.Test.YtfihiihakgcikaaNtd
import Derived.Test.YtfihiihakgcikaaRr
import Derived.Deep.RegionHeld3
namespace Go.Proofs.Ytfihiihakgcikaa
open Go Go.RowKit Ent
set_option linter.unusedVariables false
set_option linter.unusedSimpArgs false
theorem runB_build_1 (x : Int) (w : World) : (Instr.buildSlice 27 1 #[(0, .int .u8 x)]).run Try.prog w = .ok (.slice (some ⟨w.heap.size, 0, none⟩) 1 1) (w.alloc (.cells #[.int .u8 x] 5)) := by
  obtain ⟨i, hi, hzz⟩ := Option.map_eq_some_iff.1 info_u8
  simp only [Prod.mk.injEq] at hzz
  obtain ⟨hz, hs, hb⟩ := hzz
  go_simp
theorem wpB_build_1 {o : Oper} {a : Act} {w : World} {K : Act → World → Prop} {Q : Exit → Act → World → Prop} {x : Int} {y : Operand} (ho : o.op = .buildSlice 27 1 #[(0, y)]) (hy : a.eval y = .int .u8 x)
    (hk : K (a.put o.dst (.slice (some ⟨w.heap.size, 0, none⟩) 1 1)) (w.alloc (.cells #[.int .u8 x] 5))) : o.wp Try.prog a w K Q := by
  unfold Oper.wp
  simp only [execOp, ho, List.map_toArray, List.map_cons, List.map_nil, hy, Sem.run_bind, Sem.run_pure, Result.andThen_ok, runB_build_1 x w]
  exact hk
set_option maxHeartbeats 2000000 in
set_option maxRecDepth 100000 in
theorem rseal_any (v : Value) (b : List Nat) (w : World) (hb : Bs w v b) (hl : b.length ≤ 1000000) :
    Calls Try.prog 14 #[v] w (newB (sld b) w) := by
  have S := Lib.hid (rcrcsum_any v b w hb)
  have P := Lib.hid (rput_any v b (Crc.crc b) 8 w hb (crc_lt hb.lt) (by omega) hl)
  obtain ⟨A1, c1, rfl⟩ := hb.form
  clear hb
  unfold sld
  generalize b.length = n at *
  generalize Crc.crc b = q at *
  go_enter Try.func14, Try.ntmps14
  go_wp2_with (go_at_call 22; refine S.out.mono ?_; rintro e w' ⟨rfl, rfl⟩)
  refine P.out.mono ?_
  rintro r w1 ⟨x, rfl, h1, h2⟩
  go_wp2_with fail
  go_ret
  exact ⟨x, rfl, h1, h2⟩
set_option maxHeartbeats 4000000 in
set_option maxRecDepth 100000 in
theorem renc_bad (e : E) (t : Nat) (w : World) (hf : Fit e) (ht : t < 2 ^ 64) (ho : ¬ ok e) : Calls Try.prog 10 #[ev e, .int .u64 (t : Int)] w (fun r w' => r = .returned (.tuple #[.slice none 0 0, .int .i64 1]) ∧ Below w.heap.size w w') := by
  have V := Lib.hid fun w => rvalid_any e w hf
  rw [show decide (ok e) = false from decide_eq_false ho] at V
  obtain ⟨B0, hB0⟩ : ∃ B, w.heap.size = B := ⟨_, rfl⟩
  obtain ⟨W, hW⟩ : ∃ W, w.alloc (.cells (ecs e).toArray 26) = W := ⟨_, rfl⟩
  have R : Eb W B0 e := by rw [← hW]; exact eb_new w _ hB0
  have RG := Lib.hid R.rng
  have BW : Hid (Below w.heap.size w W) := Lib.hid (by rw [← hW]; exact (Below.refl _ _).alloc (Nat.le_refl _) _)
  have SZ : Hid ((Try.prog.info? 26).map (·.size) = some (ecs e).length) := Lib.hid (by rw [ecs_len hf]; kernel_rfl)
  unfold ev at V ⊢
  obtain ⟨C, hC⟩ : ∃ C, ecs e = C := ⟨_, rfl⟩
  rw [hC] at V RG SZ hW ⊢
  have HB1 := Lib.hid hB0
  have HW1 := Lib.hid hW
  clear hf ho hB0 hW hC R ht
  go_enter Try.func10, Try.ntmps10
  go_wp2_with (first | rw [HB1.out] | rw [HW1.out] | (refine wpList_load_mid rfl _ _ rfl B0 0 rfl C _ RG.out Try.underlying26 rfl SZ.out ?_))
  refine (V.out _).mono ?_
  rintro r w1 ⟨rfl, hb⟩
  have BA := Lib.hid (BW.out.trans (hb.mono BW.out.size))
  clear hb
  go_wp2_with fail
  go_ret2
  exact ⟨rfl, BA.out⟩

set_option maxHeartbeats 4000000 in
set_option maxRecDepth 100000 in
theorem renc_ok (k bn v : Nat) (d : List Nat) (t : Nat) (w : World) (hf : Fit ⟨(k : Int), (bn : Int), v, d⟩) (ht : t < 2 ^ 64) (ho : ok ⟨(k : Int), (bn : Int), v, d⟩) : Calls Try.prog 10 #[ev ⟨(k : Int), (bn : Int), v, d⟩, .int .u64 (t : Int)] w (fun r w' => ∃ x, r = .returned (.tuple #[x, .int .i64 0]) ∧ OwB w' w.heap.size x (enc ⟨(k : Int), (bn : Int), v, d⟩ t) ∧ Below w.heap.size w w') := by
  have V := Lib.hid fun w => rvalid_any _ w hf
  rw [show decide (ok ⟨(k : Int), (bn : Int), v, d⟩) = true from decide_eq_true ho] at V
  obtain ⟨B0, hB0⟩ : ∃ B, w.heap.size = B := ⟨_, rfl⟩
  obtain ⟨W, hW⟩ : ∃ W, w.alloc (.cells (ecs ⟨(k : Int), (bn : Int), v, d⟩).toArray 26) = W := ⟨_, rfl⟩
  have R : Eb W B0 ⟨(k : Int), (bn : Int), v, d⟩ := by rw [← hW]; exact eb_new w _ hB0
  have RH := Lib.hid R
  have RG := Lib.hid R.rng
  have BW : Hid (Below w.heap.size w W) := Lib.hid (by rw [← hW]; exact (Below.refl _ _).alloc (Nat.le_refl _) _)
  have SZ : Hid ((Try.prog.info? 26).map (·.size) = some (ecs ⟨(k : Int), (bn : Int), v, d⟩).length) := Lib.hid (by rw [ecs_len hf]; kernel_rfl)
  have k2 : k ≤ 2 := by have := ho.1; simp only at this; omega
  have b16 : bn < 65536 := by have := ho.2.2.1; simp only at this; omega
  have v64 := hf.1
  have HF := Lib.hid hf
  have T64 := Lib.hid ht
  simp only at v64
  unfold ev at V ⊢
  obtain ⟨C, hC⟩ : ∃ C, ecs ⟨(k : Int), (bn : Int), v, d⟩ = C := ⟨_, rfl⟩
  rw [hC] at V RG SZ hW ⊢
  have HB1 := Lib.hid hB0
  have HW1 := Lib.hid hW
  clear hf ho hB0 hW hC R ht
  go_enter Try.func10, Try.ntmps10
  go_wp2_with (first | rw [HB1.out] | rw [HW1.out] | (refine wpList_load_mid rfl _ _ rfl B0 0 rfl C _ RG.out Try.underlying26 rfl SZ.out ?_))
  refine (V.out _).mono ?_
  rintro r w1 ⟨rfl, hb⟩
  have B1 := Lib.hid hb
  have R1 := Lib.hid (RH.out.below hb)
  have FE := Lib.hid fun W' (h : Below w1.heap.size w1 W') => (show Eb W' B0 ⟨(k : Int), (bn : Int), v, d⟩ from R1.out.below h)
  clear hb
  go_wp2_with fail
  refine wp_region_held (P := Try.prog) (S := (fun w' : World => Below w1.heap.size w1 w')) rfl ?_
  change wpAnyH _ _ _ _ _ _ _ _ w1.drew
  have hz2 : Below w1.heap.size w1 w1.drew := (Below.refl w1.heap.size w1).drew
  generalize w1.drew = wz1 at hz2 ⊢
  have hq3 : Below w1.heap.size w1 wz1 := hz2
  have HB_4 : Hid (Below w1.heap.size w1 wz1) := Lib.hid (hq3)
  clear hq3
  clear hz2
  have hS5 : (fun w' : World => Below w1.heap.size w1 w') wz1 := HB_4.out
  refine takeD (i := 0) (v := .pointer (some ⟨B0, 0, none⟩)) (some 10) rfl rfl (by kernel_rfl) (by kernel_rfl) (by kernel_rfl) (fun _ _ _ h => h) (Or.inl ⟨by rfl, by rintro w' -; go_simp⟩) hS5 ?_
  simp only [Act.put, List.setIfInBounds_toArray, List.set_cons_zero, List.set_cons_succ]
  refine takeD (i := 1) (v := .int .i64 (k : Int)) (some 11) rfl rfl (by kernel_rfl) (by kernel_rfl) (by kernel_rfl) (fun _ _ _ h => h) (Or.inl ⟨by rfl, fun w' (hw' : Below w1.heap.size w1 w') => by have cc : w'.cell? ⟨B0, 0, none⟩ = some (.int .i64 (k : Int)) := (FE.out w' hw').c0; go_simp⟩) hS5 ?_
  simp only [Act.put, List.setIfInBounds_toArray, List.set_cons_zero, List.set_cons_succ]
  refine takeD (i := 2) (v := .int .u8 (k : Int)) (some 12) rfl rfl (by kernel_rfl) (by kernel_rfl) (by kernel_rfl) (fun _ _ _ h => h) (Or.inl ⟨by rfl, by rintro w' -; go_simp; rw [IntKind.wrap_u8]; omega⟩) hS5 ?_
  simp only [Act.put, List.setIfInBounds_toArray, List.set_cons_zero, List.set_cons_succ]
  refine takeD (i := 4) (v := .pointer (some ⟨B0, 1, none⟩)) (some 14) rfl rfl (by kernel_rfl) (by kernel_rfl) (by kernel_rfl) (fun _ _ _ h => h) (Or.inl ⟨by rfl, by rintro w' -; go_simp⟩) hS5 ?_
  simp only [Act.put, List.setIfInBounds_toArray, List.set_cons_zero, List.set_cons_succ]
  refine takeD (i := 5) (v := .int .i64 (bn : Int)) (some 15) rfl rfl (by kernel_rfl) (by kernel_rfl) (by kernel_rfl) (fun _ _ _ h => h) (Or.inl ⟨by rfl, fun w' (hw' : Below w1.heap.size w1 w') => by have cc : w'.cell? ⟨B0, 1, none⟩ = some (.int .i64 (bn : Int)) := (FE.out w' hw').c1; go_simp⟩) hS5 ?_
  simp only [Act.put, List.setIfInBounds_toArray, List.set_cons_zero, List.set_cons_succ]
  refine takeD (i := 6) (v := .int .u64 (bn : Int)) (some 16) rfl rfl (by kernel_rfl) (by kernel_rfl) (by kernel_rfl) (fun _ _ _ h => h) (Or.inl ⟨by rfl, by rintro w' -; go_simp; rw [IntKind.wrap_u64]; omega⟩) hS5 ?_
  simp only [Act.put, List.setIfInBounds_toArray, List.set_cons_zero, List.set_cons_succ]
  refine takeD (i := 8) (v := .pointer (some ⟨B0, 2, none⟩)) (some 18) rfl rfl (by kernel_rfl) (by kernel_rfl) (by kernel_rfl) (fun _ _ _ h => h) (Or.inl ⟨by rfl, by rintro w' -; go_simp⟩) hS5 ?_
  simp only [Act.put, List.setIfInBounds_toArray, List.set_cons_zero, List.set_cons_succ]
  refine takeD (i := 9) (v := .int .u64 (v : Int)) (some 19) rfl rfl (by kernel_rfl) (by kernel_rfl) (by kernel_rfl) (fun _ _ _ h => h) (Or.inl ⟨by rfl, fun w' (hw' : Below w1.heap.size w1 w') => by have cc : w'.cell? ⟨B0, 2, none⟩ = some (.int .u64 (v : Int)) := (FE.out w' hw').c2; go_simp⟩) hS5 ?_
  simp only [Act.put, List.setIfInBounds_toArray, List.set_cons_zero, List.set_cons_succ]
  refine wpAnyH_ready (rs := [3]) (by kernel_rfl) (by simp) ?_
  refine AllReadyH.cons rfl (fun K6 hK6 => ?_) AllReadyH.nil
  have HK6 := Lib.hid hK6
  clear hK6
  rw [if_pos (by rfl)]
  refine wpB_build_1 (x := (k : Int)) rfl rfl ?_
  obtain ⟨b7, hb8⟩ : ∃ b, wz1.heap.size = b := ⟨_, rfl⟩
  have HO10 : Hid (OwB (wz1.alloc (.cells #[.int .u8 (k : Int)] 5)) w1.heap.size (.slice (some ⟨b7, 0, none⟩) 1 1) (le k 1)) := Lib.hid (by rw [← hb8, show le k 1 = [k] by simp [le]; omega]; exact OwB.one wz1 HB_4.out.size (by omega))
  have hq11 : Below w1.heap.size wz1 (wz1.alloc (.cells #[.int .u8 (k : Int)] 5)) := (Below.refl _ _).alloc HB_4.out.size _
  rw [hb8]
  generalize wz1.alloc (.cells #[.int .u8 (k : Int)] 5) = x9 at hq11 HO10 ⊢
  have HB_12 : Hid (Below w1.heap.size w1 x9) := Lib.hid (HB_4.out.trans (hq11))
  clear hq11 hb8
  have hS13 : (fun w' : World => Below w1.heap.size w1 w') x9 := HB_12.out
  refine HK6.out _ _ hS13 fun _ => ?_
  try simp only [Act.put, List.setIfInBounds_toArray, List.set_cons_zero, List.set_cons_succ]
  refine wpAnyH_ready (rs := [7]) (by kernel_rfl) (by simp) ?_
  refine AllReadyH.cons rfl (fun K14 hK14 => ?_) AllReadyH.nil
  have HK14 := Lib.hid hK14
  clear hK14
  rw [if_pos (by rfl)]
  go_simp
  refine (rput_any _ _ bn 4 x9 HO10.out.bs (by omega) (by omega) (by simp [le_len])).mono ?_
  rintro e x15 ⟨v16, rfl, ho18, hb19⟩
  have HO17 : Hid (OwB x15 w1.heap.size v16 ((le k 1) ++ le bn 4)) := Lib.hid (ho18.mono HB_12.out.size)
  have hq20 : Below w1.heap.size x9 x15 := hb19.mono HB_12.out.size
  have HB_21 : Hid (Below w1.heap.size w1 x15) := Lib.hid (HB_12.out.trans (hq20))
  clear hq20 ho18 hb19
  have hS22 : (fun w' : World => Below w1.heap.size w1 w') x15 := HB_21.out
  refine HK14.out _ _ hS22 fun _ => ?_
  try simp only [Act.put, List.setIfInBounds_toArray, List.set_cons_zero, List.set_cons_succ]
  refine wpAnyH_ready (rs := [10]) (by kernel_rfl) (by simp) ?_
  refine AllReadyH.cons rfl (fun K23 hK23 => ?_) AllReadyH.nil
  have HK23 := Lib.hid hK23
  clear hK23
  rw [if_pos (by rfl)]
  go_simp
  refine (rput_any _ _ v 8 x15 HO17.out.bs v64 (by omega) (by simp [le_len])).mono ?_
  rintro e x24 ⟨v25, rfl, ho27, hb28⟩
  have HO26 : Hid (OwB x24 w1.heap.size v25 (((le k 1) ++ le bn 4) ++ le v 8)) := Lib.hid (ho27.mono HB_21.out.size)
  have hq29 : Below w1.heap.size x15 x24 := hb28.mono HB_21.out.size
  have HB_30 : Hid (Below w1.heap.size w1 x24) := Lib.hid (HB_21.out.trans (hq29))
  clear hq29 ho27 hb28
  have hS31 : (fun w' : World => Below w1.heap.size w1 w') x24 := HB_30.out
  refine HK23.out _ _ hS31 fun _ => ?_
  try simp only [Act.put, List.setIfInBounds_toArray, List.set_cons_zero, List.set_cons_succ]
  refine takeD (i := 11) (v := v25) (some 6) rfl rfl (by kernel_rfl) (by kernel_rfl) (by kernel_rfl) (fun _ _ _ h => h) (Or.inl ⟨by rfl, by rintro w' -; go_simp⟩) hS31 ?_
  simp only [Act.put, List.setIfInBounds_toArray, List.set_cons_zero, List.set_cons_succ]
  refine wpAnyH_done (by kernel_rfl) ?_ _
  have RD := run_dat (g := B0)
  have BL := Lib.hid (B1.out.trans (HB_30.out.mono B1.out.size))
  have DA := Lib.hid (show Bs x24 (.slice (some ⟨B0, 3, none⟩) 8 8) d from (FE.out _ HB_30.out).bs HF.out)
  have OO : Hid (OwB x24 W.heap.size v25 ((((le k 1) ++ le bn 4) ++ le v 8))) := Lib.hid (HO26.out.mono B1.out.size)
  go_wp2_with (at_builtin; refine wp_app rfl (.tmp 21) (.tmp 23) rfl W.heap.size _ _ _ d rfl rfl OO.out DA.out (by have := HF.out.2.1; simp only at this; simp [le_len, this]) BL.out.size ?_; intro x5 w5 ho5 hb5; have O5 := Lib.hid ho5; have BL5 : Hid (Below W.heap.size W w5) := Lib.hid (BL.out.trans hb5); have C5 := Lib.hid (rput_any _ _ t 8 w5 ho5.bs T64.out (by omega) (by have := HF.out.2.1; simp only at this; simp [le_len, this])); clear ho5 hb5)
  refine C5.out.mono ?_
  rintro r w6 ⟨x6, rfl, ho6, hb6⟩
  have EQ : ((((le k 1 ++ le bn 4) ++ le v 8) ++ d) ++ le t 8) = body ⟨(k : Int), (bn : Int), v, d⟩ t := by simp [body, List.append_assoc]
  rw [EQ] at ho6
  have BL6 : Hid (Below W.heap.size W w6) := Lib.hid (BL5.out.trans (hb6.mono BL5.out.size))
  have C6 := Lib.hid (rseal_any _ _ w6 ho6.bs (by rw [body_len HF.out]; omega))
  clear ho6 hb6 C5 EQ
  go_wp2_with fail
  refine C6.out.mono ?_
  rintro r w8 ⟨x8, rfl, ho8, hb8⟩
  have FIN := Lib.hid (show OwB w8 w.heap.size x8 (enc ⟨(k : Int), (bn : Int), v, d⟩ t) from ho8.mono (Nat.le_trans BW.out.size BL6.out.size))
  have BF := Lib.hid (BW.out.trans ((BL6.out.trans (hb8.mono BL6.out.size)).mono BW.out.size))
  clear ho8 hb8 C6
  go_wp2_with fail
  go_ret2
  exact ⟨_, rfl, FIN.out, BF.out⟩
theorem renc_any (e : E) (t : Nat) (w : World) (hf : Fit e) (ht : t < 2 ^ 64) : Calls Try.prog 10 #[ev e, .int .u64 (t : Int)] w (encPost e t w) := by
  by_cases ho : ok e
  · obtain ⟨k, b, v, d⟩ := e
    obtain ⟨kn, hk⟩ : ∃ n : Nat, k = n := ⟨k.toNat, by have := ho.1; simp only at this; omega⟩
    obtain ⟨bn, hb⟩ : ∃ n : Nat, b = n := ⟨b.toNat, by have := ho.2.1; simp only at this; omega⟩
    subst hk hb
    exact (renc_ok kn bn v d t w hf ht ho).mono fun r w' h => ⟨fun _ => h, fun hn => absurd ho hn⟩
  · exact (renc_bad e t w hf ht ho).mono fun r w' h => ⟨fun h1 => absurd h1 ho, fun _ => h⟩
end Go.Proofs.Ytfihiihakgcikaa
