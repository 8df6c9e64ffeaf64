/- Layer 15: Encode: the program's. -/
import Derived.Test.YtfihiihakgcikaaNtc
namespace Go.Proofs.Ytfihiihakgcikaa
open Go Go.RowKit Ent
set_option linter.unusedVariables false
set_option linter.unusedSimpArgs false
/-- What Encode returns: new bytes and 0, or none and 1. -/
def encPost (e : E) (t : Nat) (w : World) (r : Ending) (w' : World) : Prop :=
  (ok e → ∃ v, r = .returned (.tuple #[v, .int .i64 0]) ∧ OwB w' w.heap.size v (enc e t) ∧ Below w.heap.size w w') ∧ (¬ ok e → r = .returned (.tuple #[.slice none 0 0, .int .i64 1]) ∧ Below w.heap.size w w')
theorem OwB.one (w : World) {B x : Nat} (hB : B ≤ w.heap.size) (hx : x < 256) : OwB (w.alloc (.cells #[.int .u8 (x : Int)] 5)) B (.slice (some ⟨w.heap.size, 0, none⟩) 1 1) [x] :=
  ⟨⟨rfl, .inr ⟨w.heap.size, 1, _, rfl, hB, heap_alloc_new w _, Nat.le_refl _, by decide, rfl, rfl⟩⟩, fun y hy => by simp at hy; omega⟩
theorem run_dat {g : Nat} : ∀ w, (Instr.sliceAt 24 (.pointer (some ⟨g, 3, none⟩)) none none none).run Try.prog w = .ok (.slice (some ⟨g, 3, none⟩) 8 8) w := by
  intro w
  have hl : Try.prog.arrayLen 24 = 8 := by kernel_rfl
  obtain ⟨i, hi, hzz⟩ := Option.map_eq_some_iff.1 info_u8
  simp only [Prod.mk.injEq] at hzz
  have hel : Try.prog.elem 24 = 5 := by kernel_rfl
  rw [run_sliceAt_array_all w 24 ⟨g, 3, none⟩ (by rw [hl, hel]; exact Try.underlying24), hel, hl]
  simp [sizeOf, typeInfo, hi, hzz.2.1, Result.andThen, slicedAt]
  rfl
theorem Eb.bs {w : World} {b : Nat} {e : E} (h : Eb w b e) (hf : Fit e) : Bs w (.slice (some ⟨b, 3, none⟩) 8 8) e.data :=
  ⟨some ⟨b, 3, none⟩, 8, by rw [hf.2.1], ⟨by rw [hf.2.1]; exact Nat.le_refl _, by decide⟩, hf.2.2, fun h => (by cases h), fun _ => ⟨b, 3, rfl, fun k hk => by
    have := h.data k _ (getD_bv hk)
    exact this⟩⟩
theorem own_of {B : Nat} {l : List Nat} {w : World} {v : Value} (h : OwB w B v l) : ∃ A c, v = .slice A l.length c := h.bs.form
set_option maxHeartbeats 4000000 in
set_option maxRecDepth 100000 in
theorem penc_bad (e : E) (t : Nat) (w : World) (hf : Fit e) (ht : t < 2 ^ 64) (ho : ¬ ok e) : Calls Try.prog 9 #[ev e, .int .u64 (t : Int)] w (fun r w' => r = .returned (.tuple #[.slice none 0 0, .int .i64 1]) ∧ Below w.heap.size w w') := by
  have V := Lib.hid fun w => pvalid_any e w hf
  rw [show decide (ok e) = false from decide_eq_false ho] at V
  obtain ⟨B0, hB0⟩ : ∃ B, w.heap.size = B := ⟨_, rfl⟩
  obtain ⟨W, hW⟩ : ∃ W, w.alloc (.cells (ecs e).toArray 26) = W := ⟨_, rfl⟩
  have R : Eb W B0 e := by rw [← hW]; exact eb_new w _ hB0
  have RG := Lib.hid R.rng
  have BW : Hid (Below w.heap.size w W) := Lib.hid (by rw [← hW]; exact (Below.refl _ _).alloc (Nat.le_refl _) _)
  have SZ : Hid ((Try.prog.info? 26).map (·.size) = some (ecs e).length) := Lib.hid (by rw [ecs_len hf]; kernel_rfl)
  unfold ev at V ⊢
  obtain ⟨C, hC⟩ : ∃ C, ecs e = C := ⟨_, rfl⟩
  rw [hC] at V RG SZ hW ⊢
  have HB1 := Lib.hid hB0
  have HW1 := Lib.hid hW
  clear hf ho hB0 hW hC R ht
  go_enter Try.func9, Try.ntmps9
  go_wp2_with (first | rw [HB1.out] | rw [HW1.out] | (refine wpList_load_mid rfl _ _ rfl B0 0 rfl C _ RG.out Try.underlying26 rfl SZ.out ?_))
  refine (V.out _).mono ?_
  rintro r w1 ⟨rfl, hb⟩
  have BA := Lib.hid (BW.out.trans (hb.mono BW.out.size))
  clear hb
  go_wp2_with fail
  go_ret2
  exact ⟨rfl, BA.out⟩
set_option maxHeartbeats 4000000 in
set_option maxRecDepth 100000 in
theorem penc_ok (k bn v : Nat) (d : List Nat) (t : Nat) (w : World) (hf : Fit ⟨(k : Int), (bn : Int), v, d⟩) (ht : t < 2 ^ 64) (ho : ok ⟨(k : Int), (bn : Int), v, d⟩) : Calls Try.prog 9 #[ev ⟨(k : Int), (bn : Int), v, d⟩, .int .u64 (t : Int)] w (fun r w' => ∃ x, r = .returned (.tuple #[x, .int .i64 0]) ∧ OwB w' w.heap.size x (enc ⟨(k : Int), (bn : Int), v, d⟩ t) ∧ Below w.heap.size w w') := by
  have V := Lib.hid fun w => pvalid_any _ w hf
  rw [show decide (ok ⟨(k : Int), (bn : Int), v, d⟩) = true from decide_eq_true ho] at V
  obtain ⟨B0, hB0⟩ : ∃ B, w.heap.size = B := ⟨_, rfl⟩
  obtain ⟨W, hW⟩ : ∃ W, w.alloc (.cells (ecs ⟨(k : Int), (bn : Int), v, d⟩).toArray 26) = W := ⟨_, rfl⟩
  have R : Eb W B0 ⟨(k : Int), (bn : Int), v, d⟩ := by rw [← hW]; exact eb_new w _ hB0
  have RH := Lib.hid R
  have RG := Lib.hid R.rng
  have BW : Hid (Below w.heap.size w W) := Lib.hid (by rw [← hW]; exact (Below.refl _ _).alloc (Nat.le_refl _) _)
  have SZ : Hid ((Try.prog.info? 26).map (·.size) = some (ecs ⟨(k : Int), (bn : Int), v, d⟩).length) := Lib.hid (by rw [ecs_len hf]; kernel_rfl)
  have k2 : k ≤ 2 := by have := ho.1; simp only at this; omega
  have b16 : bn < 65536 := by have := ho.2.2.1; simp only at this; omega
  have v64 := hf.1
  have HF := Lib.hid hf
  have T64 := Lib.hid ht
  simp only at v64
  unfold ev at V ⊢
  obtain ⟨C, hC⟩ : ∃ C, ecs ⟨(k : Int), (bn : Int), v, d⟩ = C := ⟨_, rfl⟩
  rw [hC] at V RG SZ hW ⊢
  have HB1 := Lib.hid hB0
  have HW1 := Lib.hid hW
  clear hf ho hB0 hW hC R ht
  go_enter Try.func9, Try.ntmps9
  go_wp2_with (first | rw [HB1.out] | rw [HW1.out] | (refine wpList_load_mid rfl _ _ rfl B0 0 rfl C _ RG.out Try.underlying26 rfl SZ.out ?_))
  refine (V.out _).mono ?_
  rintro r w1 ⟨rfl, hb⟩
  have B1 := Lib.hid hb
  have R1 := Lib.hid (RH.out.below hb)
  have c0 : w1.cell? ⟨B0, 0, none⟩ = some (.int .i64 (k : Int)) := R1.out.c0
  obtain ⟨B2, hB2⟩ : ∃ B, w1.heap.size = B := ⟨_, rfl⟩
  obtain ⟨W2, hW2⟩ : ∃ W, w1.alloc (.cells #[.int .u8 (k : Int)] 5) = W := ⟨_, rfl⟩
  have BL2 : Hid (Below W.heap.size W W2) := Lib.hid (by rw [← hW2]; exact hb.alloc hb.size _)
  have R2 : Hid (Eb W2 B0 ⟨(k : Int), (bn : Int), v, d⟩) := Lib.hid (RH.out.below BL2.out)
  have c1 : W2.cell? ⟨B0, 1, none⟩ = some (.int .i64 (bn : Int)) := R2.out.c1
  have O2 : Hid (OwB W2 W.heap.size (.slice (some ⟨B2, 0, none⟩) 1 1) (le k 1)) := Lib.hid (by rw [← hW2, ← hB2, show le k 1 = [k] by simp [le]; omega]; exact OwB.one w1 hb.size (by omega))
  have HB2 := Lib.hid hB2
  have HW2 := Lib.hid hW2
  have C1 := Lib.hid (pnumw_any W.heap.size _ _ bn 4 W2 O2.out (by omega) (by omega) (by rw [le_len]; omega) BL2.out.size)
  clear hb hB2 hW2
  go_wp2_with (first | rw [HB2.out] | rw [HW2.out])
  refine C1.out.mono ?_
  rintro r w3 ⟨x3, rfl, ho3, hb3⟩
  have O3 := Lib.hid ho3
  have BL3 : Hid (Below W.heap.size W w3) := Lib.hid (BL2.out.trans hb3)
  have R3 : Hid (Eb w3 B0 ⟨(k : Int), (bn : Int), v, d⟩) := Lib.hid (RH.out.below BL3.out)
  have c2 : w3.cell? ⟨B0, 2, none⟩ = some (.int .u64 (v : Int)) := R3.out.c2
  have C2 := Lib.hid (pnumw_any W.heap.size _ _ v 8 w3 O3.out v64 (by omega) (by simp [le_len]) BL3.out.size)
  clear ho3 hb3 C1
  go_wp2_with fail
  refine C2.out.mono ?_
  rintro r w4 ⟨x4, rfl, ho4, hb4⟩
  have O4 := Lib.hid ho4
  have BL4 : Hid (Below W.heap.size W w4) := Lib.hid (BL3.out.trans hb4)
  have R4 : Hid (Eb w4 B0 ⟨(k : Int), (bn : Int), v, d⟩) := Lib.hid (RH.out.below BL4.out)
  have DA := Lib.hid (show Bs w4 (.slice (some ⟨B0, 3, none⟩) 8 8) d from R4.out.bs HF.out)
  have RD := run_dat (g := B0)
  clear ho4 hb4 C2
  go_wp2_with (at_builtin; refine wp_app rfl (.tmp 23) (.tmp 25) rfl W.heap.size _ _ _ d rfl rfl O4.out DA.out (by have := HF.out.2.1; simp only at this; simp [le_len, this]) BL4.out.size ?_; intro x5 w5 ho5 hb5; have O5 := Lib.hid ho5; have BL5 : Hid (Below W.heap.size W w5) := Lib.hid (BL4.out.trans hb5); have C5 := Lib.hid (pnumw_any W.heap.size _ _ t 8 w5 ho5 T64.out (by omega) (by have := HF.out.2.1; simp only at this; simp [le_len, this]) BL5.out.size); clear ho5 hb5)
  refine C5.out.mono ?_
  rintro r w6 ⟨x6, rfl, ho6, hb6⟩
  have EQ : ((((le k 1 ++ le bn 4) ++ le v 8) ++ d) ++ le t 8) = body ⟨(k : Int), (bn : Int), v, d⟩ t := by simp [body, List.append_assoc]
  rw [EQ] at ho6
  have O6 := Lib.hid ho6
  have BL6 : Hid (Below W.heap.size W w6) := Lib.hid (BL5.out.trans hb6)
  have C6 := Lib.hid (pcrcsum_any _ _ w6 ho6.bs)
  have LT := Lib.hid (crc_lt (body_lt HF.out t))
  have LN := Lib.hid (body_len HF.out t)
  clear ho6 hb6 C5 EQ
  go_wp2_with fail
  refine C6.out.mono ?_
  rintro r w7 ⟨rfl, hb7⟩
  have BL7 : Hid (Below W.heap.size W w7) := Lib.hid (BL6.out.trans (hb7.mono BL6.out.size))
  have C7 := Lib.hid (pnumw_any W.heap.size _ _ (Crc.crc (body ⟨(k : Int), (bn : Int), v, d⟩ t)) 8 w7 (O6.out.below hb7) LT.out (by omega) (by rw [LN.out]; omega) BL7.out.size)
  clear hb7 C6
  obtain ⟨q, hq⟩ : ∃ q, Crc.crc (body ⟨(k : Int), (bn : Int), v, d⟩ t) = q := ⟨_, rfl⟩
  have HQ := Lib.hid hq
  rw [hq] at C7 ⊢
  clear hq
  go_wp2_with fail
  refine C7.out.mono ?_
  rintro r w8 ⟨x8, rfl, ho8, hb8⟩
  have FIN := Lib.hid (show OwB w8 w.heap.size x8 (enc ⟨(k : Int), (bn : Int), v, d⟩ t) from by
    unfold enc sld
    rw [HQ.out]
    exact ho8.mono BW.out.size)
  have BF := Lib.hid (BW.out.trans ((BL7.out.trans hb8).mono BW.out.size))
  clear ho8 hb8 C7
  go_wp2_with fail
  go_ret2
  exact ⟨_, rfl, FIN.out, BF.out⟩
theorem penc_any (e : E) (t : Nat) (w : World) (hf : Fit e) (ht : t < 2 ^ 64) : Calls Try.prog 9 #[ev e, .int .u64 (t : Int)] w (encPost e t w) := by
  by_cases ho : ok e
  · obtain ⟨k, b, v, d⟩ := e
    obtain ⟨kn, hk⟩ : ∃ n : Nat, k = n := ⟨k.toNat, by have := ho.1; simp only at this; omega⟩
    obtain ⟨bn, hb⟩ : ∃ n : Nat, b = n := ⟨b.toNat, by have := ho.2.1; simp only at this; omega⟩
    subst hk hb
    exact (penc_ok kn bn v d t w hf ht ho).mono fun r w' h => ⟨fun _ => h, fun hn => absurd ho hn⟩
  · exact (penc_bad e t w hf ht ho).mono fun r w' h => ⟨fun h1 => absurd h1 ho, fun _ => h⟩
end Go.Proofs.Ytfihiihakgcikaa
