/- Layer 15: the document's example holds (awake). -/
import Derived.Test.YtfihiihakgcikaaNth
import Derived.Test.YtfihiihakgcikaaGK
namespace Go.Proofs.Ytfihiihakgcikaa
open Go Go.RowKit Ent
set_option linter.unusedVariables false
set_option linter.unusedSimpArgs false
namespace Ent
def e1 : E := ⟨2, 258, 1, List.replicate 8 0⟩
theorem e1_ok : ok e1 := by decide
theorem e1_fit : Fit e1 := ⟨by decide, by decide, by decide⟩
theorem e1_take : (enc e1 3).take 6 = [2, 2, 1, 0, 0, 1] := by
  have h : enc e1 3 = [2, 2, 1, 0, 0, 1] ++ (List.drop 6 (body e1 3) ++ le (Crc.crc (body e1 3)) 8) := by
    unfold enc sld
    rw [← List.append_assoc]
    congr 1
  rw [h]; rfl
theorem e1_dec : decV (enc e1 3) = e1 ∧ decT (enc e1 3) = 3 ∧ decE (enc e1 3) = 0 := by
  have h := dec_enc e1_ok e1_fit (t := 3) (by decide)
  obtain ⟨h1, h2⟩ := decV_good h
  obtain ⟨h3, h4⟩ := rd_enc e1_ok e1_fit (t := 3) (by decide)
  exact ⟨h1.trans h3, h2.trans h4, h⟩
end Ent
theorem str_e1 : strOf [2, 2, 1, 0, 0, 1] = { data := #[2, 2, 1, 0, 0, 1] } := rfl
set_option maxHeartbeats 4000000 in
set_option maxRecDepth 100000 in
theorem awake15_any (w : World) : Calls Try.prog 11 #[] w (tvPost true w) := by
  have EN := Lib.hid (penc_any e1 3 w e1_fit (by decide))
  have EV : Hid (ev e1 = .agg #[.int .i64 2, .int .i64 258, .int .u64 1, .int .u8 0, .int .u8 0, .int .u8 0, .int .u8 0, .int .u8 0, .int .u8 0, .int .u8 0, .int .u8 0]) := Lib.hid rfl
  obtain ⟨Z, hZ⟩ : ∃ Z : Array Value, #[.int .i64 2, .int .i64 258, .int .u64 1, .int .u8 0, .int .u8 0, .int .u8 0, .int .u8 0, .int .u8 0, .int .u8 0, .int .u8 0, .int .u8 0] = Z := ⟨_, rfl⟩
  have EZ := Lib.hid hZ
  have HE := Lib.hid (show Z = (ecs e1).toArray from by rw [← hZ]; rfl)
  rw [EV.out, hZ] at EN
  obtain ⟨b, hb⟩ : ∃ b, enc e1 3 = b := ⟨_, rfl⟩
  have LB := Lib.hid (enc_len e1_fit 3)
  have T6 := Lib.hid e1_take
  have DE := Lib.hid e1_dec
  unfold encPost at EN
  rw [hb] at EN LB T6 DE
  clear hZ hb EV
  go_enter Try.func11, Try.ntmps11
  go_wp2_with (first | rw [EZ.out])
  refine EN.out.mono ?_
  rintro r w1 ⟨h1, -⟩
  obtain ⟨v, rfl, hown, hb1⟩ := h1 e1_ok
  have DC := Lib.hid (pdec_any v b w1 hown.bs)
  obtain ⟨g, off, c, rfl, hc⟩ := form37 hown.bs LB.out
  have O1 := Lib.hid hown
  have B1 := Lib.hid hb1
  unfold decPost at DC
  rw [DE.out.1, DE.out.2.1, DE.out.2.2] at DC
  clear hown hb1 h1 EN
  go_wp2_with fail
  refine DC.out.mono ?_
  rintro r w2 ⟨rfl, hb2⟩
  have BS2 := Lib.hid (O1.out.bs.below hb2)
  obtain ⟨B3, hB3⟩ : ∃ B, w2.heap.size = B := ⟨_, rfl⟩
  obtain ⟨W3, hW3⟩ : ∃ W, w2.alloc (.cells #[.int .i64 0, .int .i64 0, .int .u64 0, .int .u8 0, .int .u8 0, .int .u8 0, .int .u8 0, .int .u8 0, .int .u8 0, .int .u8 0, .int .u8 0] 26) = W := ⟨_, rfl⟩
  have R3 : Eb W3 B3 ez := by rw [← hW3]; exact eb_zero _ hB3
  have BL3 : Below w2.heap.size w2 W3 := by rw [← hW3]; exact (Below.refl _ _).alloc (Nat.le_refl _) _
  have HB3 := Lib.hid hB3
  have HW3 := Lib.hid hW3
  have TH := Lib.hid (show W3.there B3 0 Z.size by rw [HE.out, List.size_toArray, ecs_len e1_fit]; exact R3.there ez_fit)
  have SZ : Hid ((Try.prog.info? 26).map (·.size) = some Z.size) := Lib.hid (by rw [HE.out, List.size_toArray, ecs_len e1_fit]; kernel_rfl)
  have OZ : Hid (Z.all (·.oneCell') = true) := Lib.hid (by rw [HE.out]; exact all_oneCell_toArray (ecs_one _))
  obtain ⟨W4, hW4⟩ : ∃ W, W3.setCells B3 0 Z.toList = W := ⟨_, rfl⟩
  have R4 : Eb W4 B3 e1 := by rw [← hW4, HE.out]; exact R3.put ez_fit e1_fit
  have BL4 : Below w2.heap.size w2 W4 := by rw [← hW4]; exact below_setCells15 BL3 _ _ _ (by rw [hB3]; exact Nat.le_refl _)
  have HW4 := Lib.hid hW4
  have c1 : W4.cell? ⟨B3, 1, none⟩ = some (.int .i64 258) := R4.c1
  have BS4 := Lib.hid (BS2.out.below BL4)
  have K1 := (cut_h (some ⟨g, off, none⟩) 37 c 6 (by omega) hc)
  have k1 : ∀ w, (Instr.slice 27 (.slice (some ⟨g, off, none⟩) 37 c) none (some (.int .i64 6)) none).run Try.prog w = .ok (.slice (some ⟨g, off, none⟩) 6 c) w := K1.1
  have k1' : ∀ w, (Instr.sliceAt 27 (.slice (some ⟨g, off, none⟩) 37 c) none (some (.int .i64 6)) none).run Try.prog w = .ok (.slice (some ⟨g, off, none⟩) 6 c) w := K1.2
  have cv := conv_bs 27 5 9 Try.underlying27 Try.underlying5 Try.underlying9 (bs_take BS4.out (k := 6) (by omega))
  rw [T6.out, str_e1] at cv
  have ZE := Lib.hid (show ev e1 = .agg Z from by rw [HE.out]; rfl)
  have FIN := Lib.hid (B1.out.trans ((hb2.trans (BL4.mono hb2.size)).mono B1.out.size))
  rw [ZE.out]
  clear hb2 hB3 hW3 R3 BL3 hW4 R4 BL4 K1 DC BS2
  go_wp2_with (first | rw [HW3.out, HB3.out] | (refine wpList_store_mid rfl _ _ _ rfl B3 0 Z rfl rfl TH.out SZ.out OZ.out ?_; rw [HW4.out]))
  go_ret
  exact ⟨rfl, FIN.out⟩
end Go.Proofs.Ytfihiihakgcikaa
