/- The walk of the law ParityLinear. WRITTEN BY gen_Qg.py. -/
import Derived.Test.YtfhgalfdlkdliaaPs
import Derived.Test.YtfhgalfdlkdliaaOpen
namespace Go.Proofs.Ytfhgalfdlkdliaa
open Go Go.RowKit
set_option linter.unusedVariables false
set_option linter.unusedSimpArgs false

set_option maxHeartbeats 4000000 in
set_option maxRecDepth 100000 in
theorem plli_ok (Da Db : List (List Nat)) (z : Nat) (w : World) (ha : Da.length = 13) (hb : Db.length = 13) (ha8 : ∀ d ∈ Da, B8 d) (hb8 : ∀ d ∈ Db, B8 d) (hz : z < 65536) : Calls Try.prog 10 #[.agg (bcs Da.flatten), .agg (bcs Db.flatten), .int .u16 (z : Int)] w (lawPost w) := by
  obtain ⟨ca, hca⟩ : ∃ c, bcs Da.flatten = c := ⟨_, rfl⟩
  obtain ⟨cb, hcb⟩ : ∃ c, bcs Db.flatten = c := ⟨_, rfl⟩
  rw [hca, hcb]
  have CA := Lib.hid hca
  have CB := Lib.hid hcb
  clear hca hcb
  go_enter Try.func10, Try.ntmps10
  go_wp2_with fail
  obtain ⟨W0, hW0⟩ : ∃ W0, (w.alloc (.cells ca 56)).alloc (.cells cb 56) = W0 := ⟨_, rfl⟩
  have HB0 : Hid (Below w.heap.size w W0) := Lib.hid (by rw [← hW0]; exact ((Below.refl w.heap.size w).alloc (Nat.le_refl _) _).alloc (by simp) _)
  have HX0 : Hid (W0.rangeAt w.heap.size 0 (Da.flatten.map bv)) := Lib.hid (by rw [← hW0, ← CA.out]; exact ((row_new w _ _).alloc _).at8)
  have HY0 : Hid (W0.rangeAt (w.heap.size + 1) 0 (Db.flatten.map bv)) := Lib.hid (by rw [← hW0, ← CB.out]; exact (row_at (w := w.alloc _) (by simp) _ _).at8)
  rw [hW0]
  clear hW0
  refine (pawake_any _).mono ?_
  rintro e x2 ⟨rfl, hb1⟩
  have hq3 : Below W0.heap.size W0 x2 := hb1
  have X_4 := Lib.hid (rangeTo HX0.out hq3)
  have Y_5 := Lib.hid (rangeTo HY0.out hq3)
  have HB_6 : Hid (Below w.heap.size w x2) := Lib.hid (HB0.out.trans (hq3.mono HB0.out.size))
  clear hq3
  clear hb1
  go_wp2_with fail
  obtain ⟨n, en⟩ : ∃ n : Nat, (1 + (z : Int) / 256 % 13) = (n : Int) := ⟨1 + z / 256 % 13, by omega⟩
  obtain ⟨c, ec⟩ : ∃ c : Nat, (z : Int) % 256 = (c : Int) := ⟨z % 256, by omega⟩
  have hn : 1 ≤ n ∧ n ≤ 13 := by omega
  have hc : c < 256 := by omega
  rw [en, ec]
  clear en ec
  go_loopw [9, 10, 11] (fun vs vm q wr => ∃ i : Nat, i ≤ n ∧ q = .int .i64 (i : Int) ∧ Hid (Below x2.heap.size x2 wr ∧ OwnB wr x2.heap.size vs (upto (sumF Da Db) i) ∧ OwnB wr x2.heap.size vm (upto (mulF c Da) i) ∧ ∀ k, vs.ownBlock = some k → vm.ownBlock ≠ some k)) (fun _ _ q _ => n - (intOf q).toNat)
  case atStart =>
    refine ⟨0, Nat.zero_le _, rfl, Lib.hid ⟨Below.refl _ _, ?_, ?_, fun k hk => by cases hk⟩⟩
    · exact ⟨fun d hd => (by cases hd), World.ownsRow_nil _ _ _ _⟩
    · exact ⟨fun d hd => (by cases hd), World.ownsRow_nil _ _ _ _⟩
  case round =>
    obtain ⟨i, hi, rfl, H⟩ := hrel
    by_cases hlt : i < n
    · have hiI : (i : Int) < (n : Int) := by omega
      have hi13 : (i : Int) < 13 := by omega
      obtain ⟨y1, y2, y3, y4⟩ := H.out
      have HHB := Lib.hid y1
      have HO1 := Lib.hid y2
      have HO2 := Lib.hid y3
      have HNE := Lib.hid y4
      have la : i < Da.length := by omega
      have lb : i < Db.length := by omega
      obtain ⟨a, hA⟩ : ∃ a, Da.getD i [] = a := ⟨_, rfl⟩
      obtain ⟨b, hB⟩ : ∃ b, Db.getD i [] = b := ⟨_, rfl⟩
      have a8 : B8 a := by rw [← hA, getD_in la]; exact ha8 _ (List.getElem_mem la)
      have b8 : B8 b := by rw [← hB, getD_in lb]; exact hb8 _ (List.getElem_mem lb)
      have ax : At8 x2 w.heap.size (i * 8) a := by
        have := range_at8 X_4.out ha8 la
        rw [Nat.zero_add] at this
        rw [← hA, getD_in la]; exact this
      have bx : At8 x2 (w.heap.size + 1) (i * 8) b := by
        have := range_at8 Y_5.out hb8 lb
        rw [Nat.zero_add] at this
        rw [← hB, getD_in lb]; exact this
      have HA0 := Lib.hid ax
      have HB0x := Lib.hid bx
      have HAX := Lib.hid (rangeTo ax y1)
      have HBX := Lib.hid (rangeTo bx y1)
      obtain ⟨sx, hsx⟩ : ∃ s, xorB a b = s := ⟨_, rfl⟩
      obtain ⟨mx, hmx⟩ : ∃ s, sclB c a = s := ⟨_, rfl⟩
      have s8 : B8 sx := hsx ▸ xorB_ok a8 b8
      have m8 : B8 mx := hmx ▸ sclB_ok hc a8
      have SX := Lib.hid hsx
      have MX := Lib.hid hmx
      have US : Hid (upto (sumF Da Db) (i + 1) = upto (sumF Da Db) i ++ [sx]) := Lib.hid (by rw [upto_succ, sumF, hA, hB, hsx])
      have UM : Hid (upto (mulF c Da) (i + 1) = upto (mulF c Da) i ++ [mx]) := Lib.hid (by rw [upto_succ, mulF, hA, hmx])
      clear y1 y2 y3 y4 ax bx hsx hmx hA hB H la lb
      go_wp2_with fail
      refine wp_region_held (S := (fun w' : World => At8 w' w.heap.size (i * 8) a ∧ At8 w' (w.heap.size + 1) (i * 8) b)) rfl ?_
      change wpAnyH _ _ _ _ _ _ _ _ wr.drew
      have zhz2 : Below wr.heap.size wr wr.drew := (Below.refl wr.heap.size wr).drew
      generalize wr.drew = zwz1 at zhz2 ⊢
      have zhq3 : Below wr.heap.size wr zwz1 := zhz2
      have zS_4 := Lib.hid (OwnB.to HO1.out zhq3)
      have zM_5 := Lib.hid (OwnB.to HO2.out zhq3)
      have zA_6 := Lib.hid (rangeTo HAX.out zhq3)
      have zB_7 := Lib.hid (rangeTo HBX.out zhq3)
      have zHB_8 : Hid (Below x2.heap.size x2 zwz1) := Lib.hid (HHB.out.trans (zhq3.mono HHB.out.size))
      clear zhq3
      clear zhz2
      have zhS9 : (fun w' : World => At8 w' w.heap.size (i * 8) a ∧ At8 w' (w.heap.size + 1) (i * 8) b) zwz1 := ⟨zA_6.out, zB_7.out⟩
      refine takeD (i := 0) (v := u9) (some 35) rfl rfl (by kernel_rfl) (by kernel_rfl) (by kernel_rfl) (fun _ _ _ h => h) (Or.inl ⟨by rfl, by rintro w' -; go_simp⟩) zhS9 ?_
      simp only [Act.put, List.setIfInBounds_toArray, List.set_cons_zero, List.set_cons_succ]
      refine takeD (i := 1) (v := .int .i64 (i : Int)) (some 36) rfl rfl (by kernel_rfl) (by kernel_rfl) (by kernel_rfl) (fun _ _ _ h => h) (Or.inl ⟨by rfl, by rintro w' -; go_simp⟩) zhS9 ?_
      simp only [Act.put, List.setIfInBounds_toArray, List.set_cons_zero, List.set_cons_succ]
      refine takeD (i := 2) (v := .pointer (some ⟨w.heap.size, i * 8, none⟩)) (some 37) rfl rfl (by kernel_rfl) (by kernel_rfl) (by kernel_rfl) (fun _ _ _ h => h) (Or.inl ⟨by rfl, by rintro w' -; go_simp⟩) zhS9 ?_
      simp only [Act.put, List.setIfInBounds_toArray, List.set_cons_zero, List.set_cons_succ]
      refine takeD (i := 3) (v := .agg (bcs a)) (some 38) rfl rfl (by kernel_rfl) (by kernel_rfl) (by kernel_rfl) (fun _ _ _ h => h) (yieldsIf_load8 (by rfl) _ _ rfl _ _ rfl a _ (fun w' h => h.1) Try.underlying44 rfl (size8 a8.1)) zhS9 ?_
      simp only [Act.put, List.setIfInBounds_toArray, List.set_cons_zero, List.set_cons_succ]
      refine takeD (i := 4) (v := .int .i64 (i : Int)) (some 39) rfl rfl (by kernel_rfl) (by kernel_rfl) (by kernel_rfl) (fun _ _ _ h => h) (Or.inl ⟨by rfl, by rintro w' -; go_simp⟩) zhS9 ?_
      simp only [Act.put, List.setIfInBounds_toArray, List.set_cons_zero, List.set_cons_succ]
      refine takeD (i := 5) (v := .pointer (some ⟨w.heap.size + 1, i * 8, none⟩)) (some 40) rfl rfl (by kernel_rfl) (by kernel_rfl) (by kernel_rfl) (fun _ _ _ h => h) (Or.inl ⟨by rfl, by rintro w' -; go_simp⟩) zhS9 ?_
      simp only [Act.put, List.setIfInBounds_toArray, List.set_cons_zero, List.set_cons_succ]
      refine takeD (i := 6) (v := .agg (bcs b)) (some 41) rfl rfl (by kernel_rfl) (by kernel_rfl) (by kernel_rfl) (fun _ _ _ h => h) (yieldsIf_load8 (by rfl) _ _ rfl _ _ rfl b _ (fun w' h => h.2) Try.underlying44 rfl (size8 b8.1)) zhS9 ?_
      simp only [Act.put, List.setIfInBounds_toArray, List.set_cons_zero, List.set_cons_succ]
      refine wpAnyH_ready (rs := [7]) (by kernel_rfl) (by simp) ?_
      refine AllReadyH.cons rfl (fun zK10 hzK10 => ?_) AllReadyH.nil
      have HzK10 := Lib.hid hzK10
      clear hzK10
      rw [if_pos (by rfl)]
      go_simp
      go_at_call 26
      refine (xor_b a b sx _ a8 b8 SX.out).mono ?_
      rintro e zx11 ⟨rfl, hb⟩
      have zhq12 : Below zwz1.heap.size zwz1 zx11 := hb
      have zS_13 := Lib.hid (OwnB.to zS_4.out zhq12)
      have zM_14 := Lib.hid (OwnB.to zM_5.out zhq12)
      have zA_15 := Lib.hid (rangeTo zA_6.out zhq12)
      have zB_16 := Lib.hid (rangeTo zB_7.out zhq12)
      have zHB_17 : Hid (Below x2.heap.size x2 zx11) := Lib.hid (zHB_8.out.trans (zhq12.mono zHB_8.out.size))
      clear zhq12
      clear hb
      have zhS18 : (fun w' : World => At8 w' w.heap.size (i * 8) a ∧ At8 w' (w.heap.size + 1) (i * 8) b) zx11 := ⟨zA_15.out, zB_16.out⟩
      refine HzK10.out _ _ zhS18 fun _ => ?_
      try simp only [Act.put, List.setIfInBounds_toArray, List.set_cons_zero, List.set_cons_succ]
      refine wpAnyH_ready (rs := [8]) (by kernel_rfl) (by simp) ?_
      refine AllReadyH.cons rfl (fun zK19 hzK19 => ?_) AllReadyH.nil
      have HzK19 := Lib.hid hzK19
      clear hzK19
      rw [if_pos (by rfl)]
      refine wp_build1 _ rfl sx rfl s8 ?_
      obtain ⟨zx20, hxb⟩ : ∃ q, zx11.alloc (.cells (bcs sx) 44) = q := ⟨_, rfl⟩
      have hbx : Below zx11.heap.size zx11 zx20 := by rw [← hxb]; exact (Below.refl _ _).alloc (Nat.le_refl _) _
      have LIT : Hid (Bl zx20 (.slice (some ⟨zx11.heap.size, 0, none⟩) 1 1) [sx]) := Lib.hid (by rw [← hxb]; exact bl_one s8)
      obtain ⟨lb, hlb⟩ : ∃ q, zx11.heap.size = q := ⟨_, rfl⟩
      rw [hlb] at LIT
      rw [hxb, hlb]
      have zhq21 : Below zx11.heap.size zx11 zx20 := hbx
      have zS_22 := Lib.hid (OwnB.to zS_13.out zhq21)
      have zM_23 := Lib.hid (OwnB.to zM_14.out zhq21)
      have zA_24 := Lib.hid (rangeTo zA_15.out zhq21)
      have zB_25 := Lib.hid (rangeTo zB_16.out zhq21)
      have zHB_26 : Hid (Below x2.heap.size x2 zx20) := Lib.hid (zHB_17.out.trans (zhq21.mono zHB_17.out.size))
      clear zhq21
      clear hbx hxb hlb
      have zhS27 : (fun w' : World => At8 w' w.heap.size (i * 8) a ∧ At8 w' (w.heap.size + 1) (i * 8) b) zx20 := ⟨zA_24.out, zB_25.out⟩
      refine HzK19.out _ _ zhS27 fun _ => ?_
      try simp only [Act.put, List.setIfInBounds_toArray, List.set_cons_zero, List.set_cons_succ]
      refine wpAnyH_ready (rs := [9]) (by kernel_rfl) (by simp) ?_
      refine AllReadyH.cons rfl (fun zK28 hzK28 => ?_) AllReadyH.nil
      have HzK28 := Lib.hid hzK28
      clear hzK28
      rw [if_pos (by rfl)]
      refine wp_push_bl (.tmp 35) (.tmp 43) rfl x2.heap.size u9 _ i sx lb 1 rfl zS_22.out (upto_length _ _) rfl LIT.out (by omega) zHB_26.out.size ?_
      intro gs cs zx29 ho hg hat hlt
      have ZB : Hid (Below x2.heap.size x2 zx29) := Lib.hid (zHB_26.out.grown hg zHB_26.out.size (fun k e => (zS_22.out.lt k e).1))
      have ZS : Hid (OwnB zx29 x2.heap.size (.slice (some ⟨gs, 0, none⟩) (i + 1) cs) (upto (sumF Da Db) (i + 1))) := Lib.hid (by rw [US.out]; exact ho)
      have ZM : Hid (OwnB zx29 x2.heap.size u10 (upto (mulF c Da) i)) := Lib.hid (zM_23.out.beside hg fun k hk e => HNE.out k e hk)
      have ZN : Hid (u10.ownBlock ≠ some gs) := Lib.hid (by
        rcases hat with hat | hat
        · exact HNE.out gs hat
        · intro e
          have := (zM_23.out.lt gs e).2
          omega)
      have ZA := Lib.hid (rangeTo HA0.out ZB.out)
      have ZX := Lib.hid (rangeTo HB0x.out ZB.out)
      clear ho hg hat hlt LIT
      have zhS30 : (fun w' : World => At8 w' w.heap.size (i * 8) a ∧ At8 w' (w.heap.size + 1) (i * 8) b) zx29 := ⟨ZA.out, ZX.out⟩
      refine HzK28.out _ _ zhS30 fun _ => ?_
      try simp only [Act.put, List.setIfInBounds_toArray, List.set_cons_zero, List.set_cons_succ]
      refine takeD (i := 10) (v := .slice (some ⟨gs, 0, none⟩) (i + 1) cs) (some 9) rfl rfl (by kernel_rfl) (by kernel_rfl) (by kernel_rfl) (fun _ _ _ h => h) (Or.inl ⟨by rfl, by rintro w' -; go_simp⟩) zhS30 ?_
      simp only [Act.put, List.setIfInBounds_toArray, List.set_cons_zero, List.set_cons_succ]
      refine wpAnyH_done (by kernel_rfl) ?_ _
      have SA := Lib.hid (size8 a8.1)
      go_wp2_with (refine wpList_load8 rfl _ _ rfl _ _ rfl _ _ ZA.out Try.underlying44 rfl SA.out ?_)
      refine (scl_b c a mx _ hc a8 MX.out).mono ?_
      rintro e zx31 ⟨rfl, hb⟩
      have zhq32 : Below zx29.heap.size zx29 zx31 := hb
      have zS_33 := Lib.hid (OwnB.to ZS.out zhq32)
      have zM_34 := Lib.hid (OwnB.to ZM.out zhq32)
      have zA_35 := Lib.hid (rangeTo ZA.out zhq32)
      have zB_36 := Lib.hid (rangeTo ZX.out zhq32)
      have zHB_37 : Hid (Below x2.heap.size x2 zx31) := Lib.hid (ZB.out.trans (zhq32.mono ZB.out.size))
      clear zhq32
      clear hb
      have LITM := Lib.hid (bl_one (w := zx31) m8)
      go_wp2_with (first | (refine wpList_build1 rfl _ rfl mx rfl m8 ?_) | (at_builtin; refine wpList_push_bl rfl (.tmp 45) (.tmp 51) rfl x2.heap.size u10 _ i mx zx31.heap.size 1 rfl (OwnB.to zM_34.out ((Below.refl zx31.heap.size zx31).alloc (Nat.le_refl _) _)) (upto_length _ _) rfl LITM.out (by omega) (zHB_37.out.alloc zHB_37.out.size _).size ?_; intro gm cm y9 ho hg hat hlt; have HOM := Lib.hid ho; have HGM := Lib.hid hg; have HATM := Lib.hid hat; clear ho hg hat hlt))
      go_roundw
      case rel =>
        refine ⟨i + 1, by omega, by go_num, Lib.hid ⟨(zHB_37.out.alloc zHB_37.out.size _).grown HGM.out (zHB_37.out.alloc zHB_37.out.size _).size (fun k e => (zM_34.out.lt k e).1), ?_, by rw [UM.out]; exact HOM.out, fun k hk => ?_⟩⟩
        · exact (OwnB.to zS_33.out ((Below.refl zx31.heap.size zx31).alloc (Nat.le_refl _) _)).beside HGM.out fun k hk e => ZN.out (by cases hk; exact e)
        · cases hk
          intro e
          rcases HATM.out with h | h
          · exact ZN.out (h.trans e)
          · have := (zS_33.out.lt _ rfl).2
            have e2 : gm = gs := Option.some.inj e
            rw [e2] at h
            simp at h
            have h3 : gs < zx31.heap.size := this
            omega
      case measure => simp [intOf]; omega
    · have ei : i = n := by omega
      subst ei
      obtain ⟨y1, y2, y3, -⟩ := H.out
      have nI : (i : Int) ≤ 13 := by omega
      have OXT := take_bl (rangeTo X_4.out y1) ha8 ha (⟨Nat.le_refl 13, by decide⟩ : 13 ≤ 13 ∧ 13 ≤ maxLen) hn.2
      have OYT := take_bl (rangeTo Y_5.out y1) hb8 hb (⟨Nat.le_refl 13, by decide⟩ : 13 ≤ 13 ∧ 13 ≤ maxLen) hn.2
      have HAT := Lib.hid OXT
      have HBT := Lib.hid OYT
      have HSU := Lib.hid y2.bl
      have HMU := Lib.hid y3.bl
      have HBW : Hid (Below w.heap.size w wr) := Lib.hid (HB_6.out.trans (y1.mono HB_6.out.size))
      have LT : Hid ((Da.take i).length = i ∧ (Db.take i).length = i) := Lib.hid ⟨by rw [List.length_take]; omega, by rw [List.length_take]; omega⟩
      have PS : Hid (∀ j, parB (upto (sumF Da Db) i) j = xorB (parB (Da.take i) j) (parB (Db.take i) j)) := Lib.hid fun j => par_sum (by omega) (by omega) j
      have PM : Hid (∀ j, parB (upto (mulF c Da) i) j = sclB c (parB (Da.take i) j)) := Lib.hid fun j => par_mul (by omega) hc ha8 j
      clear y1 y2 y3 OXT OYT H
      obtain ⟨A, cA, eA⟩ := HSU.out.form
      obtain ⟨A', cA', eA'⟩ := HMU.out.form
      rw [upto_length] at eA eA'
      subst eA eA'
      go_wp2_with fail
      refine (encode_b _ _ _ _ HAT.out (by rw [LT.out.1]; exact hn.1) (by rw [LT.out.1]; exact hn.2) rfl).mono ?_
      rintro e kx2 ⟨gp, rfl, -, khn3, khb1⟩
      have khq4 : Below wr.heap.size wr kx2 := khb1
      have kA_5 := Lib.hid (Bl.to HAT.out khq4)
      have kB_6 := Lib.hid (Bl.to HBT.out khq4)
      have kS_7 := Lib.hid (Bl.to HSU.out khq4)
      have kM_8 := Lib.hid (Bl.to HMU.out khq4)
      have kHB_9 : Hid (Below w.heap.size w kx2) := Lib.hid (HBW.out.trans (khq4.mono HBW.out.size))
      clear khq4
      have kP_10 := Lib.hid khn3
      clear khb1 khn3
      go_wp2_with fail
      refine (encode_b _ _ _ _ kB_6.out (by rw [LT.out.2]; exact hn.1) (by rw [LT.out.2]; exact hn.2) rfl).mono ?_
      rintro e kx12 ⟨gq, rfl, -, khn13, khb11⟩
      have khq14 : Below kx2.heap.size kx2 kx12 := khb11
      have kA_15 := Lib.hid (Bl.to kA_5.out khq14)
      have kB_16 := Lib.hid (Bl.to kB_6.out khq14)
      have kS_17 := Lib.hid (Bl.to kS_7.out khq14)
      have kM_18 := Lib.hid (Bl.to kM_8.out khq14)
      have kP_19 := Lib.hid (Bl.to kP_10.out khq14)
      have kHB_20 : Hid (Below w.heap.size w kx12) := Lib.hid (kHB_9.out.trans (khq14.mono kHB_9.out.size))
      clear khq14
      have kQ_21 := Lib.hid khn13
      clear khb11 khn13
      go_wp2_with fail
      refine (encode_b _ _ _ _ kS_17.out (by rw [upto_length]; exact hn.1) (by rw [upto_length]; exact hn.2) rfl).mono ?_
      rintro e kx23 ⟨gr, rfl, -, khn24, khb22⟩
      have khq25 : Below kx12.heap.size kx12 kx23 := khb22
      have kA_26 := Lib.hid (Bl.to kA_15.out khq25)
      have kB_27 := Lib.hid (Bl.to kB_16.out khq25)
      have kS_28 := Lib.hid (Bl.to kS_17.out khq25)
      have kM_29 := Lib.hid (Bl.to kM_18.out khq25)
      have kP_30 := Lib.hid (Bl.to kP_19.out khq25)
      have kQ_31 := Lib.hid (Bl.to kQ_21.out khq25)
      have kHB_32 : Hid (Below w.heap.size w kx23) := Lib.hid (kHB_20.out.trans (khq25.mono kHB_20.out.size))
      clear khq25
      have kR_33 := Lib.hid khn24
      clear khb22 khn24
      go_wp2_with fail
      refine (encode_b _ _ _ _ kM_29.out (by rw [upto_length]; exact hn.1) (by rw [upto_length]; exact hn.2) rfl).mono ?_
      rintro e kx35 ⟨gs, rfl, -, khn36, khb34⟩
      have khq37 : Below kx23.heap.size kx23 kx35 := khb34
      have kA_38 := Lib.hid (Bl.to kA_26.out khq37)
      have kB_39 := Lib.hid (Bl.to kB_27.out khq37)
      have kS_40 := Lib.hid (Bl.to kS_28.out khq37)
      have kM_41 := Lib.hid (Bl.to kM_29.out khq37)
      have kP_42 := Lib.hid (Bl.to kP_30.out khq37)
      have kQ_43 := Lib.hid (Bl.to kQ_31.out khq37)
      have kR_44 := Lib.hid (Bl.to kR_33.out khq37)
      have kHB_45 : Hid (Below w.heap.size w kx35) := Lib.hid (kHB_32.out.trans (khq37.mono kHB_32.out.size))
      clear khq37
      have kT_46 := Lib.hid khn36
      clear khb34 khn36
      go_wp2_with fail
      go_loopw [20] (fun q wq => ∃ j : Nat, j ≤ 3 ∧ q = .int .i64 (j : Int) ∧ Hid (Below kx35.heap.size kx35 wq)) (fun q _ => 3 - (intOf q).toNat)
      case atStart => exact ⟨0, Nat.zero_le _, rfl, Lib.hid (Below.refl _ _)⟩
      case round =>
        obtain ⟨j, hj, rfl, H⟩ := hrel
        by_cases hlt : j < 3
        · have hjI : (j : Int) < 3 := by omega
          obtain ⟨p, hp⟩ : ∃ p, parB (Da.take i) j = p := ⟨_, rfl⟩
          obtain ⟨q, hq⟩ : ∃ q, parB (Db.take i) j = q := ⟨_, rfl⟩
          obtain ⟨r, hr⟩ : ∃ r, parB (upto (sumF Da Db) i) j = r := ⟨_, rfl⟩
          obtain ⟨t, ht⟩ : ∃ t, parB (upto (mulF c Da) i) j = t := ⟨_, rfl⟩
          have p8 : B8 p := hp ▸ parB_ok _ _
          have q8 : B8 q := hq ▸ parB_ok _ _
          have r8 : B8 r := hr ▸ parB_ok _ _
          have t8 : B8 t := ht ▸ parB_ok _ _
          have XE : Hid (xorB p q = r) := Lib.hid (by rw [← hp, ← hq, ← hr, PS.out])
          have SE : Hid (sclB c p = t) := Lib.hid (by rw [← hp, ← ht, PM.out])
          have AP := fun w' (h : Bl w' (.slice (some ⟨gp, 0, none⟩) 3 3) (parL (Da.take i))) => (Bl.at8 h (i := j) (by simpa [parL] using hlt) : At8 w' gp (0 + j * 8) _)
          have AQ := fun w' (h : Bl w' (.slice (some ⟨gq, 0, none⟩) 3 3) (parL (Db.take i))) => (Bl.at8 h (i := j) (by simpa [parL] using hlt) : At8 w' gq (0 + j * 8) _)
          have AR := fun w' (h : Bl w' (.slice (some ⟨gr, 0, none⟩) 3 3) (parL (upto (sumF Da Db) i))) => (Bl.at8 h (i := j) (by simpa [parL] using hlt) : At8 w' gr (0 + j * 8) _)
          have AT := fun w' (h : Bl w' (.slice (some ⟨gs, 0, none⟩) 3 3) (parL (upto (mulF c Da) i))) => (Bl.at8 h (i := j) (by simpa [parL] using hlt) : At8 w' gs (0 + j * 8) _)
          rw [parL_at _ hlt, Nat.zero_add] at AP AQ AR AT
          rw [hp] at AP
          rw [hq] at AQ
          rw [hr] at AR
          rw [ht] at AT
          have HAP := Lib.hid AP
          have HAQ := Lib.hid AQ
          have HAR := Lib.hid AR
          have HAT2 := Lib.hid AT
          have E1 := fun w' => neq8 r r r8 r8 w'
          have E2 := fun w' => neq8 t t t8 t8 w'
          simp only [decide_true, Bool.not_true] at E1 E2
          have MP := Lib.hid (Bl.to kP_42.out H.out)
          have MQ := Lib.hid (Bl.to kQ_43.out H.out)
          have MR := Lib.hid (Bl.to kR_44.out H.out)
          have MT := Lib.hid (Bl.to kT_46.out H.out)
          clear AP AQ AR AT hp hq hr ht
          go_wp2_with fail
          refine wp_region_held (S := (fun w' : World => Bl w' (.slice (some ⟨gp, 0, none⟩) 3 3) (parL (Da.take i)) ∧ Bl w' (.slice (some ⟨gq, 0, none⟩) 3 3) (parL (Db.take i)) ∧ Bl w' (.slice (some ⟨gr, 0, none⟩) 3 3) (parL (upto (sumF Da Db) i)) ∧ Bl w' (.slice (some ⟨gs, 0, none⟩) 3 3) (parL (upto (mulF c Da) i)))) rfl ?_
          change wpAnyH _ _ _ _ _ _ _ _ wr.drew
          have mhz2 : Below wr.heap.size wr wr.drew := (Below.refl wr.heap.size wr).drew
          generalize wr.drew = mwz1 at mhz2 ⊢
          have mhq3 : Below wr.heap.size wr mwz1 := mhz2
          have mP_4 := Lib.hid (Bl.to MP.out mhq3)
          have mQ_5 := Lib.hid (Bl.to MQ.out mhq3)
          have mR_6 := Lib.hid (Bl.to MR.out mhq3)
          have mT_7 := Lib.hid (Bl.to MT.out mhq3)
          have mHB_8 : Hid (Below kx35.heap.size kx35 mwz1) := Lib.hid (H.out.trans (mhq3.mono H.out.size))
          clear mhq3
          clear mhz2
          have mhS9 : (fun w' : World => Bl w' (.slice (some ⟨gp, 0, none⟩) 3 3) (parL (Da.take i)) ∧ Bl w' (.slice (some ⟨gq, 0, none⟩) 3 3) (parL (Db.take i)) ∧ Bl w' (.slice (some ⟨gr, 0, none⟩) 3 3) (parL (upto (sumF Da Db) i)) ∧ Bl w' (.slice (some ⟨gs, 0, none⟩) 3 3) (parL (upto (mulF c Da) i))) mwz1 := ⟨mP_4.out, mQ_5.out, mR_6.out, mT_7.out⟩
          refine takeD (i := 0) (v := .slice (some ⟨gr, 0, none⟩) 3 3) (some 113) rfl rfl (by kernel_rfl) (by kernel_rfl) (by kernel_rfl) (fun _ _ _ h => h) (Or.inl ⟨by rfl, by rintro w' -; go_simp⟩) mhS9 ?_
          simp only [Act.put, List.setIfInBounds_toArray, List.set_cons_zero, List.set_cons_succ]
          refine takeD (i := 1) (v := .int .i64 (j : Int)) (some 114) rfl rfl (by kernel_rfl) (by kernel_rfl) (by kernel_rfl) (fun _ _ _ h => h) (Or.inl ⟨by rfl, by rintro w' -; go_simp⟩) mhS9 ?_
          simp only [Act.put, List.setIfInBounds_toArray, List.set_cons_zero, List.set_cons_succ]
          refine takeD (i := 2) (v := .pointer (some ⟨gr, j * 8, none⟩)) (some 115) rfl rfl (by kernel_rfl) (by kernel_rfl) (by kernel_rfl) (fun _ _ _ h => h) (Or.inl ⟨by rfl, by rintro w' -; go_simp⟩) mhS9 ?_
          simp only [Act.put, List.setIfInBounds_toArray, List.set_cons_zero, List.set_cons_succ]
          refine takeD (i := 3) (v := .agg (bcs r)) (some 116) rfl rfl (by kernel_rfl) (by kernel_rfl) (by kernel_rfl) (fun _ _ _ h => h) (yieldsIf_load8 (by rfl) _ _ rfl _ _ rfl r _ (fun w' h => HAR.out w' h.2.2.1) Try.underlying44 rfl (size8 r8.1)) mhS9 ?_
          simp only [Act.put, List.setIfInBounds_toArray, List.set_cons_zero, List.set_cons_succ]
          refine takeD (i := 4) (v := .slice (some ⟨gp, 0, none⟩) 3 3) (some 117) rfl rfl (by kernel_rfl) (by kernel_rfl) (by kernel_rfl) (fun _ _ _ h => h) (Or.inl ⟨by rfl, by rintro w' -; go_simp⟩) mhS9 ?_
          simp only [Act.put, List.setIfInBounds_toArray, List.set_cons_zero, List.set_cons_succ]
          refine takeD (i := 5) (v := .int .i64 (j : Int)) (some 118) rfl rfl (by kernel_rfl) (by kernel_rfl) (by kernel_rfl) (fun _ _ _ h => h) (Or.inl ⟨by rfl, by rintro w' -; go_simp⟩) mhS9 ?_
          simp only [Act.put, List.setIfInBounds_toArray, List.set_cons_zero, List.set_cons_succ]
          refine takeD (i := 6) (v := .pointer (some ⟨gp, j * 8, none⟩)) (some 119) rfl rfl (by kernel_rfl) (by kernel_rfl) (by kernel_rfl) (fun _ _ _ h => h) (Or.inl ⟨by rfl, by rintro w' -; go_simp⟩) mhS9 ?_
          simp only [Act.put, List.setIfInBounds_toArray, List.set_cons_zero, List.set_cons_succ]
          refine takeD (i := 7) (v := .agg (bcs p)) (some 120) rfl rfl (by kernel_rfl) (by kernel_rfl) (by kernel_rfl) (fun _ _ _ h => h) (yieldsIf_load8 (by rfl) _ _ rfl _ _ rfl p _ (fun w' h => HAP.out w' h.1) Try.underlying44 rfl (size8 p8.1)) mhS9 ?_
          simp only [Act.put, List.setIfInBounds_toArray, List.set_cons_zero, List.set_cons_succ]
          refine takeD (i := 8) (v := .slice (some ⟨gq, 0, none⟩) 3 3) (some 121) rfl rfl (by kernel_rfl) (by kernel_rfl) (by kernel_rfl) (fun _ _ _ h => h) (Or.inl ⟨by rfl, by rintro w' -; go_simp⟩) mhS9 ?_
          simp only [Act.put, List.setIfInBounds_toArray, List.set_cons_zero, List.set_cons_succ]
          refine takeD (i := 9) (v := .int .i64 (j : Int)) (some 122) rfl rfl (by kernel_rfl) (by kernel_rfl) (by kernel_rfl) (fun _ _ _ h => h) (Or.inl ⟨by rfl, by rintro w' -; go_simp⟩) mhS9 ?_
          simp only [Act.put, List.setIfInBounds_toArray, List.set_cons_zero, List.set_cons_succ]
          refine takeD (i := 10) (v := .pointer (some ⟨gq, j * 8, none⟩)) (some 123) rfl rfl (by kernel_rfl) (by kernel_rfl) (by kernel_rfl) (fun _ _ _ h => h) (Or.inl ⟨by rfl, by rintro w' -; go_simp⟩) mhS9 ?_
          simp only [Act.put, List.setIfInBounds_toArray, List.set_cons_zero, List.set_cons_succ]
          refine takeD (i := 11) (v := .agg (bcs q)) (some 124) rfl rfl (by kernel_rfl) (by kernel_rfl) (by kernel_rfl) (fun _ _ _ h => h) (yieldsIf_load8 (by rfl) _ _ rfl _ _ rfl q _ (fun w' h => HAQ.out w' h.2.1) Try.underlying44 rfl (size8 q8.1)) mhS9 ?_
          simp only [Act.put, List.setIfInBounds_toArray, List.set_cons_zero, List.set_cons_succ]
          refine wpAnyH_ready (rs := [12]) (by kernel_rfl) (by simp) ?_
          refine AllReadyH.cons rfl (fun mK10 hmK10 => ?_) AllReadyH.nil
          have HmK10 := Lib.hid hmK10
          clear hmK10
          rw [if_pos (by rfl)]
          go_simp
          go_at_call 26
          refine (xor_b p q r _ p8 q8 XE.out).mono ?_
          rintro e mx11 ⟨rfl, hb⟩
          have mhq12 : Below mwz1.heap.size mwz1 mx11 := hb
          have mP_13 := Lib.hid (Bl.to mP_4.out mhq12)
          have mQ_14 := Lib.hid (Bl.to mQ_5.out mhq12)
          have mR_15 := Lib.hid (Bl.to mR_6.out mhq12)
          have mT_16 := Lib.hid (Bl.to mT_7.out mhq12)
          have mHB_17 : Hid (Below kx35.heap.size kx35 mx11) := Lib.hid (mHB_8.out.trans (mhq12.mono mHB_8.out.size))
          clear mhq12
          clear hb
          have mhS18 : (fun w' : World => Bl w' (.slice (some ⟨gp, 0, none⟩) 3 3) (parL (Da.take i)) ∧ Bl w' (.slice (some ⟨gq, 0, none⟩) 3 3) (parL (Db.take i)) ∧ Bl w' (.slice (some ⟨gr, 0, none⟩) 3 3) (parL (upto (sumF Da Db) i)) ∧ Bl w' (.slice (some ⟨gs, 0, none⟩) 3 3) (parL (upto (mulF c Da) i))) mx11 := ⟨mP_13.out, mQ_14.out, mR_15.out, mT_16.out⟩
          refine HmK10.out _ _ mhS18 fun _ => ?_
          try simp only [Act.put, List.setIfInBounds_toArray, List.set_cons_zero, List.set_cons_succ]
          refine takeD (i := 13) (v := .bool false) (some 126) rfl rfl (by kernel_rfl) (by kernel_rfl) (by kernel_rfl) (fun _ _ _ h => h) (Or.inl ⟨by rfl, by rintro w' -; go_simp⟩) mhS18 ?_
          simp only [Act.put, List.setIfInBounds_toArray, List.set_cons_zero, List.set_cons_succ]
          refine takeD (i := 14) (v := .bool false) (some 127) rfl rfl (by kernel_rfl) (by kernel_rfl) (by kernel_rfl) (fun _ _ _ h => h) (Or.inl ⟨by rfl, by rintro w' -; go_simp⟩) mhS18 ?_
          simp only [Act.put, List.setIfInBounds_toArray, List.set_cons_zero, List.set_cons_succ]
          refine takeD (i := 15) (v := .slice (some ⟨gs, 0, none⟩) 3 3) (some 128) rfl rfl (by kernel_rfl) (by kernel_rfl) (by kernel_rfl) (fun _ _ _ h => h) (Or.inl ⟨by rfl, by rintro w' -; go_simp⟩) mhS18 ?_
          simp only [Act.put, List.setIfInBounds_toArray, List.set_cons_zero, List.set_cons_succ]
          refine takeD (i := 16) (v := .int .i64 (j : Int)) (some 129) rfl rfl (by kernel_rfl) (by kernel_rfl) (by kernel_rfl) (fun _ _ _ h => h) (Or.inl ⟨by rfl, by rintro w' -; go_simp⟩) mhS18 ?_
          simp only [Act.put, List.setIfInBounds_toArray, List.set_cons_zero, List.set_cons_succ]
          refine takeD (i := 17) (v := .pointer (some ⟨gs, j * 8, none⟩)) (some 130) rfl rfl (by kernel_rfl) (by kernel_rfl) (by kernel_rfl) (fun _ _ _ h => h) (Or.inl ⟨by rfl, by rintro w' -; go_simp⟩) mhS18 ?_
          simp only [Act.put, List.setIfInBounds_toArray, List.set_cons_zero, List.set_cons_succ]
          refine takeD (i := 18) (v := .agg (bcs t)) (some 131) rfl rfl (by kernel_rfl) (by kernel_rfl) (by kernel_rfl) (fun _ _ _ h => h) (yieldsIf_load8 (by rfl) _ _ rfl _ _ rfl t _ (fun w' h => HAT2.out w' h.2.2.2) Try.underlying44 rfl (size8 t8.1)) mhS18 ?_
          simp only [Act.put, List.setIfInBounds_toArray, List.set_cons_zero, List.set_cons_succ]
          refine takeD (i := 19) (v := .int .u8 (c : Int)) (some 132) rfl rfl (by kernel_rfl) (by kernel_rfl) (by kernel_rfl) (fun _ _ _ h => h) (Or.inl ⟨by rfl, by rintro w' -; go_simp⟩) mhS18 ?_
          simp only [Act.put, List.setIfInBounds_toArray, List.set_cons_zero, List.set_cons_succ]
          refine takeD (i := 20) (v := .slice (some ⟨gp, 0, none⟩) 3 3) (some 133) rfl rfl (by kernel_rfl) (by kernel_rfl) (by kernel_rfl) (fun _ _ _ h => h) (Or.inl ⟨by rfl, by rintro w' -; go_simp⟩) mhS18 ?_
          simp only [Act.put, List.setIfInBounds_toArray, List.set_cons_zero, List.set_cons_succ]
          refine takeD (i := 21) (v := .int .i64 (j : Int)) (some 134) rfl rfl (by kernel_rfl) (by kernel_rfl) (by kernel_rfl) (fun _ _ _ h => h) (Or.inl ⟨by rfl, by rintro w' -; go_simp⟩) mhS18 ?_
          simp only [Act.put, List.setIfInBounds_toArray, List.set_cons_zero, List.set_cons_succ]
          refine takeD (i := 22) (v := .pointer (some ⟨gp, j * 8, none⟩)) (some 135) rfl rfl (by kernel_rfl) (by kernel_rfl) (by kernel_rfl) (fun _ _ _ h => h) (Or.inl ⟨by rfl, by rintro w' -; go_simp⟩) mhS18 ?_
          simp only [Act.put, List.setIfInBounds_toArray, List.set_cons_zero, List.set_cons_succ]
          refine takeD (i := 23) (v := .agg (bcs p)) (some 136) rfl rfl (by kernel_rfl) (by kernel_rfl) (by kernel_rfl) (fun _ _ _ h => h) (yieldsIf_load8 (by rfl) _ _ rfl _ _ rfl p _ (fun w' h => HAP.out w' h.1) Try.underlying44 rfl (size8 p8.1)) mhS18 ?_
          simp only [Act.put, List.setIfInBounds_toArray, List.set_cons_zero, List.set_cons_succ]
          refine wpAnyH_ready (rs := [24]) (by kernel_rfl) (by simp) ?_
          refine AllReadyH.cons rfl (fun mK19 hmK19 => ?_) AllReadyH.nil
          have HmK19 := Lib.hid hmK19
          clear hmK19
          rw [if_pos (by rfl)]
          go_simp
          go_at_call 27
          refine (scl_b c p t _ hc p8 SE.out).mono ?_
          rintro e mx20 ⟨rfl, hb⟩
          have mhq21 : Below mx11.heap.size mx11 mx20 := hb
          have mP_22 := Lib.hid (Bl.to mP_13.out mhq21)
          have mQ_23 := Lib.hid (Bl.to mQ_14.out mhq21)
          have mR_24 := Lib.hid (Bl.to mR_15.out mhq21)
          have mT_25 := Lib.hid (Bl.to mT_16.out mhq21)
          have mHB_26 : Hid (Below kx35.heap.size kx35 mx20) := Lib.hid (mHB_17.out.trans (mhq21.mono mHB_17.out.size))
          clear mhq21
          clear hb
          have mhS27 : (fun w' : World => Bl w' (.slice (some ⟨gp, 0, none⟩) 3 3) (parL (Da.take i)) ∧ Bl w' (.slice (some ⟨gq, 0, none⟩) 3 3) (parL (Db.take i)) ∧ Bl w' (.slice (some ⟨gr, 0, none⟩) 3 3) (parL (upto (sumF Da Db) i)) ∧ Bl w' (.slice (some ⟨gs, 0, none⟩) 3 3) (parL (upto (mulF c Da) i))) mx20 := ⟨mP_22.out, mQ_23.out, mR_24.out, mT_25.out⟩
          refine HmK19.out _ _ mhS27 fun _ => ?_
          try simp only [Act.put, List.setIfInBounds_toArray, List.set_cons_zero, List.set_cons_succ]
          refine takeD (i := 25) (v := .bool false) (some 138) rfl rfl (by kernel_rfl) (by kernel_rfl) (by kernel_rfl) (fun _ _ _ h => h) (Or.inl ⟨by rfl, by rintro w' -; go_simp⟩) mhS27 ?_
          simp only [Act.put, List.setIfInBounds_toArray, List.set_cons_zero, List.set_cons_succ]
          refine takeD (i := 26) (v := .bool false) (some 139) rfl rfl (by kernel_rfl) (by kernel_rfl) (by kernel_rfl) (fun _ _ _ h => h) (Or.inl ⟨by rfl, by rintro w' -; go_simp⟩) mhS27 ?_
          simp only [Act.put, List.setIfInBounds_toArray, List.set_cons_zero, List.set_cons_succ]
          refine wpAnyH_done (by kernel_rfl) ?_ _
          go_wp2
          go_roundw
          case rel => exact ⟨j + 1, by omega, by go_num, mHB_26⟩
          case measure => simp [intOf]; omega
        · go_wp2
          go_ret
          exact ⟨rfl, kHB_45.out.trans (H.out.mono kHB_45.out.size)⟩
end Go.Proofs.Ytfhgalfdlkdliaa
