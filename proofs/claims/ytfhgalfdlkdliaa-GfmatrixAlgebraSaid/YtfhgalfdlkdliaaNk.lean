/- The walk of the law GfmatrixAlgebra. WRITTEN BY gen_Nk.py. -/
import Derived.Test.YtfhgalfdlkdliaaNj
import Derived.Test.YtfhgalfdlkdliaaOpen
namespace Go.Proofs.Ytfhgalfdlkdliaa
open Go Go.RowKit Lin
set_option linter.unusedVariables false
set_option linter.unusedSimpArgs false

set_option maxHeartbeats 8000000 in
set_option maxRecDepth 100000 in
theorem alg_walk (n : Nat) (X : List Nat) (w : World) (hn : n < 256) (hl : X.length = 108) (h8 : ∀ x ∈ X, x < 256) : Calls Try.prog 3 #[.int .u8 (n : Int), .agg (bcs X)] w (lawPost w) := by
  obtain ⟨cx, hcx⟩ : ∃ c, bcs X = c := ⟨_, rfl⟩
  rw [hcx]
  have CX := Lib.hid hcx
  clear hcx
  go_enter Try.func3, Try.ntmps3
  go_wp2_with fail
  obtain ⟨W0, hW0⟩ : ∃ W0, w.alloc (.cells cx 23) = W0 := ⟨_, rfl⟩
  have HB0 : Hid (Below w.heap.size w W0) := Lib.hid (by rw [← hW0]; exact (Below.refl w.heap.size w).alloc (Nat.le_refl _) _)
  have HX0 : Hid (W0.rangeAt w.heap.size 0 (X.map bv)) := Lib.hid (by rw [← hW0, ← CX.out]; exact (row_new w _ _).rangeX)
  have HS0 : Hid (w.heap.size < W0.heap.size) := Lib.hid (by rw [← hW0]; simp)
  rw [hW0]
  clear hW0
  refine (awake_any _).mono ?_
  rintro e x2 ⟨rfl, hb1⟩
  have hq3 : Below W0.heap.size W0 x2 := hb1
  have X_4 := Lib.hid (rangeTo2 HX0.out hq3)
  have HB_5 : Hid (Below w.heap.size w x2) := Lib.hid (HB0.out.trans (hq3.mono HB0.out.size))
  clear hq3
  clear hb1
  go_wp2_with fail
  obtain ⟨k, ek⟩ : ∃ k : Nat, (1 + (n : Int) % 6) = (k : Int) := ⟨1 + n % 6, by omega⟩
  have hk : 1 ≤ k ∧ k ≤ 6 := by omega
  rw [ek]
  clear ek
  obtain ⟨W1, hW1⟩ : ∃ W1, x2.alloc (.cells #[.slice none 0 0, .slice none 0 0, .slice none 0 0] 26) = W1 := ⟨_, rfl⟩
  obtain ⟨M, hM⟩ : ∃ M, x2.heap.size = M := ⟨_, rfl⟩
  have hwM : w.heap.size < M := by
    have := HB_5.out.size
    have h2 := X_4.out 0 _ (getD_bv (l := X) (k := 0) (by omega))
    have h3 := World.block_lt_of_cell? x2 _ h2
    have h4 : w.heap.size < x2.heap.size := h3
    omega
  have A0 : AOut X k M w W1 0 := by
    refine ⟨by rw [← hW1]; exact HB_5.out.alloc HB_5.out.size _, by rw [← hW1]; exact rangeTo2 X_4.out ((Below.refl _ _).alloc (Nat.le_refl _) _), fun _ => .slice none 0 0, ?_, fun j hj => absurd hj (Nat.not_lt_zero j)⟩
    rw [← hW1, ← hM]
    exact (World.rowIs_alloc x2 _ _ (fun _ => .slice none 0 0) (fun i hi => by
      match i, hi with
      | 0, _ => rfl
      | 1, _ => rfl
      | 2, _ => rfl)).congr fun i _ => by rw [if_neg (Nat.not_lt_zero i)]
  have HA0 := Lib.hid A0
  rw [hW1, hM]
  clear hW1 hM A0
  go_loopw [7, 8] (fun q _ wr => ∃ i : Nat, i ≤ 3 ∧ q = .int .i64 (i : Int) ∧ Hid (AOut X k M w wr i)) (fun q _ _ => 3 - (intOf q).toNat)
  case atStart => exact ⟨0, Nat.zero_le _, rfl, HA0⟩
  case round =>
    obtain ⟨i, hi, rfl, H⟩ := hrel
    obtain ⟨wo, rfl⟩ : ∃ wo, wo = wr := ⟨_, rfl⟩
    by_cases hlt : i < 3
    · have hiI : (i : Int) < 3 := by omega
      obtain ⟨a1, a2, v, a3, a4⟩ := H.out
      have A1 := Lib.hid a1
      have A2 := Lib.hid a2
      have A3 := Lib.hid a3
      have A4 := Lib.hid a4
      have hMo : M < wo.heap.size := a3.lt
      clear a1 a2 a3 a4 H
      go_wp2_with fail
      go_loopw [8] (fun q wq => ∃ r : Nat, r ≤ k ∧ q = .int .i64 (r : Int) ∧ Hid (AIn X k M w wo wq i r v)) (fun q _ => k - (intOf q).toNat)
      case atStart =>
        refine ⟨0, Nat.zero_le _, rfl, Lib.hid ⟨A1.out, ⟨Kb.refl _ _ _, Nat.le_refl _⟩, .slice none 0 0, A3.out.congr fun j hj => ?_, Or.inl ⟨rfl, rfl⟩⟩⟩
        by_cases e : j < i
        · rw [if_pos e, if_pos e]
        · rw [if_neg e, if_neg e]; split <;> rfl
      case round =>
        obtain ⟨r, hr, rfl, H2⟩ := hrel
        by_cases hlt2 : r < k
        · have hrI : (r : Int) < (k : Int) := by omega
          obtain ⟨b1, b2, u, b3, b4⟩ := H2.out
          have Q1 := Lib.hid b1
          have Q2 := Lib.hid b2
          have Q3 := Lib.hid b3
          have Q4 := Lib.hid b4
          have QX : Hid (wr.rangeAt w.heap.size 0 (X.map bv)) := Lib.hid (rangeKb A2.out b2.1 (by omega))
          clear b1 b2 b3 b4 H2
          have hrk : (r + 1) * k ≤ 6 * 6 := Nat.mul_le_mul (by omega) (by omega)
          have hsu : (r + 1) * k = r * k + k := Nat.succ_mul r k
          obtain ⟨lo, elo⟩ : ∃ lo, r * k = lo := ⟨_, rfl⟩
          have e1 : (r : Int) * (k : Int) = (lo : Int) := by rw [← elo, Int.natCast_mul]
          have e2 : ((r : Int) + 1) * (k : Int) = (lo : Int) + (k : Int) := by rw [Int.add_mul, e1, Int.one_mul]
          have BX := Lib.hid (fun (w' : World) (h : w'.rangeAt w.heap.size 0 (X.map bv)) => bs_rowX h h8 (k := k) (i := i) (r := r) (by omega) (36 - lo) (by omega) (by unfold maxLen; omega))
          have LO := Lib.hid elo
          have b0 : (0 : Int) ≤ (lo : Int) := by omega
          have b1 : (lo : Int) ≤ (lo : Int) + (k : Int) := by omega
          have b2 : (lo : Int) + (k : Int) ≤ 36 := by omega
          have b3 : ((lo : Int) + (k : Int)).toNat = lo + k := by omega
          have b4 : lo + k - lo = k := by omega
          have b5 : ¬ (36 = lo) := by omega
          have b6 : IntKind.i64.wrap (lo : Int) = (lo : Int) := by rw [IntKind.wrap_i64]; omega
          have b7 : IntKind.i64.wrap ((r : Int) + 1) = (r : Int) + 1 := by rw [IntKind.wrap_i64]; omega
          have b8 : IntKind.i64.wrap ((lo : Int) + (k : Int)) = (lo : Int) + (k : Int) := by rw [IntKind.wrap_i64]; omega
          clear hsu elo hrk
          go_wp2_with fail
          refine wp_region_held (P := Try.prog) (S := (fun w' : World => True)) rfl ?_
          change wpAnyH _ _ _ _ _ _ _ _ wr.drew
          have zhz2 : Below wr.heap.size wr wr.drew := (Below.refl wr.heap.size wr).drew
          generalize wr.drew = zwz1 at zhz2 ⊢
          have zhq3 : Below wr.heap.size wr zwz1 := zhz2
          have zK_4 := Lib.hid (KbLe.to Q2.out zhq3)
          have zW_5 := Lib.hid (rowIsTo Q3.out zhq3)
          have zN_6 := Lib.hid (OwnX.to Q4.out zhq3)
          have zX_7 := Lib.hid (rangeTo2 QX.out zhq3)
          have zHB_8 : Hid (Below w.heap.size w zwz1) := Lib.hid (Q1.out.trans (zhq3.mono Q1.out.size))
          clear zhq3
          clear zhz2
          have zhS9 : (fun w' : World => True) zwz1 := trivial
          refine takeD (i := 0) (v := .int .i64 (i : Int)) (some 40) rfl rfl (by kernel_rfl) (by kernel_rfl) (by kernel_rfl) (fun _ _ _ h => h) (Or.inl ⟨by rfl, by rintro w' -; go_simp⟩) zhS9 ?_
          simp only [Act.put, List.setIfInBounds_toArray, List.set_cons_zero, List.set_cons_succ]
          refine takeD (i := 1) (v := .int .i64 (i : Int)) (some 41) rfl rfl (by kernel_rfl) (by kernel_rfl) (by kernel_rfl) (fun _ _ _ h => h) (Or.inl ⟨by rfl, by rintro w' -; go_simp⟩) zhS9 ?_
          simp only [Act.put, List.setIfInBounds_toArray, List.set_cons_zero, List.set_cons_succ]
          refine takeD (i := 2) (v := .pointer (some ⟨M, i, none⟩)) (some 42) rfl rfl (by kernel_rfl) (by kernel_rfl) (by kernel_rfl) (fun _ _ _ h => h) (Or.inl ⟨by rfl, by rintro w' -; go_simp⟩) zhS9 ?_
          simp only [Act.put, List.setIfInBounds_toArray, List.set_cons_zero, List.set_cons_succ]
          refine takeD (i := 5) (v := .int .i64 (i : Int)) (some 45) rfl rfl (by kernel_rfl) (by kernel_rfl) (by kernel_rfl) (fun _ _ _ h => h) (Or.inl ⟨by rfl, by rintro w' -; go_simp⟩) zhS9 ?_
          simp only [Act.put, List.setIfInBounds_toArray, List.set_cons_zero, List.set_cons_succ]
          refine takeD (i := 6) (v := .pointer (some ⟨w.heap.size, i * 36, none⟩)) (some 46) rfl rfl (by kernel_rfl) (by kernel_rfl) (by kernel_rfl) (fun _ _ _ h => h) (Or.inl ⟨by rfl, by rintro w' -; go_simp⟩) zhS9 ?_
          simp only [Act.put, List.setIfInBounds_toArray, List.set_cons_zero, List.set_cons_succ]
          refine takeD (i := 7) (v := .int .i64 (r : Int)) (some 47) rfl rfl (by kernel_rfl) (by kernel_rfl) (by kernel_rfl) (fun _ _ _ h => h) (Or.inl ⟨by rfl, by rintro w' -; go_simp⟩) zhS9 ?_
          simp only [Act.put, List.setIfInBounds_toArray, List.set_cons_zero, List.set_cons_succ]
          refine takeD (i := 8) (v := .int .i64 (k : Int)) (some 48) rfl rfl (by kernel_rfl) (by kernel_rfl) (by kernel_rfl) (fun _ _ _ h => h) (Or.inl ⟨by rfl, by rintro w' -; go_simp⟩) zhS9 ?_
          simp only [Act.put, List.setIfInBounds_toArray, List.set_cons_zero, List.set_cons_succ]
          refine takeD (i := 9) (v := .int .i64 (lo : Int)) (some 49) rfl rfl (by kernel_rfl) (by kernel_rfl) (by kernel_rfl) (fun _ _ _ h => h) (Or.inl ⟨by rfl, by rintro w' -; go_simp⟩) zhS9 ?_
          simp only [Act.put, List.setIfInBounds_toArray, List.set_cons_zero, List.set_cons_succ]
          refine takeD (i := 10) (v := .int .i64 (r : Int)) (some 50) rfl rfl (by kernel_rfl) (by kernel_rfl) (by kernel_rfl) (fun _ _ _ h => h) (Or.inl ⟨by rfl, by rintro w' -; go_simp⟩) zhS9 ?_
          simp only [Act.put, List.setIfInBounds_toArray, List.set_cons_zero, List.set_cons_succ]
          refine takeD (i := 11) (v := .int .i64 ((r : Int) + 1)) (some 51) rfl rfl (by kernel_rfl) (by kernel_rfl) (by kernel_rfl) (fun _ _ _ h => h) (Or.inl ⟨by rfl, by rintro w' -; go_simp⟩) zhS9 ?_
          simp only [Act.put, List.setIfInBounds_toArray, List.set_cons_zero, List.set_cons_succ]
          refine takeD (i := 12) (v := .int .i64 (k : Int)) (some 52) rfl rfl (by kernel_rfl) (by kernel_rfl) (by kernel_rfl) (fun _ _ _ h => h) (Or.inl ⟨by rfl, by rintro w' -; go_simp⟩) zhS9 ?_
          simp only [Act.put, List.setIfInBounds_toArray, List.set_cons_zero, List.set_cons_succ]
          refine takeD (i := 13) (v := .int .i64 ((lo : Int) + (k : Int))) (some 53) rfl rfl (by kernel_rfl) (by kernel_rfl) (by kernel_rfl) (fun _ _ _ h => h) (Or.inl ⟨by rfl, by rintro w' -; go_simp⟩) zhS9 ?_
          simp only [Act.put, List.setIfInBounds_toArray, List.set_cons_zero, List.set_cons_succ]
          refine takeD (i := 14) (v := .slice (some ⟨w.heap.size, i * 36 + lo, none⟩) k (36 - lo)) (some 54) rfl rfl (by kernel_rfl) (by kernel_rfl) (by kernel_rfl) (fun _ _ _ h => h) (Or.inl ⟨by rfl, by rintro w' -; go_simp⟩) zhS9 ?_
          simp only [Act.put, List.setIfInBounds_toArray, List.set_cons_zero, List.set_cons_succ]
          refine wpAnyH_ready (rs := [3, 4]) (by kernel_rfl) (by simp) ?_
          refine AllReadyH.cons rfl (fun K hK => ?_) (AllReadyH.cons rfl (fun K hK => ?_) AllReadyH.nil)
          · have zHK10 := Lib.hid hK
            clear hK
            rw [if_pos (by rfl)]
            have zcc11 : zwz1.cell? ⟨M, i, none⟩ = some u := by
              have := zW_5.out.cell hlt
              rwa [if_neg (Nat.lt_irrefl i), if_pos rfl] at this
            go_simp
            refine zHK10.out _ _ trivial fun _ => ?_
            try simp only [Act.put, List.setIfInBounds_toArray, List.set_cons_zero, List.set_cons_succ]
            clear zcc11
            refine wpAnyH_ready (rs := [4]) (by kernel_rfl) (by simp) ?_
            refine AllReadyH.cons rfl (fun K hK => ?_) AllReadyH.nil
            have zHK12 := Lib.hid hK
            clear hK
            rw [if_pos (by rfl)]
            go_simp
            refine zHK12.out _ _ trivial fun _ => ?_
            try simp only [Act.put, List.setIfInBounds_toArray, List.set_cons_zero, List.set_cons_succ]
            obtain ⟨zy13, hy⟩ : ∃ q, zwz1.alloc (.cells #[] 5) = q := ⟨_, rfl⟩
            have E4 : Hid (zy13.ownsRow zwz1.heap.size 5 1 (.slice (some ⟨zwz1.heap.size, 0, none⟩) 0 0) 0 []) := Lib.hid (by rw [← hy]; exact World.ownsRow_made zwz1 #[] 0 (Nat.le_refl _) (Nat.zero_le _) rfl)
            have hq4 : Below zwz1.heap.size zwz1 zy13 := by rw [← hy]; exact (Below.refl _ _).alloc (Nat.le_refl _) _
            have S4 : Hid (zwz1.heap.size ≤ zy13.heap.size) := Lib.hid hq4.size
            rw [hy]
            clear hy
            have zhq14 : Below zwz1.heap.size zwz1 zy13 := hq4
            have zK_15 := Lib.hid (KbLe.to zK_4.out zhq14)
            have zW_16 := Lib.hid (rowIsTo zW_5.out zhq14)
            have zN_17 := Lib.hid (OwnX.to zN_6.out zhq14)
            have zX_18 := Lib.hid (rangeTo2 zX_7.out zhq14)
            have zHB_19 : Hid (Below w.heap.size w zy13) := Lib.hid (zHB_8.out.trans (zhq14.mono zHB_8.out.size))
            clear zhq14
            have Q4B := Lib.hid hq4
            clear hq4
            refine wpAnyH_ready (rs := [15]) (by kernel_rfl) (by simp) ?_
            refine AllReadyH.cons rfl (fun K hK => ?_) AllReadyH.nil
            have zHK20 := Lib.hid hK
            clear hK
            rw [if_pos (by rfl)]
            refine app_row (.tmp 44) (.tmp 54) rfl zwz1.heap.size _ (rowX X k i r) k rfl E4.out rfl (by have := BX.out _ zX_18.out; rw [LO.out] at this; exact this) (by simp [rowX]) hk.1 (by omega) S4.out ?_
            intro gr cr zy21 hbs hg hle
            have RB := Lib.hid hbs
            have HLE := Lib.hid hle
            have hq : Below zwz1.heap.size zwz1 zy21 := Q4B.out.grown hg S4.out (fun k e => by cases e; exact Nat.le_refl _)
            have zhq22 : Below zwz1.heap.size zwz1 zy21 := hq
            have zK_23 := Lib.hid (KbLe.to zK_4.out zhq22)
            have zW_24 := Lib.hid (rowIsTo zW_5.out zhq22)
            have zN_25 := Lib.hid (OwnX.to zN_6.out zhq22)
            have zX_26 := Lib.hid (rangeTo2 zX_7.out zhq22)
            have zHB_27 : Hid (Below w.heap.size w zy21) := Lib.hid (zHB_8.out.trans (zhq22.mono zHB_8.out.size))
            clear zhq22
            clear hbs hle hg hq
            refine zHK20.out _ _ trivial fun _ => ?_
            try simp only [Act.put, List.setIfInBounds_toArray, List.set_cons_zero, List.set_cons_succ]
            refine wpAnyH_ready (rs := [16]) (by kernel_rfl) (by simp) ?_
            refine AllReadyH.cons rfl (fun K hK => ?_) AllReadyH.nil
            have zHK28 := Lib.hid hK
            clear hK
            rw [if_pos (by rfl)]
            go_simp
            refine zHK28.out _ _ trivial fun _ => ?_
            try simp only [Act.put, List.setIfInBounds_toArray, List.set_cons_zero, List.set_cons_succ]
            obtain ⟨zy29, hy⟩ : ∃ q, zy21.alloc (.cells #[.slice (some ⟨gr, 0, none⟩) k cr] 27) = q := ⟨_, rfl⟩
            have C16 : Hid (zy29.cell? ⟨zy21.heap.size, 0, none⟩ = some (.slice (some ⟨gr, 0, none⟩) k cr)) := Lib.hid (by rw [← hy]; exact (row_new zy21 _ _).cell 0)
            have hq16 : Below zy21.heap.size zy21 zy29 := by rw [← hy]; exact (Below.refl _ _).alloc (Nat.le_refl _) _
            rw [hy]
            clear hy
            have zhq30 : Below zy21.heap.size zy21 zy29 := hq16
            have zK_31 := Lib.hid (KbLe.to zK_23.out zhq30)
            have zW_32 := Lib.hid (rowIsTo zW_24.out zhq30)
            have zN_33 := Lib.hid (OwnX.to zN_25.out zhq30)
            have zX_34 := Lib.hid (rangeTo2 zX_26.out zhq30)
            have zR_35 := Lib.hid (Bs.to' RB.out zhq30)
            have zHB_36 : Hid (Below w.heap.size w zy29) := Lib.hid (zHB_27.out.trans (zhq30.mono zHB_27.out.size))
            clear zhq30
            clear hq16
            refine wpAnyH_ready (rs := [17]) (by kernel_rfl) (by simp) ?_
            refine AllReadyH.cons rfl (fun K hK => ?_) AllReadyH.nil
            have zHK37 := Lib.hid hK
            clear hK
            rw [if_pos (by rfl)]
            refine push_row (.tmp 43) (.tmp 56) rfl wo.heap.size M u _ r zy21.heap.size _ (rowX X k i r) rfl zN_33.out zW_32.out.lt (matX_len X k i r) rfl C16.out rfl zR_35.out (fun q hq => ?_) (by omega) zK_31.out.2 ?_
            · have hq2 : gr = q := Option.some.inj hq
              subst hq2
              have h1 := HLE.out
              refine ⟨fun e => ?_, ?_⟩
              · have := (zN_6.out.own _ e).2.1
                omega
              · have := zW_5.out.lt
                omega
            intro g7 c7 zy38 hox hg hat
            have N7 := Lib.hid hox
            have HO := zN_33.out.own
            have W7 : Hid (zy38.rowIs M 26 3 (fun j => if j < i then v j else if j = i then u else .slice none 0 0)) := Lib.hid (zW_32.out.of_block (hg.block M zW_32.out.lt (fun e => (HO M e.symm).2.2 rfl)))
            have K7 : Hid (KbLe M wo.heap.size wo zy38) := Lib.hid ⟨zK_31.out.1.trans ⟨hg.size, fun j hj hne => hg.block j (by have := zK_31.out.2; omega) (fun e => by have := (HO j e.symm).1; omega)⟩, Nat.le_trans zK_31.out.2 hg.size⟩
            have B7 : Hid (Below w.heap.size w zy38) := Lib.hid (zHB_36.out.grown hg zHB_36.out.size (fun q e => by have := (HO q e).1; have := A1.out.size; omega))
            clear hox hg hat HO
            refine zHK37.out _ _ trivial fun _ => ?_
            try simp only [Act.put, List.setIfInBounds_toArray, List.set_cons_zero, List.set_cons_succ]
            refine takeD (i := 18) (v := .pointer (some ⟨M, i, none⟩)) (some 58) rfl rfl (by kernel_rfl) (by kernel_rfl) (by kernel_rfl) (fun _ _ _ h => h) (Or.inl ⟨by rfl, by rintro w' -; go_simp⟩) trivial ?_
            simp only [Act.put, List.setIfInBounds_toArray, List.set_cons_zero, List.set_cons_succ]
            refine wpAnyH_ready (rs := [19]) (by kernel_rfl) (by simp) ?_
            refine AllReadyH.cons rfl (fun K hK => ?_) AllReadyH.nil
            have H19 := Lib.hid hK
            clear hK
            rw [if_pos (by rfl)]
            have c19 : zy38.cell? ⟨M, i, none⟩ = some u := by
              have := W7.out.cell hlt
              rwa [if_neg (Nat.lt_irrefl i), if_pos rfl] at this
            have f19 := W7.out.frozen i
            go_simp
            refine H19.out _ _ trivial fun _ => ?_
            clear c19 f19
            refine wpAnyH_done (by kernel_rfl) ?_ _
            go_wp2
            go_roundw
            case rel =>
              refine ⟨r + 1, by omega, by go_num, Lib.hid ⟨B7.out.setCell (by show w.heap.size ≤ M; omega) _, ⟨K7.out.1.set _ _, Nat.le_trans K7.out.2 (by simp [World.setCell])⟩, .slice (some ⟨g7, 0, none⟩) (r + 1) c7, ((W7.out.set i _).congr fun j hj => ?_), by rw [matX_succ]; exact N7.out.kb ((Kb.refl _ _ _).set _ _)⟩⟩
              by_cases e : j = i
              · rw [if_pos e, if_neg (by omega), if_pos e]
              · rw [if_neg e]
                by_cases e2 : j < i
                · rw [if_pos e2, if_pos e2]
                · rw [if_neg e2, if_neg e2, if_neg e, if_neg e]
            case measure => simp [intOf]; omega
          · have zHK10 := Lib.hid hK
            clear hK
            rw [if_pos (by rfl)]
            go_simp
            refine zHK10.out _ _ trivial fun _ => ?_
            try simp only [Act.put, List.setIfInBounds_toArray, List.set_cons_zero, List.set_cons_succ]
            obtain ⟨zy11, hy⟩ : ∃ q, zwz1.alloc (.cells #[] 5) = q := ⟨_, rfl⟩
            have E4 : Hid (zy11.ownsRow zwz1.heap.size 5 1 (.slice (some ⟨zwz1.heap.size, 0, none⟩) 0 0) 0 []) := Lib.hid (by rw [← hy]; exact World.ownsRow_made zwz1 #[] 0 (Nat.le_refl _) (Nat.zero_le _) rfl)
            have hq4 : Below zwz1.heap.size zwz1 zy11 := by rw [← hy]; exact (Below.refl _ _).alloc (Nat.le_refl _) _
            have S4 : Hid (zwz1.heap.size ≤ zy11.heap.size) := Lib.hid hq4.size
            rw [hy]
            clear hy
            have zhq12 : Below zwz1.heap.size zwz1 zy11 := hq4
            have zK_13 := Lib.hid (KbLe.to zK_4.out zhq12)
            have zW_14 := Lib.hid (rowIsTo zW_5.out zhq12)
            have zN_15 := Lib.hid (OwnX.to zN_6.out zhq12)
            have zX_16 := Lib.hid (rangeTo2 zX_7.out zhq12)
            have zHB_17 : Hid (Below w.heap.size w zy11) := Lib.hid (zHB_8.out.trans (zhq12.mono zHB_8.out.size))
            clear zhq12
            have Q4B := Lib.hid hq4
            clear hq4
            refine wpAnyH_ready (rs := [3, 15]) (by kernel_rfl) (by simp) ?_
            refine AllReadyH.cons rfl (fun K hK => ?_) (AllReadyH.cons rfl (fun K hK => ?_) AllReadyH.nil)
            · have zHK18 := Lib.hid hK
              clear hK
              rw [if_pos (by rfl)]
              have zcc19 : zy11.cell? ⟨M, i, none⟩ = some u := by
                have := zW_14.out.cell hlt
                rwa [if_neg (Nat.lt_irrefl i), if_pos rfl] at this
              go_simp
              refine zHK18.out _ _ trivial fun _ => ?_
              try simp only [Act.put, List.setIfInBounds_toArray, List.set_cons_zero, List.set_cons_succ]
              clear zcc19
              refine wpAnyH_ready (rs := [15]) (by kernel_rfl) (by simp) ?_
              refine AllReadyH.cons rfl (fun K hK => ?_) AllReadyH.nil
              have zHK20 := Lib.hid hK
              clear hK
              rw [if_pos (by rfl)]
              refine app_row (.tmp 44) (.tmp 54) rfl zwz1.heap.size _ (rowX X k i r) k rfl E4.out rfl (by have := BX.out _ zX_16.out; rw [LO.out] at this; exact this) (by simp [rowX]) hk.1 (by omega) S4.out ?_
              intro gr cr zy21 hbs hg hle
              have RB := Lib.hid hbs
              have HLE := Lib.hid hle
              have hq : Below zwz1.heap.size zwz1 zy21 := Q4B.out.grown hg S4.out (fun k e => by cases e; exact Nat.le_refl _)
              have zhq22 : Below zwz1.heap.size zwz1 zy21 := hq
              have zK_23 := Lib.hid (KbLe.to zK_4.out zhq22)
              have zW_24 := Lib.hid (rowIsTo zW_5.out zhq22)
              have zN_25 := Lib.hid (OwnX.to zN_6.out zhq22)
              have zX_26 := Lib.hid (rangeTo2 zX_7.out zhq22)
              have zHB_27 : Hid (Below w.heap.size w zy21) := Lib.hid (zHB_8.out.trans (zhq22.mono zHB_8.out.size))
              clear zhq22
              clear hbs hle hg hq
              refine zHK20.out _ _ trivial fun _ => ?_
              try simp only [Act.put, List.setIfInBounds_toArray, List.set_cons_zero, List.set_cons_succ]
              refine wpAnyH_ready (rs := [16]) (by kernel_rfl) (by simp) ?_
              refine AllReadyH.cons rfl (fun K hK => ?_) AllReadyH.nil
              have zHK28 := Lib.hid hK
              clear hK
              rw [if_pos (by rfl)]
              go_simp
              refine zHK28.out _ _ trivial fun _ => ?_
              try simp only [Act.put, List.setIfInBounds_toArray, List.set_cons_zero, List.set_cons_succ]
              obtain ⟨zy29, hy⟩ : ∃ q, zy21.alloc (.cells #[.slice (some ⟨gr, 0, none⟩) k cr] 27) = q := ⟨_, rfl⟩
              have C16 : Hid (zy29.cell? ⟨zy21.heap.size, 0, none⟩ = some (.slice (some ⟨gr, 0, none⟩) k cr)) := Lib.hid (by rw [← hy]; exact (row_new zy21 _ _).cell 0)
              have hq16 : Below zy21.heap.size zy21 zy29 := by rw [← hy]; exact (Below.refl _ _).alloc (Nat.le_refl _) _
              rw [hy]
              clear hy
              have zhq30 : Below zy21.heap.size zy21 zy29 := hq16
              have zK_31 := Lib.hid (KbLe.to zK_23.out zhq30)
              have zW_32 := Lib.hid (rowIsTo zW_24.out zhq30)
              have zN_33 := Lib.hid (OwnX.to zN_25.out zhq30)
              have zX_34 := Lib.hid (rangeTo2 zX_26.out zhq30)
              have zR_35 := Lib.hid (Bs.to' RB.out zhq30)
              have zHB_36 : Hid (Below w.heap.size w zy29) := Lib.hid (zHB_27.out.trans (zhq30.mono zHB_27.out.size))
              clear zhq30
              clear hq16
              refine wpAnyH_ready (rs := [17]) (by kernel_rfl) (by simp) ?_
              refine AllReadyH.cons rfl (fun K hK => ?_) AllReadyH.nil
              have zHK37 := Lib.hid hK
              clear hK
              rw [if_pos (by rfl)]
              refine push_row (.tmp 43) (.tmp 56) rfl wo.heap.size M u _ r zy21.heap.size _ (rowX X k i r) rfl zN_33.out zW_32.out.lt (matX_len X k i r) rfl C16.out rfl zR_35.out (fun q hq => ?_) (by omega) zK_31.out.2 ?_
              · have hq2 : gr = q := Option.some.inj hq
                subst hq2
                have h1 := HLE.out
                refine ⟨fun e => ?_, ?_⟩
                · have := (zN_6.out.own _ e).2.1
                  omega
                · have := zW_5.out.lt
                  omega
              intro g7 c7 zy38 hox hg hat
              have N7 := Lib.hid hox
              have HO := zN_33.out.own
              have W7 : Hid (zy38.rowIs M 26 3 (fun j => if j < i then v j else if j = i then u else .slice none 0 0)) := Lib.hid (zW_32.out.of_block (hg.block M zW_32.out.lt (fun e => (HO M e.symm).2.2 rfl)))
              have K7 : Hid (KbLe M wo.heap.size wo zy38) := Lib.hid ⟨zK_31.out.1.trans ⟨hg.size, fun j hj hne => hg.block j (by have := zK_31.out.2; omega) (fun e => by have := (HO j e.symm).1; omega)⟩, Nat.le_trans zK_31.out.2 hg.size⟩
              have B7 : Hid (Below w.heap.size w zy38) := Lib.hid (zHB_36.out.grown hg zHB_36.out.size (fun q e => by have := (HO q e).1; have := A1.out.size; omega))
              clear hox hg hat HO
              refine zHK37.out _ _ trivial fun _ => ?_
              try simp only [Act.put, List.setIfInBounds_toArray, List.set_cons_zero, List.set_cons_succ]
              refine takeD (i := 18) (v := .pointer (some ⟨M, i, none⟩)) (some 58) rfl rfl (by kernel_rfl) (by kernel_rfl) (by kernel_rfl) (fun _ _ _ h => h) (Or.inl ⟨by rfl, by rintro w' -; go_simp⟩) trivial ?_
              simp only [Act.put, List.setIfInBounds_toArray, List.set_cons_zero, List.set_cons_succ]
              refine wpAnyH_ready (rs := [19]) (by kernel_rfl) (by simp) ?_
              refine AllReadyH.cons rfl (fun K hK => ?_) AllReadyH.nil
              have H19 := Lib.hid hK
              clear hK
              rw [if_pos (by rfl)]
              have c19 : zy38.cell? ⟨M, i, none⟩ = some u := by
                have := W7.out.cell hlt
                rwa [if_neg (Nat.lt_irrefl i), if_pos rfl] at this
              have f19 := W7.out.frozen i
              go_simp
              refine H19.out _ _ trivial fun _ => ?_
              clear c19 f19
              refine wpAnyH_done (by kernel_rfl) ?_ _
              go_wp2
              go_roundw
              case rel =>
                refine ⟨r + 1, by omega, by go_num, Lib.hid ⟨B7.out.setCell (by show w.heap.size ≤ M; omega) _, ⟨K7.out.1.set _ _, Nat.le_trans K7.out.2 (by simp [World.setCell])⟩, .slice (some ⟨g7, 0, none⟩) (r + 1) c7, ((W7.out.set i _).congr fun j hj => ?_), by rw [matX_succ]; exact N7.out.kb ((Kb.refl _ _ _).set _ _)⟩⟩
                by_cases e : j = i
                · rw [if_pos e, if_neg (by omega), if_pos e]
                · rw [if_neg e]
                  by_cases e2 : j < i
                  · rw [if_pos e2, if_pos e2]
                  · rw [if_neg e2, if_neg e2, if_neg e, if_neg e]
              case measure => simp [intOf]; omega
            · have zHK18 := Lib.hid hK
              clear hK
              rw [if_pos (by rfl)]
              refine app_row (.tmp 44) (.tmp 54) rfl zwz1.heap.size _ (rowX X k i r) k rfl E4.out rfl (by have := BX.out _ zX_16.out; rw [LO.out] at this; exact this) (by simp [rowX]) hk.1 (by omega) S4.out ?_
              intro gr cr zy19 hbs hg hle
              have RB := Lib.hid hbs
              have HLE := Lib.hid hle
              have hq : Below zwz1.heap.size zwz1 zy19 := Q4B.out.grown hg S4.out (fun k e => by cases e; exact Nat.le_refl _)
              have zhq20 : Below zwz1.heap.size zwz1 zy19 := hq
              have zK_21 := Lib.hid (KbLe.to zK_4.out zhq20)
              have zW_22 := Lib.hid (rowIsTo zW_5.out zhq20)
              have zN_23 := Lib.hid (OwnX.to zN_6.out zhq20)
              have zX_24 := Lib.hid (rangeTo2 zX_7.out zhq20)
              have zHB_25 : Hid (Below w.heap.size w zy19) := Lib.hid (zHB_8.out.trans (zhq20.mono zHB_8.out.size))
              clear zhq20
              clear hbs hle hg hq
              refine zHK18.out _ _ trivial fun _ => ?_
              try simp only [Act.put, List.setIfInBounds_toArray, List.set_cons_zero, List.set_cons_succ]
              refine wpAnyH_ready (rs := [3, 16]) (by kernel_rfl) (by simp) ?_
              refine AllReadyH.cons rfl (fun K hK => ?_) (AllReadyH.cons rfl (fun K hK => ?_) AllReadyH.nil)
              · have zHK26 := Lib.hid hK
                clear hK
                rw [if_pos (by rfl)]
                have zcc27 : zy19.cell? ⟨M, i, none⟩ = some u := by
                  have := zW_22.out.cell hlt
                  rwa [if_neg (Nat.lt_irrefl i), if_pos rfl] at this
                go_simp
                refine zHK26.out _ _ trivial fun _ => ?_
                try simp only [Act.put, List.setIfInBounds_toArray, List.set_cons_zero, List.set_cons_succ]
                clear zcc27
                refine wpAnyH_ready (rs := [16]) (by kernel_rfl) (by simp) ?_
                refine AllReadyH.cons rfl (fun K hK => ?_) AllReadyH.nil
                have zHK28 := Lib.hid hK
                clear hK
                rw [if_pos (by rfl)]
                go_simp
                refine zHK28.out _ _ trivial fun _ => ?_
                try simp only [Act.put, List.setIfInBounds_toArray, List.set_cons_zero, List.set_cons_succ]
                obtain ⟨zy29, hy⟩ : ∃ q, zy19.alloc (.cells #[.slice (some ⟨gr, 0, none⟩) k cr] 27) = q := ⟨_, rfl⟩
                have C16 : Hid (zy29.cell? ⟨zy19.heap.size, 0, none⟩ = some (.slice (some ⟨gr, 0, none⟩) k cr)) := Lib.hid (by rw [← hy]; exact (row_new zy19 _ _).cell 0)
                have hq16 : Below zy19.heap.size zy19 zy29 := by rw [← hy]; exact (Below.refl _ _).alloc (Nat.le_refl _) _
                rw [hy]
                clear hy
                have zhq30 : Below zy19.heap.size zy19 zy29 := hq16
                have zK_31 := Lib.hid (KbLe.to zK_21.out zhq30)
                have zW_32 := Lib.hid (rowIsTo zW_22.out zhq30)
                have zN_33 := Lib.hid (OwnX.to zN_23.out zhq30)
                have zX_34 := Lib.hid (rangeTo2 zX_24.out zhq30)
                have zR_35 := Lib.hid (Bs.to' RB.out zhq30)
                have zHB_36 : Hid (Below w.heap.size w zy29) := Lib.hid (zHB_25.out.trans (zhq30.mono zHB_25.out.size))
                clear zhq30
                clear hq16
                refine wpAnyH_ready (rs := [17]) (by kernel_rfl) (by simp) ?_
                refine AllReadyH.cons rfl (fun K hK => ?_) AllReadyH.nil
                have zHK37 := Lib.hid hK
                clear hK
                rw [if_pos (by rfl)]
                refine push_row (.tmp 43) (.tmp 56) rfl wo.heap.size M u _ r zy19.heap.size _ (rowX X k i r) rfl zN_33.out zW_32.out.lt (matX_len X k i r) rfl C16.out rfl zR_35.out (fun q hq => ?_) (by omega) zK_31.out.2 ?_
                · have hq2 : gr = q := Option.some.inj hq
                  subst hq2
                  have h1 := HLE.out
                  refine ⟨fun e => ?_, ?_⟩
                  · have := (zN_6.out.own _ e).2.1
                    omega
                  · have := zW_5.out.lt
                    omega
                intro g7 c7 zy38 hox hg hat
                have N7 := Lib.hid hox
                have HO := zN_33.out.own
                have W7 : Hid (zy38.rowIs M 26 3 (fun j => if j < i then v j else if j = i then u else .slice none 0 0)) := Lib.hid (zW_32.out.of_block (hg.block M zW_32.out.lt (fun e => (HO M e.symm).2.2 rfl)))
                have K7 : Hid (KbLe M wo.heap.size wo zy38) := Lib.hid ⟨zK_31.out.1.trans ⟨hg.size, fun j hj hne => hg.block j (by have := zK_31.out.2; omega) (fun e => by have := (HO j e.symm).1; omega)⟩, Nat.le_trans zK_31.out.2 hg.size⟩
                have B7 : Hid (Below w.heap.size w zy38) := Lib.hid (zHB_36.out.grown hg zHB_36.out.size (fun q e => by have := (HO q e).1; have := A1.out.size; omega))
                clear hox hg hat HO
                refine zHK37.out _ _ trivial fun _ => ?_
                try simp only [Act.put, List.setIfInBounds_toArray, List.set_cons_zero, List.set_cons_succ]
                refine takeD (i := 18) (v := .pointer (some ⟨M, i, none⟩)) (some 58) rfl rfl (by kernel_rfl) (by kernel_rfl) (by kernel_rfl) (fun _ _ _ h => h) (Or.inl ⟨by rfl, by rintro w' -; go_simp⟩) trivial ?_
                simp only [Act.put, List.setIfInBounds_toArray, List.set_cons_zero, List.set_cons_succ]
                refine wpAnyH_ready (rs := [19]) (by kernel_rfl) (by simp) ?_
                refine AllReadyH.cons rfl (fun K hK => ?_) AllReadyH.nil
                have H19 := Lib.hid hK
                clear hK
                rw [if_pos (by rfl)]
                have c19 : zy38.cell? ⟨M, i, none⟩ = some u := by
                  have := W7.out.cell hlt
                  rwa [if_neg (Nat.lt_irrefl i), if_pos rfl] at this
                have f19 := W7.out.frozen i
                go_simp
                refine H19.out _ _ trivial fun _ => ?_
                clear c19 f19
                refine wpAnyH_done (by kernel_rfl) ?_ _
                go_wp2
                go_roundw
                case rel =>
                  refine ⟨r + 1, by omega, by go_num, Lib.hid ⟨B7.out.setCell (by show w.heap.size ≤ M; omega) _, ⟨K7.out.1.set _ _, Nat.le_trans K7.out.2 (by simp [World.setCell])⟩, .slice (some ⟨g7, 0, none⟩) (r + 1) c7, ((W7.out.set i _).congr fun j hj => ?_), by rw [matX_succ]; exact N7.out.kb ((Kb.refl _ _ _).set _ _)⟩⟩
                  by_cases e : j = i
                  · rw [if_pos e, if_neg (by omega), if_pos e]
                  · rw [if_neg e]
                    by_cases e2 : j < i
                    · rw [if_pos e2, if_pos e2]
                    · rw [if_neg e2, if_neg e2, if_neg e, if_neg e]
                case measure => simp [intOf]; omega
              · have zHK26 := Lib.hid hK
                clear hK
                rw [if_pos (by rfl)]
                go_simp
                refine zHK26.out _ _ trivial fun _ => ?_
                try simp only [Act.put, List.setIfInBounds_toArray, List.set_cons_zero, List.set_cons_succ]
                obtain ⟨zy27, hy⟩ : ∃ q, zy19.alloc (.cells #[.slice (some ⟨gr, 0, none⟩) k cr] 27) = q := ⟨_, rfl⟩
                have C16 : Hid (zy27.cell? ⟨zy19.heap.size, 0, none⟩ = some (.slice (some ⟨gr, 0, none⟩) k cr)) := Lib.hid (by rw [← hy]; exact (row_new zy19 _ _).cell 0)
                have hq16 : Below zy19.heap.size zy19 zy27 := by rw [← hy]; exact (Below.refl _ _).alloc (Nat.le_refl _) _
                rw [hy]
                clear hy
                have zhq28 : Below zy19.heap.size zy19 zy27 := hq16
                have zK_29 := Lib.hid (KbLe.to zK_21.out zhq28)
                have zW_30 := Lib.hid (rowIsTo zW_22.out zhq28)
                have zN_31 := Lib.hid (OwnX.to zN_23.out zhq28)
                have zX_32 := Lib.hid (rangeTo2 zX_24.out zhq28)
                have zR_33 := Lib.hid (Bs.to' RB.out zhq28)
                have zHB_34 : Hid (Below w.heap.size w zy27) := Lib.hid (zHB_25.out.trans (zhq28.mono zHB_25.out.size))
                clear zhq28
                clear hq16
                refine wpAnyH_ready (rs := [3]) (by kernel_rfl) (by simp) ?_
                refine AllReadyH.cons rfl (fun K hK => ?_) AllReadyH.nil
                have zHK35 := Lib.hid hK
                clear hK
                rw [if_pos (by rfl)]
                have zcc36 : zy27.cell? ⟨M, i, none⟩ = some u := by
                  have := zW_30.out.cell hlt
                  rwa [if_neg (Nat.lt_irrefl i), if_pos rfl] at this
                go_simp
                refine zHK35.out _ _ trivial fun _ => ?_
                try simp only [Act.put, List.setIfInBounds_toArray, List.set_cons_zero, List.set_cons_succ]
                clear zcc36
                refine wpAnyH_ready (rs := [17]) (by kernel_rfl) (by simp) ?_
                refine AllReadyH.cons rfl (fun K hK => ?_) AllReadyH.nil
                have zHK37 := Lib.hid hK
                clear hK
                rw [if_pos (by rfl)]
                refine push_row (.tmp 43) (.tmp 56) rfl wo.heap.size M u _ r zy19.heap.size _ (rowX X k i r) rfl zN_31.out zW_30.out.lt (matX_len X k i r) rfl C16.out rfl zR_33.out (fun q hq => ?_) (by omega) zK_29.out.2 ?_
                · have hq2 : gr = q := Option.some.inj hq
                  subst hq2
                  have h1 := HLE.out
                  refine ⟨fun e => ?_, ?_⟩
                  · have := (zN_6.out.own _ e).2.1
                    omega
                  · have := zW_5.out.lt
                    omega
                intro g7 c7 zy38 hox hg hat
                have N7 := Lib.hid hox
                have HO := zN_31.out.own
                have W7 : Hid (zy38.rowIs M 26 3 (fun j => if j < i then v j else if j = i then u else .slice none 0 0)) := Lib.hid (zW_30.out.of_block (hg.block M zW_30.out.lt (fun e => (HO M e.symm).2.2 rfl)))
                have K7 : Hid (KbLe M wo.heap.size wo zy38) := Lib.hid ⟨zK_29.out.1.trans ⟨hg.size, fun j hj hne => hg.block j (by have := zK_29.out.2; omega) (fun e => by have := (HO j e.symm).1; omega)⟩, Nat.le_trans zK_29.out.2 hg.size⟩
                have B7 : Hid (Below w.heap.size w zy38) := Lib.hid (zHB_34.out.grown hg zHB_34.out.size (fun q e => by have := (HO q e).1; have := A1.out.size; omega))
                clear hox hg hat HO
                refine zHK37.out _ _ trivial fun _ => ?_
                try simp only [Act.put, List.setIfInBounds_toArray, List.set_cons_zero, List.set_cons_succ]
                refine takeD (i := 18) (v := .pointer (some ⟨M, i, none⟩)) (some 58) rfl rfl (by kernel_rfl) (by kernel_rfl) (by kernel_rfl) (fun _ _ _ h => h) (Or.inl ⟨by rfl, by rintro w' -; go_simp⟩) trivial ?_
                simp only [Act.put, List.setIfInBounds_toArray, List.set_cons_zero, List.set_cons_succ]
                refine wpAnyH_ready (rs := [19]) (by kernel_rfl) (by simp) ?_
                refine AllReadyH.cons rfl (fun K hK => ?_) AllReadyH.nil
                have H19 := Lib.hid hK
                clear hK
                rw [if_pos (by rfl)]
                have c19 : zy38.cell? ⟨M, i, none⟩ = some u := by
                  have := W7.out.cell hlt
                  rwa [if_neg (Nat.lt_irrefl i), if_pos rfl] at this
                have f19 := W7.out.frozen i
                go_simp
                refine H19.out _ _ trivial fun _ => ?_
                clear c19 f19
                refine wpAnyH_done (by kernel_rfl) ?_ _
                go_wp2
                go_roundw
                case rel =>
                  refine ⟨r + 1, by omega, by go_num, Lib.hid ⟨B7.out.setCell (by show w.heap.size ≤ M; omega) _, ⟨K7.out.1.set _ _, Nat.le_trans K7.out.2 (by simp [World.setCell])⟩, .slice (some ⟨g7, 0, none⟩) (r + 1) c7, ((W7.out.set i _).congr fun j hj => ?_), by rw [matX_succ]; exact N7.out.kb ((Kb.refl _ _ _).set _ _)⟩⟩
                  by_cases e : j = i
                  · rw [if_pos e, if_neg (by omega), if_pos e]
                  · rw [if_neg e]
                    by_cases e2 : j < i
                    · rw [if_pos e2, if_pos e2]
                    · rw [if_neg e2, if_neg e2, if_neg e, if_neg e]
                case measure => simp [intOf]; omega
        · have er : r = k := by omega
          have E := Lib.hid er
          clear er
          go_wp2
          go_roundw
          case rel =>
            obtain ⟨b1, b2, u, b3, b4⟩ := H2.out
            rw [E.out] at b4
            refine ⟨i + 1, by omega, by go_num, Lib.hid ⟨b1, rangeKb A2.out b2.1 (by omega), fun j => if j = i then u else v j, b3.congr fun j hj => ?_, fun j hj => ?_⟩⟩
            · by_cases e : j = i
              · subst e
                rw [if_neg (Nat.lt_irrefl j), if_pos rfl, if_pos (Nat.lt_succ_self j)]
                exact (if_pos rfl).symm
              · by_cases e2 : j < i
                · rw [if_pos e2, if_pos (by omega)]
                  exact (if_neg e).symm
                · rw [if_neg e2, if_neg e, if_neg (by omega)]
            · by_cases e : j = i
              · subst e
                dsimp only; rw [if_pos rfl]; exact b4.low
              · dsimp only; rw [if_neg e]; exact (A4.out j (by omega)).kb b2.1
          case measure => simp [intOf]; omega
    · obtain rfl : i = 3 := by omega
      obtain ⟨a1, a2, v, a3, a4⟩ := H.out
      have d0 := a3.cell (i := 0) (by decide)
      have d1 := a3.cell (i := 1) (by decide)
      have d2 := a3.cell (i := 2) (by decide)
      have m0 := (a4 0 (by decide)).ownL.sl
      have m1 := (a4 1 (by decide)).ownL.sl
      have m2 := (a4 2 (by decide)).ownL.sl
      rw [if_pos (by decide)] at d0 d1 d2
      clear a2 a3 a4 H
      generalize v 0 = va at d0 m0
      generalize v 1 = vb at d1 m1
      generalize v 2 = vc at d2 m2
      have RA := Lib.hid (matX_rect h8 k 0)
      have RB := Lib.hid (matX_rect h8 k 1)
      have RC := Lib.hid (matX_rect h8 k 2)
      generalize matX X k 0 k = A at RA m0
      generalize matX X k 1 k = B at RB m1
      generalize matX X k 2 k = C at RC m2
      have HA := Lib.hid m0
      have HB := Lib.hid m1
      have HC := Lib.hid m2
      have D0 := Lib.hid d0
      have D1 := Lib.hid d1
      have D2 := Lib.hid d2
      have HBB := Lib.hid a1
      have RAB := Lib.hid (mulL_rect (c := k) RA.out B)
      have RBC := Lib.hid (mulL_rect (c := k) RB.out C)
      have RT := Lib.hid (trans_rect (m := A) k k RA.out.by)
      have RU := Lib.hid (trans_rect (m := B) k k RB.out.by)
      have AS := Lib.hid (mul_assocL RA.out RB.out RC.out)
      have TR := Lib.hid (trans_mulL RA.out RB.out)
      clear m0 m1 m2 d0 d1 d2 a1 v
      have v_c0 := D0.out
      have v_c1 := D1.out
      have v_c2 := D2.out
      go_wp2_with fail
      clear v_c0 v_c1 v_c2
      refine (mul_b _ _ _ _ _ k _ HA.out RA.out HB.out RB.out hk rfl).mono ?_
      rintro e tx2 ⟨vab, rfl, thn3, thb1⟩
      have thq4 : Below wo.heap.size wo tx2 := thb1
      have tA_5 := Lib.hid (MsTo HA.out thq4)
      have tB_6 := Lib.hid (MsTo HB.out thq4)
      have tC_7 := Lib.hid (MsTo HC.out thq4)
      have tc0_8 := Lib.hid (cellTo D0.out thq4)
      have tc1_9 := Lib.hid (cellTo D1.out thq4)
      have tc2_10 := Lib.hid (cellTo D2.out thq4)
      have tHB_11 : Hid (Below w.heap.size w tx2) := Lib.hid (HBB.out.trans (thq4.mono HBB.out.size))
      clear thq4
      have tAB_12 := Lib.hid thn3
      clear thb1 thn3
      have v_c0 := tc0_8.out
      have v_c1 := tc1_9.out
      have v_c2 := tc2_10.out
      go_wp2_with fail
      clear v_c0 v_c1 v_c2
      refine (mul_b _ _ _ _ _ k _ tB_6.out RB.out tC_7.out RC.out hk rfl).mono ?_
      rintro e tx14 ⟨vbc, rfl, thn15, thb13⟩
      have thq16 : Below tx2.heap.size tx2 tx14 := thb13
      have tA_17 := Lib.hid (MsTo tA_5.out thq16)
      have tB_18 := Lib.hid (MsTo tB_6.out thq16)
      have tC_19 := Lib.hid (MsTo tC_7.out thq16)
      have tc0_20 := Lib.hid (cellTo tc0_8.out thq16)
      have tc1_21 := Lib.hid (cellTo tc1_9.out thq16)
      have tc2_22 := Lib.hid (cellTo tc2_10.out thq16)
      have tAB_23 := Lib.hid (MsTo tAB_12.out thq16)
      have tHB_24 : Hid (Below w.heap.size w tx14) := Lib.hid (tHB_11.out.trans (thq16.mono tHB_11.out.size))
      clear thq16
      have tBC_25 := Lib.hid thn15
      clear thb13 thn15
      have v_c0 := tc0_20.out
      have v_c1 := tc1_21.out
      have v_c2 := tc2_22.out
      go_wp2_with fail
      clear v_c0 v_c1 v_c2
      refine (mul_b _ _ _ _ _ k _ tAB_23.out RAB.out tC_19.out RC.out hk rfl).mono ?_
      rintro e tx27 ⟨vle, rfl, thn28, thb26⟩
      have thq29 : Below tx14.heap.size tx14 tx27 := thb26
      have tA_30 := Lib.hid (MsTo tA_17.out thq29)
      have tB_31 := Lib.hid (MsTo tB_18.out thq29)
      have tC_32 := Lib.hid (MsTo tC_19.out thq29)
      have tc0_33 := Lib.hid (cellTo tc0_20.out thq29)
      have tc1_34 := Lib.hid (cellTo tc1_21.out thq29)
      have tc2_35 := Lib.hid (cellTo tc2_22.out thq29)
      have tAB_36 := Lib.hid (MsTo tAB_23.out thq29)
      have tBC_37 := Lib.hid (MsTo tBC_25.out thq29)
      have tHB_38 : Hid (Below w.heap.size w tx27) := Lib.hid (tHB_24.out.trans (thq29.mono tHB_24.out.size))
      clear thq29
      have tLE_39 := Lib.hid thn28
      clear thb26 thn28
      have v_c0 := tc0_33.out
      have v_c1 := tc1_34.out
      have v_c2 := tc2_35.out
      go_wp2_with fail
      clear v_c0 v_c1 v_c2
      refine (mul_b _ _ _ _ _ k _ tA_30.out RA.out tBC_37.out RBC.out hk rfl).mono ?_
      rintro e tx41 ⟨vri, rfl, thn42, thb40⟩
      have thq43 : Below tx27.heap.size tx27 tx41 := thb40
      have tA_44 := Lib.hid (MsTo tA_30.out thq43)
      have tB_45 := Lib.hid (MsTo tB_31.out thq43)
      have tC_46 := Lib.hid (MsTo tC_32.out thq43)
      have tc0_47 := Lib.hid (cellTo tc0_33.out thq43)
      have tc1_48 := Lib.hid (cellTo tc1_34.out thq43)
      have tc2_49 := Lib.hid (cellTo tc2_35.out thq43)
      have tAB_50 := Lib.hid (MsTo tAB_36.out thq43)
      have tBC_51 := Lib.hid (MsTo tBC_37.out thq43)
      have tLE_52 := Lib.hid (MsTo tLE_39.out thq43)
      have tHB_53 : Hid (Below w.heap.size w tx41) := Lib.hid (tHB_38.out.trans (thq43.mono tHB_38.out.size))
      clear thq43
      have tRI_54 := Lib.hid thn42
      clear thb40 thn42
      have v_c0 := tc0_47.out
      have v_c1 := tc1_48.out
      have v_c2 := tc2_49.out
      go_wp2_with fail
      clear v_c0 v_c1 v_c2
      refine (ident_b k _ hk).mono ?_
      rintro e tx56 ⟨vone, rfl, thn57, thb55⟩
      have thq58 : Below tx41.heap.size tx41 tx56 := thb55
      have tA_59 := Lib.hid (MsTo tA_44.out thq58)
      have tB_60 := Lib.hid (MsTo tB_45.out thq58)
      have tC_61 := Lib.hid (MsTo tC_46.out thq58)
      have tc0_62 := Lib.hid (cellTo tc0_47.out thq58)
      have tc1_63 := Lib.hid (cellTo tc1_48.out thq58)
      have tc2_64 := Lib.hid (cellTo tc2_49.out thq58)
      have tAB_65 := Lib.hid (MsTo tAB_50.out thq58)
      have tBC_66 := Lib.hid (MsTo tBC_51.out thq58)
      have tLE_67 := Lib.hid (MsTo tLE_52.out thq58)
      have tRI_68 := Lib.hid (MsTo tRI_54.out thq58)
      have tHB_69 : Hid (Below w.heap.size w tx56) := Lib.hid (tHB_53.out.trans (thq58.mono tHB_53.out.size))
      clear thq58
      have tON_70 := Lib.hid thn57
      clear thb55 thn57
      have v_c0 := tc0_62.out
      have v_c1 := tc1_63.out
      have v_c2 := tc2_64.out
      go_wp2_with fail
      clear v_c0 v_c1 v_c2
      refine (mul_b _ _ _ _ A k _ tA_59.out RA.out tON_70.out (idL_rect k) hk (mul_idL RA.out)).mono ?_
      rintro e tx72 ⟨vsa, rfl, thn73, thb71⟩
      have thq74 : Below tx56.heap.size tx56 tx72 := thb71
      have tA_75 := Lib.hid (MsTo tA_59.out thq74)
      have tB_76 := Lib.hid (MsTo tB_60.out thq74)
      have tC_77 := Lib.hid (MsTo tC_61.out thq74)
      have tc0_78 := Lib.hid (cellTo tc0_62.out thq74)
      have tc1_79 := Lib.hid (cellTo tc1_63.out thq74)
      have tc2_80 := Lib.hid (cellTo tc2_64.out thq74)
      have tAB_81 := Lib.hid (MsTo tAB_65.out thq74)
      have tBC_82 := Lib.hid (MsTo tBC_66.out thq74)
      have tLE_83 := Lib.hid (MsTo tLE_67.out thq74)
      have tRI_84 := Lib.hid (MsTo tRI_68.out thq74)
      have tON_85 := Lib.hid (MsTo tON_70.out thq74)
      have tHB_86 : Hid (Below w.heap.size w tx72) := Lib.hid (tHB_69.out.trans (thq74.mono tHB_69.out.size))
      clear thq74
      have tSA_87 := Lib.hid thn73
      clear thb71 thn73
      have v_c0 := tc0_78.out
      have v_c1 := tc1_79.out
      have v_c2 := tc2_80.out
      go_wp2_with fail
      clear v_c0 v_c1 v_c2
      refine (msame_t _ _ _ _ _ tLE_83.out tRI_84.out AS.out).mono ?_
      rintro e tx89 ⟨rfl, thb88⟩
      have thq90 : Below tx72.heap.size tx72 tx89 := thb88
      have tA_91 := Lib.hid (MsTo tA_75.out thq90)
      have tB_92 := Lib.hid (MsTo tB_76.out thq90)
      have tC_93 := Lib.hid (MsTo tC_77.out thq90)
      have tc0_94 := Lib.hid (cellTo tc0_78.out thq90)
      have tc1_95 := Lib.hid (cellTo tc1_79.out thq90)
      have tc2_96 := Lib.hid (cellTo tc2_80.out thq90)
      have tAB_97 := Lib.hid (MsTo tAB_81.out thq90)
      have tBC_98 := Lib.hid (MsTo tBC_82.out thq90)
      have tLE_99 := Lib.hid (MsTo tLE_83.out thq90)
      have tRI_100 := Lib.hid (MsTo tRI_84.out thq90)
      have tON_101 := Lib.hid (MsTo tON_85.out thq90)
      have tSA_102 := Lib.hid (MsTo tSA_87.out thq90)
      have tHB_103 : Hid (Below w.heap.size w tx89) := Lib.hid (tHB_86.out.trans (thq90.mono tHB_86.out.size))
      clear thq90
      clear thb88
      have v_c0 := tc0_94.out
      have v_c1 := tc1_95.out
      have v_c2 := tc2_96.out
      go_wp2_with fail
      clear v_c0 v_c1 v_c2
      refine (msame_t _ _ _ _ _ tSA_102.out tA_91.out rfl).mono ?_
      rintro e tx105 ⟨rfl, thb104⟩
      have thq106 : Below tx89.heap.size tx89 tx105 := thb104
      have tA_107 := Lib.hid (MsTo tA_91.out thq106)
      have tB_108 := Lib.hid (MsTo tB_92.out thq106)
      have tC_109 := Lib.hid (MsTo tC_93.out thq106)
      have tc0_110 := Lib.hid (cellTo tc0_94.out thq106)
      have tc1_111 := Lib.hid (cellTo tc1_95.out thq106)
      have tc2_112 := Lib.hid (cellTo tc2_96.out thq106)
      have tAB_113 := Lib.hid (MsTo tAB_97.out thq106)
      have tBC_114 := Lib.hid (MsTo tBC_98.out thq106)
      have tLE_115 := Lib.hid (MsTo tLE_99.out thq106)
      have tRI_116 := Lib.hid (MsTo tRI_100.out thq106)
      have tON_117 := Lib.hid (MsTo tON_101.out thq106)
      have tSA_118 := Lib.hid (MsTo tSA_102.out thq106)
      have tHB_119 : Hid (Below w.heap.size w tx105) := Lib.hid (tHB_103.out.trans (thq106.mono tHB_103.out.size))
      clear thq106
      clear thb104
      have v_c0 := tc0_110.out
      have v_c1 := tc1_111.out
      have v_c2 := tc2_112.out
      go_wp2_with fail
      clear v_c0 v_c1 v_c2
      refine (trans_b _ _ _ k _ tA_107.out RA.out hk rfl).mono ?_
      rintro e tx121 ⟨vat, rfl, thn122, thb120⟩
      have thq123 : Below tx105.heap.size tx105 tx121 := thb120
      have tA_124 := Lib.hid (MsTo tA_107.out thq123)
      have tB_125 := Lib.hid (MsTo tB_108.out thq123)
      have tC_126 := Lib.hid (MsTo tC_109.out thq123)
      have tc0_127 := Lib.hid (cellTo tc0_110.out thq123)
      have tc1_128 := Lib.hid (cellTo tc1_111.out thq123)
      have tc2_129 := Lib.hid (cellTo tc2_112.out thq123)
      have tAB_130 := Lib.hid (MsTo tAB_113.out thq123)
      have tBC_131 := Lib.hid (MsTo tBC_114.out thq123)
      have tLE_132 := Lib.hid (MsTo tLE_115.out thq123)
      have tRI_133 := Lib.hid (MsTo tRI_116.out thq123)
      have tON_134 := Lib.hid (MsTo tON_117.out thq123)
      have tSA_135 := Lib.hid (MsTo tSA_118.out thq123)
      have tHB_136 : Hid (Below w.heap.size w tx121) := Lib.hid (tHB_119.out.trans (thq123.mono tHB_119.out.size))
      clear thq123
      have tAT_137 := Lib.hid thn122
      clear thb120 thn122
      have v_c0 := tc0_127.out
      have v_c1 := tc1_128.out
      have v_c2 := tc2_129.out
      go_wp2_with fail
      clear v_c0 v_c1 v_c2
      refine (trans_b _ _ _ k _ tB_125.out RB.out hk rfl).mono ?_
      rintro e tx139 ⟨vbt, rfl, thn140, thb138⟩
      have thq141 : Below tx121.heap.size tx121 tx139 := thb138
      have tA_142 := Lib.hid (MsTo tA_124.out thq141)
      have tB_143 := Lib.hid (MsTo tB_125.out thq141)
      have tC_144 := Lib.hid (MsTo tC_126.out thq141)
      have tc0_145 := Lib.hid (cellTo tc0_127.out thq141)
      have tc1_146 := Lib.hid (cellTo tc1_128.out thq141)
      have tc2_147 := Lib.hid (cellTo tc2_129.out thq141)
      have tAB_148 := Lib.hid (MsTo tAB_130.out thq141)
      have tBC_149 := Lib.hid (MsTo tBC_131.out thq141)
      have tLE_150 := Lib.hid (MsTo tLE_132.out thq141)
      have tRI_151 := Lib.hid (MsTo tRI_133.out thq141)
      have tON_152 := Lib.hid (MsTo tON_134.out thq141)
      have tSA_153 := Lib.hid (MsTo tSA_135.out thq141)
      have tAT_154 := Lib.hid (MsTo tAT_137.out thq141)
      have tHB_155 : Hid (Below w.heap.size w tx139) := Lib.hid (tHB_136.out.trans (thq141.mono tHB_136.out.size))
      clear thq141
      have tBT_156 := Lib.hid thn140
      clear thb138 thn140
      have v_c0 := tc0_145.out
      have v_c1 := tc1_146.out
      have v_c2 := tc2_147.out
      go_wp2_with fail
      clear v_c0 v_c1 v_c2
      refine (trans_b _ _ _ k _ tAB_148.out RAB.out hk rfl).mono ?_
      rintro e tx158 ⟨vabt, rfl, thn159, thb157⟩
      have thq160 : Below tx139.heap.size tx139 tx158 := thb157
      have tA_161 := Lib.hid (MsTo tA_142.out thq160)
      have tB_162 := Lib.hid (MsTo tB_143.out thq160)
      have tC_163 := Lib.hid (MsTo tC_144.out thq160)
      have tc0_164 := Lib.hid (cellTo tc0_145.out thq160)
      have tc1_165 := Lib.hid (cellTo tc1_146.out thq160)
      have tc2_166 := Lib.hid (cellTo tc2_147.out thq160)
      have tAB_167 := Lib.hid (MsTo tAB_148.out thq160)
      have tBC_168 := Lib.hid (MsTo tBC_149.out thq160)
      have tLE_169 := Lib.hid (MsTo tLE_150.out thq160)
      have tRI_170 := Lib.hid (MsTo tRI_151.out thq160)
      have tON_171 := Lib.hid (MsTo tON_152.out thq160)
      have tSA_172 := Lib.hid (MsTo tSA_153.out thq160)
      have tAT_173 := Lib.hid (MsTo tAT_154.out thq160)
      have tBT_174 := Lib.hid (MsTo tBT_156.out thq160)
      have tHB_175 : Hid (Below w.heap.size w tx158) := Lib.hid (tHB_155.out.trans (thq160.mono tHB_155.out.size))
      clear thq160
      have tABT_176 := Lib.hid thn159
      clear thb157 thn159
      have v_c0 := tc0_164.out
      have v_c1 := tc1_165.out
      have v_c2 := tc2_166.out
      go_wp2_with fail
      clear v_c0 v_c1 v_c2
      refine (mul_b _ _ _ _ _ k _ tBT_174.out RU.out tAT_173.out RT.out hk rfl).mono ?_
      rintro e tx178 ⟨vpp, rfl, thn179, thb177⟩
      have thq180 : Below tx158.heap.size tx158 tx178 := thb177
      have tA_181 := Lib.hid (MsTo tA_161.out thq180)
      have tB_182 := Lib.hid (MsTo tB_162.out thq180)
      have tC_183 := Lib.hid (MsTo tC_163.out thq180)
      have tc0_184 := Lib.hid (cellTo tc0_164.out thq180)
      have tc1_185 := Lib.hid (cellTo tc1_165.out thq180)
      have tc2_186 := Lib.hid (cellTo tc2_166.out thq180)
      have tAB_187 := Lib.hid (MsTo tAB_167.out thq180)
      have tBC_188 := Lib.hid (MsTo tBC_168.out thq180)
      have tLE_189 := Lib.hid (MsTo tLE_169.out thq180)
      have tRI_190 := Lib.hid (MsTo tRI_170.out thq180)
      have tON_191 := Lib.hid (MsTo tON_171.out thq180)
      have tSA_192 := Lib.hid (MsTo tSA_172.out thq180)
      have tAT_193 := Lib.hid (MsTo tAT_173.out thq180)
      have tBT_194 := Lib.hid (MsTo tBT_174.out thq180)
      have tABT_195 := Lib.hid (MsTo tABT_176.out thq180)
      have tHB_196 : Hid (Below w.heap.size w tx178) := Lib.hid (tHB_175.out.trans (thq180.mono tHB_175.out.size))
      clear thq180
      have tPP_197 := Lib.hid thn179
      clear thb177 thn179
      have v_c0 := tc0_184.out
      have v_c1 := tc1_185.out
      have v_c2 := tc2_186.out
      go_wp2_with fail
      clear v_c0 v_c1 v_c2
      refine (msame_t _ _ _ _ _ tABT_195.out tPP_197.out TR.out).mono ?_
      rintro e tx199 ⟨rfl, thb198⟩
      have thq200 : Below tx178.heap.size tx178 tx199 := thb198
      have tA_201 := Lib.hid (MsTo tA_181.out thq200)
      have tB_202 := Lib.hid (MsTo tB_182.out thq200)
      have tC_203 := Lib.hid (MsTo tC_183.out thq200)
      have tc0_204 := Lib.hid (cellTo tc0_184.out thq200)
      have tc1_205 := Lib.hid (cellTo tc1_185.out thq200)
      have tc2_206 := Lib.hid (cellTo tc2_186.out thq200)
      have tAB_207 := Lib.hid (MsTo tAB_187.out thq200)
      have tBC_208 := Lib.hid (MsTo tBC_188.out thq200)
      have tLE_209 := Lib.hid (MsTo tLE_189.out thq200)
      have tRI_210 := Lib.hid (MsTo tRI_190.out thq200)
      have tON_211 := Lib.hid (MsTo tON_191.out thq200)
      have tSA_212 := Lib.hid (MsTo tSA_192.out thq200)
      have tAT_213 := Lib.hid (MsTo tAT_193.out thq200)
      have tBT_214 := Lib.hid (MsTo tBT_194.out thq200)
      have tABT_215 := Lib.hid (MsTo tABT_195.out thq200)
      have tPP_216 := Lib.hid (MsTo tPP_197.out thq200)
      have tHB_217 : Hid (Below w.heap.size w tx199) := Lib.hid (tHB_196.out.trans (thq200.mono tHB_196.out.size))
      clear thq200
      clear thb198
      have v_c0 := tc0_204.out
      have v_c1 := tc1_205.out
      have v_c2 := tc2_206.out
      go_wp2_with fail
      clear v_c0 v_c1 v_c2
      go_ret
      exact ⟨by first | rfl | simp, tHB_217.out⟩
end Go.Proofs.Ytfhgalfdlkdliaa
