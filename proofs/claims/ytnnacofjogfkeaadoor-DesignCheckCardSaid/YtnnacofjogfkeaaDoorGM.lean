/- Joined: Sg Sh Si Sj Sk Sn. -/
import Derived.Test.YtnnacofjogfkeaaDoorGL
import Derived.Test.YtnnacofjogfkeaaDoorRr
namespace Go.Proofs.YtnnacofjogfkeaaDoor
open Go Go.RowKit
set_option linter.unusedVariables false
set_option linter.unusedSimpArgs false

theorem fcell {w w' : World} {p : Addr} {u : Value} (h : w.cell? p = some u) (hb : Below w.heap.size w w') : w'.cell? p = some u := (hb.cell (World.block_lt_of_cell? w _ h)).trans h
theorem struct_cells (w : World) (a b c : Value) (t : TypeId) (n : Nat) (hn : w.heap.size = n) : (w.alloc (.cells #[a, b, c] t)).cell? ⟨n, 0, none⟩ = some a ∧ (w.alloc (.cells #[a, b, c] t)).cell? ⟨n, 1, none⟩ = some b ∧ (w.alloc (.cells #[a, b, c] t)).cell? ⟨n, 2, none⟩ = some c := by
  subst hn
  refine ⟨?_, ?_, ?_⟩ <;> (rw [cell_of_row _ _ _ _ _ _ (heap_alloc_new w _)]; rfl)
theorem digitwise_b (p : Nat) (w : World) : Calls Tryd.prog 57 #[.int .i64 (p : Int)] w fun e w' => ∃ B, e = .returned (addV B) ∧ Cap w' B (.int .i64 (p : Int)) ∧ Below w.heap.size w w' :=
  (digitwise_any p w).mono fun _ _ h => ⟨_, h⟩
theorem modulo_b (p : Nat) (w : World) : Calls Tryd.prog 58 #[.int .i64 (p : Int)] w fun e w' => ∃ B, e = .returned (modV B) ∧ Cap w' B (.int .i64 (p : Int)) ∧ Below w.heap.size w w' :=
  (modulo_any p w).mono fun _ _ h => ⟨_, h⟩
theorem table_b (q : Nat) (g : Nat → Nat → Nat) (v : Value) (w : World) (hq : q ≤ 9) (hF : Fv q g w v) :
    Calls Tryd.prog 60 #[.int .i64 (q : Int), v] w fun e w' => ∃ B, e = .returned (.slice (some ⟨B, 0, none⟩) q q) ∧ Tb w' (.slice (some ⟨B, 0, none⟩) q q) q g ∧ Below w.heap.size w w' :=
  (table_any q g v w hq hF).mono fun e w' ⟨u, he, ht, hb⟩ => by
    obtain ⟨B, rfl, h1, h2⟩ := ht
    exact ⟨B, he, ⟨B, rfl, h1, h2⟩, hb⟩
def newPost (q : Nat) (w : World) (e : Ending) (w' : World) : Prop := ∃ u, e = .returned (.tuple #[u, .int .i64 0]) ∧ Fd w' u q ∧ Below w.heap.size w w'

set_option maxHeartbeats 2000000 in
set_option maxRecDepth 100000 in
theorem new_prime (q : Nat) (w : World) (hK : Kd w) (hq : q ∈ Sf.sizes) (hp : Sf.prm q = q) : Calls Tryd.prog 51 #[.int .i64 (q : Int)] w (newPost q w) := by
  obtain ⟨C, hC⟩ : ∃ C, kindC = C := ⟨_, rfl⟩
  have KI := Lib.hid kind_at
  have KR := hK
  unfold Kd at KR
  rw [hC] at KI KR
  have SI : Hid ((Tryd.prog.info? 95).map (·.size) = some C.length) := Lib.hid (by rw [← hC]; kernel_rfl)
  have KR' := Lib.hid KR
  have HP := Lib.hid hp
  have HA := Lib.hid (kS_all q hq)
  have QS := Lib.hid hq
  have q9 : q ≤ 9 := (Sf.prm_ok hq).2.2.1
  have PK := Lib.hid (Sf.prm_ok hq)
  clear KR hK hq hC hp
  go_enter Tryd.func51, Tryd.ntmps51
  go_wp2_with (refine wpList_load_mid rfl _ _ rfl 1 0 rfl C _ KR'.out Tryd.underlying95 rfl SI.out ?_)
  go_loopw [5, 6, 7, 9] (fun _ _ _ i wr => ∃ k : Nat, k ≤ 7 ∧ i = .int .i64 (k : Int) ∧ Hid (Below w.heap.size w wr ∧ ∀ j, j < k → kS j ≠ q)) (fun _ _ _ i _ => 7 - (intOf i).toNat)
  case atStart => exact ⟨0, by omega, rfl, Lib.hid ⟨Below.refl _ _, fun j hj => absurd hj (Nat.not_lt_zero j)⟩⟩
  case round =>
    obtain ⟨k, hk, rfl, H⟩ := hrel
    by_cases hlt : k < 7
    · have hkI : (k : Int) < 7 := by omega
      have hidx := KI.out k hlt
      obtain ⟨s, hs⟩ : ∃ s, kS k = s := ⟨_, rfl⟩
      obtain ⟨p, hpe⟩ : ∃ p, Sf.prm s = p := ⟨_, rfl⟩
      obtain ⟨o, ho⟩ : ∃ o, Sf.ovf s = o := ⟨_, rfl⟩
      rw [hs, hpe, ho] at hidx
      by_cases heq : s = q
      · subst heq
        have PE := Lib.hid hpe
        have OE := Lib.hid ho
        have hb1 : Hid (Below w.heap.size w wr) := Lib.hid H.out.1
        have p2 : 2 ≤ p := by rw [← hpe]; exact PK.out.1
        have p9 : p ≤ 9 := by have := PK.out.2.1; omega
        have gne : ((s : Int) != (s : Int)) = false := by simp
        have gp : ((s : Int) != (p : Int)) = false := by have := HP.out; simp; omega
        have SC := Lib.hid (struct_cells wr (.int .i64 (s : Int)) (.int .i64 (p : Int)) (.int .i64 (o : Int)) 94 _ rfl)
        have HBa : Hid (Below w.heap.size w (wr.alloc (.cells #[.int .i64 (s : Int), .int .i64 (p : Int), .int .i64 (o : Int)] 94))) := Lib.hid (hb1.out.alloc hb1.out.size _)
        clear hs hpe ho H hb1
        have HC0 := Lib.hid SC.out.1
        have HC1 := Lib.hid SC.out.2.1
        have HC2 := Lib.hid SC.out.2.2
        clear SC
        have cc0 := HC0.out
        have cc1 := HC1.out
        have cc2 := HC2.out
        go_wp2_with fail
        clear cc0 cc1 cc2
        refine (digitwise_b p _).mono ?_
        rintro e zx2 ⟨Bd, rfl, zhn3, zhb1⟩
        have zhq4 : Below (wr.alloc (.cells #[.int .i64 (s : Int), .int .i64 (p : Int), .int .i64 (o : Int)] 94)).heap.size (wr.alloc (.cells #[.int .i64 (s : Int), .int .i64 (p : Int), .int .i64 (o : Int)] 94)) zx2 := zhb1
        have zA_5 := Lib.hid (fcell HC0.out zhq4)
        have zB_6 := Lib.hid (fcell HC1.out zhq4)
        have zD_7 := Lib.hid (fcell HC2.out zhq4)
        have zHB_8 : Hid (Below w.heap.size w zx2) := Lib.hid (HBa.out.trans (zhq4.mono HBa.out.size))
        clear zhq4
        have zP1_9 := Lib.hid zhn3
        clear zhb1 zhn3
        have cc0 := zA_5.out
        have cc1 := zB_6.out
        have cc2 := zD_7.out
        go_wp2_with fail
        clear cc0 cc1 cc2
        refine (modulo_b p _).mono ?_
        rintro e zx11 ⟨Bm, rfl, zhn12, zhb10⟩
        have zhq13 : Below zx2.heap.size zx2 zx11 := zhb10
        have zA_14 := Lib.hid (fcell zA_5.out zhq13)
        have zB_15 := Lib.hid (fcell zB_6.out zhq13)
        have zD_16 := Lib.hid (fcell zD_7.out zhq13)
        have zP1_17 := Lib.hid (Cap.below zP1_9.out zhq13)
        have zHB_18 : Hid (Below w.heap.size w zx11) := Lib.hid (zHB_8.out.trans (zhq13.mono zHB_8.out.size))
        clear zhq13
        have zP2_19 := Lib.hid zhn12
        clear zhb10 zhn12
        have cc0 := zA_14.out
        have cc1 := zB_15.out
        have cc2 := zD_16.out
        go_wp2_with fail
        clear cc0 cc1 cc2
        have FM : Hid (Fv s (Sf.mulF s) zx11 (modV Bm)) := Lib.hid (modFv QS.out HP.out (by have h := zP2_19.out; rw [← PE.out, HP.out] at h; exact h))
        have FA : Hid (Fv s (Sf.addF s) zx11 (addV Bd)) := Lib.hid (addFv QS.out (by rw [PE.out]; exact zP1_17.out))
        refine wp_region_held (P := Tryd.prog) (S := (fun w' : World => w'.cell? ⟨wr.heap.size, 1, none⟩ = some (.int .i64 (p : Int)))) rfl ?_
        change wpAnyH _ _ _ _ _ _ _ _ zx11.drew
        have zhz21 : Below zx11.heap.size zx11 zx11.drew := (Below.refl zx11.heap.size zx11).drew
        generalize zx11.drew = zwz20 at zhz21 ⊢
        have zhq22 : Below zx11.heap.size zx11 zwz20 := zhz21
        have zA_23 := Lib.hid (fcell zA_14.out zhq22)
        have zB_24 := Lib.hid (fcell zB_15.out zhq22)
        have zD_25 := Lib.hid (fcell zD_16.out zhq22)
        have zM_26 := Lib.hid (Fv.below FM.out zhq22)
        have zN_27 := Lib.hid (Fv.below FA.out zhq22)
        have zHB_28 : Hid (Below w.heap.size w zwz20) := Lib.hid (zHB_18.out.trans (zhq22.mono zHB_18.out.size))
        clear zhq22
        clear zhz21
        have zhS29 : (fun w' : World => w'.cell? ⟨wr.heap.size, 1, none⟩ = some (.int .i64 (p : Int))) zwz20 := zB_24.out
        refine takeD (i := 0) (v := .pointer (some ⟨wr.heap.size, 1, none⟩)) (some 35) rfl rfl (by kernel_rfl) (by kernel_rfl) (by kernel_rfl) (fun _ _ _ h => h) (Or.inl ⟨by rfl, by rintro w' -; go_simp⟩) zhS29 ?_
        simp only [Act.put, List.setIfInBounds_toArray, List.set_cons_zero, List.set_cons_succ]
        refine takeD (i := 1) (v := .int .i64 (p : Int)) (some 36) rfl rfl (by kernel_rfl) (by kernel_rfl) (by kernel_rfl) (fun _ _ _ h => h) (Or.inl ⟨by rfl, by rintro w' h; go_simp⟩) zhS29 ?_
        simp only [Act.put, List.setIfInBounds_toArray, List.set_cons_zero, List.set_cons_succ]
        refine takeD (i := 2) (v := .int .i64 (s : Int)) (some 37) rfl rfl (by kernel_rfl) (by kernel_rfl) (by kernel_rfl) (fun _ _ _ h => h) (Or.inl ⟨by rfl, by rintro w' -; go_simp⟩) zhS29 ?_
        simp only [Act.put, List.setIfInBounds_toArray, List.set_cons_zero, List.set_cons_succ]
        refine takeD (i := 3) (v := addV Bd) (some 38) rfl rfl (by kernel_rfl) (by kernel_rfl) (by kernel_rfl) (fun _ _ _ h => h) (Or.inl ⟨by rfl, by rintro w' -; go_simp⟩) zhS29 ?_
        simp only [Act.put, List.setIfInBounds_toArray, List.set_cons_zero, List.set_cons_succ]
        refine takeD (i := 5) (v := .int .i64 (s : Int)) (some 40) rfl rfl (by kernel_rfl) (by kernel_rfl) (by kernel_rfl) (fun _ _ _ h => h) (Or.inl ⟨by rfl, by rintro w' -; go_simp⟩) zhS29 ?_
        simp only [Act.put, List.setIfInBounds_toArray, List.set_cons_zero, List.set_cons_succ]
        refine takeD (i := 6) (v := modV Bm) (some 41) rfl rfl (by kernel_rfl) (by kernel_rfl) (by kernel_rfl) (fun _ _ _ h => h) (Or.inl ⟨by rfl, by rintro w' -; go_simp⟩) zhS29 ?_
        simp only [Act.put, List.setIfInBounds_toArray, List.set_cons_zero, List.set_cons_succ]
        refine wpAnyH_ready (rs := [4]) (by kernel_rfl) (by simp) ?_
        refine AllReadyH.cons rfl (fun zK30 hzK30 => ?_) AllReadyH.nil
        have HzK30 := Lib.hid hzK30
        clear hzK30
        rw [if_pos (by rfl)]
        go_simp
        go_at_call 60
        refine (table_b s (Sf.addF s) (addV Bd) _ q9 zN_27.out).mono ?_
        rintro e zx31 ⟨s1, rfl, ht, hb⟩
        have zhq32 : Below zwz20.heap.size zwz20 zx31 := hb
        have zA_33 := Lib.hid (fcell zA_23.out zhq32)
        have zB_34 := Lib.hid (fcell zB_24.out zhq32)
        have zD_35 := Lib.hid (fcell zD_25.out zhq32)
        have zM_36 := Lib.hid (Fv.below zM_26.out zhq32)
        have zN_37 := Lib.hid (Fv.below zN_27.out zhq32)
        have zHB_38 : Hid (Below w.heap.size w zx31) := Lib.hid (zHB_28.out.trans (zhq32.mono zHB_28.out.size))
        clear zhq32
        have Ts1 := Lib.hid ht
        clear hb ht
        have zhS39 : (fun w' : World => w'.cell? ⟨wr.heap.size, 1, none⟩ = some (.int .i64 (p : Int))) zx31 := zB_34.out
        refine HzK30.out _ _ zhS39 fun _ => ?_
        try simp only [Act.put, List.setIfInBounds_toArray, List.set_cons_zero, List.set_cons_succ]
        refine wpAnyH_ready (rs := [7]) (by kernel_rfl) (by simp) ?_
        refine AllReadyH.cons rfl (fun zK40 hzK40 => ?_) AllReadyH.nil
        have HzK40 := Lib.hid hzK40
        clear hzK40
        rw [if_pos (by rfl)]
        go_simp
        go_at_call 60
        refine (table_b s (Sf.mulF s) (modV Bm) _ q9 zM_36.out).mono ?_
        rintro e zx41 ⟨s2, rfl, ht, hb⟩
        have zhq42 : Below zx31.heap.size zx31 zx41 := hb
        have zA_43 := Lib.hid (fcell zA_33.out zhq42)
        have zB_44 := Lib.hid (fcell zB_34.out zhq42)
        have zD_45 := Lib.hid (fcell zD_35.out zhq42)
        have zM_46 := Lib.hid (Fv.below zM_36.out zhq42)
        have zN_47 := Lib.hid (Fv.below zN_37.out zhq42)
        have zTs1_48 := Lib.hid (Tb.to Ts1.out zhq42)
        have zHB_49 : Hid (Below w.heap.size w zx41) := Lib.hid (zHB_38.out.trans (zhq42.mono zHB_38.out.size))
        clear zhq42
        have Ts2 := Lib.hid ht
        clear hb ht
        have zhS50 : (fun w' : World => w'.cell? ⟨wr.heap.size, 1, none⟩ = some (.int .i64 (p : Int))) zx41 := zB_44.out
        refine HzK40.out _ _ zhS50 fun _ => ?_
        try simp only [Act.put, List.setIfInBounds_toArray, List.set_cons_zero, List.set_cons_succ]
        refine takeD (i := 8) (v := .agg #[.int .i64 (p : Int), .slice (some ⟨s1, 0, none⟩) s s, .slice (some ⟨s2, 0, none⟩) s s]) (some 43) rfl rfl (by kernel_rfl) (by kernel_rfl) (by kernel_rfl) (fun _ _ _ h => h) (Or.inl ⟨by rfl, by rintro w' -; go_simp⟩) zhS50 ?_
        simp only [Act.put, List.setIfInBounds_toArray, List.set_cons_zero, List.set_cons_succ]
        refine wpAnyH_ready (rs := [9]) (by kernel_rfl) (by simp) ?_
        refine AllReadyH.cons rfl (fun zK51 hzK51 => ?_) AllReadyH.nil
        have HzK51 := Lib.hid hzK51
        clear hzK51
        rw [if_pos (by rfl)]
        go_simp
        obtain ⟨N1, hN1⟩ : ∃ n, zx41.heap.size = n := ⟨_, rfl⟩
        have SB := struct_cells zx41 (.int .i64 (p : Int)) (.slice (some ⟨s1, 0, none⟩) s s) (.slice (some ⟨s2, 0, none⟩) s s) 91 _ hN1
        obtain ⟨zx52, hxb⟩ : ∃ q, zx41.alloc (.cells #[.int .i64 (p : Int), .slice (some ⟨s1, 0, none⟩) s s, .slice (some ⟨s2, 0, none⟩) s s] 91) = q := ⟨_, rfl⟩
        have hbx : Below zx41.heap.size zx41 zx52 := by rw [← hxb]; exact (Below.refl _ _).alloc (Nat.le_refl _) _
        rw [hxb] at SB
        rw [hxb]
        rw [hN1]
        have SBH := Lib.hid SB
        clear SB
        have zhq53 : Below zx41.heap.size zx41 zx52 := hbx
        have zA_54 := Lib.hid (fcell zA_43.out zhq53)
        have zB_55 := Lib.hid (fcell zB_44.out zhq53)
        have zD_56 := Lib.hid (fcell zD_45.out zhq53)
        have zM_57 := Lib.hid (Fv.below zM_46.out zhq53)
        have zN_58 := Lib.hid (Fv.below zN_47.out zhq53)
        have zTs1_59 := Lib.hid (Tb.to zTs1_48.out zhq53)
        have zTs2_60 := Lib.hid (Tb.to Ts2.out zhq53)
        have zHB_61 : Hid (Below w.heap.size w zx52) := Lib.hid (zHB_49.out.trans (zhq53.mono zHB_49.out.size))
        clear zhq53
        clear hbx hxb hN1
        have zhS62 : (fun w' : World => w'.cell? ⟨wr.heap.size, 1, none⟩ = some (.int .i64 (p : Int))) zx52 := zB_55.out
        refine HzK51.out _ _ zhS62 fun _ => ?_
        try simp only [Act.put, List.setIfInBounds_toArray, List.set_cons_zero, List.set_cons_succ]
        refine takeD (i := 10) (v := .pointer (some ⟨N1, 0, none⟩)) (some 2) rfl rfl (by kernel_rfl) (by kernel_rfl) (by kernel_rfl) (fun _ _ _ h => h) (Or.inl ⟨by rfl, by rintro w' -; go_simp⟩) zhS62 ?_
        simp only [Act.put, List.setIfInBounds_toArray, List.set_cons_zero, List.set_cons_succ]
        refine takeD (i := 11) (v := .int .i64 0) (some 3) rfl rfl (by kernel_rfl) (by kernel_rfl) (by kernel_rfl) (fun _ _ _ h => h) (Or.inl ⟨by rfl, by rintro w' -; go_simp⟩) zhS62 ?_
        simp only [Act.put, List.setIfInBounds_toArray, List.set_cons_zero, List.set_cons_succ]
        refine wpAnyH_done (by kernel_rfl) ?_ _
        go_wp2
        go_ret2
        exact ⟨_, rfl, ⟨N1, _, _, rfl, by rw [PE.out]; exact SBH.out.1, SBH.out.2.1, SBH.out.2.2, zTs1_59.out, zTs2_60.out⟩, zHB_61.out⟩
      · have gne : ((s : Int) != (q : Int)) = true := by simp; omega
        have KS := Lib.hid hs
        clear hs hpe ho
        go_wp2
        go_roundw
        case rel =>
          refine ⟨k + 1, by omega, by go_num, Lib.hid ⟨H.out.1.alloc H.out.1.size _, fun j hj => ?_⟩⟩
          rcases Nat.lt_or_ge j k with h | h
          · exact H.out.2 j h
          · obtain rfl : j = k := by omega
            rw [KS.out]; exact heq
        case measure => simp [intOf]; omega
    · obtain ⟨j, hj, e⟩ := HA.out
      exact absurd e (H.out.2 j (by omega))

set_option maxHeartbeats 2000000 in
set_option maxRecDepth 100000 in
theorem new_big (q : Nat) (w : World) (hK : Kd w) (hq : q ∈ Sf.sizes) (hp : q = 4 ∨ q = 8 ∨ q = 9) : Calls Tryd.prog 51 #[.int .i64 (q : Int)] w (newPost q w) := by
  obtain ⟨C, hC⟩ : ∃ C, kindC = C := ⟨_, rfl⟩
  have KI := Lib.hid kind_at
  have KR := hK
  unfold Kd at KR
  rw [hC] at KI KR
  have SI : Hid ((Tryd.prog.info? 95).map (·.size) = some C.length) := Lib.hid (by rw [← hC]; kernel_rfl)
  have KR' := Lib.hid KR
  have HP := Lib.hid hp
  have HA := Lib.hid (kS_all q hq)
  have QS := Lib.hid hq
  have q9 : q ≤ 9 := (Sf.prm_ok hq).2.2.1
  have PK := Lib.hid (Sf.prm_ok hq)
  clear KR hK hq hC hp
  go_enter Tryd.func51, Tryd.ntmps51
  go_wp2_with (refine wpList_load_mid rfl _ _ rfl 1 0 rfl C _ KR'.out Tryd.underlying95 rfl SI.out ?_)
  go_loopw [5, 6, 7, 9] (fun _ _ _ i wr => ∃ k : Nat, k ≤ 7 ∧ i = .int .i64 (k : Int) ∧ Hid (Below w.heap.size w wr ∧ ∀ j, j < k → kS j ≠ q)) (fun _ _ _ i _ => 7 - (intOf i).toNat)
  case atStart => exact ⟨0, by omega, rfl, Lib.hid ⟨Below.refl _ _, fun j hj => absurd hj (Nat.not_lt_zero j)⟩⟩
  case round =>
    obtain ⟨k, hk, rfl, H⟩ := hrel
    by_cases hlt : k < 7
    · have hkI : (k : Int) < 7 := by omega
      have hidx := KI.out k hlt
      obtain ⟨s, hs⟩ : ∃ s, kS k = s := ⟨_, rfl⟩
      obtain ⟨p, hpe⟩ : ∃ p, Sf.prm s = p := ⟨_, rfl⟩
      obtain ⟨o, ho⟩ : ∃ o, Sf.ovf s = o := ⟨_, rfl⟩
      rw [hs, hpe, ho] at hidx
      by_cases heq : s = q
      · subst heq
        have PE := Lib.hid hpe
        have OE := Lib.hid ho
        have hb1 : Hid (Below w.heap.size w wr) := Lib.hid H.out.1
        have p2 : 2 ≤ p := by rw [← hpe]; exact PK.out.1
        have p9 : p ≤ 9 := by have := PK.out.2.1; omega
        have gne : ((s : Int) != (s : Int)) = false := by simp
        have gp : ((s : Int) != (p : Int)) = true := by have := HP.out; have e := PE.out; simp; rcases this with rfl | rfl | rfl <;> (rw [← e]; decide)
        have SC := Lib.hid (struct_cells wr (.int .i64 (s : Int)) (.int .i64 (p : Int)) (.int .i64 (o : Int)) 94 _ rfl)
        have HBa : Hid (Below w.heap.size w (wr.alloc (.cells #[.int .i64 (s : Int), .int .i64 (p : Int), .int .i64 (o : Int)] 94))) := Lib.hid (hb1.out.alloc hb1.out.size _)
        clear hs hpe ho H hb1
        have HC0 := Lib.hid SC.out.1
        have HC1 := Lib.hid SC.out.2.1
        have HC2 := Lib.hid SC.out.2.2
        clear SC
        have cc0 := HC0.out
        have cc1 := HC1.out
        have cc2 := HC2.out
        go_wp2_with fail
        clear cc0 cc1 cc2
        refine (digitwise_b p _).mono ?_
        rintro e zx2 ⟨Bd, rfl, zhn3, zhb1⟩
        have zhq4 : Below (wr.alloc (.cells #[.int .i64 (s : Int), .int .i64 (p : Int), .int .i64 (o : Int)] 94)).heap.size (wr.alloc (.cells #[.int .i64 (s : Int), .int .i64 (p : Int), .int .i64 (o : Int)] 94)) zx2 := zhb1
        have zA_5 := Lib.hid (fcell HC0.out zhq4)
        have zB_6 := Lib.hid (fcell HC1.out zhq4)
        have zD_7 := Lib.hid (fcell HC2.out zhq4)
        have zHB_8 : Hid (Below w.heap.size w zx2) := Lib.hid (HBa.out.trans (zhq4.mono HBa.out.size))
        clear zhq4
        have zP1_9 := Lib.hid zhn3
        clear zhb1 zhn3
        have cc0 := zA_5.out
        have cc1 := zB_6.out
        have cc2 := zD_7.out
        go_wp2_with fail
        clear cc0 cc1 cc2
        refine (modulo_b p _).mono ?_
        rintro e zx11 ⟨Bm, rfl, zhn12, zhb10⟩
        have zhq13 : Below zx2.heap.size zx2 zx11 := zhb10
        have zA_14 := Lib.hid (fcell zA_5.out zhq13)
        have zB_15 := Lib.hid (fcell zB_6.out zhq13)
        have zD_16 := Lib.hid (fcell zD_7.out zhq13)
        have zP1_17 := Lib.hid (Cap.below zP1_9.out zhq13)
        have zHB_18 : Hid (Below w.heap.size w zx11) := Lib.hid (zHB_8.out.trans (zhq13.mono zHB_8.out.size))
        clear zhq13
        have zP2_19 := Lib.hid zhn12
        clear zhb10 zhn12
        have cc0 := zA_14.out
        have cc1 := zB_15.out
        have cc2 := zD_16.out
        go_wp2_with fail
        clear cc0 cc1 cc2
        refine (polynomial_any s p o (s / p) (addV Bd) _ ⟨_, rfl⟩ rfl q9 p2 p9).mono ?_
        rintro e zx21 ⟨Bh, Bp, Bt, Ba, Bo, rfl, zhn22, zhn23, zhn24, zhn25, zhn26, zhb20⟩
        have zhq27 : Below zx11.heap.size zx11 zx21 := zhb20
        have zA_28 := Lib.hid (fcell zA_14.out zhq27)
        have zB_29 := Lib.hid (fcell zB_15.out zhq27)
        have zD_30 := Lib.hid (fcell zD_16.out zhq27)
        have zP1_31 := Lib.hid (Cap.below zP1_17.out zhq27)
        have zP2_32 := Lib.hid (Cap.below zP2_19.out zhq27)
        have zHB_33 : Hid (Below w.heap.size w zx21) := Lib.hid (zHB_18.out.trans (zhq27.mono zHB_18.out.size))
        clear zhq27
        have zQ1_34 := Lib.hid zhn22
        have zQ2_35 := Lib.hid zhn23
        have zQ3_36 := Lib.hid zhn24
        have zQ4_37 := Lib.hid zhn25
        have zQ5_38 := Lib.hid zhn26
        clear zhb20 zhn22 zhn23 zhn24 zhn25 zhn26
        have cc0 := zA_28.out
        have cc1 := zB_29.out
        have cc2 := zD_30.out
        go_wp2_with fail
        clear cc0 cc1 cc2
        have FM : Hid (Fv s (Sf.mulF s) zx21 (polyV Bh Bp Bt Ba)) := Lib.hid (polyFv HP.out (by rw [PE.out]; exact zQ1_34.out) (by rw [PE.out]; exact zQ2_35.out) zQ3_36.out (by rw [OE.out]; exact zQ4_37.out) (by rw [PE.out]; exact zP1_31.out) zQ5_38.out)
        have FA : Hid (Fv s (Sf.addF s) zx21 (addV Bd)) := Lib.hid (addFv QS.out (by rw [PE.out]; exact zP1_31.out))
        refine wp_region_held (P := Tryd.prog) (S := (fun w' : World => w'.cell? ⟨wr.heap.size, 1, none⟩ = some (.int .i64 (p : Int)))) rfl ?_
        change wpAnyH _ _ _ _ _ _ _ _ zx21.drew
        have zhz40 : Below zx21.heap.size zx21 zx21.drew := (Below.refl zx21.heap.size zx21).drew
        generalize zx21.drew = zwz39 at zhz40 ⊢
        have zhq41 : Below zx21.heap.size zx21 zwz39 := zhz40
        have zA_42 := Lib.hid (fcell zA_28.out zhq41)
        have zB_43 := Lib.hid (fcell zB_29.out zhq41)
        have zD_44 := Lib.hid (fcell zD_30.out zhq41)
        have zM_45 := Lib.hid (Fv.below FM.out zhq41)
        have zN_46 := Lib.hid (Fv.below FA.out zhq41)
        have zHB_47 : Hid (Below w.heap.size w zwz39) := Lib.hid (zHB_33.out.trans (zhq41.mono zHB_33.out.size))
        clear zhq41
        clear zhz40
        have zhS48 : (fun w' : World => w'.cell? ⟨wr.heap.size, 1, none⟩ = some (.int .i64 (p : Int))) zwz39 := zB_43.out
        refine takeD (i := 0) (v := .pointer (some ⟨wr.heap.size, 1, none⟩)) (some 35) rfl rfl (by kernel_rfl) (by kernel_rfl) (by kernel_rfl) (fun _ _ _ h => h) (Or.inl ⟨by rfl, by rintro w' -; go_simp⟩) zhS48 ?_
        simp only [Act.put, List.setIfInBounds_toArray, List.set_cons_zero, List.set_cons_succ]
        refine takeD (i := 1) (v := .int .i64 (p : Int)) (some 36) rfl rfl (by kernel_rfl) (by kernel_rfl) (by kernel_rfl) (fun _ _ _ h => h) (Or.inl ⟨by rfl, by rintro w' h; go_simp⟩) zhS48 ?_
        simp only [Act.put, List.setIfInBounds_toArray, List.set_cons_zero, List.set_cons_succ]
        refine takeD (i := 2) (v := .int .i64 (s : Int)) (some 37) rfl rfl (by kernel_rfl) (by kernel_rfl) (by kernel_rfl) (fun _ _ _ h => h) (Or.inl ⟨by rfl, by rintro w' -; go_simp⟩) zhS48 ?_
        simp only [Act.put, List.setIfInBounds_toArray, List.set_cons_zero, List.set_cons_succ]
        refine takeD (i := 3) (v := addV Bd) (some 38) rfl rfl (by kernel_rfl) (by kernel_rfl) (by kernel_rfl) (fun _ _ _ h => h) (Or.inl ⟨by rfl, by rintro w' -; go_simp⟩) zhS48 ?_
        simp only [Act.put, List.setIfInBounds_toArray, List.set_cons_zero, List.set_cons_succ]
        refine takeD (i := 5) (v := .int .i64 (s : Int)) (some 40) rfl rfl (by kernel_rfl) (by kernel_rfl) (by kernel_rfl) (fun _ _ _ h => h) (Or.inl ⟨by rfl, by rintro w' -; go_simp⟩) zhS48 ?_
        simp only [Act.put, List.setIfInBounds_toArray, List.set_cons_zero, List.set_cons_succ]
        refine takeD (i := 6) (v := polyV Bh Bp Bt Ba) (some 41) rfl rfl (by kernel_rfl) (by kernel_rfl) (by kernel_rfl) (fun _ _ _ h => h) (Or.inl ⟨by rfl, by rintro w' -; go_simp⟩) zhS48 ?_
        simp only [Act.put, List.setIfInBounds_toArray, List.set_cons_zero, List.set_cons_succ]
        refine wpAnyH_ready (rs := [4]) (by kernel_rfl) (by simp) ?_
        refine AllReadyH.cons rfl (fun zK49 hzK49 => ?_) AllReadyH.nil
        have HzK49 := Lib.hid hzK49
        clear hzK49
        rw [if_pos (by rfl)]
        go_simp
        go_at_call 60
        refine (table_b s (Sf.addF s) (addV Bd) _ q9 zN_46.out).mono ?_
        rintro e zx50 ⟨s1, rfl, ht, hb⟩
        have zhq51 : Below zwz39.heap.size zwz39 zx50 := hb
        have zA_52 := Lib.hid (fcell zA_42.out zhq51)
        have zB_53 := Lib.hid (fcell zB_43.out zhq51)
        have zD_54 := Lib.hid (fcell zD_44.out zhq51)
        have zM_55 := Lib.hid (Fv.below zM_45.out zhq51)
        have zN_56 := Lib.hid (Fv.below zN_46.out zhq51)
        have zHB_57 : Hid (Below w.heap.size w zx50) := Lib.hid (zHB_47.out.trans (zhq51.mono zHB_47.out.size))
        clear zhq51
        have Ts1 := Lib.hid ht
        clear hb ht
        have zhS58 : (fun w' : World => w'.cell? ⟨wr.heap.size, 1, none⟩ = some (.int .i64 (p : Int))) zx50 := zB_53.out
        refine HzK49.out _ _ zhS58 fun _ => ?_
        try simp only [Act.put, List.setIfInBounds_toArray, List.set_cons_zero, List.set_cons_succ]
        refine wpAnyH_ready (rs := [7]) (by kernel_rfl) (by simp) ?_
        refine AllReadyH.cons rfl (fun zK59 hzK59 => ?_) AllReadyH.nil
        have HzK59 := Lib.hid hzK59
        clear hzK59
        rw [if_pos (by rfl)]
        go_simp
        go_at_call 60
        refine (table_b s (Sf.mulF s) (polyV Bh Bp Bt Ba) _ q9 zM_55.out).mono ?_
        rintro e zx60 ⟨s2, rfl, ht, hb⟩
        have zhq61 : Below zx50.heap.size zx50 zx60 := hb
        have zA_62 := Lib.hid (fcell zA_52.out zhq61)
        have zB_63 := Lib.hid (fcell zB_53.out zhq61)
        have zD_64 := Lib.hid (fcell zD_54.out zhq61)
        have zM_65 := Lib.hid (Fv.below zM_55.out zhq61)
        have zN_66 := Lib.hid (Fv.below zN_56.out zhq61)
        have zTs1_67 := Lib.hid (Tb.to Ts1.out zhq61)
        have zHB_68 : Hid (Below w.heap.size w zx60) := Lib.hid (zHB_57.out.trans (zhq61.mono zHB_57.out.size))
        clear zhq61
        have Ts2 := Lib.hid ht
        clear hb ht
        have zhS69 : (fun w' : World => w'.cell? ⟨wr.heap.size, 1, none⟩ = some (.int .i64 (p : Int))) zx60 := zB_63.out
        refine HzK59.out _ _ zhS69 fun _ => ?_
        try simp only [Act.put, List.setIfInBounds_toArray, List.set_cons_zero, List.set_cons_succ]
        refine takeD (i := 8) (v := .agg #[.int .i64 (p : Int), .slice (some ⟨s1, 0, none⟩) s s, .slice (some ⟨s2, 0, none⟩) s s]) (some 43) rfl rfl (by kernel_rfl) (by kernel_rfl) (by kernel_rfl) (fun _ _ _ h => h) (Or.inl ⟨by rfl, by rintro w' -; go_simp⟩) zhS69 ?_
        simp only [Act.put, List.setIfInBounds_toArray, List.set_cons_zero, List.set_cons_succ]
        refine wpAnyH_ready (rs := [9]) (by kernel_rfl) (by simp) ?_
        refine AllReadyH.cons rfl (fun zK70 hzK70 => ?_) AllReadyH.nil
        have HzK70 := Lib.hid hzK70
        clear hzK70
        rw [if_pos (by rfl)]
        go_simp
        obtain ⟨N1, hN1⟩ : ∃ n, zx60.heap.size = n := ⟨_, rfl⟩
        have SB := struct_cells zx60 (.int .i64 (p : Int)) (.slice (some ⟨s1, 0, none⟩) s s) (.slice (some ⟨s2, 0, none⟩) s s) 91 _ hN1
        obtain ⟨zx71, hxb⟩ : ∃ q, zx60.alloc (.cells #[.int .i64 (p : Int), .slice (some ⟨s1, 0, none⟩) s s, .slice (some ⟨s2, 0, none⟩) s s] 91) = q := ⟨_, rfl⟩
        have hbx : Below zx60.heap.size zx60 zx71 := by rw [← hxb]; exact (Below.refl _ _).alloc (Nat.le_refl _) _
        rw [hxb] at SB
        rw [hxb]
        rw [hN1]
        have SBH := Lib.hid SB
        clear SB
        have zhq72 : Below zx60.heap.size zx60 zx71 := hbx
        have zA_73 := Lib.hid (fcell zA_62.out zhq72)
        have zB_74 := Lib.hid (fcell zB_63.out zhq72)
        have zD_75 := Lib.hid (fcell zD_64.out zhq72)
        have zM_76 := Lib.hid (Fv.below zM_65.out zhq72)
        have zN_77 := Lib.hid (Fv.below zN_66.out zhq72)
        have zTs1_78 := Lib.hid (Tb.to zTs1_67.out zhq72)
        have zTs2_79 := Lib.hid (Tb.to Ts2.out zhq72)
        have zHB_80 : Hid (Below w.heap.size w zx71) := Lib.hid (zHB_68.out.trans (zhq72.mono zHB_68.out.size))
        clear zhq72
        clear hbx hxb hN1
        have zhS81 : (fun w' : World => w'.cell? ⟨wr.heap.size, 1, none⟩ = some (.int .i64 (p : Int))) zx71 := zB_74.out
        refine HzK70.out _ _ zhS81 fun _ => ?_
        try simp only [Act.put, List.setIfInBounds_toArray, List.set_cons_zero, List.set_cons_succ]
        refine takeD (i := 10) (v := .pointer (some ⟨N1, 0, none⟩)) (some 2) rfl rfl (by kernel_rfl) (by kernel_rfl) (by kernel_rfl) (fun _ _ _ h => h) (Or.inl ⟨by rfl, by rintro w' -; go_simp⟩) zhS81 ?_
        simp only [Act.put, List.setIfInBounds_toArray, List.set_cons_zero, List.set_cons_succ]
        refine takeD (i := 11) (v := .int .i64 0) (some 3) rfl rfl (by kernel_rfl) (by kernel_rfl) (by kernel_rfl) (fun _ _ _ h => h) (Or.inl ⟨by rfl, by rintro w' -; go_simp⟩) zhS81 ?_
        simp only [Act.put, List.setIfInBounds_toArray, List.set_cons_zero, List.set_cons_succ]
        refine wpAnyH_done (by kernel_rfl) ?_ _
        go_wp2
        go_ret2
        exact ⟨_, rfl, ⟨N1, _, _, rfl, by rw [PE.out]; exact SBH.out.1, SBH.out.2.1, SBH.out.2.2, zTs1_78.out, zTs2_79.out⟩, zHB_80.out⟩
      · have gne : ((s : Int) != (q : Int)) = true := by simp; omega
        have KS := Lib.hid hs
        clear hs hpe ho
        go_wp2
        go_roundw
        case rel =>
          refine ⟨k + 1, by omega, by go_num, Lib.hid ⟨H.out.1.alloc H.out.1.size _, fun j hj => ?_⟩⟩
          rcases Nat.lt_or_ge j k with h | h
          · exact H.out.2 j h
          · obtain rfl : j = k := by omega
            rw [KS.out]; exact heq
        case measure => simp [intOf]; omega
    · obtain ⟨j, hj, e⟩ := HA.out
      exact absurd e (H.out.2 j (by omega))

end Go.Proofs.YtnnacofjogfkeaaDoor
namespace Go.Proofs.YtnnacofjogfkeaaDoor
open Go Go.RowKit
set_option linter.unusedVariables false

theorem new_ok (q : Nat) (w : World) (hK : Kd w) (hq : q ∈ Sf.sizes) : Calls Tryd.prog 51 #[.int .i64 (q : Int)] w (newPost q w) := by
  by_cases hp : Sf.prm q = q
  · exact new_prime q w hK hq hp
  · exact new_big q w hK hq ((show ∀ q ∈ Sf.sizes, Sf.prm q ≠ q → q = 4 ∨ q = 8 ∨ q = 9 by decide) q hq hp)

/-- The sizes, in memory. -/
def Szs (w : World) (v : Value) : Prop := ∃ B, v = .slice (some ⟨B, 0, none⟩) 7 7 ∧ w.rowIs B 3 7 (fun i => .int .i64 (kS i : Int))
end Go.Proofs.YtnnacofjogfkeaaDoor
namespace Go.Proofs.YtnnacofjogfkeaaDoor
open Go Go.RowKit
set_option linter.unusedVariables false

/-- A call that answers v, and leaves the world. -/
def still (v : Value) (w : World) (e : Ending) (w' : World) : Prop := e = .returned v ∧ w' = w


theorem size_ok (q : Nat) (v : Value) (w : World) (hq : q ≤ 9) (h : Fd w v q) : Calls Tryd.prog 61 #[v] w (still (.int .i64 q) w) := by
  obtain ⟨B, s1, s2, rfl, c0, c1, c2, ⟨B1, rfl, t1, r1⟩, ⟨B2, rfl, t2, r2⟩⟩ := h
  clear t1 r1 t2 r2
  go_enter Tryd.func61, Tryd.ntmps61
  go_wp2
  go_ret
  exact ⟨rfl, rfl⟩
theorem size_nil (w : World) : Calls Tryd.prog 61 #[.pointer none] w (still (.int .i64 0) w) := by
  go_enter Tryd.func61, Tryd.ntmps61
  go_wp2
  go_ret
  exact ⟨rfl, rfl⟩
/-- A value that is no field or a field of q elements: what Size answers. -/
def Fq (w : World) (v : Value) (q : Nat) : Prop := (v = .pointer none ∧ q = 0) ∨ (q ≤ 9 ∧ Fd w v q)
theorem size_any (q : Nat) (v : Value) (w : World) (h : Fq w v q) : Calls Tryd.prog 61 #[v] w (still (.int .i64 q) w) := by
  rcases h with ⟨rfl, rfl⟩ | ⟨hq, h⟩
  · exact size_nil w
  · exact size_ok q v w hq h
theorem has_any (q : Nat) (v : Value) (a : Int) (w : World) (h : Fq w v q) : Calls Tryd.prog 52 #[v, .int .i64 a] w (still (.bool (decide (0 ≤ a ∧ a < q))) w) := by
  have HS := Lib.hid (size_any q v w h)
  by_cases h0 : 0 ≤ a
  · by_cases h1 : a < q
    · rw [decide_eq_true ⟨h0, h1⟩]
      clear h
      go_enter Tryd.func52, Tryd.ntmps52
      go_wp2_with (go_at_call 61; refine HS.out.mono ?_; rintro e w' ⟨rfl, rfl⟩)
      go_ret
      exact ⟨rfl, rfl⟩
    · rw [decide_eq_false fun h => h1 h.2]
      clear h
      go_enter Tryd.func52, Tryd.ntmps52
      go_wp2_with (go_at_call 61; refine HS.out.mono ?_; rintro e w' ⟨rfl, rfl⟩)
      go_ret
      exact ⟨by show Ending.returned (.bool (decide (a < (q : Int)))) = _; rw [decide_eq_false (show ¬ a < (q : Int) by omega)], rfl⟩
  · rw [decide_eq_false fun h => h0 h.1]
    clear h
    go_enter Tryd.func52, Tryd.ntmps52
    go_wp2
    go_ret
    exact ⟨rfl, rfl⟩

end Go.Proofs.YtnnacofjogfkeaaDoor
namespace Go.Proofs.YtnnacofjogfkeaaDoor
open Go Go.RowKit
set_option linter.unusedVariables false

theorem Fd.fq {q : Nat} {v : Value} {w : World} (hq : q ∈ Sf.sizes) (h : Fd w v q) : Fq w v q := Or.inr ⟨(Sf.prm_ok hq).2.2.1, h⟩
theorem Fq.nil_ (w : World) : Fq w (.pointer none) 0 := Or.inl ⟨rfl, rfl⟩
theorem TTop.at_ {w : World} {B q a : Nat} (h : TTop w B q q) (ha : a < q) : w.cell? ⟨B, a, none⟩ = some (.slice (some ⟨B + 1 + a, 0, none⟩) q q) := by
  have := World.rowIs.cell h ha
  rwa [if_pos ha] at this
theorem TRow.at_ {w : World} {B q i : Nat} {f : Nat → Nat} (h : TRow w B q i f) {b : Nat} (hb : b < q) : w.cell? ⟨B + 1 + i, b, none⟩ = some (.int .i64 ((f b : Nat) : Int)) := World.rowIs.cell h hb

set_option maxHeartbeats 2000000 in
theorem add_ok (q a b : Nat) (v : Value) (w : World) (hq : q ∈ Sf.sizes) (h : Fd w v q) (ha : a < q) (hb : b < q) : Calls Tryd.prog 42 #[v, .int .i64 a, .int .i64 b] w (still (.int .i64 (Sf.addF q a b : Nat)) w) := by
  have H1 := Lib.hid ((has_any q v a w (h.fq hq)).mono fun e w' he => (⟨by rw [he.1, decide_eq_true (by omega)], he.2⟩ : e = .returned (.bool true) ∧ w' = w))
  have H2 := Lib.hid ((has_any q v b w (h.fq hq)).mono fun e w' he => (⟨by rw [he.1, decide_eq_true (by omega)], he.2⟩ : e = .returned (.bool true) ∧ w' = w))
  obtain ⟨B, s1, s2, rfl, c0, c1, c2, ⟨B1, rfl, t1, r1⟩, ⟨B2, rfl, t2, r2⟩⟩ := h
  have d1 := t1.at_ ha
  have d2 := (r1 a ha).at_ hb
  generalize Sf.addF q a b = y at d2 ⊢
  have q9 := (Sf.prm_ok hq).2.2.1
  have haI : (a : Int) < (q : Int) := by omega
  have hbI : (b : Int) < (q : Int) := by omega
  clear t1 r1 t2 r2 hq c0
  go_enter Tryd.func42, Tryd.ntmps42
  go_wp2_with fail
  refine H1.out.mono ?_
  rintro e w1 ⟨rfl, rfl⟩
  go_wp2_with fail
  refine H2.out.mono ?_
  rintro e w2 ⟨rfl, rfl⟩
  go_wp2_with fail
  go_ret
  exact ⟨rfl, rfl⟩
set_option maxHeartbeats 2000000 in
theorem add_out (q : Nat) (a b : Int) (v : Value) (w : World) (h : Fq w v q) (ho : ¬ ((0 ≤ a ∧ a < q) ∧ (0 ≤ b ∧ b < q))) : Calls Tryd.prog 42 #[v, .int .i64 a, .int .i64 b] w (still (.int .i64 (-1)) w) := by
  have H1 := Lib.hid (has_any q v a w h)
  have H2 := Lib.hid (has_any q v b w h)
  clear h
  by_cases ha : 0 ≤ a ∧ a < q
  · rw [decide_eq_true ha] at H1
    rw [decide_eq_false fun hb => ho ⟨ha, hb⟩] at H2
    clear ha ho
    go_enter Tryd.func42, Tryd.ntmps42
    go_wp2_with fail
    refine H1.out.mono ?_
    rintro e w1 ⟨rfl, rfl⟩
    go_wp2_with fail
    refine H2.out.mono ?_
    rintro e w2 ⟨rfl, rfl⟩
    go_wp2_with fail
    go_ret
    exact ⟨rfl, rfl⟩
  · rw [decide_eq_false ha] at H1
    clear H2 ha ho
    go_enter Tryd.func42, Tryd.ntmps42
    go_wp2_with (go_at_call 52; (refine H1.out.mono ?_; rintro e w' ⟨rfl, rfl⟩))
    go_ret
    exact ⟨rfl, rfl⟩

set_option maxHeartbeats 2000000 in
theorem mul_ok (q a b : Nat) (v : Value) (w : World) (hq : q ∈ Sf.sizes) (h : Fd w v q) (ha : a < q) (hb : b < q) : Calls Tryd.prog 43 #[v, .int .i64 a, .int .i64 b] w (still (.int .i64 (Sf.mulF q a b : Nat)) w) := by
  have H1 := Lib.hid ((has_any q v a w (h.fq hq)).mono fun e w' he => (⟨by rw [he.1, decide_eq_true (by omega)], he.2⟩ : e = .returned (.bool true) ∧ w' = w))
  have H2 := Lib.hid ((has_any q v b w (h.fq hq)).mono fun e w' he => (⟨by rw [he.1, decide_eq_true (by omega)], he.2⟩ : e = .returned (.bool true) ∧ w' = w))
  obtain ⟨B, s1, s2, rfl, c0, c1, c2, ⟨B1, rfl, t1, r1⟩, ⟨B2, rfl, t2, r2⟩⟩ := h
  have d1 := t2.at_ ha
  have d2 := (r2 a ha).at_ hb
  generalize Sf.mulF q a b = y at d2 ⊢
  have q9 := (Sf.prm_ok hq).2.2.1
  have haI : (a : Int) < (q : Int) := by omega
  have hbI : (b : Int) < (q : Int) := by omega
  clear t1 r1 t2 r2 hq c0
  go_enter Tryd.func43, Tryd.ntmps43
  go_wp2_with fail
  refine H1.out.mono ?_
  rintro e w1 ⟨rfl, rfl⟩
  go_wp2_with fail
  refine H2.out.mono ?_
  rintro e w2 ⟨rfl, rfl⟩
  go_wp2_with fail
  go_ret
  exact ⟨rfl, rfl⟩
set_option maxHeartbeats 2000000 in
theorem mul_out (q : Nat) (a b : Int) (v : Value) (w : World) (h : Fq w v q) (ho : ¬ ((0 ≤ a ∧ a < q) ∧ (0 ≤ b ∧ b < q))) : Calls Tryd.prog 43 #[v, .int .i64 a, .int .i64 b] w (still (.int .i64 (-1)) w) := by
  have H1 := Lib.hid (has_any q v a w h)
  have H2 := Lib.hid (has_any q v b w h)
  clear h
  by_cases ha : 0 ≤ a ∧ a < q
  · rw [decide_eq_true ha] at H1
    rw [decide_eq_false fun hb => ho ⟨ha, hb⟩] at H2
    clear ha ho
    go_enter Tryd.func43, Tryd.ntmps43
    go_wp2_with fail
    refine H1.out.mono ?_
    rintro e w1 ⟨rfl, rfl⟩
    go_wp2_with fail
    refine H2.out.mono ?_
    rintro e w2 ⟨rfl, rfl⟩
    go_wp2_with fail
    go_ret
    exact ⟨rfl, rfl⟩
  · rw [decide_eq_false ha] at H1
    clear H2 ha ho
    go_enter Tryd.func43, Tryd.ntmps43
    go_wp2_with (go_at_call 52; (refine H1.out.mono ?_; rintro e w' ⟨rfl, rfl⟩))
    go_ret
    exact ⟨rfl, rfl⟩

end Go.Proofs.YtnnacofjogfkeaaDoor
namespace Go.Proofs.YtnnacofjogfkeaaDoor
open Go Go.RowKit
set_option linter.unusedVariables false

theorem sizes_lit (w : World) (t : TypeId) (m : Nat) (hm : m < 7) : (w.alloc (.cells #[.int .i64 2, .int .i64 3, .int .i64 4, .int .i64 5, .int .i64 7, .int .i64 8, .int .i64 9] t)).cell? ⟨w.heap.size, m, none⟩ = some (.int .i64 (kS m : Int)) := by
  rw [cell_of_row _ _ _ _ _ _ (heap_alloc_new w _)]
  rcases (by omega : m = 0 ∨ m = 1 ∨ m = 2 ∨ m = 3 ∨ m = 4 ∨ m = 5 ∨ m = 6) with rfl | rfl | rfl | rfl | rfl | rfl | rfl <;> rfl
def fieldPost (q : Nat) (w : World) (e : Ending) (w' : World) : Prop := ∃ u, e = .returned (.tuple #[u, .int .i64 (q : Int), .bool true]) ∧ Fd w' u q ∧ Below w.heap.size w w'
/-- The law's power. -/
def powF (q a n : Nat) : Nat := Sf.rep (fun x => Sf.mulF q x a) (if n < 9 then n else 9) 1
theorem pow_lt {q a n : Nat} (hq : q ∈ Sf.sizes) (ha : a < q) : powF q a n < q := Sf.rep_lt (fun s hs => Sf.mul_lt hq hs ha) _ _ (by have := (Sf.prm_ok hq).2.2.2.1; omega)
end Go.Proofs.YtnnacofjogfkeaaDoor
namespace Go.Proofs.YtnnacofjogfkeaaDoor
open Go Go.RowKit
set_option linter.unusedVariables false

def awakePost (w : World) (e : Ending) (w' : World) : Prop := e = .returned (.bool true) ∧ Below w.heap.size w w'
end Go.Proofs.YtnnacofjogfkeaaDoor
