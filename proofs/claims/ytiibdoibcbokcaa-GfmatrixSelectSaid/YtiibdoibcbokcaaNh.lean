/- The walk of the law on Select: a number out of range. WRITTEN BY gen_Nf.py. -/
import Derived.Test.YtiibdoibcbokcaaNf
namespace Go.Proofs.Ytiibdoibcbokcaa
open Go Go.RowKit Lin
set_option linter.unusedVariables false

set_option maxHeartbeats 16000000 in
set_option maxRecDepth 100000 in
theorem selw_range (v0 v1 v2 : Value) (a : List (List Nat)) (ri ci : List Int) (w : World) (h0 : Ms w v0 a) (h1 : Is w v1 ri) (h2 : Is w v2 ci) (s0 : smallB a = true) (hl : ri.length ≤ 70) (hl2 : ci.length ≤ 70) {r n : Nat} (hR : Rect r n a) (k0 : 0 < r) (k1 : 0 < n) (k2 : r ≤ 64) (k3 : n ≤ 64) (hp : 1 ≤ ri.length ∧ ri.length ≤ 64) (hq : 1 ≤ ci.length ∧ ci.length ≤ 64) (hbad : ¬ (belowB ri r = true ∧ belowB ci n = true)) : Calls Try.prog 6 #[v0, v1, v2] w (lawPost w) := by
  have A := Lib.hid h0
  have I1 := Lib.hid h1
  have I2 := Lib.hid h2
  have S0 := Lib.hid s0
  have RA := Lib.hid hR
  have VA := Lib.hid (valid_of_rect hR k0 k1 k2 k3)
  have RT := Lib.hid (trans_rect (m := a) r n hR.by)
  obtain ⟨ba, oa, ca, rfl, -, -⟩ := Ms.open_ h0 hR k0 k1
  have hrI : (0 : Int) < (r : Int) := by omega
  have hnI : (0 : Int) < (n : Int) := by omega
  have gn : ((n : Int) != (n : Int)) = false := by simp
  have gr : ((r : Int) != (r : Int)) = false := by simp
  obtain ⟨A1, c1, rfl⟩ := Sl.form h1
  obtain ⟨A2, c2, rfl⟩ := Sl.form h2
  obtain ⟨p, ep⟩ : ∃ p, ri.length = p := ⟨_, rfl⟩
  obtain ⟨q, eq⟩ : ∃ q, ci.length = q := ⟨_, rfl⟩
  rw [ep] at I1 ⊢
  rw [eq] at I2 ⊢
  have EP := Lib.hid ep
  have EQ := Lib.hid eq
  have d1 : decide ((70 : Int) < (p : Int)) = false := by simp; omega
  have d2 : decide ((70 : Int) < (q : Int)) = false := by simp; omega
  obtain ⟨i1, hi, hz0, hz1, hz2⟩ := info_parts info_u8
  have I5 := Lib.hid (And.intro hi (And.intro hz0 (And.intro hz1 hz2)))
  obtain ⟨i6, hi6, hz6, hz7, hz8⟩ := info_parts info_bytes
  have I6 := Lib.hid (And.intro hi6 (And.intro hz6 (And.intro hz7 hz8)))
  clear hi hz0 hz1 hz2 hi6 hz6 hz7 hz8
  have k5 : 0 < p := by omega
  have k6 : 0 < q := by omega
  have k7 : p ≤ 64 := by omega
  have k8 : q ≤ 64 := by omega
  obtain ⟨bi, oi, cc1, e1, -, -⟩ := Is.at_ I1.out (by rw [EP.out]; exact k5)
  injection e1 with e1 e3 e4
  subst e1
  clear e3 e4
  obtain ⟨bj, oj, cc2, e1, -, -⟩ := Is.at_ I2.out (by rw [EQ.out]; exact k6)
  injection e1 with e1 e3 e4
  subst e1
  clear e3 e4
  have d3 : decide ((p : Int) < 1) = false := by simp; omega
  have d4 : decide ((64 : Int) < (p : Int)) = false := by simp; omega
  have d5 : decide ((q : Int) < 1) = false := by simp; omega
  have d6 : decide ((64 : Int) < (q : Int)) = false := by simp; omega
  have NB := Lib.hid hbad
  have SE0 : Hid (∀ w (x1 x2 : Value), Ms w (.slice (some ⟨ba, oa, none⟩) r ca) a → Is w x1 ri → Is w x2 ci → Calls Try.prog 25 #[.slice (some ⟨ba, oa, none⟩) r ca, x1, x2] w (errPost (.tuple #[.slice none 0 0, .int .i64 2]) w)) := Lib.hid fun w x1 x2 ha hb hc => by
    by_cases hr : belowB ri r = true
    · exact sel_range2 _ x1 x2 a ri ci w ha hb hc hR k0 k1 k2 k3 hp hq hr (by simpa using fun h => hbad ⟨hr, h⟩)
    · exact sel_range1 _ x1 x2 a ri ci w ha hb hc hR k0 k1 k2 k3 hp hq (by simpa using hr)
  clear h0 h1 h2 s0 ep eq hl hl2 hR hbad hp hq
  go_enter Try.func6, Try.ntmps6
  go_wp2_with fail
  refine (awake_any _).mono ?_
  rintro e x2 ⟨rfl, hb1⟩
  have A_3 := Lib.hid (Ms.to A.out hb1)
  have R_4 := Lib.hid (Is.to I1.out hb1)
  have C_5 := Lib.hid (Is.to I2.out hb1)
  have HB_6 := Lib.hid (hb1)
  clear hb1
  go_wp2_with fail
  refine (small_b _ a _ true A_3.out S0.out).mono ?_
  rintro e w' ⟨rfl, rfl⟩
  go_wp2_with fail
  refine (SE0.out _ _ _ A_3.out R_4.out C_5.out).mono ?_
  rintro e w' ⟨rfl, rfl⟩
  go_wp2_with fail
  refine (trans_okN _ a _ A_3.out RA.out k0 k1 k2 k3).mono ?_
  rintro e x9 ⟨btt, ctt, rfl, hn7, hb8⟩
  have A_10 := Lib.hid (Ms.to A_3.out hb8)
  have R_11 := Lib.hid (Is.to R_4.out hb8)
  have C_12 := Lib.hid (Is.to C_5.out hb8)
  have HB_13 := Lib.hid (bt HB_6.out hb8)
  have T_14 := Lib.hid hn7
  clear hn7 hb8
  go_wp2_with fail
  refine (rvalid_b _ a _ true A_10.out VA.out).mono ?_
  rintro e x16 ⟨rfl, hd15⟩
  have A_17 := Lib.hid (Ms.dr A_10.out hd15)
  have R_18 := Lib.hid (Is.dr R_11.out hd15)
  have C_19 := Lib.hid (Is.dr C_12.out hd15)
  have T_20 := Lib.hid (Ms.dr T_14.out hd15)
  have HB_21 := Lib.hid (bd2 HB_13.out hd15)
  clear hd15
  obtain ⟨bz, oz, cz, hz⟩ := Ms.row0 A_17.out RA.out k0 k1
  have HT := Lib.hid (Ms.rows T_20.out RT.out k1 k0)
  have HM := Lib.hid (Ms.rows A_17.out RA.out k0 k1)
  go_wp2_with fail
  go_loopw [11, 12] (fun z _ wr => ∃ i : Nat, i ≤ n ∧ z = .int .i64 (i : Int) ∧ Hid (Dr x16 wr)) (fun z _ _ => n - (intOf z).toNat)
  case atStart => exact ⟨0, Nat.zero_le _, rfl, Lib.hid (Dr.refl _)⟩
  case round =>
    obtain ⟨i, hin, rfl, H⟩ := hrel
    obtain ⟨wo, rfl⟩ : ∃ wo, wo = wr := ⟨_, rfl⟩
    by_cases hlt : i < n
    · have hiI : (i : Int) < (n : Int) := by omega
      go_wp2
      go_loopw [12] (fun z wq => ∃ k : Nat, k ≤ r ∧ z = .int .i64 (k : Int) ∧ Hid (Dr x16 wq)) (fun z _ => r - (intOf z).toNat)
      case atStart => exact ⟨0, Nat.zero_le _, rfl, H⟩
      case round =>
        obtain ⟨k, hkr, rfl, H2⟩ := hrel
        by_cases hlt2 : k < r
        · have hkI : (k : Int) < (r : Int) := by omega
          obtain ⟨b5, o5, c5, t1, -, -, t2⟩ := HT.out i hlt
          obtain ⟨b6, o6, c6, m1, -, -, m2⟩ := HM.out k hlt2
          rw [Nat.zero_add] at t1
          have t3 := t2 k hlt2
          have m3 := m2 i hlt
          rw [trans_el r n hlt2 hlt] at t3
          rw [← H2.out.cell] at t1 m1 t3 m3
          obtain ⟨x, ex⟩ : ∃ x, el a k i = x := ⟨_, rfl⟩
          rw [ex] at t3 m3
          have gx : ((x : Int) != (x : Int)) = false := by simp
          clear t2 m2 ex
          go_wp2
          go_quiet (fail)
          go_wp2
          go_roundw
          case rel => exact ⟨k + 1, by omega, by go_num, Lib.hid (H2.out.more _)⟩
          case measure => simp [intOf]; omega
        · go_wp2
          go_roundw
          case rel => exact ⟨i + 1, by omega, by go_num, H2⟩
          case measure => simp [intOf]; omega
    · have HD := Lib.hid H.out
      clear H
      have A_22 := Lib.hid (Ms.dr A_17.out HD.out)
      have R_23 := Lib.hid (Is.dr R_18.out HD.out)
      have C_24 := Lib.hid (Is.dr C_19.out HD.out)
      have T_25 := Lib.hid (Ms.dr T_20.out HD.out)
      have HB_26 := Lib.hid (bd2 HB_21.out HD.out)
      have CR := Lib.hid (Is.cells R_23.out (by rw [EP.out]; exact k5))
      have CC := Lib.hid (Is.cells C_24.out (by rw [EQ.out]; exact k6))
      have HM2 := Lib.hid (Ms.rows A_22.out RA.out k0 k1)
      have SB := Lib.hid (fun i j => RA.out.by (ri.getD i 0).toNat (ci.getD j 0).toNat)
      go_wp2_with fail
      go_loopw [13, 14, 15, 16] (fun v z _ _ wr => ∃ i : Nat, i ≤ p ∧ z = .int .i64 (i : Int) ∧ Hid (Below wo.heap.size wo wr ∧ OwnL Bs wr wo.heap.size 31 v ((gridL p q (selE a ri ci)).take i) ∧ ∀ j, j < i → 0 ≤ ri.getD j 0 ∧ ri.getD j 0 < (r : Int) ∧ ∀ y, y < q → 0 ≤ ci.getD y 0 ∧ ci.getD y 0 < (n : Int))) (fun _ z _ _ _ => p - (intOf z).toNat)
      case atStart => exact ⟨0, Nat.zero_le _, rfl, Lib.hid ⟨Below.refl _ _, OwnL.nil_ _ _ _, fun j hj => absurd hj (Nat.not_lt_zero j)⟩⟩
      case round =>
        obtain ⟨i, hip, rfl, H⟩ := hrel
        obtain ⟨wo2, rfl⟩ : ∃ wo2, wo2 = wr := ⟨_, rfl⟩
        by_cases hlt : i < p
        · have hiI : (i : Int) < (p : Int) := by omega
          have pr := CR.out i (by rw [EP.out]; exact hlt)
          obtain ⟨X, eX⟩ : ∃ X, ri.getD i 0 = X := ⟨_, rfl⟩
          rw [eX] at pr
          have EX := Lib.hid eX
          clear eX
          have PR := Lib.hid ((H.out.1.cell (World.block_lt_of_cell? _ _ pr)).trans pr)
          clear pr
          go_wp2_with fail
          go_loopw [15, 16] (fun v z wq => ∃ k : Nat, k ≤ q ∧ z = .int .i64 (k : Int) ∧ Hid (Below wo2.heap.size wo2 wq ∧ OwnL Bv wq wo2.heap.size 5 v (((List.range q).map (selE a ri ci i)).take k) ∧ ∀ y, y < k → 0 ≤ ri.getD i 0 ∧ ri.getD i 0 < (r : Int) ∧ 0 ≤ ci.getD y 0 ∧ ci.getD y 0 < (n : Int))) (fun _ z _ => q - (intOf z).toNat)
          case atStart => exact ⟨0, Nat.zero_le _, rfl, Lib.hid ⟨Below.refl _ _, OwnL.nil_ _ _ _, fun j hj => absurd hj (Nat.not_lt_zero j)⟩⟩
          case round =>
            obtain ⟨k, hkq, rfl, H2⟩ := hrel
            by_cases hlt2 : k < q
            · have hkI : (k : Int) < (q : Int) := by omega
              have hbw := bt H.out.1 H2.out.1
              have pc := CC.out k (by rw [EQ.out]; exact hlt2)
              obtain ⟨Y, eY⟩ : ∃ Y, ci.getD k 0 = Y := ⟨_, rfl⟩
              rw [eY] at pc
              have EY := Lib.hid eY
              clear eY
              have pc' := (hbw.cell (World.block_lt_of_cell? _ _ pc)).trans pc
              have pr' := (H2.out.1.cell (World.block_lt_of_cell? _ _ PR.out)).trans PR.out
              obtain ⟨b7, o7, c7, z7, -⟩ := HM2.out 0 k0
              rw [Nat.add_zero] at z7
              have z7' := (hbw.cell (World.block_lt_of_cell? _ _ z7)).trans z7
              clear pc z7
              by_cases gX : 0 ≤ X ∧ X < (r : Int)
              · by_cases gY : 0 ≤ Y ∧ Y < (n : Int)
                · obtain ⟨x, rfl⟩ : ∃ x : Nat, X = x := ⟨X.toNat, by omega⟩
                  obtain ⟨y, rfl⟩ : ∃ y : Nat, Y = y := ⟨Y.toNat, by omega⟩
                  have hx : x < r := by omega
                  have hy : y < n := by omega
                  obtain ⟨b8, o8, c8, m1, -, -, m2⟩ := HM2.out x hx
                  have m3 := m2 y hy
                  have m1' := (hbw.cell (World.block_lt_of_cell? _ _ m1)).trans m1
                  have m3' := (hbw.cell (World.block_lt_of_cell? _ _ m3)).trans m3
                  have lb : ∀ b o u, wr.cell? ⟨b, o, none⟩ = some u → b < wo2.heap.size → u15.ownBlock ≠ some b := fun b o u _ hb e => by have := (H2.out.2.1.own b e).1; omega
                  have lr := lb _ _ _ pr' (World.block_lt_of_cell? _ _ PR.out)
                  have lc := lb _ _ _ pc' (Nat.lt_of_lt_of_le (World.block_lt_of_cell? wo _ (CC.out k (by rw [EQ.out]; exact hlt2))) H.out.1.size)
                  have lm := lb _ _ _ m1' (Nat.lt_of_lt_of_le (World.block_lt_of_cell? wo _ m1) H.out.1.size)
                  have le := lb _ _ _ m3' (Nat.lt_of_lt_of_le (World.block_lt_of_cell? wo _ m3) H.out.1.size)
                  obtain ⟨s, es⟩ : ∃ s, el a x y = s := ⟨_, rfl⟩
                  have MM : Hid ((wo.cell? ⟨ba, oa + x, none⟩ = some (.slice (some ⟨b8, o8, none⟩) n c8)) ∧ wo.cell? ⟨b8, o8 + y, none⟩ = some (.int .u8 ((el a x y : Nat) : Int))) := Lib.hid ⟨m1, m3⟩
                  rw [es] at m3'
                  have SE : Hid (selE a ri ci i k = s) := Lib.hid (by unfold selE; rw [EX.out, EY.out]; exact es)
                  obtain ⟨xs, hrow', hxs⟩ := H2.out.2.1.row
                  have hrow := hrow'
                  have hln : (((List.range q).map (selE a ri ci i)).take k).length = k := by rw [List.length_take, List.length_map, List.length_range]; omega
                  have LN := Lib.hid hln
                  rw [hln] at hrow
                  have ROW := Lib.hid hrow
                  have XSH := Lib.hid hxs
                  have XPL : Hid (∀ j (hj : j < (((List.range q).map (selE a ri ci i)).take k).length) u, xs[j]? = some u → Bv wr u ((((List.range q).map (selE a ri ci i)).take k)[j])) := Lib.hid fun j hj u hu => by
                    obtain ⟨u', hu', ho⟩ := H2.out.2.1.vals hrow' j hj
                    rw [hu'] at hu
                    cases hu
                    exact ho
                  have d1 : decide ((x : Int) < 0) = false := by simp
                  have d2 : decide ((y : Int) < 0) = false := by simp
                  have d3 : decide ((r : Int) ≤ (x : Int)) = false := by simp; omega
                  have d4 : decide ((n : Int) ≤ (y : Int)) = false := by simp; omega
                  have hxI : (x : Int) < (r : Int) := by omega
                  have hyI : (y : Int) < (n : Int) := by omega
                  have L : Hid (k + 1 ≤ maxLen ∧ (k + 1) * 1 ≤ 140737488355328 ∧ wo2.heap.size ≤ wr.heap.size) := Lib.hid ⟨by unfold maxLen; omega, by omega, H2.out.1.size⟩
                  have HBW := Lib.hid hbw
                  clear hbw m1 m2 m3 lb es hrow hrow' hxs hln
                  go_wp2
                  go_quiet (fail)
                  generalize hW : wr.drewN _ = wz
                  have WZ : Hid (Dr wr wz) := Lib.hid ⟨_, hW.symm⟩
                  have f1 : wz.cell? ⟨bi, oi + i, none⟩ = some (.int .i64 (x : Int)) := (WZ.out.cell _).trans pr'
                  have f2 : wz.cell? ⟨bj, oj + k, none⟩ = some (.int .i64 (y : Int)) := (WZ.out.cell _).trans pc'
                  have f3 : wz.cell? ⟨ba, oa + x, none⟩ = some (.slice (some ⟨b8, o8, none⟩) n c8) := (WZ.out.cell _).trans m1'
                  have f4 : wz.cell? ⟨b8, o8 + y, none⟩ = some (.int .u8 (s : Int)) := (WZ.out.cell _).trans m3'
                  have hsz : wz.heap.size = wr.heap.size := by rw [← hW]; rfl
                  have ROWZ : Hid (wz.ownsRow wo2.heap.size 5 1 u15 k xs) := Lib.hid (by rw [← hW]; exact ROW.out)
                  have lz1 : bi < wo2.heap.size := World.block_lt_of_cell? _ _ PR.out
                  have lz2 : bj < wo2.heap.size := Nat.lt_of_lt_of_le (World.block_lt_of_cell? wo _ (CC.out k (by rw [EQ.out]; exact hlt2))) H.out.1.size
                  have lz3 : ba < wo2.heap.size := Nat.lt_of_lt_of_le (World.block_lt_of_cell? wo ⟨ba, oa + x, none⟩ MM.out.1) H.out.1.size
                  have lz4 : b8 < wo2.heap.size := Nat.lt_of_lt_of_le (World.block_lt_of_cell? wo ⟨b8, o8 + y, none⟩ MM.out.2) H.out.1.size
                  have L3 : wo2.heap.size ≤ wz.heap.size := by rw [hsz]; exact L.out.2.2
                  have one : ∀ u ∈ [bv s], u.oneCell' = true := by intro u hu; simp at hu; subst hu; rfl
                  have ONE := Lib.hid one
                  have HSZ := Lib.hid hsz
                  clear hW hsz one pr' pc' m1' m3' z7'
                  go_wp2_with fail
                  go_region_held3 (fun w' => w'.cell? ⟨bi, oi + i, none⟩ = some (.int .i64 (x : Int)) ∧ w'.cell? ⟨bj, oj + k, none⟩ = some (.int .i64 (y : Int)) ∧ w'.cell? ⟨ba, oa + x, none⟩ = some (.slice (some ⟨b8, o8, none⟩) n c8) ∧ w'.cell? ⟨b8, o8 + y, none⟩ = some (.int .u8 (s : Int)))
                    (first
                      | go_keep
                      | (go_split_ands
                         refine ⟨?_, ?_, ?_, ?_⟩
                         · (rw [hgrow.cell_far _ (by simp; omega) (Ne.symm lr)]; assumption)
                         · (rw [hgrow.cell_far _ (by simp; omega) (Ne.symm lc)]; assumption)
                         · (rw [hgrow.cell_far _ (by simp; omega) (Ne.symm lm)]; assumption)
                         · (rw [hgrow.cell_far _ (by simp; omega) (Ne.symm le)]; assumption)))
                    ((first
                      | (refine step_append_lies _ (by rfl) _ _ _ (by rfl) wo2.heap.size 5 i1 _ 1 1 Try.underlying31 I5.out.1 I5.out.2.1 I5.out.2.2.1 I5.out.2.2.2 rfl (by decide) u15 k _ (by rfl) ((ROWZ.out.alloc _).drew)
                          ⟨wz.heap.size, 0, none⟩ 1 1 [bv s] (by rfl) (by rfl) (World.news_of_block (cs := #[bv s]) (t := 5) (fr := (0, 0)) (heap_alloc_new wz _)) ONE.out
                          (by decide) L.out.1 L.out.2.1 (by simp; omega) (wz.heap.size + 1) (by simp) ?_; intro gg cap w1 hown1 hgrow hat hlt1)))
                  have NEW : Hid (OwnL Bv w1 wo2.heap.size 5 (.slice (some ⟨gg, 0, none⟩) (k + 1) cap) ((((List.range q).map (selE a ri ci i)).take k) ++ [s])) := Lib.hid (by
                    have h1 : xs.length = (((List.range q).map (selE a ri ci i)).take k).length := by rw [LN.out]; have := ROWZ.out.1; omega
                    have h2 := hown1
                    rw [← LN.out] at h2
                    have h3 := OwnL.pushed Bv.keeps (v := u15) (l := ((List.range q).map (selE a ri ci i)).take k) (x := s) (u := bv s) (fun j hj => by
                      obtain ⟨u, hu, ho⟩ := XSH.out j hj
                      have hv : Bv wr u _ := XPL.out j hj u hu
                      exact ⟨u, hu, hv, fun _ _ _ _ => hv⟩) (show Bv _ (bv s) s from rfl) (fun _ _ _ _ => (rfl : Bv _ (bv s) s)) h1 h2 hgrow (by rcases hat with hat | hat; exact Or.inl hat; exact Or.inr (by simpa using hat))
                    rw [LN.out] at h3
                    exact h3)
                  have GR := Lib.hid hgrow
                  have TK := Lib.hid (take_snoc 0 ((List.range q).map (selE a ri ci i)) k (by rw [List.length_map, List.length_range]; exact hlt2))
                  have TK2 : Hid (((List.range q).map (selE a ri ci i)).getD k 0 = s) := Lib.hid (by rw [range_getD _ _ _ _ hlt2, SE.out])
                  clear hown1 hgrow hat hlt1
                  go_wp2
                  go_roundw
                  case rel =>
                    refine ⟨k + 1, by omega, by go_num, Lib.hid ⟨?_, ?_, fun j hj => ?_⟩⟩
                    · exact (((H2.out.1.trans (WZ.out.below _)).alloc L3 _).drew).grown GR.out (by simp; omega) (fun g hg => (H2.out.2.1.own g hg).1)
                    · rw [TK.out, TK2.out]; exact NEW.out
                    · rcases Nat.lt_or_ge j k with h | h
                      · exact H2.out.2.2 j h
                      · obtain rfl : j = k := by omega
                        rw [EX.out, EY.out]
                        exact ⟨gX.1, gX.2, gY.1, gY.2⟩
                  case measure => simp [intOf]; omega
                · rcases (show Y < 0 ∨ ((n : Int) ≤ Y ∧ 0 ≤ Y) by omega) with hY | ⟨hY, hY0⟩
                  · have d1 : decide (X < 0) = false := by simp; omega
                    have d2 : decide ((r : Int) ≤ X) = false := by simp; omega
                    have d7 : decide (Y < 0) = true := by simpa using hY
                    have HBW := Lib.hid (bt HB_26.out hbw)
                    clear hbw gX gY
                    go_wp2
                    go_quiet (fail)
                    go_wp2
                    go_ret
                    exact ⟨by first | rfl | simp, bd HBW.out _⟩
                  · have d1 : decide (X < 0) = false := by simp; omega
                    have d2 : decide ((r : Int) ≤ X) = false := by simp; omega
                    have d7 : decide (Y < 0) = false := by simp; omega
                    have d8 : decide ((n : Int) ≤ Y) = true := by simpa using hY
                    have HBW := Lib.hid (bt HB_26.out hbw)
                    clear hbw gX gY
                    go_wp2
                    go_quiet (fail)
                    go_wp2
                    go_ret
                    exact ⟨by first | rfl | simp, bd HBW.out _⟩
              · rcases (show X < 0 ∨ ((r : Int) ≤ X ∧ 0 ≤ X) by omega) with hX | ⟨hX, hX0⟩
                · have d1 : decide (X < 0) = true := by simpa using hX
                  have HBW := Lib.hid (bt HB_26.out hbw)
                  clear hbw gX
                  go_wp2
                  go_quiet (fail)
                  go_wp2
                  go_ret
                  exact ⟨by first | rfl | simp, bd HBW.out _⟩
                · have d1 : decide (X < 0) = false := by simp; omega
                  have d2 : decide ((r : Int) ≤ X) = true := by simpa using hX
                  have HBW := Lib.hid (bt HB_26.out hbw)
                  clear hbw gX
                  go_wp2
                  go_quiet (fail)
                  go_wp2
                  go_ret
                  exact ⟨by first | rfl | simp, bd HBW.out _⟩
            · have ek : k = q := by omega
              subst ek
              have hown := H2.out.2.1
              rw [List.take_of_length_le (by rw [List.length_map, List.length_range]; omega)] at hown
              have hbs := hown.bs fun z hz => by obtain ⟨j, _, rfl⟩ := List.mem_map.1 hz; exact SB.out i j
              have hown7 := hown.own
              obtain ⟨A7, c7, rfl⟩ := hbs.form
              have ek2 : ((List.range k).map (selE a ri ci i)).length = k := by rw [List.length_map, List.length_range]
              rw [ek2] at hbs hown7 ⊢
              have hln : ((gridL p k (selE a ri ci)).take i).length = i := by rw [List.length_take, gridL, List.length_map, List.length_range]; omega
              have LN := Lib.hid hln
              have FF := Lib.hid (push_facts H.out.2.1 H2.out.1 hbs (fun g hg => (hown7 g hg).1) 31 wr.heap.size rfl)
              have TK := Lib.hid (take_snoc [] (gridL p k (selE a ri ci)) i (by rw [gridL, List.length_map, List.length_range]; exact hlt))
              have TK2 : Hid ((gridL p k (selE a ri ci)).getD i [] = (List.range k).map (selE a ri ci i)) := Lib.hid (range_getD _ _ _ _ hlt)
              have L : Hid (i + 1 ≤ maxLen ∧ (i + 1) * 24 ≤ 140737488355328) := Lib.hid ⟨by unfold maxLen; omega, by omega⟩
              have HS := Lib.hid H.out.1.size
              have HS2 := Lib.hid H2.out.1
              clear hln hbs hown hown7 ek2
              go_wp2_with (at_builtin; refine wpList_push rfl (.tmp 203) (.tmp 205) 22 rfl wo.heap.size 31 i6 (.slice none 0 0) 24 Try.underlying22 I6.out.1 I6.out.2.1 I6.out.2.2.1 I6.out.2.2.2 rfl Bs.keeps u13 _ rfl FF.out.1 i LN.out wr.heap.size (.slice A7 k c7) _ rfl FF.out.2.1 FF.out.2.2.2.2 FF.out.2.2.1 FF.out.2.2.2.1 L.out.1 L.out.2 (by simp; have := HS.out; have := HS2.out.size; omega) ?_; intro g3 cap3 w3 hown3 hgrow3)
              have HO3 := Lib.hid hown3
              have HG3 := Lib.hid hgrow3
              clear hown3 hgrow3
              go_wp2
              go_roundw
              case rel =>
                have hsz := HS.out
                have hs2 := HS2.out.size
                refine ⟨i + 1, by omega, by go_num, Lib.hid ⟨?_, ?_, fun j hj => ?_⟩⟩
                · exact ((H.out.1.trans (HS2.out.mono hsz)).alloc (by omega) _).grown HG3.out (by simp; omega) fun g hg => (H.out.2.1.own g hg).1
                · rw [TK.out, TK2.out]; exact HO3.out
                · rcases Nat.lt_or_ge j i with h | h
                  · exact H.out.2.2 j h
                  · obtain rfl : j = i := by omega
                    have h9 := H2.out.2.2 0 k6
                    exact ⟨h9.1, h9.2.1, fun y hy => (H2.out.2.2 y hy).2.2⟩
              case measure => simp [intOf]; omega
        · have ei : i = p := by omega
          subst ei
          have HE := Lib.hid H.out.1
          have hown := H.out.2.1
          rw [List.take_of_length_le (by rw [gridL, List.length_map, List.length_range]; omega)] at hown
          have WF := Lib.hid hown.sl
          have ALLG := Lib.hid H.out.2.2
          clear hown H
          have A_27 := Lib.hid (Ms.to A_22.out HE.out)
          have R_28 := Lib.hid (Is.to R_23.out HE.out)
          have C_29 := Lib.hid (Is.to C_24.out HE.out)
          have HB_30 := Lib.hid (bt HB_26.out HE.out)
          exact absurd ⟨(belowB_iff ri r).2 fun k hk => ⟨(ALLG.out k (by have e1 := EP.out; omega)).1, (ALLG.out k (by have e1 := EP.out; omega)).2.1⟩, (belowB_iff ci n).2 fun y hy => (ALLG.out 0 (by omega)).2.2 y (by have e2 := EQ.out; omega)⟩ NB.out
end Go.Proofs.Ytiibdoibcbokcaa
