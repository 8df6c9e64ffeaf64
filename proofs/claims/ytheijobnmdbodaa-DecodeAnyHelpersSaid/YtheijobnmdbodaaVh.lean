/- The walk of the law DecodeAnyHelpers. WRITTEN BY gen_Vh.py. -/
import Derived.Test.YtheijobnmdbodaaVe
namespace Go.Proofs.Ytheijobnmdbodaa
open Go Go.RowKit Lin
set_option linter.unusedVariables false
set_option linter.unusedSimpArgs false

theorem filter_or_le (p q : Nat → Bool) (l : List Nat) : (l.filter fun k => p k || q k).length ≤ (l.filter p).length + (l.filter q).length := by
  induction l with
  | nil => exact Nat.le_refl 0
  | cons y l ih =>
    rw [List.filter_cons, List.filter_cons, List.filter_cons]
    cases p y <;> cases q y <;> simp only [Bool.or_true, Bool.or_false, if_true, if_false, List.length_cons, Bool.false_eq_true] <;> omega
/-- The marks, and all from the place e on. -/
def eL (f : Nat → Bool) (N e : Nat) : List Bool := (List.range N).map fun k => f k || decide (e ≤ k)
theorem eL_len (f : Nat → Bool) (N e : Nat) : (eL f N e).length = N := by simp [eL]
theorem eL_at {f : Nat → Bool} {N e k : Nat} (hk : k < N) : (eL f N e).getD k false = (f k || decide (e ≤ k)) := range_getD _ _ _ _ hk
theorem cnt_eL (f : Nat → Bool) (N e : Nat) : cntL (eL f N e) N = ((List.range N).filter fun k => f k || decide (e ≤ k)).length := by
  unfold cntL; congr 1; exact List.filter_congr fun k hk => eL_at (List.mem_range.1 hk)
theorem eL_top (f : Nat → Bool) (N : Nat) : eL f N N = (List.range N).map f := List.map_congr_left fun k hk => by
  have := List.mem_range.1 hk
  rw [decide_eq_false (by omega), Bool.or_false]
theorem eL_step (f : Nat → Bool) (i k : Nat) : (f k || decide (i ≤ k)) = ((f k || decide (i + 1 ≤ k)) || decide (i = k)) := by
  by_cases h : i ≤ k
  · by_cases e : i = k
    · subst e; simp
    · rw [decide_eq_true h, decide_eq_true (show i + 1 ≤ k by omega)]; simp
  · rw [decide_eq_false h, decide_eq_false (show ¬ i + 1 ≤ k by omega), decide_eq_false (show ¬ i = k by omega)]; simp
theorem cnt_step (f : Nat → Bool) (N i : Nat) : cntL (eL f N i) N ≤ cntL (eL f N (i + 1)) N + 1 := by
  rw [cnt_eL, cnt_eL]
  have h1 := filter_or_le (fun k => f k || decide (i + 1 ≤ k)) (fun k => decide (i = k)) (List.range N)
  have h2 := filter_le_one N i
  rw [show (fun k => f k || decide (i ≤ k)) = fun k => (f k || decide (i + 1 ≤ k)) || decide (i = k) from funext fun k => eL_step f i k]
  omega
theorem cnt_none (f : Nat → Bool) (N : Nat) : cntL (eL f N 0) N = N := by
  rw [cnt_eL, List.filter_eq_self.2 fun k _ => by simp]; simp
theorem good_le (bad : List Bool) (i : Nat) : (goodL bad i).length ≤ i := by have := cnt_good bad i; omega

set_option maxHeartbeats 4000000 in
set_option maxRecDepth 100000 in
theorem helperslaw (D : List (List Nat)) (a : Nat) (K : List Nat) (w : World) (h : D.length = 13) (hD : ∀ d ∈ D, B8 d) (ha : a < 256) (hK : K.length = 3) (hKb : ∀ x ∈ K, x < 256) : Calls Try.prog 5 #[.agg (bcs D.flatten), .int .u8 (a : Int), .agg (bcs K)] w (lawPost w) := by
  obtain ⟨m, hm⟩ : ∃ m, m = 1 + a % 13 := ⟨_, rfl⟩
  obtain ⟨N, hN⟩ : ∃ N, N = m + 3 := ⟨_, rfl⟩
  have hm1 : 1 ≤ m := by omega
  have hm13 : m ≤ 13 := by omega
  have LG := Lib.hid fun w => lgroup_N D a m N w h hD ha hm hN
  have R0 := Lib.hid (row_new w (bcs D.flatten) 38)
  have S13 := Lib.hid (size13 h hD)
  have GL : Hid ((grpG D m).length = N) := Lib.hid (by rw [grpG_len (by omega), hN])
  have G8 := Lib.hid (grpG_ok hD m)
  have NM := Lib.hid hN
  have CG : Hid (chk (grpG D m) = true) := Lib.hid (chk_group (by rw [List.length_take]; omega) (by rw [List.length_take]; omega))
  have hN4 : 4 ≤ N := by omega
  have hN16 : N ≤ 16 := by omega
  have HNI : (N : Int) ≤ 16 := by omega
  have MA := Lib.hid fun w => marks_any N K w hN4 hN16 hK hKb
  have S3 := Lib.hid (size3 hK)
  have CT0 := cntL_mk N K
  have TLm : (D.take m).length = m := by rw [List.length_take]; omega
  have CB : Hid (∀ F, Cho m F → ∀ p, p < N → combB (wtR m F p) (pickB (grpG D m) F) = (grpG D m).getD p []) := Lib.hid fun F hF p hp => by
    have h := comb_group (D := D.take m) (fun d hd => hD d (List.mem_of_mem_take hd)) (F := F) (by rw [TLm]; exact hF) (p := p) (w := wtR m F p) (by rw [TLm]; omega) (by rw [TLm]; exact isW_red hm13 hF p)
    exact h
  obtain ⟨G, hG⟩ : ∃ G, grpG D m = G := ⟨_, rfl⟩
  rw [hG] at LG GL G8 CG CB
  obtain ⟨f, hf⟩ : ∃ f, mkF N K 3 = f := ⟨_, rfl⟩
  have FF := Lib.hid hf
  rw [mkL, hf, ← eL_top f N] at CT0
  have CT := Lib.hid CT0
  obtain ⟨i0, hi0, hz0, hz1, hz2⟩ := info_parts info_int
  have I0 := Lib.hid (And.intro hi0 (And.intro hz0 (And.intro hz1 hz2)))
  clear h hD hK hKb hm hG TLm hN hf CT0 hi0 hz0 hz1 hz2
  obtain ⟨c0, hc0⟩ : ∃ c, bcs D.flatten = c := ⟨_, rfl⟩
  obtain ⟨c1, hc1⟩ : ∃ c, bcs K = c := ⟨_, rfl⟩
  have C0 := Lib.hid hc0
  have C1 := Lib.hid hc1
  rw [hc0] at R0 S13 LG ⊢
  rw [hc1]
  clear hc0 hc1
  go_enter Try.func5, Try.ntmps5
  go_wp2_with fail
  obtain ⟨W0, hW0⟩ : ∃ W0, (w.alloc (.cells c0 38)).alloc (.cells c1 39) = W0 := ⟨_, rfl⟩
  have HB0 : Hid (Below w.heap.size w W0) := Lib.hid (by rw [← hW0]; exact ((Below.refl w.heap.size w).alloc (Nat.le_refl _) _).alloc (by simp) _)
  have HX0 : Hid (Row W0 w.heap.size 38 c0) := Lib.hid (by rw [← hW0]; exact R0.out.alloc _)
  have HY0 : Hid (Row W0 (w.heap.size + 1) 39 (bcs K)) := Lib.hid (by rw [← hW0, C1.out]; exact row_at (by simp) _ _)
  rw [hW0]
  clear hW0 R0
  refine (dawake_any _).mono ?_
  rintro e ux2 ⟨rfl, uhb1⟩
  have uhq3 : Below W0.heap.size W0 ux2 := uhb1
  have uX_4 := Lib.hid (Row.to HX0.out uhq3)
  have uL_5 := Lib.hid (Row.to HY0.out uhq3)
  have uHB_6 : Hid (Below w.heap.size w ux2) := Lib.hid (HB0.out.trans (uhq3.mono HB0.out.size))
  clear uhq3
  clear uhb1
  go_wp2_with (refine wpList_load_row rfl _ _ rfl _ rfl _ _ (0, 0) _ uX_4.out Try.underlying38 rfl S13.out ?_)
  refine (LG.out _).mono ?_
  rintro e ux8 ⟨gg, cg, rfl, uhn9, hgg, uhb7⟩
  have uhq10 : Below ux2.heap.size ux2 ux8 := uhb7
  have uL_11 := Lib.hid (Row.to uL_5.out uhq10)
  have uHB_12 : Hid (Below w.heap.size w ux8) := Lib.hid (uHB_6.out.trans (uhq10.mono uHB_6.out.size))
  clear uhq10
  have uG_13 := Lib.hid uhn9
  clear uhb7 uhn9
  clear hgg
  have AT := Lib.hid (Row.at8 uL_11.out)
  go_wp2_with (refine wpList_load8 rfl _ _ rfl _ _ rfl K _ AT.out Try.underlying39 rfl S3.out ?_)
  clear AT
  refine (MA.out _).mono ?_
  rintro e ux14 ⟨rfl, hmr, hmb⟩
  rw [FF.out] at hmr
  obtain ⟨gm, hgm⟩ : ∃ gm, ux8.heap.size + 1 = gm := ⟨_, rfl⟩
  have GM : ux8.heap.size ≤ gm := by omega
  rw [hgm] at hmr ⊢
  have MR := Lib.hid hmr
  have MB := Lib.hid hmb
  have WN : IntKind.i64.wrap ((N : Int) - 1) = (N : Int) - 1 := by rw [IntKind.wrap_i64]; omega
  clear hgm hmr hmb
  go_wp2_with fail
  go_loopw [9] (fun q wr => ∃ i : Nat, i < N ∧ q = .int .i64 (i : Int) ∧ Hid (Below ux8.heap.size ux8 wr ∧ wr.rowIs gm 4 N (fun k => .bool (f k || decide (i + 1 ≤ k))) ∧ cntL (eL f N (i + 1)) N ≤ 3)) (fun q _ => (intOf q).toNat + 1)
  case atStart =>
    refine ⟨N - 1, by omega, by congr 1; omega, Lib.hid ⟨MB.out, ?_, ?_⟩⟩
    · exact MR.out.congr fun k hk => by rw [decide_eq_false (by omega), Bool.or_false]
    · rw [show N - 1 + 1 = N by omega]; exact CT.out
  case round =>
    obtain ⟨i, hi, rfl, H⟩ := hrel
    obtain ⟨y1, y2, y3⟩ := H.out
    have HB := Lib.hid y1
    have HR := Lib.hid y2
    have BO := bos_of_row y2 (by unfold maxLen; omega)
    rw [show ((List.range N).map fun k => f k || decide (i + 1 ≤ k)) = eL f N (i + 1) from rfl] at BO
    have CO := count_any _ _ _ BO
    rw [eL_len] at CO
    have CST := cnt_step f N i
    have CNO := cnt_none f N
    obtain ⟨bad, hbad⟩ : ∃ bad, eL f N (i + 1) = bad := ⟨_, rfl⟩
    have BL : Hid (bad.length = N) := Lib.hid (by rw [← hbad, eL_len])
    rw [hbad] at BO CO y3 CST
    obtain ⟨cn, hcn⟩ : ∃ c, cntL bad N = c := ⟨_, rfl⟩
    have CN := Lib.hid hcn
    rw [hcn] at CO y3 CST
    have COH := Lib.hid CO
    have BOH := Lib.hid BO
    by_cases hlt : cn < 3
    · have hcI : decide ((cn : Int) < 3) = true := by simp; omega
      have hiI : (i : Int) < (N : Int) := by omega
      have hiI0 : (0 : Int) ≤ (i : Int) := by omega
      have q1 := y2.cell hi
      have q2 := y2.frozen i
      have WI : IntKind.i64.wrap ((i : Int) - 1) = (i : Int) - 1 := by rw [IntKind.wrap_i64]; omega
      have hi1 : Hid (1 ≤ i) := Lib.hid (by
        apply Classical.byContradiction
        intro h0
        have : i = 0 := by omega
        subst this
        rw [CNO] at CST
        omega)
      have C3 : Hid (cntL (eL f N i) N ≤ 3) := Lib.hid (by omega)
      clear y1 y2 y3 BO CO hbad hcn CST CNO H
      go_wp2_with fail
      refine COH.out.mono ?_
      rintro e w' ⟨rfl, rfl⟩
      go_wp2
      go_roundw
      case rel =>
        refine ⟨i - 1, by omega, by have := hi1.out; congr 1; omega, Lib.hid ⟨HB.out.setCell GM _, ?_, ?_⟩⟩
        · refine (HR.out.set i _).congr fun k hk => ?_
          have h1 := hi1.out
          rw [show i - 1 + 1 = i by omega, eL_step f i k]
          by_cases e : k = i
          · rw [if_pos e, e]; simp
          · have hd : decide (i = k) = false := decide_eq_false fun h => e h.symm
            rw [if_neg e, hd, Bool.or_false]
        · have h1 := hi1.out
          rw [show i - 1 + 1 = i by omega]; exact C3.out
      case measure => have := hi1.out; simp [intOf]; omega
    · have hcI : decide ((cn : Int) < 3) = false := by simp; omega
      obtain ⟨n, hn⟩ : ∃ n, n = m := ⟨_, rfl⟩
      have NN := NM.out
      rw [← hn] at NN CB hm1 hm13
      have CTB : cntL bad (n + 3) ≤ 3 := by rw [← NN, CN.out]; exact y3
      have CTE : cntL bad (n + 3) = 3 := by rw [← NN, CN.out]; omega
      have GE : (goodL bad (n + 3)).length ≤ n := by have := cnt_good bad (n + 3); omega
      have GF := Lib.hid (good_full CTB (Nat.le_refl _) GE (Or.inl rfl))
      have CH := Lib.hid (from_cho CTB)
      have LNN := Lib.hid NN
      have HGo := Lib.hid (OwnB.to uG_13.out y1)
      have HBo : Hid (Below w.heap.size w wr) := Lib.hid (uHB_12.out.trans (y1.mono uHB_12.out.size))
      clear y1 y2 y3 BO CO hbad hcn CST CNO H hn NN CTB CTE GE
      go_wp2_with fail
      refine COH.out.mono ?_
      rintro e w' ⟨rfl, rfl⟩
      obtain ⟨wo, rfl⟩ : ∃ wo, wo = wr := ⟨_, rfl⟩
      go_wp2_with fail
      have HN16 : Hid (N ≤ 16) := Lib.hid hN16
      go_loopw [10, 11, 12] (fun u v q wr => ∃ i : Nat, i ≤ N ∧ q = .int .i64 (i : Int) ∧ Hid (Below wo.heap.size wo wr ∧ OwnL Iv wr wo.heap.size 3 u (natsI (goodL bad i)) ∧ OwnB wr wo.heap.size v (pickB G (goodL bad i)) ∧ apartV u v)) (fun _ _ q _ => N - (intOf q).toNat)
      case atStart => exact ⟨0, Nat.zero_le _, rfl, Lib.hid ⟨Below.refl _ _, OwnL.nil_ _ _ _, ⟨fun d hd => (by cases hd), World.ownsRow_nil _ _ _ _⟩, fun k hk => (by cases hk)⟩⟩
      case round =>
        obtain ⟨i, hi, rfl, H⟩ := hrel
        obtain ⟨hbel, hO5, hO6, hap⟩ := H.out
        obtain ⟨A5, c5, rfl⟩ := hO5.sl.form
        rw [natsI_len] at hO5 hap ⊢
        have hti := good_le bad i
        obtain ⟨t, ht⟩ : ∃ t, (goodL bad i).length = t := ⟨_, rfl⟩
        have TT := Lib.hid ht
        rw [ht] at hO5 hap hti ⊢
        have HB := Lib.hid hbel
        have HO5 := Lib.hid hO5
        have HO6 := Lib.hid hO6
        have HAP := Lib.hid hap
        clear hbel hO5 hO6 hap ht H
        by_cases hlt : i < N
        · have hiI : (i : Int) < (N : Int) := by omega
          obtain ⟨b6, o6, c6, hv, -, hc6⟩ := Bos.at_ (BOH.out.to HB.out) (by rw [BL.out]; omega)
          rw [BL.out] at hv hc6
          injection hv with e1 e2 e3
          injection e1 with e1
          injection e1 with e1 e4
          subst e1 e4
          have p1 := hc6 i hlt
          rw [Nat.zero_add] at p1
          clear hc6 e2 e3
          rcases hbi : bad.getD i false with _ | _
          · rw [hbi] at p1
            have GS := Lib.hid (goodL_succ bad i)
            rw [hbi, if_neg (by decide)] at GS
            have hP := HGo.out.bl.to HB.out
            have hiP : i < G.length := by rw [GL.out]; exact hlt
            have dd := Bl.at8 hP hiP
            rw [Nat.zero_add] at dd
            have d8 : B8 (G.getD i []) := by rw [getD_in hiP]; exact G8.out _ (List.getElem_mem _)
            have BP := Lib.hid (HGo.out.lt gg rfl).2
            obtain ⟨d, ed⟩ : ∃ d, G.getD i [] = d := ⟨_, rfl⟩
            have PA : Hid (pickB G (goodL bad (i + 1)) = pickB G (goodL bad i) ++ [d]) := Lib.hid (by rw [GS.out, pickB_app, ed])
            rw [ed] at dd d8
            have F3 := Lib.hid (push_plain HO5.out (Below.refl wr.heap.size wr) (fun _ => (rfl : Iv _ (.int .i64 (i : Int)) (i : Int))) 3 wr.heap.size rfl)
            have NA : Hid (natsI (goodL bad (i + 1)) = natsI (goodL bad i) ++ [(i : Int)]) := Lib.hid (by rw [GS.out, natsI_app])
            have LNS : Hid ((natsI (goodL bad i)).length = t) := Lib.hid (by rw [natsI_len, TT.out])
            have LPB : Hid ((pickB G (goodL bad i)).length = t) := Lib.hid (by rw [pickB_len, TT.out])
            have L2 : t + 1 ≤ maxLen := by unfold maxLen; omega
            have L3 : (t + 1) * 8 ≤ 140737488355328 := by omega
            have L := Lib.hid (And.intro L2 L3)
            have L4 : Hid (t ≤ 1000) := Lib.hid (by omega)
            have SI := Lib.hid (size8 d8.1)
            have HS := Lib.hid HB.out.size
            have DD := Lib.hid dd
            have D8 := Lib.hid d8
            have BB1 := Lib.hid fun w => bl_one (w := w) d8
            clear hbi hP dd ed L2 L3 d8
            go_wp2_with (first
              | (at_builtin; refine wpList_push_at rfl (.tmp 49) (.tmp 51) 22 rfl wo.heap.size 3 i0 (.int .i64 0) 8 Try.underlying22 I0.out.1 I0.out.2.1 I0.out.2.2.1 I0.out.2.2.2 rfl Iv.keeps (.slice A5 t c5) _ rfl F3.out.1 t LNS.out wr.heap.size (.int .i64 (i : Int)) (i : Int) rfl F3.out.2.1 rfl F3.out.2.2.1 F3.out.2.2.2 L.out.1 L.out.2 (by simp; have := HS.out; omega) ?_
                 intro g5 cap5 w5 hown5 hgrow5 hat5
                 have HQ5 : Hid (Below wo.heap.size wr w5) := Lib.hid (((Below.refl _ wr).alloc HS.out _).grown hgrow5 (by simp; have := HS.out; omega) fun q hq => (HO5.out.own q hq).1)
                 have HD5 := Lib.hid (DD.out.below HQ5.out BP.out)
                 have HV5 := Lib.hid hown5
                 have HW5 := Lib.hid (OwnB.beside (HO6.out.below ((Below.refl wr.heap.size wr).alloc (Nat.le_refl _) _) (Nat.le_refl _)) hgrow5 (fun k hk e => HAP.out k e hk))
                 have HA5 : Hid ((Value.slice A5 t c5).ownBlock = some g5 ∨ g5 = wr.heap.size + 1) := Lib.hid (by simpa using hat5)
                 have HS5 : Hid (wr.heap.size ≤ w5.heap.size) := Lib.hid (Nat.le_trans (by simp) hgrow5.size)
                 have HL5 := Lib.hid (hown5.own g5 rfl)
                 clear hown5 hgrow5 hat5)
              | (refine wpList_load8 rfl _ _ rfl _ _ rfl d _ HD5.out Try.underlying33 rfl SI.out ?_)
              | (refine wpList_build1 rfl (.tmp 57) rfl d rfl D8.out ?_)
              | (refine wpList_push_bl rfl (.tmp 53) (.tmp 58) rfl wo.heap.size u11 (pickB G (goodL bad i)) t d w5.heap.size 1 rfl (HW5.out.below ((Below.refl w5.heap.size w5).alloc (Nat.le_refl _) _) (Nat.le_refl _)) LPB.out rfl (BB1.out _) L4.out (by simp; have := HS.out; have := HS5.out; omega) ?_
                 intro g6 cap6 w6 hown6 hgrow6 hat6 hlt6
                 have HQ6 : Hid (Below wo.heap.size w5 w6) := Lib.hid (((Below.refl _ w5).alloc (Nat.le_trans HS.out HS5.out) _).grown hgrow6 (by simp; have := HS.out; have := HS5.out; omega) fun q hq => (HW5.out.lt q hq).1)
                 have HV6 := Lib.hid (OwnL.beside (fun _ _ _ _ h => h) (HV5.out.alloc _) hgrow6 (fun k hk e => by
                   injection hk with hk
                   have hk : g5 = k := hk
                   subst hk
                   rcases HA5.out with h | h
                   · exact HAP.out g5 h e
                   · have := (HO6.out.lt g5 e).2; omega))
                 have HW6 := Lib.hid hown6
                 have HA6 : Hid (apartV (.slice (some ⟨g5, 0, none⟩) (t + 1) cap5) (.slice (some ⟨g6, 0, none⟩) (t + 1) cap6)) := Lib.hid (fun k hk e => by
                   injection hk with hk
                   injection e with e
                   have hk : g5 = k := hk
                   have e : g6 = k := e
                   have h5 := HL5.out
                   rcases hat6 with h | h
                   · rcases HA5.out with h2 | h2
                     · exact HAP.out g5 h2 (by rw [h, e, hk])
                     · have := (HO6.out.lt g6 h).2; omega
                   · simp at h; omega)
                 clear hown6 hgrow6 hat6 hlt6))
            go_roundw
            case rel => exact ⟨i + 1, by omega, by go_num, Lib.hid ⟨HB.out.trans (HQ5.out.trans HQ6.out), by rw [NA.out]; exact HV6.out, by rw [PA.out]; exact HW6.out, HA6.out⟩⟩
            case measure => simp [intOf]; omega
          · rw [hbi] at p1
            have GS := Lib.hid (goodL_succ bad i)
            rw [hbi, if_pos rfl] at GS
            clear hbi
            go_wp2
            go_roundw
            case rel => exact ⟨i + 1, by omega, by go_num, Lib.hid ⟨HB.out, by rw [GS.out]; exact HO5.out, by rw [GS.out]; exact HO6.out, HAP.out⟩⟩
            case measure => simp [intOf]; omega
        · obtain rfl : N = i := by omega
          have hI := HO5.out.sl
          have hG := HO6.out.bl
          have ge : goodL bad N = fromL bad n := by rw [LNN.out]; exact GF.out
          rw [ge] at hI hG
          have htn : t = n := by rw [← TT.out, ge, CH.out.len]
          obtain ⟨Fr, hFr⟩ : ∃ F, fromL bad n = F := ⟨_, rfl⟩
          rw [hFr] at hI hG CH
          obtain ⟨A6, c6, hv6⟩ := hG.form
          rw [pickB_len, CH.out.len] at hv6
          subst hv6
          rw [htn] at hI
          obtain ⟨w2, rfl⟩ : ∃ w2, w2 = wr := ⟨_, rfl⟩
          have QI := Lib.hid hI
          have QG := Lib.hid hG
          have QP := Lib.hid (HGo.out.bl.to HB.out)
          have HB2 : Hid (Below w.heap.size w w2) := Lib.hid (HBo.out.trans (HB.out.mono HBo.out.size))
          have WTS := Lib.hid fun p (hp : p < N) v w (h : Is w v (natsI Fr)) => wts_ok n N p Fr v w LNN.out hm1 hm13 h CH.out hp
          have WLn := Lib.hid fun i => (isW_red hm13 CH.out i).len
          have PKL : Hid ((pickB G Fr).length = n) := Lib.hid (by rw [pickB_len, CH.out.len])
          have CMB := Lib.hid fun p (hp : p < N) v1 v2 w (h1 : Bs w v1 (wtR n Fr p)) (h2 : Bl w v2 (pickB G Fr)) => comb_ok v1 v2 _ _ w h1 h2 (by rw [WLn.out, PKL.out]) (by rw [WLn.out]; omega)
          have CBF := Lib.hid fun p (hp : p < N) => CB.out Fr CH.out p hp
          have ZZ : Hid ((#[.int .u8 0, .int .u8 0, .int .u8 0, .int .u8 0, .int .u8 0, .int .u8 0, .int .u8 0, .int .u8 0] : Array Value) = bcs zeroB.1) := Lib.hid rfl
          clear hI hG HO5 HO6 GF HAP hFr ge hti TT
          subst htn
          go_wp2_with fail
          go_loopw [13] (fun q wr => ∃ p : Nat, p ≤ N ∧ q = .int .i64 (p : Int) ∧ Hid (Below w2.heap.size w2 wr)) (fun q _ => N - (intOf q).toNat)
          case atStart => exact ⟨0, Nat.zero_le _, rfl, Lib.hid (Below.refl _ _)⟩
          case round =>
            obtain ⟨p, hp, rfl, H⟩ := hrel
            by_cases hlt : p < N
            · have hpI : (p : Int) < (N : Int) := by omega
              have WTP := Lib.hid (WTS.out p hlt)
              have CMP := CMB.out p hlt
              have CBP := CBF.out p hlt
              have d8 : B8 (G.getD p []) := by rw [getD_in (by rw [GL.out]; exact hlt)]; exact G8.out _ (List.getElem_mem _)
              have AG := Lib.hid fun w (h : Bl w (.slice (some ⟨gg, 0, none⟩) N cg) G) => (Bl.at8 h (i := p) (by rw [GL.out]; exact hlt) : At8 w gg (0 + p * 8) _)
              obtain ⟨d, ed⟩ : ∃ d, G.getD p [] = d := ⟨_, rfl⟩
              rw [ed] at CBP d8 AG
              rw [CBP] at CMP
              have CMH := Lib.hid CMP
              rw [Nat.zero_add] at AG
              have HJ := Lib.hid (Bl.to QP.out H.out)
              have HI2 := Lib.hid (Is.to QI.out H.out)
              have HG2 := Lib.hid (Bl.to QG.out H.out)
              have EQ := fun w' => neq8 d d d8 d8 w'
              simp only [decide_true, Bool.not_true] at EQ
              have TH := Lib.hid fun w => new8 (w := w) d8.1
              have SI := Lib.hid (size8 d8.1)
              clear CMP CBP ed
              go_wp2_with fail
              refine (WTP.out _ _ HI2.out).mono ?_
              rintro e zx2 ⟨Aw, cw, rfl, zhn3, zhb1⟩
              have zhq4 : Below wr.heap.size wr zx2 := zhb1
              have zP_5 := Lib.hid (Bl.to HJ.out zhq4)
              have zI_6 := Lib.hid (Is.to HI2.out zhq4)
              have zG_7 := Lib.hid (Bl.to HG2.out zhq4)
              have zHB_8 : Hid (Below w2.heap.size w2 zx2) := Lib.hid (H.out.trans (zhq4.mono H.out.size))
              clear zhq4
              have zW_9 := Lib.hid zhn3
              clear zhb1 zhn3
              go_wp2_with fail
              refine (CMH.out _ _ _ zW_9.out zG_7.out).mono ?_
              rintro e zx11 ⟨rfl, zhb10⟩
              have zhq12 : Below zx2.heap.size zx2 zx11 := zhb10
              have zP_13 := Lib.hid (Bl.to zP_5.out zhq12)
              have zG_14 := Lib.hid (Bl.to zG_7.out zhq12)
              have zW_15 := Lib.hid (Bs.to zW_9.out zhq12)
              have zHB_16 : Hid (Below w2.heap.size w2 zx11) := Lib.hid (zHB_8.out.trans (zhq12.mono zHB_8.out.size))
              clear zhq12
              clear zhb10
              go_upto_region 22 with (refine wpList_store8 rfl _ _ _ rfl _ 0 _ rfl rfl (TH.out _) SI.out ?_)
              obtain ⟨W2, hW2⟩ : ∃ W2, (zx11.alloc (.cells #[.int .u8 0, .int .u8 0, .int .u8 0, .int .u8 0, .int .u8 0, .int .u8 0, .int .u8 0, .int .u8 0] 33)).setCells zx11.heap.size 0 (d.map bv) = W2 := ⟨_, rfl⟩
              have R5 := Lib.hid (put8 (w := zx11) d8.1)
              have B5 := Lib.hid (new8_below zx11 d)
              rw [hW2] at R5 B5 ⊢
              clear hW2
              obtain ⟨nb, hnb⟩ : ∃ nb, zx11.heap.size = nb := ⟨_, rfl⟩
              rw [hnb] at R5 ⊢
              have zhq17 : Below zx11.heap.size zx11 W2 := B5.out
              have zP_18 := Lib.hid (Bl.to zP_13.out zhq17)
              have zHB_19 : Hid (Below w2.heap.size w2 W2) := Lib.hid (zHB_16.out.trans (zhq17.mono zHB_16.out.size))
              clear zhq17
              clear hnb
              have AP := Lib.hid (AG.out _ zP_18.out)
              have AR := Lib.hid (Row.at8 R5.out)
              refine wp_region_held (P := Try.prog) (S := (fun w' : World => At8 w' nb 0 d ∧ At8 w' gg (p * 8) d)) rfl ?_
              change wpAnyH _ _ _ _ _ _ _ _ W2.drew
              have zhz21 : Below W2.heap.size W2 W2.drew := (Below.refl W2.heap.size W2).drew
              generalize W2.drew = zwz20 at zhz21 ⊢
              have zhq22 : Below W2.heap.size W2 zwz20 := zhz21
              have zP_23 := Lib.hid (At8.to AP.out zhq22)
              have zR_24 := Lib.hid (At8.to AR.out zhq22)
              have zHB_25 : Hid (Below w2.heap.size w2 zwz20) := Lib.hid (zHB_19.out.trans (zhq22.mono zHB_19.out.size))
              clear zhq22
              clear zhz21
              have zhS26 : (fun w' : World => At8 w' nb 0 d ∧ At8 w' gg (p * 8) d) zwz20 := ⟨zR_24.out, zP_23.out⟩
              refine takeD (i := 0) (v := .int .i64 0) (some 80) rfl rfl (by kernel_rfl) (by kernel_rfl) (by kernel_rfl) (fun _ _ _ h => h) (Or.inl ⟨by rfl, by rintro w' -; go_simp⟩) zhS26 ?_
              simp only [Act.put, List.setIfInBounds_toArray, List.set_cons_zero, List.set_cons_succ]
              refine takeD (i := 1) (v := .bool false) (some 81) rfl rfl (by kernel_rfl) (by kernel_rfl) (by kernel_rfl) (fun _ _ _ h => h) (Or.inl ⟨by rfl, by rintro w' -; go_simp⟩) zhS26 ?_
              simp only [Act.put, List.setIfInBounds_toArray, List.set_cons_zero, List.set_cons_succ]
              refine takeD (i := 2) (v := .bool false) (some 82) rfl rfl (by kernel_rfl) (by kernel_rfl) (by kernel_rfl) (fun _ _ _ h => h) (Or.inl ⟨by rfl, by rintro w' -; go_simp⟩) zhS26 ?_
              simp only [Act.put, List.setIfInBounds_toArray, List.set_cons_zero, List.set_cons_succ]
              refine takeD (i := 3) (v := .int .i64 0) (some 83) rfl rfl (by kernel_rfl) (by kernel_rfl) (by kernel_rfl) (fun _ _ _ h => h) (Or.inl ⟨by rfl, by rintro w' -; go_simp⟩) zhS26 ?_
              simp only [Act.put, List.setIfInBounds_toArray, List.set_cons_zero, List.set_cons_succ]
              refine takeD (i := 4) (v := .bool false) (some 84) rfl rfl (by kernel_rfl) (by kernel_rfl) (by kernel_rfl) (fun _ _ _ h => h) (Or.inl ⟨by rfl, by rintro w' -; go_simp⟩) zhS26 ?_
              simp only [Act.put, List.setIfInBounds_toArray, List.set_cons_zero, List.set_cons_succ]
              refine takeD (i := 5) (v := .bool false) (some 85) rfl rfl (by kernel_rfl) (by kernel_rfl) (by kernel_rfl) (fun _ _ _ h => h) (Or.inl ⟨by rfl, by rintro w' -; go_simp⟩) zhS26 ?_
              simp only [Act.put, List.setIfInBounds_toArray, List.set_cons_zero, List.set_cons_succ]
              refine takeD (i := 6) (v := .bool false) (some 86) rfl rfl (by kernel_rfl) (by kernel_rfl) (by kernel_rfl) (fun _ _ _ h => h) (Or.inl ⟨by rfl, by rintro w' -; go_simp⟩) zhS26 ?_
              simp only [Act.put, List.setIfInBounds_toArray, List.set_cons_zero, List.set_cons_succ]
              refine takeD (i := 7) (v := .agg (bcs d)) (some 87) rfl rfl (by kernel_rfl) (by kernel_rfl) (by kernel_rfl) (fun _ _ _ h => h) (yieldsIf_load8 (by rfl) _ _ rfl _ _ rfl d _ (fun w' h => h.1) Try.underlying33 rfl (size8 d8.1)) zhS26 ?_
              simp only [Act.put, List.setIfInBounds_toArray, List.set_cons_zero, List.set_cons_succ]
              refine takeD (i := 8) (v := .slice (some ⟨gg, 0, none⟩) N cg) (some 88) rfl rfl (by kernel_rfl) (by kernel_rfl) (by kernel_rfl) (fun _ _ _ h => h) (Or.inl ⟨by rfl, by rintro w' -; go_simp⟩) zhS26 ?_
              simp only [Act.put, List.setIfInBounds_toArray, List.set_cons_zero, List.set_cons_succ]
              refine takeD (i := 9) (v := .int .i64 (p : Int)) (some 89) rfl rfl (by kernel_rfl) (by kernel_rfl) (by kernel_rfl) (fun _ _ _ h => h) (Or.inl ⟨by rfl, by rintro w' -; go_simp⟩) zhS26 ?_
              simp only [Act.put, List.setIfInBounds_toArray, List.set_cons_zero, List.set_cons_succ]
              refine takeD (i := 10) (v := .pointer (some ⟨gg, p * 8, none⟩)) (some 90) rfl rfl (by kernel_rfl) (by kernel_rfl) (by kernel_rfl) (fun _ _ _ h => h) (Or.inl ⟨by rfl, by rintro w' -; go_simp⟩) zhS26 ?_
              simp only [Act.put, List.setIfInBounds_toArray, List.set_cons_zero, List.set_cons_succ]
              refine takeD (i := 11) (v := .agg (bcs d)) (some 91) rfl rfl (by kernel_rfl) (by kernel_rfl) (by kernel_rfl) (fun _ _ _ h => h) (yieldsIf_load8 (by rfl) _ _ rfl _ _ rfl d _ (fun w' h => h.2) Try.underlying33 rfl (size8 d8.1)) zhS26 ?_
              simp only [Act.put, List.setIfInBounds_toArray, List.set_cons_zero, List.set_cons_succ]
              refine takeD (i := 12) (v := .bool false) (some 92) rfl rfl (by kernel_rfl) (by kernel_rfl) (by kernel_rfl) (fun _ _ _ h => h) (Or.inl ⟨by rfl, by rintro w' -; go_simp⟩) zhS26 ?_
              simp only [Act.put, List.setIfInBounds_toArray, List.set_cons_zero, List.set_cons_succ]
              refine takeD (i := 13) (v := .bool false) (some 93) rfl rfl (by kernel_rfl) (by kernel_rfl) (by kernel_rfl) (fun _ _ _ h => h) (Or.inl ⟨by rfl, by rintro w' -; go_simp⟩) zhS26 ?_
              simp only [Act.put, List.setIfInBounds_toArray, List.set_cons_zero, List.set_cons_succ]
              refine wpAnyH_done (by kernel_rfl) ?_ _
              go_wp2
              go_roundw
              case rel => exact ⟨p + 1, by omega, by go_num, zHB_25⟩
              case measure => simp [intOf]; omega
            · go_wp2
              go_ret
              exact ⟨by first | rfl | simp, HB2.out.trans (H.out.mono HB2.out.size)⟩
end Go.Proofs.Ytheijobnmdbodaa
