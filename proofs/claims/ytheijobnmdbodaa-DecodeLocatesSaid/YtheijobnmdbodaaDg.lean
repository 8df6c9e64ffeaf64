/- Contracts: the reference's Restore and Decode. WRITTEN BY gen_Dg.py. -/
import Derived.Test.YtheijobnmdbodaaDe
import Derived.Test.YtheijobnmdbodaaDf
namespace Go.Proofs.Ytheijobnmdbodaa
open Go Go.RowKit Lin
set_option linter.unusedVariables false
set_option linter.unusedSimpArgs false

/-- Another own list of plain values stands where one grows. -/
theorem OwnL.beside {α : Type} {R : World → Value → α → Prop} {w w' : World} {base : Nat} {e : TypeId} {v : Value} {l : List α} {row : Option Nat} (hp : ∀ w w' u x, R w u x → R w' u x) (h : OwnL R w base e v l) (hg : w.grownBy w' row) (hne : ∀ k, v.ownBlock = some k → row ≠ some k) : OwnL R w' base e v l := by
  rcases h with ⟨rfl, rfl⟩ | ⟨g, cap, rfl, hb, h⟩
  · exact Or.inl ⟨rfl, rfl⟩
  · have hlt := h.lt
    obtain ⟨cs, hr, hs, hm, hl, hc⟩ := h
    refine Or.inr ⟨g, cap, rfl, hb, cs, (hg.block g hlt (fun e => hne g rfl e.symm)).trans hr, hs, hm, hl, fun k hk => ?_⟩
    obtain ⟨u, hu, ho⟩ := hc k hk
    exact ⟨u, hu, fun w'' _ => hp _ _ _ _ ho.here⟩
theorem good_full {bad : List Bool} {n i : Nat} (hc : cntL bad (n + 3) ≤ 3) (hi : i ≤ n + 3) (hl : (goodL bad i).length ≤ n) (h : i = n + 3 ∨ n ≤ (goodL bad i).length) : goodL bad i = fromL bad n := by
  have e : (goodL bad i).length = n := by
    rcases h with rfl | h
    · have := cnt_good bad (n + 3); omega
    · omega
  have := goodL_pre bad i (n + 3 - i)
  rw [show i + (n + 3 - i) = n + 3 by omega, e] at this
  exact this.symm
theorem pickB_app (P : List (List Nat)) (F : List Nat) (k : Nat) : pickB P (F ++ [k]) = pickB P F ++ [P.getD k []] := by simp [pickB]
def apartV (u v : Value) : Prop := ∀ k, u.ownBlock = some k → v.ownBlock ≠ some k
def blNewN (D : List (List Nat)) (n : Nat) (w : World) (e : Ending) (w' : World) : Prop := ∃ g c, e = .returned (.slice (some ⟨g, 0, none⟩) n c) ∧ Bl w' (.slice (some ⟨g, 0, none⟩) n c) D ∧ Below w.heap.size w w'
set_option maxHeartbeats 4000000 in
set_option maxRecDepth 100000 in
theorem restore_any (v vb : Value) (P : List (List Nat)) (bad : List Bool) (w : World) (h : Bl w v P) (hb : Bos w vb bad) (hs : 4 ≤ P.length ∧ P.length ≤ 16 ∧ bad.length = P.length ∧ cntL bad P.length ≤ 3) : Calls Try.prog 41 #[v, vb] w (blNewN (decL P bad) P.length w) := by
  have h13 : P.length ≤ 16 := hs.2.1
  have HP := Lib.hid h
  have HBd := Lib.hid hb
  have OK := Lib.hid h.ok
  obtain ⟨bp, op, cp, rfl, hcp, hbp, -⟩ := Bl.at_ h (by omega)
  obtain ⟨b2, o2, c2, rfl, -, -⟩ := Bos.at_ hb (by omega)
  obtain ⟨n, hn⟩ : ∃ n, P.length = n + 3 := ⟨P.length - 3, by omega⟩
  obtain ⟨N, hN⟩ : ∃ N, P.length = N := ⟨_, rfl⟩
  have LN : N = n + 3 := hN.symm.trans hn
  have NN := Lib.hid hN
  have LL := Lib.hid (hs.2.2.1.trans hN)
  have CT : Hid (cntL bad (n + 3) ≤ 3) := Lib.hid (by have := hs.2.2.2; rwa [hn] at this)
  have h1 : 1 ≤ n := by omega
  have hn13 : n ≤ 13 := by omega
  have CH := Lib.hid (from_cho CT.out)
  have e0 : (N : Int) - 3 = (n : Int) := by omega
  rw [hs.2.2.1, hN] at HBd ⊢
  rw [hN] at HP
  have LNN := Lib.hid LN
  have hNI : (N : Int) ≤ 16 := by omega
  have BP := Lib.hid hbp
  obtain ⟨i0, hi, hz0, hz1, hz2⟩ := info_parts info_int
  have I0 := Lib.hid (And.intro hi (And.intro hz0 (And.intro hz1 hz2)))
  have L1 : Hid (([] : List (List Nat)).length + P.length ≤ 1000) := Lib.hid (by simp; omega)
  clear h hb hs hn hN LN hcp hbp h13 hi hz0 hz1 hz2
  go_enter Try.func41, Try.ntmps41
  go_wp2_with fail
  go_loopw [5, 6, 7] (fun u v q wr => ∃ i : Nat, i ≤ N ∧ q = .int .i64 (i : Int) ∧ Hid (Below w.heap.size w wr ∧ OwnL Iv wr w.heap.size 3 u (natsI (goodL bad i)) ∧ OwnB wr w.heap.size v (pickB P (goodL bad i)) ∧ apartV u v ∧ (goodL bad i).length ≤ n)) (fun _ _ q _ => N - (intOf q).toNat)
  case atStart => exact ⟨0, Nat.zero_le _, rfl, Lib.hid ⟨Below.refl _ _, OwnL.nil_ _ _ _, ⟨fun d hd => (by cases hd), World.ownsRow_nil _ _ _ _⟩, fun k hk => (by cases hk), Nat.zero_le _⟩⟩
  case round =>
    obtain ⟨i, hi, rfl, H⟩ := hrel
    obtain ⟨hbel, hO5, hO6, hap, hln⟩ := H.out
    obtain ⟨A5, c5, rfl⟩ := hO5.sl.form
    rw [natsI_len] at hO5 hap ⊢
    obtain ⟨t, ht⟩ : ∃ t, (goodL bad i).length = t := ⟨_, rfl⟩
    have TT := Lib.hid ht
    rw [ht] at hO5 hln hap ⊢
    have HB := Lib.hid hbel
    have HO5 := Lib.hid hO5
    have HO6 := Lib.hid hO6
    have HAP := Lib.hid hap
    clear hbel hO5 hO6 hap ht H
    by_cases hgo : i < N ∧ t < n
    · obtain ⟨hlt, htn⟩ := hgo
      have hiI : (i : Int) < (N : Int) := by omega
      have htI : (t : Int) < (n : Int) := by omega
      obtain ⟨b6, o6, c6, hv, -, hc6⟩ := Bos.at_ (HBd.out.to HB.out) (by rw [LL.out]; omega)
      rw [LL.out] at hv hc6
      injection hv with e1 e2 e3
      injection e1 with e1
      injection e1 with e1 e4
      subst e1 e4
      have p1 := hc6 i hlt
      clear hc6 e2 e3
      rcases hbi : bad.getD i false with _ | _
      · rw [hbi] at p1
        have GS := Lib.hid (goodL_succ bad i)
        rw [hbi, if_neg (by decide)] at GS
        have hP := HP.out.to HB.out
        have hiP : i < P.length := by rw [NN.out]; exact hlt
        have dd := Bl.at8 hP hiP
        have d8 : B8 (P.getD i []) := by rw [getD_in hiP]; exact OK.out _ (List.getElem_mem _)
        obtain ⟨d, ed⟩ : ∃ d, P.getD i [] = d := ⟨_, rfl⟩
        have PA : Hid (pickB P (goodL bad (i + 1)) = pickB P (goodL bad i) ++ [d]) := Lib.hid (by rw [GS.out, pickB_app, ed])
        rw [ed] at dd d8
        have F3 := Lib.hid (push_plain HO5.out (Below.refl wr.heap.size wr) (fun _ => (rfl : Iv _ (.int .i64 (i : Int)) (i : Int))) 3 wr.heap.size rfl)
        have NA : Hid (natsI (goodL bad (i + 1)) = natsI (goodL bad i) ++ [(i : Int)]) := Lib.hid (by rw [GS.out, natsI_app])
        have LNS : Hid ((natsI (goodL bad i)).length = t) := Lib.hid (by rw [natsI_len, TT.out])
        have LPB : Hid ((pickB P (goodL bad i)).length = t) := Lib.hid (by rw [pickB_len, TT.out])
        have TS : Hid ((goodL bad (i + 1)).length ≤ n) := Lib.hid (by rw [GS.out, List.length_append, TT.out, List.length_singleton]; omega)
        have L2 : t + 1 ≤ maxLen := by unfold maxLen; omega
        have L3 : (t + 1) * 8 ≤ 140737488355328 := by omega
        have L := Lib.hid (And.intro L2 L3)
        have L4 : Hid (t ≤ 1000) := Lib.hid (by omega)
        have SI := Lib.hid (size8 d8.1)
        have HS := Lib.hid HB.out.size
        have DD := Lib.hid dd
        have D8 := Lib.hid d8
        have BB1 := Lib.hid fun w => bl_one (w := w) d8
        clear hbi hP dd ed L2 L3 d8
        go_wp2_with (first
          | (at_builtin; refine wpList_push_at rfl (.tmp 29) (.tmp 31) 22 rfl w.heap.size 3 i0 (.int .i64 0) 8 Try.underlying22 I0.out.1 I0.out.2.1 I0.out.2.2.1 I0.out.2.2.2 rfl Iv.keeps (.slice A5 t c5) _ rfl F3.out.1 t LNS.out wr.heap.size (.int .i64 (i : Int)) (i : Int) rfl F3.out.2.1 rfl F3.out.2.2.1 F3.out.2.2.2 L.out.1 L.out.2 (by simp; have := HS.out; omega) ?_
             intro g5 cap5 w5 hown5 hgrow5 hat5
             have HQ5 : Hid (Below w.heap.size wr w5) := Lib.hid (((Below.refl _ wr).alloc HS.out _).grown hgrow5 (by simp; have := HS.out; omega) fun q hq => (HO5.out.own q hq).1)
             have HD5 := Lib.hid (DD.out.below HQ5.out BP.out)
             have HV5 := Lib.hid hown5
             have HW5 := Lib.hid (OwnB.beside (HO6.out.below ((Below.refl wr.heap.size wr).alloc (Nat.le_refl _) _) (Nat.le_refl _)) hgrow5 (fun k hk e => HAP.out k e hk))
             have HA5 : Hid ((Value.slice A5 t c5).ownBlock = some g5 ∨ g5 = wr.heap.size + 1) := Lib.hid (by simpa using hat5)
             have HS5 : Hid (wr.heap.size ≤ w5.heap.size) := Lib.hid (Nat.le_trans (by simp) hgrow5.size)
             have HL5 := Lib.hid (hown5.own g5 rfl)
             clear hown5 hgrow5 hat5)
          | (refine wpList_load8 rfl _ _ rfl _ _ rfl d _ HD5.out Try.underlying33 rfl SI.out ?_)
          | (refine wpList_build1 rfl (.tmp 37) rfl d rfl D8.out ?_)
          | (refine wpList_push_bl rfl (.tmp 33) (.tmp 38) rfl w.heap.size u6 (pickB P (goodL bad i)) t d w5.heap.size 1 rfl (HW5.out.below ((Below.refl w5.heap.size w5).alloc (Nat.le_refl _) _) (Nat.le_refl _)) LPB.out rfl (BB1.out _) L4.out (by simp; have := HS.out; have := HS5.out; omega) ?_
             intro g6 cap6 w6 hown6 hgrow6 hat6 hlt6
             have HQ6 : Hid (Below w.heap.size w5 w6) := Lib.hid (((Below.refl _ w5).alloc (Nat.le_trans HS.out HS5.out) _).grown hgrow6 (by simp; have := HS.out; have := HS5.out; omega) fun q hq => (HW5.out.lt q hq).1)
             have HV6 := Lib.hid (OwnL.beside (fun _ _ _ _ h => h) (HV5.out.alloc _) hgrow6 (fun k hk e => by
               injection hk with hk
               have hk : g5 = k := hk
               subst hk
               rcases HA5.out with h | h
               · exact HAP.out g5 h e
               · have := (HO6.out.lt g5 e).2; omega))
             have HW6 := Lib.hid hown6
             have HA6 : Hid (apartV (.slice (some ⟨g5, 0, none⟩) (t + 1) cap5) (.slice (some ⟨g6, 0, none⟩) (t + 1) cap6)) := Lib.hid (fun k hk e => by
               injection hk with hk
               injection e with e
               have hk : g5 = k := hk
               have e : g6 = k := e
               have h5 := HL5.out
               rcases hat6 with h | h
               · rcases HA5.out with h2 | h2
                 · exact HAP.out g5 h2 (by rw [h, e, hk])
                 · have := (HO6.out.lt g6 h).2; omega
               · simp at h; omega)
             clear hown6 hgrow6 hat6 hlt6))
        go_roundw
        case rel => exact ⟨i + 1, by omega, by go_num, Lib.hid ⟨HB.out.trans (HQ5.out.trans HQ6.out), by rw [NA.out]; exact HV6.out, by rw [PA.out]; exact HW6.out, HA6.out, TS.out⟩⟩
        case measure => simp [intOf]; omega
      · rw [hbi] at p1
        have GS := Lib.hid (goodL_succ bad i)
        rw [hbi, if_pos rfl] at GS
        clear hbi
        go_wp2
        go_roundw
        case rel => exact ⟨i + 1, by omega, by go_num, Lib.hid ⟨HB.out, by rw [GS.out]; exact HO5.out, by rw [GS.out]; exact HO6.out, HAP.out, by rw [GS.out, TT.out]; exact hln⟩⟩
        case measure => simp [intOf]; omega
    · have GF := Lib.hid (good_full CT.out (by rw [← LNN.out]; exact hi) (by rw [TT.out]; exact hln) (by rw [TT.out]; have := LNN.out; omega))
      have hI := HO5.out.sl
      have hG := HO6.out.bl
      rw [GF.out] at hI hG
      have htn : t = n := by rw [← TT.out, GF.out, CH.out.len]
      obtain ⟨A6, c6, hv6⟩ := hG.form
      rw [pickB_len, CH.out.len] at hv6
      subst hv6
      rw [htn] at hI
      obtain ⟨wo, rfl⟩ : ∃ wo, wo = wr := ⟨_, rfl⟩
      have QI := Lib.hid hI
      have QG := Lib.hid hG
      have QP := Lib.hid (HP.out.to HB.out)
      have QY := Lib.hid (HBd.out.to HB.out)
      have DA := Lib.hid fun i (hi : i < N) => decL_at (P := P) (bad := bad) (i := i) (by rw [NN.out]; exact hi)
      have PL3 : P.length - 3 = n := by rw [NN.out, LNN.out]; omega
      rw [PL3] at DA
      have PKL : Hid ((pickB P (fromL bad n)).length = n) := Lib.hid (by rw [pickB_len, CH.out.len])
      have WLn := Lib.hid fun i => (isW_red hn13 CH.out i).len
      have WTB := Lib.hid fun i => wtR_ok n (fromL bad n) i
      have hsp : (i < N ∧ decide ((t : Int) < (n : Int)) = false) ∨ N = i := by
        by_cases h : i < N
        · exact Or.inl ⟨h, by simp; omega⟩
        · exact Or.inr (by omega)
      clear hI hG HO5 HO6 GF PL3 HAP hgo TT
      rcases hsp with ⟨hlt, g0⟩ | rfl
      · have hiI : (i : Int) < (N : Int) := by omega
        subst htn
        go_wp2_with (at_builtin; refine wpList_append_bl rfl (.tmp 40) (.tmp 41) rfl wo.heap.size (.slice (some ⟨wo.heap.size, 0, none⟩) 0 0) (.slice (some ⟨bp, op, none⟩) N cp) [] P rfl (OwnB.new (Nat.le_refl _)) rfl (QP.out.alloc _) L1.out (by simp) ?_; intro kv1 kx2 ho hg; have kHO3 := Lib.hid ho; have kHG4 := Lib.hid hg; clear ho hg)
        have khq5 : Below wo.heap.size wo kx2 := ((Below.refl wo.heap.size wo).alloc (Nat.le_refl _) _).grown kHG4.out (by simp) (fun k e => by cases e; exact Nat.le_refl _)
        have kP_6 := Lib.hid (Bl.to QP.out khq5)
        have kI_7 := Lib.hid (Is.to QI.out khq5)
        have kY_8 := Lib.hid (Bos.to QY.out khq5)
        have kG_9 := Lib.hid (Bl.to QG.out khq5)
        have kHB_10 : Hid (Below w.heap.size w kx2) := Lib.hid (HB.out.trans (khq5.mono HB.out.size))
        clear khq5
        obtain ⟨gq, cq, eq, hgq, -⟩ := kHO3.out.form (by rw [List.nil_append, NN.out]; omega)
        rw [List.nil_append, NN.out] at eq
        subst eq
        have kOO11 := kHO3.out
        rw [List.nil_append] at kOO11
        have kOO11h := Lib.hid kOO11
        clear kOO11
        have LB : Hid (Below wo.heap.size wo kx2) := Lib.hid (((Below.refl wo.heap.size wo).alloc (Nat.le_refl _) _).grown kHG4.out (by simp) (fun k e => by cases e; exact Nat.le_refl _))
        have HGQ := Lib.hid hgq
        clear hgq
        go_wp2_with fail
        go_loopw [9] (fun q wq => ∃ i : Nat, i ≤ N ∧ q = .int .i64 (i : Int) ∧ Hid (Below wo.heap.size wo wq ∧ ∃ X, X.length = N ∧ OwnB wq wo.heap.size (.slice (some ⟨gq, 0, none⟩) N cq) X ∧ ∀ j, j < N → X.getD j [] = if j < i then (decL P bad).getD j [] else P.getD j [])) (fun q _ => N - (intOf q).toNat)
        case atStart => exact ⟨0, Nat.zero_le _, rfl, Lib.hid ⟨LB.out, P, NN.out, kOO11h.out, fun j _ => by rw [if_neg (Nat.not_lt_zero j)]⟩⟩
        case round =>
          obtain ⟨i, hi, rfl, H⟩ := hrel
          by_cases hlt : i < N
          · have hiI : (i : Int) < (N : Int) := by omega
            obtain ⟨hbel, X, hX, hO, hE⟩ := H.out
            have hOX : i < X.length := by omega
            obtain ⟨b6, o6, c6, hv, -, hc6⟩ := Bos.at_ (Bos.to QY.out hbel) (by rw [LL.out]; omega)
            rw [LL.out] at hv hc6
            injection hv with e1 e2 e3
            injection e1 with e1
            injection e1 with e1 e4
            subst e1 e4
            have p1 := hc6 i hlt
            have DI := Lib.hid (DA.out i hlt)
            clear hc6 e2 e3
            rcases hbi : bad.getD i false with _ | _
            · rw [hbi] at p1 DI
              rw [if_neg (by decide)] at DI
              have NX := Lib.hid (And.intro hbel (And.intro hX (And.intro hO hE)))
              clear hbi hbel hX hO hE H
              go_wp2
              go_roundw
              case rel =>
                obtain ⟨hbel, hX, hO, hE⟩ := NX.out
                refine ⟨i + 1, by omega, by go_num, Lib.hid ⟨hbel, X, hX, hO, fun j hj => ?_⟩⟩
                rw [hE j hj]
                by_cases e : j = i
                · rw [if_neg (by omega), if_pos (by omega), e, DI.out]
                · (repeat' split) <;> first | rfl | omega
              case measure => simp [intOf]; omega
            · rw [hbi] at p1 DI
              rw [if_pos rfl] at DI
              have R2 := Lib.hid (Is.to QI.out hbel)
              have R3 := Lib.hid (QG.out.to hbel)
              have R4 := Lib.hid hO
              have R5 := Lib.hid hbel
              have NX := Lib.hid (And.intro hX hE)
              have hin : i < N := hlt
              clear hbi hX hE hO hbel H
              go_wp2_with fail
              refine (rwts_any t N i (fromL bad t) _ _ LNN.out h1 hn13 R2.out CH.out hin).mono ?_
              rintro e mx2 ⟨Aw, cw, rfl, mhn3, mhb1⟩
              have mhq4 : Below wr.heap.size wr mx2 := mhb1
              have mI_5 := Lib.hid (Is.to R2.out mhq4)
              have mG_6 := Lib.hid (Bl.to R3.out mhq4)
              have mO_7 := Lib.hid (OwnB.to R4.out mhq4)
              have mHB_8 : Hid (Below wo.heap.size wo mx2) := Lib.hid (R5.out.trans (mhq4.mono R5.out.size))
              clear mhq4
              have mW_9 := Lib.hid mhn3
              clear mhb1 mhn3
              go_wp2_with fail
              refine (rcomb_ok _ _ _ _ _ mW_9.out mG_6.out (by rw [WLn.out, PKL.out]) (by rw [WLn.out]; omega)).mono ?_
              rintro e mx11 ⟨rfl, mhb10⟩
              have mhq12 : Below mx2.heap.size mx2 mx11 := mhb10
              have mI_13 := Lib.hid (Is.to mI_5.out mhq12)
              have mG_14 := Lib.hid (Bl.to mG_6.out mhq12)
              have mO_15 := Lib.hid (OwnB.to mO_7.out mhq12)
              have mW_16 := Lib.hid (Bs.to mW_9.out mhq12)
              have mHB_17 : Hid (Below wo.heap.size wo mx11) := Lib.hid (mHB_8.out.trans (mhq12.mono mHB_8.out.size))
              clear mhq12
              clear mhb10
              have D8 := combB_ok (WTB.out i) (pickB P (fromL bad t))
              obtain ⟨d, ed⟩ : ∃ d, combB (wtR t (fromL bad t) i) (pickB P (fromL bad t)) = d := ⟨_, rfl⟩
              rw [ed] at D8 DI ⊢
              have TH := Lib.hid (show mx11.there gq (i * 8) (bcs d).size by rw [bcs_size, D8.1]; exact mO_15.out.there hOX)
              have SI := Lib.hid (size8 D8.1)
              have NW := Lib.hid (mO_15.out.set hOX D8)
              have NB := Lib.hid (below_setCells mHB_17.out (d.map bv) gq (i * 8) HGQ.out)
              clear ed
              go_wp2_with (refine wpList_store8 rfl _ _ _ rfl gq (i * 8) _ rfl rfl TH.out SI.out ?_)
              go_roundw
              case rel =>
                refine ⟨i + 1, by omega, by go_num, Lib.hid ⟨NB.out, X.set i d, by simp [NX.out.1], NW.out, fun j hj => ?_⟩⟩
                rw [getD_set]
                by_cases e : i = j
                · subst e; rw [if_pos ⟨rfl, hOX⟩, if_pos (by omega), DI.out]
                · rw [if_neg fun hh => e hh.1, NX.out.2 j hj]; (repeat' split) <;> first | rfl | omega
              case measure => simp [intOf]; omega
          · obtain rfl : N = i := by omega
            obtain ⟨hbel, X, hX, hO, hE⟩ := H.out
            have eX : X = decL P bad := by
              refine list_ext [] (by rw [hX, decL_len, NN.out]) fun j hj => ?_
              rw [hX] at hj
              rw [hE j hj, if_pos hj]
            subst eX
            have FIN := Lib.hid (And.intro hO.bl (HB.out.trans (hbel.mono HB.out.size)))
            clear hbel hX hO hE H
            go_wp2
            go_ret
            exact ⟨gq, cq, rfl, FIN.out⟩
      · subst htn
        go_wp2_with (at_builtin; refine wpList_append_bl rfl (.tmp 40) (.tmp 41) rfl wo.heap.size (.slice (some ⟨wo.heap.size, 0, none⟩) 0 0) (.slice (some ⟨bp, op, none⟩) N cp) [] P rfl (OwnB.new (Nat.le_refl _)) rfl (QP.out.alloc _) L1.out (by simp) ?_; intro kv1 kx2 ho hg; have kHO3 := Lib.hid ho; have kHG4 := Lib.hid hg; clear ho hg)
        have khq5 : Below wo.heap.size wo kx2 := ((Below.refl wo.heap.size wo).alloc (Nat.le_refl _) _).grown kHG4.out (by simp) (fun k e => by cases e; exact Nat.le_refl _)
        have kP_6 := Lib.hid (Bl.to QP.out khq5)
        have kI_7 := Lib.hid (Is.to QI.out khq5)
        have kY_8 := Lib.hid (Bos.to QY.out khq5)
        have kG_9 := Lib.hid (Bl.to QG.out khq5)
        have kHB_10 : Hid (Below w.heap.size w kx2) := Lib.hid (HB.out.trans (khq5.mono HB.out.size))
        clear khq5
        obtain ⟨gq, cq, eq, hgq, -⟩ := kHO3.out.form (by rw [List.nil_append, NN.out]; omega)
        rw [List.nil_append, NN.out] at eq
        subst eq
        have kOO11 := kHO3.out
        rw [List.nil_append] at kOO11
        have kOO11h := Lib.hid kOO11
        clear kOO11
        have LB : Hid (Below wo.heap.size wo kx2) := Lib.hid (((Below.refl wo.heap.size wo).alloc (Nat.le_refl _) _).grown kHG4.out (by simp) (fun k e => by cases e; exact Nat.le_refl _))
        have HGQ := Lib.hid hgq
        clear hgq
        go_wp2_with fail
        go_loopw [9] (fun q wq => ∃ i : Nat, i ≤ N ∧ q = .int .i64 (i : Int) ∧ Hid (Below wo.heap.size wo wq ∧ ∃ X, X.length = N ∧ OwnB wq wo.heap.size (.slice (some ⟨gq, 0, none⟩) N cq) X ∧ ∀ j, j < N → X.getD j [] = if j < i then (decL P bad).getD j [] else P.getD j [])) (fun q _ => N - (intOf q).toNat)
        case atStart => exact ⟨0, Nat.zero_le _, rfl, Lib.hid ⟨LB.out, P, NN.out, kOO11h.out, fun j _ => by rw [if_neg (Nat.not_lt_zero j)]⟩⟩
        case round =>
          obtain ⟨i, hi, rfl, H⟩ := hrel
          by_cases hlt : i < N
          · have hiI : (i : Int) < (N : Int) := by omega
            obtain ⟨hbel, X, hX, hO, hE⟩ := H.out
            have hOX : i < X.length := by omega
            obtain ⟨b6, o6, c6, hv, -, hc6⟩ := Bos.at_ (Bos.to QY.out hbel) (by rw [LL.out]; omega)
            rw [LL.out] at hv hc6
            injection hv with e1 e2 e3
            injection e1 with e1
            injection e1 with e1 e4
            subst e1 e4
            have p1 := hc6 i hlt
            have DI := Lib.hid (DA.out i hlt)
            clear hc6 e2 e3
            rcases hbi : bad.getD i false with _ | _
            · rw [hbi] at p1 DI
              rw [if_neg (by decide)] at DI
              have NX := Lib.hid (And.intro hbel (And.intro hX (And.intro hO hE)))
              clear hbi hbel hX hO hE H
              go_wp2
              go_roundw
              case rel =>
                obtain ⟨hbel, hX, hO, hE⟩ := NX.out
                refine ⟨i + 1, by omega, by go_num, Lib.hid ⟨hbel, X, hX, hO, fun j hj => ?_⟩⟩
                rw [hE j hj]
                by_cases e : j = i
                · rw [if_neg (by omega), if_pos (by omega), e, DI.out]
                · (repeat' split) <;> first | rfl | omega
              case measure => simp [intOf]; omega
            · rw [hbi] at p1 DI
              rw [if_pos rfl] at DI
              have R2 := Lib.hid (Is.to QI.out hbel)
              have R3 := Lib.hid (QG.out.to hbel)
              have R4 := Lib.hid hO
              have R5 := Lib.hid hbel
              have NX := Lib.hid (And.intro hX hE)
              have hin : i < N := hlt
              clear hbi hX hE hO hbel H
              go_wp2_with fail
              refine (rwts_any t N i (fromL bad t) _ _ LNN.out h1 hn13 R2.out CH.out hin).mono ?_
              rintro e mx2 ⟨Aw, cw, rfl, mhn3, mhb1⟩
              have mhq4 : Below wr.heap.size wr mx2 := mhb1
              have mI_5 := Lib.hid (Is.to R2.out mhq4)
              have mG_6 := Lib.hid (Bl.to R3.out mhq4)
              have mO_7 := Lib.hid (OwnB.to R4.out mhq4)
              have mHB_8 : Hid (Below wo.heap.size wo mx2) := Lib.hid (R5.out.trans (mhq4.mono R5.out.size))
              clear mhq4
              have mW_9 := Lib.hid mhn3
              clear mhb1 mhn3
              go_wp2_with fail
              refine (rcomb_ok _ _ _ _ _ mW_9.out mG_6.out (by rw [WLn.out, PKL.out]) (by rw [WLn.out]; omega)).mono ?_
              rintro e mx11 ⟨rfl, mhb10⟩
              have mhq12 : Below mx2.heap.size mx2 mx11 := mhb10
              have mI_13 := Lib.hid (Is.to mI_5.out mhq12)
              have mG_14 := Lib.hid (Bl.to mG_6.out mhq12)
              have mO_15 := Lib.hid (OwnB.to mO_7.out mhq12)
              have mW_16 := Lib.hid (Bs.to mW_9.out mhq12)
              have mHB_17 : Hid (Below wo.heap.size wo mx11) := Lib.hid (mHB_8.out.trans (mhq12.mono mHB_8.out.size))
              clear mhq12
              clear mhb10
              have D8 := combB_ok (WTB.out i) (pickB P (fromL bad t))
              obtain ⟨d, ed⟩ : ∃ d, combB (wtR t (fromL bad t) i) (pickB P (fromL bad t)) = d := ⟨_, rfl⟩
              rw [ed] at D8 DI ⊢
              have TH := Lib.hid (show mx11.there gq (i * 8) (bcs d).size by rw [bcs_size, D8.1]; exact mO_15.out.there hOX)
              have SI := Lib.hid (size8 D8.1)
              have NW := Lib.hid (mO_15.out.set hOX D8)
              have NB := Lib.hid (below_setCells mHB_17.out (d.map bv) gq (i * 8) HGQ.out)
              clear ed
              go_wp2_with (refine wpList_store8 rfl _ _ _ rfl gq (i * 8) _ rfl rfl TH.out SI.out ?_)
              go_roundw
              case rel =>
                refine ⟨i + 1, by omega, by go_num, Lib.hid ⟨NB.out, X.set i d, by simp [NX.out.1], NW.out, fun j hj => ?_⟩⟩
                rw [getD_set]
                by_cases e : i = j
                · subst e; rw [if_pos ⟨rfl, hOX⟩, if_pos (by omega), DI.out]
                · rw [if_neg fun hh => e hh.1, NX.out.2 j hj]; (repeat' split) <;> first | rfl | omega
              case measure => simp [intOf]; omega
          · obtain rfl : N = i := by omega
            obtain ⟨hbel, X, hX, hO, hE⟩ := H.out
            have eX : X = decL P bad := by
              refine list_ext [] (by rw [hX, decL_len, NN.out]) fun j hj => ?_
              rw [hX] at hj
              rw [hE j hj, if_pos hj]
            subst eX
            have FIN := Lib.hid (And.intro hO.bl (HB.out.trans (hbel.mono HB.out.size)))
            clear hbel hX hO hE H
            go_wp2
            go_ret
            exact ⟨gq, cq, rfl, FIN.out⟩
end Go.Proofs.Ytheijobnmdbodaa
