/- Contract: the elimination. -/
import Derived.Test.YtheijobnmdbodaaGG
namespace Go.Proofs.Ytheijobnmdbodaa
open Go Go.RowKit Lin

theorem fused_zero (d s : List Nat) (hl : d.length = s.length) : fused d s 0 = d := by
  refine list_ext 0 (fused_len _ _ _) fun i _ => ?_
  rw [fused_getD _ _ _ _ hl, Gf.zero_mul, Nat.xor_zero]
theorem elimRow_zero {R W : Nat} {m : List (List Nat)} (h : Rect R W m) (top col i : Nat) (ht : top < R) (hi : i < R) (hz : el m i col = 0) : elimRow m top col i = m.getD i [] := by
  unfold elimRow
  split
  · rfl
  · rw [hz, fused_zero _ _ (by rw [(h.row i hi).1, (h.row top ht).1])]
theorem elimRow_len {R W : Nat} {m : List (List Nat)} (h : Rect R W m) (top col i : Nat) (hi : i < R) : (elimRow m top col i).length = W ∧ ∀ x ∈ elimRow m top col i, x < 256 := by
  unfold elimRow
  split
  · exact h.row i hi
  · exact ⟨by rw [fused_len]; exact (h.row i hi).1, fused_bytes _ _ _ (h.row i hi).2 (h.by i col)⟩
theorem info_int : (Try.prog.info? 3).map (fun i => (i.zero, i.size, i.bytes)) = some (some (.int .i64 0), 1, 8) := by kernel_rfl

def reducePost (g cap C B : Nat) (m : List (List Nat)) (w : World) (e : Ending) (w' : World) : Prop :=
  ∃ v, e = .returned v ∧ OwnL Iv w' w.heap.size 3 v (natsI (reduceF m C).2) ∧ Wk Bs w' g 24 cap (reduceF m C).1 ∧ Below B w w'
set_option maxHeartbeats 8000000 in
set_option maxRecDepth 100000 in
theorem reduce_any (g cap C B : Nat) (m : List (List Nat)) (w : World) {R W : Nat} (h : Wk Bs w g 24 cap m) (hR : Rect R W m) (hr : R ≤ 1000) (hC : C ≤ W) (hW : W ≤ 1000) (hB : B ≤ g) :
    Calls Try.prog 61 #[.slice (some ⟨g, 0, none⟩) R cap, .int .i64 (C : Int)] w (reducePost g cap C B m w) := by
  have HX := Lib.hid h
  have hgw := h.lt
  have RL := Lib.hid hR
  obtain ⟨i0, hi, hz0, hz1, hz2⟩ := info_parts info_int
  have I0 := Lib.hid (And.intro hi (And.intro hz0 (And.intro hz1 hz2)))
  have GW := Lib.hid hgw
  have HBG := Lib.hid hB
  clear h hR hi hz0 hz1 hz2 hgw hB
  go_enter Try.func61, Try.ntmps61
  go_wp2
  go_loopw [5, 6, 7, 8, 9, 11] (fun v _ _ _ _ q wr => ∃ k : Nat, k ≤ C ∧ q = .int .i64 (k : Int) ∧ Hid (Below B w wr ∧ w.heap.size ≤ wr.heap.size ∧ OwnL Iv wr w.heap.size 3 v (natsI (reduceF m k).2) ∧ Wx Bs wr (fun b => b = g ∨ v.ownBlock = some b) g 24 cap (reduceF m k).1)) (fun _ _ _ _ _ q _ => C - (intOf q).toNat)
  case atStart => exact ⟨0, Nat.zero_le _, rfl, Lib.hid ⟨Below.refl _ _, Nat.le_refl _, OwnL.nil_ _ _ _, Wx.of_wk HX.out fun b hb => by rcases hb with hb | hb; exact hb; cases hb⟩⟩
  case round =>
    obtain ⟨k, hk, rfl, H⟩ := hrel
    obtain ⟨wo, rfl⟩ : ∃ wo, wo = wr := ⟨_, rfl⟩
    by_cases hlt : k < C
    · have hkI : (k : Int) < (C : Int) := by omega
      obtain ⟨hRM, hInv⟩ := reduce_inv RL.out k
      have hle := hInv.le
      have SUCC : Hid (reduceF m (k + 1) = stepF (reduceF m k) k) := Lib.hid (reduceF_succ m k)
      obtain ⟨A5, c5, hv5⟩ := H.out.2.2.1.sl.form
      rw [natsI_len] at hv5
      obtain ⟨M, hM⟩ : ∃ M, (reduceF m k).1 = M := ⟨_, rfl⟩
      obtain ⟨P, hP⟩ : ∃ P, (reduceF m k).2 = P := ⟨_, rfl⟩
      have EQ : Hid (reduceF m k = (M, P)) := Lib.hid (by rw [← hM, ← hP])
      rw [hM, hP] at H
      rw [hM] at hRM
      rw [hP] at hle hv5
      clear hM hP hInv
      subst hv5
      obtain ⟨t, ht⟩ : ∃ t, P.length = t := ⟨_, rfl⟩
      rw [ht] at H hle ⊢
      have T := Lib.hid ht
      have RM := Lib.hid hRM
      have HO := Lib.hid H.out.2.2.1.own
      have hgo : g < wo.heap.size := H.out.2.2.2.lt
      have GO := Lib.hid hgo
      clear ht hgo
      cases hf : findP M k (M.length - t) t with
      | none =>
        have LN := Lib.hid (lift_none g cap t k M (fun b => b = g ∨ (Value.slice A5 t c5).ownBlock = some b) wo H.out.2.2.2 hRM hr hle (by omega) hW fun j h1 h2 => findP_none _ _ _ _ hf j h1 (by rw [hRM.len]; omega))
        have ST : Hid (stepF (reduceF m k) k = (M, P)) := Lib.hid (by rw [EQ.out]; unfold stepF; simp only; rw [T.out, hf])
        clear hRM hf
        go_wp2_with fail
        refine LN.out.mono ?_
        rintro e w' ⟨rfl, rfl⟩
        go_wp2_with fail
        go_roundw
        case rel => exact ⟨k + 1, by omega, by go_num, Lib.hid (by rw [SUCC.out, ST.out]; exact H.out)⟩
        case measure => simp [intOf]; omega
      | some a =>
        obtain ⟨ha1, ha2, hne⟩ := findP_some _ _ _ _ _ hf
        have haR : a < R := by rw [hRM.len] at ha2; omega
        have htR : t < R := by omega
        have LS := Lib.hid (lift_some g cap t k a M (fun b => b = g ∨ (Value.slice A5 t c5).ownBlock = some b) wo H.out.2.2.2 (Or.inl rfl) hRM hr (by omega) hW ha1 haR hne (findP_before _ _ _ _ _ hf))
        have ST : Hid (stepF (reduceF m k) k = (pivotF M t k a, P ++ [k])) := Lib.hid (by rw [EQ.out]; unfold stepF; simp only; rw [T.out, hf])
        have hM1 := hRM.swap htR haR
        have hne1 : el (swapF M t a) t k ≠ 0 := by
          rw [hRM.swap_el htR haR]
          by_cases e : t = a
          · rw [if_pos e, e]; exact hne
          · rw [if_neg e, if_pos rfl]; exact hne
        have hM2 := hM1.set t (row := normF ((swapF M t a).getD t []) k) (by rw [normF_len]; exact (hM1.row t htR).1) (normF_bytes _ _ (hM1.row t htR).2)
        have PF : Hid (pivotF M t k a = elimF ((swapF M t a).set t (normF ((swapF M t a).getD t []) k)) t k) := Lib.hid rfl
        obtain ⟨M1, hM1e⟩ : ∃ M1, swapF M t a = M1 := ⟨_, rfl⟩
        rw [hM1e] at PF hM1 hne1 hM2
        have E1 := Lib.hid hM1e
        obtain ⟨M2, hM2e⟩ : ∃ M2, M1.set t (normF (M1.getD t []) k) = M2 := ⟨_, rfl⟩
        have E2 := Lib.hid hM2e
        rw [hM2e] at PF hM2
        have R1 := Lib.hid hM1
        have R2 := Lib.hid hM2
        have NE := Lib.hid hne1
        have htI : (t : Int) < (R : Int) := by omega
        clear hf hRM hM1 hM2 hne1 hne hM1e hM2e ha2
        go_wp2_with fail
        refine LS.out.mono ?_
        rintro e w1 ⟨rfl, hx1, ho1, hs1⟩
        rw [E1.out] at hx1
        have hpv1 : OwnL Iv w1 w.heap.size 3 (.slice A5 t c5) (natsI P) := H.out.2.2.1.plain (fun _ _ _ _ h => h) fun q hq hq2 => ho1.block q hq2 fun e => by injection e with e; have := GW.out; omega
        obtain ⟨u, q1, hou⟩ := hx1.cell (k := t) (by rw [R1.out.len]; exact htR)
        have eu : M1[t]'(by rw [R1.out.len]; exact htR) = M1.getD t [] := (getD_in _).symm
        rw [eu] at hou
        have hub := hou.here
        obtain ⟨A6, c6, rfl⟩ := hub.form
        have hlu := (R1.out.row t htR).1
        have NM := Lib.hid (normalized_any _ (M1.getD t []) k w1 hub (by rw [hlu]; omega) NE.out (by rw [hlu]; exact hW))
        rw [hlu] at q1 NM
        have X1 := Lib.hid hx1
        have PV := Lib.hid hpv1
        have O1 := Lib.hid ho1
        have S1 := Lib.hid hs1
        have hg1 := hx1.lt
        have f0 : w1.frozen? ⟨g, t, none⟩ = false := hx1.frozen t
        have G1 := Lib.hid hg1
        clear hx1 hpv1 ho1 hs1 hou eu hub hlu hg1
        go_wp2_with fail
        refine NM.out.mono ?_
        rintro e w2 ⟨nv, rfl, nb, nn, nw⟩
        have d1 := (nw.cell (p := ⟨g, t, none⟩) G1.out).trans q1
        have d2 := (nw.frozen (p := ⟨g, t, none⟩) G1.out).trans f0
        have hoffn := nb.offS_of (S := fun b => b = g ∨ (Value.slice A5 t c5).ownBlock = some b) fun q hq hS => by
          have h1 := nn q hq
          rcases hS with hS | hS
          · have := G1.out; omega
          · have := (HO.out q hS).2; have := S1.out; omega
        have hx3 := (X1.out.below nw (Nat.le_refl _)).store (Or.inl rfl) t hoffn
        rw [E2.out] at hx3
        obtain ⟨An, cn, rfl⟩ := nb.form
        have X3 := Lib.hid hx3
        have O3 := Lib.hid (only_trans O1.out (only_trans (only_of_below nw) (only_set g t w2 (.slice An (normF (M1.getD t []) k).length cn))))
        clear hx3 hoffn nb nn nw
        go_wp2_with fail
        go_loopw [8, 9, 32] (fun _ _ q wq => ∃ i : Nat, i ≤ R ∧ q = .int .i64 (i : Int) ∧ Hid (wo.grownBy wq (some g) ∧ ∃ X, Rect R W X ∧ Wx Bs wq (fun b => b = g ∨ (Value.slice A5 t c5).ownBlock = some b) g 24 cap X ∧ ∀ j, j < R → X.getD j [] = if j < i then elimRow M2 t k j else M2.getD j [])) (fun _ _ q _ => R - (intOf q).toNat)
        case atStart => exact ⟨0, Nat.zero_le _, rfl, Lib.hid ⟨O3.out, M2, R2.out, X3.out, fun j _ => by rw [if_neg (Nat.not_lt_zero j)]⟩⟩
        case round =>
          obtain ⟨i, hi, rfl, H3⟩ := hrel
          by_cases hlt3 : i < R
          · have hiI : (i : Int) < (R : Int) := by omega
            obtain ⟨hoq, X, hRX, hX, hXe⟩ := H3.out
            obtain ⟨u2, p1, ho2⟩ := hX.cell (k := i) (by rw [hRX.len]; exact hlt3)
            have e2 : X[i]'(by rw [hRX.len]; exact hlt3) = M2.getD i [] := by rw [← getD_in (x := []), hXe i hlt3, if_neg (Nat.lt_irrefl i)]
            rw [e2] at ho2
            have hb2 := ho2.here
            obtain ⟨b2, o2, c2, rfl, -, hcell2⟩ := Bs.at_ hb2 (by rw [(R2.out.row i hlt3).1]; omega)
            rw [(R2.out.row i hlt3).1] at p1 hcell2 hb2
            have p2 := hcell2 k (by omega)
            obtain ⟨x, hx⟩ : ∃ x, (M2.getD i []).getD k 0 = x := ⟨_, rfl⟩
            rw [hx] at p2
            have XE : Hid (el M2 i k = x) := Lib.hid hx
            have HQ := Lib.hid hoq
            have HRX := Lib.hid hRX
            have HXX := Lib.hid hX
            have HXE := Lib.hid hXe
            have HB2 := Lib.hid hb2
            have hkW : (k : Int) < (W : Int) := by omega
            clear hoq hRX hX hXe ho2 e2 hb2 hcell2 hx
            by_cases hit : i = t
            · have g0 : ((i : Int) != (t : Int)) = false := by simp [hit]
              have IT := Lib.hid hit
              clear hit
              go_wp2
              go_roundw
              case rel =>
                refine ⟨i + 1, by omega, by go_num, Lib.hid ⟨HQ.out, X, HRX.out, HXX.out, fun j hj => ?_⟩⟩
                rw [HXE.out j hj]
                by_cases e : j = i
                · rw [if_neg (by omega), if_pos (by omega)]
                  unfold elimRow
                  rw [if_pos (by rw [e, IT.out])]
                · (repeat' split) <;> first | rfl | omega
              case measure => simp [intOf]; omega
            · have g0 : ((i : Int) != (t : Int)) = true := by simp; omega
              have IT := Lib.hid hit
              by_cases hx0 : x = 0
              · have g1 : ((x : Int) != 0) = false := by simp [hx0]
                have X0 := Lib.hid hx0
                clear hit hx0
                go_wp2
                go_roundw
                case rel =>
                  refine ⟨i + 1, by omega, by go_num, Lib.hid ⟨HQ.out, X, HRX.out, HXX.out, fun j hj => ?_⟩⟩
                  rw [HXE.out j hj]
                  by_cases e : j = i
                  · rw [if_neg (by omega), if_pos (by omega), elimRow_zero R2.out t k j htR hj (by rw [e, XE.out, X0.out])]
                  · (repeat' split) <;> first | rfl | omega
                case measure => simp [intOf]; omega
              · have g1 : ((x : Int) != 0) = true := by simp [hx0]
                obtain ⟨u3, p3, ho3⟩ := HXX.out.cell (k := t) (by rw [HRX.out.len]; exact htR)
                have e3 : X[t]'(by rw [HRX.out.len]; exact htR) = M2.getD t [] := by
                  rw [← getD_in (x := []), HXE.out t htR]
                  split
                  · unfold elimRow; rw [if_pos rfl]
                  · rfl
                rw [e3] at ho3
                have hb3 := ho3.here
                obtain ⟨A3, c3, rfl⟩ := hb3.form
                rw [(R2.out.row t htR).1] at p3 hb3
                have hx2 : x < 256 := by rw [← XE.out]; exact R2.out.by i k
                have CB := Lib.hid (combined_any _ _ (M2.getD i []) (M2.getD t []) x wr.drew (HB2.out.keep fun _ _ => rfl) (hb3.keep fun _ _ => rfl) (by rw [(R2.out.row i hlt3).1, (R2.out.row t htR).1]) hx2 (by rw [(R2.out.row i hlt3).1]; omega))
                have hgl := HXX.out.lt
                have fz : wr.frozen? ⟨g, i, none⟩ = false := HXX.out.frozen i
                have GL := Lib.hid hgl
                have OS := Lib.hid HQ.out.size
                clear hit hx0 ho3 e3 hb3 hx2 hgl
                go_wp2
                go_region_with (go_at_call 59; refine CB.out.mono ?_; rintro e w4 ⟨nv, rfl, nb, nn, nw⟩; have y1 := (nw.cell (p := ⟨g, i, none⟩) GL.out).trans p1; have y2 := (nw.frozen (p := ⟨g, i, none⟩) GL.out).trans fz; have NB := Lib.hid nb; have NN := Lib.hid nn; have NW := Lib.hid nw; obtain ⟨A7, c7, rfl⟩ := nb.form; clear nb nn nw)
                all_goals
                  go_wp2
                  go_roundw
                  case rel =>
                    have hoff4 := NB.out.offS_of (S := fun b => b = g ∨ (Value.slice A5 t c5).ownBlock = some b) fun q hq hS => by
                      have h1 := NN.out q hq
                      have h3 : wr.drew.heap.size = wr.heap.size := rfl
                      have h4 := OS.out
                      rcases hS with hS | hS
                      · have := GL.out; omega
                      · have := (HO.out q hS).2; omega
                    refine ⟨i + 1, by omega, by go_num, Lib.hid ⟨only_trans HQ.out (only_trans (only_drew g wr) (only_trans (only_of_below NW.out) (only_set g i _ _))), X.set i (fused (M2.getD i []) (M2.getD t []) x), HRX.out.set i (by rw [fused_len]; exact (R2.out.row i hlt3).1) (fused_bytes _ _ _ (R2.out.row i hlt3).2 (by rw [← XE.out]; exact R2.out.by i k)), ((HXX.out.drew).below NW.out (Nat.le_refl _)).store (Or.inl rfl) i hoff4, fun j hj => ?_⟩⟩
                    rw [getD_set]
                    by_cases e : i = j
                    · subst e
                      rw [if_pos ⟨rfl, by rw [HRX.out.len]; exact hlt3⟩, if_pos (by omega)]
                      unfold elimRow
                      rw [if_neg IT.out, XE.out]
                    · rw [if_neg fun hh => e hh.1, HXE.out j hj]
                      (repeat' split) <;> first | rfl | omega
                  case measure => simp [intOf]; omega
          · have ei : i = R := by omega
            obtain ⟨hoq, X, hRX, hX, hXe⟩ := H3.out
            have eX : X = pivotF M t k a := by
              rw [PF.out]
              refine list_ext [] (by rw [hRX.len]; simp [elimF, R2.out.len]) fun j hj => ?_
              rw [hRX.len] at hj
              unfold elimF
              rw [hXe j hj, if_pos (by omega), range_getD _ _ _ _ (by rw [R2.out.len]; exact hj)]
            subst eX
            have hpv3 : OwnL Iv wr w.heap.size 3 (.slice A5 t c5) (natsI P) := H.out.2.2.1.plain (fun _ _ _ _ h => h) fun q hq hq2 => hoq.block q hq2 fun e => by injection e with e; have := GW.out; omega
            have F := Lib.hid (push_plain hpv3 (Below.refl wr.heap.size wr) (fun _ => (rfl : Iv _ (.int .i64 (k : Int)) (k : Int))) 3 wr.heap.size rfl)
            have LN : Hid ((natsI P).length = t) := Lib.hid (by rw [natsI_len, T.out])
            have L1 : t + 1 ≤ maxLen := by unfold maxLen; omega
            have L2 : (t + 1) * 8 ≤ 140737488355328 := by omega
            have L := Lib.hid (And.intro L1 L2)
            have HQ := Lib.hid hoq
            have HX4 := Lib.hid hX
            have HS := Lib.hid (Nat.le_trans H.out.2.1 hoq.size)
            have NEG : Hid ((Value.slice A5 t c5).ownBlock ≠ some g) := Lib.hid fun e => by have := (HO.out g e).1; have := GW.out; omega
            have OW := Lib.hid hpv3.own
            have HBW := Lib.hid (H.out.1.trans (only_below hoq HBG.out GO.out))
            clear hoq hX hXe hRX hpv3 L1 L2
            go_wp2_with (at_builtin; refine wpList_push_at rfl _ _ 22 rfl w.heap.size 3 i0 (.int .i64 0) 8 Try.underlying22 I0.out.1 I0.out.2.1 I0.out.2.2.1 I0.out.2.2.2 rfl Iv.keeps (.slice A5 t c5) _ rfl F.out.1 t LN.out wr.heap.size (.int .i64 (k : Int)) (k : Int) rfl F.out.2.1 rfl F.out.2.2.1 F.out.2.2.2 L.out.1 L.out.2 (by simp; have := HS.out; omega) ?_; intro g5 cap5 w5 hown5 hgrow5 hat5)
            have HO5 := Lib.hid hown5
            have HG5 := Lib.hid hgrow5
            have HA5 := Lib.hid hat5
            clear hown5 hgrow5 hat5
            go_wp2
            go_roundw
            case rel =>
              refine ⟨k + 1, by omega, by go_num, Lib.hid ⟨?_, ?_, ?_, ?_⟩⟩
              · have hgs := GW.out
                have h0 := HS.out
                have h1 := HBG.out
                exact (HBW.out.alloc (by omega) _).grown HG5.out (by simp; omega) fun q hq => by have := (OW.out q hq).1; omega
              · have := HG5.out.size
                have h0 := HS.out
                simp at this
                omega
              · rw [SUCC.out, ST.out]
                show OwnL Iv w5 w.heap.size _ _ (natsI (P ++ [k]))
                have e : natsI (P ++ [k]) = natsI P ++ [(k : Int)] := by simp [natsI]
                rw [e]
                exact HO5.out
              · rw [SUCC.out, ST.out]
                have := (HX4.out.alloc (.cells #[.int .i64 (k : Int)] 3)).push HG5.out NEG.out HA5.out
                exact this
            case measure => simp [intOf]; omega
    · go_wp2
      go_ret
      have e : k = C := by omega
      subst e
      exact ⟨_, rfl, H.out.2.2.1, H.out.2.2.2.wk (Or.inl rfl), H.out.1⟩
end Go.Proofs.Ytheijobnmdbodaa
