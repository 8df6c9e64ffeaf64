/- The reference's Weights: the linear equations are laid and solved. -/
import Derived.Test.YtheijobnmdbodaaDd
import Derived.Test.YtheijobnmdbodaaGF
import Derived.Test.YtheijobnmdbodaaGB
import Derived.Deep.Cut
import Derived.Deep.CutRange
import Derived.Deep.DeepCutAuto
import Derived.RegionTactic
namespace Go.Proofs.Ytheijobnmdbodaa
open Go Go.RowKit Lin
set_option linter.unusedVariables false
set_option linter.unusedSimpArgs false

/-- Equation i. -/
def eqR (n : Nat) (F : List Nat) (p i : Nat) : List Nat := (List.range (n + 1)).map fun k => if k < n then grow n (F.getD k 0) i else grow n p i
theorem eqR_at {n : Nat} {F : List Nat} {p i k : Nat} (hk : k < n + 1) : (eqR n F p i).getD k 0 = if k < n then grow n (F.getD k 0) i else grow n p i := range_getD _ _ _ _ hk
theorem eqR_len (n : Nat) (F : List Nat) (p i : Nat) : (eqR n F p i).length = n + 1 := by simp [eqR]
theorem eqR_ok (n : Nat) (F : List Nat) (p i : Nat) : ∀ x ∈ eqR n F p i, x < 256 := by
  intro x hx
  obtain ⟨k, _, rfl⟩ := List.mem_map.1 hx
  split <;> exact grow_lt _ _ _
theorem eqL_row {n i : Nat} {F : List Nat} {p : Nat} (hi : i < n) : (eqL n F p).getD i [] = eqR n F p i := range_getD _ _ _ _ hi
theorem piv_len (m : List (List Nat)) (k : Nat) : (reduceF m (k + 1)).2.length ≤ (reduceF m k).2.length + 1 := by
  rw [reduceF_succ]; unfold stepF; split
  · omega
  · simp
theorem piv_le (m : List (List Nat)) (k : Nat) : (reduceF m k).2.length ≤ k := by
  induction k with
  | zero => exact Nat.le_refl 0
  | succ k ih => have := piv_len m k; omega
theorem piv_ge (m : List (List Nat)) (n : Nat) : ∀ d, (reduceF m (n + d)).2.length ≤ (reduceF m n).2.length + d := by
  intro d
  induction d with
  | zero => exact Nat.le_refl _
  | succ d ih => have := piv_len m (n + d); show (reduceF m (n + d + 1)).2.length ≤ _; omega
theorem Wk.to {α : Type} {R : World → Value → α → Prop} {w w' : World} {g : Nat} {e : TypeId} {cap : Nat} {l : List α} (h : Wk R w g e cap l) (hb : Below w.heap.size w w') : Wk R w' g e cap l := h.below hb (Nat.le_refl _)
/-- With n pivots in n columns, each column has one. -/
theorem piv_at {m : List (List Nat)} {n c : Nat} (h : (reduceF m n).2.length = n) (hc : c < n) (hl : m.length = n) : (reduceF m c).2.length = c ∧ ∃ a, findP (reduceF m c).1 c (n - c) c = some a ∧ (reduceF m (c + 1)).1 = pivotF (reduceF m c).1 c c a := by
  have h1 := piv_ge m c (n - c)
  rw [show c + (n - c) = n by omega, h] at h1
  have h2 := piv_le m c
  have h3 := piv_ge m (c + 1) (n - (c + 1))
  rw [show c + 1 + (n - (c + 1)) = n by omega, h] at h3
  have e : (reduceF m c).2.length = c := by omega
  refine ⟨e, ?_⟩
  have hl' : (reduceF m c).1.length = n := by rw [reduce_len, hl]
  have hs := reduceF_succ m c
  rw [hs] at h3 ⊢
  unfold stepF at h3 ⊢
  rw [e, hl'] at h3 ⊢
  cases hf : findP (reduceF m c).1 c (n - c) c with
  | none => rw [hf] at h3; simp only at h3; omega
  | some a => exact ⟨a, rfl, rfl⟩

set_option maxHeartbeats 16000000 in
set_option maxRecDepth 100000 in
theorem rwts_any (n N p : Nat) (F : List Nat) (v : Value) (w : World) (hN : N = n + 3) (h1 : 1 ≤ n) (h13 : n ≤ 13) (h : Is w v (natsI F)) (hF : Cho n F) (hp : p < N) : Calls Try.prog 14 #[.int .i64 (N : Int), v, .int .i64 (p : Int)] w (wtPost (wtR n F p) n w) := by
  have FN := Lib.hid hF
  have hlen : (natsI F).length = n := by rw [natsI_len, hF.len]
  obtain ⟨bf, of, cf, rfl, -, hcf⟩ := Is.at_ h (by omega)
  rw [hlen] at hcf ⊢
  have CP := Lib.hid hcf
  have e0 : (N : Int) - 3 = (n : Int) := by omega
  have RW := Lib.hid fun (q : Nat) (w : World) (hq : q < N) => rrow_any n q N w hN h1 h13 hq
  have NN := Lib.hid hN
  obtain ⟨i0, hi, hz0, hz1, hz2⟩ := info_parts info_bytes
  have I0 := Lib.hid (And.intro hi (And.intro hz0 (And.intro hz1 hz2)))
  clear hi hz0 hz1 hz2
  obtain ⟨i1, hi, hz0, hz1, hz2⟩ := info_parts info_u8
  have I1 := Lib.hid (And.intro hi (And.intro hz0 (And.intro hz1 hz2)))
  clear hi hz0 hz1 hz2 hcf h hF hlen hN
  go_enter Try.func14, Try.ntmps14
  go_wp2_with fail
  refine (RW.out p _ hp).mono ?_
  rintro e w1 ⟨rfl, ht1, hb1⟩
  have T1 := Lib.hid ht1
  have B1 := Lib.hid hb1
  obtain ⟨tb, htb⟩ : ∃ tb, w.heap.size = tb := ⟨_, rfl⟩
  have hTB : tb ≤ w1.heap.size := by rw [← htb]; exact hb1.size
  have TBS := Lib.hid htb
  rw [htb] at T1 ⊢
  clear ht1 hb1 htb
  go_wp2_with fail
  go_loopw [8, 10, 11, 12] (fun u q _ _ wr => ∃ i : Nat, i ≤ n ∧ q = .int .i64 (i : Int) ∧ Hid (Below w1.heap.size w1 wr ∧ OwnL Bs wr w1.heap.size 24 u ((eqL n F p).take i))) (fun _ q _ _ _ => n - (intOf q).toNat)
  case atStart => exact ⟨0, Nat.zero_le _, rfl, Lib.hid ⟨Below.refl _ _, OwnL.nil_ _ _ _⟩⟩
  case round =>
    obtain ⟨i, hk, rfl, H⟩ := hrel
    obtain ⟨wo, rfl⟩ : ∃ wo, wo = wr := ⟨_, rfl⟩
    by_cases hlt : i < n
    · have hiI : (i : Int) < (n : Int) := by omega
      obtain ⟨R, hR⟩ : ∃ R, eqR n F p i = R := ⟨_, rfl⟩
      have ER := Lib.hid hR
      have RL : Hid (R.length = n + 1) := Lib.hid (by rw [← hR]; exact eqR_len _ _ _ _)
      have ROK : Hid (∀ x ∈ R, x < 256) := Lib.hid (by rw [← hR]; exact eqR_ok _ _ _ _)
      clear hR
      go_wp2_with fail
      go_loopw [11, 12] (fun u q wq => ∃ k : Nat, k ≤ n ∧ q = .int .i64 (k : Int) ∧ Hid (Below wo.heap.size wo wq ∧ OwnL Bv wq wo.heap.size 5 u (R.take k))) (fun _ q _ => n - (intOf q).toNat)
      case atStart => exact ⟨0, Nat.zero_le _, rfl, Lib.hid ⟨Below.refl _ _, by rw [List.take_zero]; exact OwnL.nil_ _ _ _⟩⟩
      case round =>
        obtain ⟨k, hk2, rfl, H2⟩ := hrel
        obtain ⟨wp, rfl⟩ : ∃ wp, wp = wr := ⟨_, rfl⟩
        obtain ⟨A7, c7, rfl⟩ := H2.out.2.sl.form
        have hl7 : (R.take k).length = k := by rw [List.length_take, RL.out]; omega
        rw [hl7] at H2 ⊢
        by_cases hlt2 : k < n
        · have hkI : (k : Int) < (n : Int) := by omega
          have p1 := CP.out k hlt2
          rw [natsI_at F k (by rw [FN.out.len]; exact hlt2)] at p1
          have hbb := B1.out.trans ((H.out.1.mono B1.out.size).trans (H2.out.1.mono (Nat.le_trans B1.out.size H.out.1.size)))
          have p1' := (hbb.cell (World.block_lt_of_cell? w _ p1)).trans p1
          have hx := FN.out.at hlt2
          have GX := Lib.hid (eqR_at (F := F) (p := p) (i := i) (k := k) (show k < n + 1 by omega))
          rw [ER.out, if_pos hlt2] at GX
          obtain ⟨x, ex⟩ : ∃ x, F.getD k 0 = x := ⟨_, rfl⟩
          rw [ex] at p1' hx GX
          have RX := Lib.hid (RW.out x wp (by rw [NN.out]; exact hx))
          have T := Lib.hid (take_snoc 0 R k (by rw [RL.out]; omega))
          rw [GX.out] at T
          have L1 : k + 1 ≤ maxLen := by unfold maxLen; omega
          have L2 : (k + 1) * 1 ≤ 140737488355328 := by omega
          have L := Lib.hid (And.intro L1 L2)
          have HS := Lib.hid H2.out.1.size
          have LN := Lib.hid hl7
          have H2D := Lib.hid H2.out
          clear p1 hbb hx ex hl7 L1 L2 H2
          go_wp2_with fail
          refine RX.out.mono ?_
          rintro e w3 ⟨rfl, hb3, hw3⟩
          obtain ⟨b3, o3, c3, hv3, -, hcell3⟩ := Bs.at_ hb3 (by rw [rowL_len]; omega)
          rw [rowL_len] at hv3 hcell3
          injection hv3 with e1 e2 e3
          injection e1 with e1
          injection e1 with e1 e4
          subst e4
          have q3 := hcell3 i hlt
          rw [← e1, Nat.zero_add, rowL_at hlt] at q3
          obtain ⟨s, hs⟩ : ∃ s, grow n x i = s := ⟨_, rfl⟩
          rw [hs] at q3
          have SS := Lib.hid hs
          have W3 := Lib.hid hw3
          have F3 := Lib.hid (push_plain H2D.out.2 hw3 (fun _ => (rfl : Bv _ (.int .u8 (s : Int)) s)) 5 w3.heap.size rfl)
          clear hb3 hw3 hcell3 e1 e2 e3 hs
          go_wp2_with (at_builtin; refine wpList_push rfl _ _ 24 rfl wo.heap.size 5 i1 (.int .u8 0) 1 Try.underlying24 I1.out.1 I1.out.2.1 I1.out.2.2.1 I1.out.2.2.2 rfl Bv.keeps (.slice A7 k c7) _ rfl F3.out.1 k LN.out w3.heap.size (.int .u8 (s : Int)) s rfl F3.out.2.1 rfl F3.out.2.2.1 F3.out.2.2.2 L.out.1 L.out.2 (by simp; have := HS.out; have := W3.out.size; omega) ?_; intro g cap w4 hown4 hgrow4)
          have HO4 := Lib.hid hown4
          have HG4 := Lib.hid hgrow4
          clear hown4 hgrow4
          go_wp2
          go_roundw
          case rel =>
            have hsz := HS.out
            have hs2 := W3.out.size
            refine ⟨k + 1, by omega, by go_num, Lib.hid ⟨?_, ?_⟩⟩
            · exact ((H2D.out.1.trans (W3.out.mono hsz)).alloc (by omega) _).grown HG4.out (by simp; omega) fun g hg => (H2D.out.2.own g hg).1
            · rw [T.out, SS.out]; exact HO4.out
          case measure => simp [intOf]; omega
        · obtain rfl : k = n := by omega
          have hbt := T1.out.below (H.out.1.trans (H2.out.1.mono H.out.1.size))
          obtain ⟨b3, o3, c3, hv3, -, hcell3⟩ := Bs.at_ hbt (by rw [rowL_len]; omega)
          rw [rowL_len] at hv3 hcell3
          injection hv3 with e1 e2 e3
          injection e1 with e1
          injection e1 with e1 e4
          subst e1 e4
          have q3 := hcell3 i hlt
          rw [Nat.zero_add, rowL_at hlt] at q3
          obtain ⟨s, hs⟩ : ∃ s, grow k p i = s := ⟨_, rfl⟩
          rw [hs] at q3
          have GX := eqR_at (F := F) (p := p) (i := i) (k := k) (show k < k + 1 by omega)
          rw [ER.out, if_neg (Nat.lt_irrefl k), hs] at GX
          have T := take_snoc 0 R k (by rw [RL.out]; omega)
          rw [GX, List.take_of_length_le (by rw [RL.out]; exact Nat.le_refl _)] at T
          have TT := Lib.hid T
          have LN := Lib.hid hl7
          have L1 : k + 1 ≤ maxLen := by unfold maxLen; omega
          have L2 : (k + 1) * 1 ≤ 140737488355328 := by omega
          have L := Lib.hid (And.intro L1 L2)
          have F3 := Lib.hid (push_plain H2.out.2 (Below.refl wp.heap.size wp) (fun _ => (rfl : Bv _ (.int .u8 (s : Int)) s)) 5 wp.heap.size rfl)
          have HS := Lib.hid H2.out.1.size
          have HS0 := Lib.hid H.out.1.size
          have L3 : i + 1 ≤ maxLen := by unfold maxLen; omega
          have L4 : (i + 1) * 24 ≤ 140737488355328 := by omega
          have L' := Lib.hid (And.intro L3 L4)
          have hlen2 : ((eqL k F p).take i).length = i := by rw [List.length_take, (eq_rect k F p).len]; omega
          have LN2 := Lib.hid hlen2
          have T2 := Lib.hid (take_snoc [] (eqL k F p) i (by rw [(eq_rect k F p).len]; exact hlt))
          have T3 := Lib.hid (eqL_row (F := F) (p := p) hlt)
          rw [ER.out] at T3
          have H2D := Lib.hid H2.out
          have HD := Lib.hid H.out
          clear hbt hcell3 e2 e3 hs GX T hl7 L1 L2 L3 L4 hlen2 H2
          go_wp2_with (first
            | (at_builtin; refine wpList_push rfl (.tmp 48) (.tmp 53) 24 rfl wo.heap.size 5 i1 (.int .u8 0) 1 Try.underlying24 I1.out.1 I1.out.2.1 I1.out.2.2.1 I1.out.2.2.2 rfl Bv.keeps (.slice A7 k c7) _ rfl F3.out.1 k LN.out wp.heap.size (.int .u8 (s : Int)) s rfl F3.out.2.1 rfl F3.out.2.2.1 F3.out.2.2.2 L.out.1 L.out.2 (by simp; have := HS.out; omega) ?_
               intro g4 cap4 w4 hown4 hgrow4
               have HB4 : Hid (Below wo.heap.size wo w4) := Lib.hid ((H2D.out.1.alloc HS.out _).grown hgrow4 (by simp; have := HS.out; omega) fun g hg => (H2D.out.2.own g hg).1)
               have F4 := Lib.hid (push_facts HD.out.2 HB4.out (hown4.bs (by rw [← TT.out]; exact ROK.out)) (fun q hq => (hown4.own q hq).1) 24 w4.heap.size rfl)
               have HBS : Hid (Bs w4 (.slice (some ⟨g4, 0, none⟩) (k + 1) cap4) R) := Lib.hid (by rw [TT.out]; exact hown4.bs (by rw [← TT.out]; exact ROK.out))
               clear hown4 hgrow4)
            | (at_builtin; refine wpList_push rfl (.tmp 47) (.tmp 55) 61 rfl w1.heap.size 24 i0 (.slice none 0 0) 24 Try.underlying61 I0.out.1 I0.out.2.1 I0.out.2.2.1 I0.out.2.2.2 rfl Bs.keeps u8 _ rfl F4.out.1 i LN2.out w4.heap.size (.slice (some ⟨g4, 0, none⟩) (k + 1) cap4) _ rfl F4.out.2.1 F4.out.2.2.2.2 F4.out.2.2.1 F4.out.2.2.2.1 L'.out.1 L'.out.2 (by simp; have := HB4.out.size; have := HS0.out; omega) ?_
               intro g5 cap5 w5 hown5 hgrow5
               have HO5 := Lib.hid hown5
               have HG5 := Lib.hid hgrow5
               clear hown5 hgrow5))
          go_roundw
          case rel =>
            have hsz := HS0.out
            have hs2 := HB4.out.size
            refine ⟨i + 1, by omega, by go_num, Lib.hid ⟨?_, ?_⟩⟩
            · exact ((HD.out.1.trans (HB4.out.mono hsz)).alloc (by omega) _).grown HG5.out (by simp; omega) fun g hg => (HD.out.2.own g hg).1
            · rw [T2.out, T3.out, TT.out]; exact HO5.out
          case measure => simp [intOf]; omega
    · obtain rfl : n = i := by omega
      obtain ⟨hbel, hown⟩ := H.out
      rw [List.take_of_length_le (by rw [(eq_rect n F p).len]; omega)] at hown
      obtain ⟨g, cap, rfl, hg, hwk⟩ := hown.wk (by rw [(eq_rect n F p).len]; exact h1)
      rw [(eq_rect n F p).len]
      have HG := Lib.hid hg
      have HW0 := Lib.hid hwk
      have HB0 := Lib.hid hbel
      obtain ⟨E, hE⟩ : ∃ E, eqL n F p = E := ⟨_, rfl⟩
      have RK := eq_rank h13 FN.out p
      have RE := eq_rect n F p
      rw [hE] at RK RE HW0
      have RKK := Lib.hid RK
      have REE := Lib.hid RE
      have EE := Lib.hid hE
      clear hbel hown hg hwk RK RE hE H
      go_wp2_with fail
      go_loopw [13, 14, 15, 16, 17] (fun q _ _ _ _ wq => ∃ c : Nat, c ≤ n ∧ q = .int .i64 (c : Int) ∧ Hid (Below w1.heap.size w1 wq ∧ Wk Bs wq g 24 cap (reduceF E c).1)) (fun q _ _ _ _ _ => n - (intOf q).toNat)
      case atStart => exact ⟨0, Nat.zero_le _, rfl, Lib.hid ⟨HB0.out, HW0.out⟩⟩
      case round =>
        obtain ⟨c, hc, rfl, H⟩ := hrel
        obtain ⟨wo, rfl⟩ : ∃ wo, wo = wr := ⟨_, rfl⟩
        by_cases hlt : c < n
        · have hcI : (c : Int) < (n : Int) := by omega
          have hcI2 : (c : Int) < (n : Int) + 1 := by omega
          obtain ⟨-, a, hf, hsucc⟩ := piv_at RKK.out hlt REE.out.len
          have RM := (reduce_inv REE.out c).1
          have HH := H.out
          have SUCC := Lib.hid hsucc
          obtain ⟨M, hM⟩ : ∃ M, (reduceF E c).1 = M := ⟨_, rfl⟩
          rw [hM] at hf RM HH SUCC
          obtain ⟨ha1, ha2, hne⟩ := findP_some _ _ _ _ _ hf
          have haN : a < n := by omega
          have haI : (a : Int) < (n : Int) := by omega
          have ZB := Lib.hid (findP_before _ _ _ _ _ hf)
          have NE := Lib.hid hne
          have RMM := Lib.hid RM
          have HX := Lib.hid HH.2
          have HBW := Lib.hid HH.1
          clear hf hne hsucc hM RM HH H ha2
          go_wp2_with fail
          go_loop [14] (fun i => ∃ k : Nat, c ≤ k ∧ k ≤ a ∧ i = .int .i64 (k : Int)) (fun i => n - (intOf i).toNat)
          case atStart => exact ⟨c, Nat.le_refl _, ha1, rfl⟩
          case round =>
            obtain ⟨k, hk0, hk, rfl⟩ := hrel
            have hltk : k < n := by omega
            have hkI : (k : Int) < (n : Int) := by omega
            obtain ⟨u, q1, ho⟩ := HX.out.cell (k := k) (by rw [RMM.out.len]; exact hltk)
            have e : M[k]'(by rw [RMM.out.len]; exact hltk) = M.getD k [] := (getD_in _).symm
            rw [e] at ho
            have OU := Lib.hid ho
            have hb := ho.here
            obtain ⟨b, off, c2, rfl, -, hcell⟩ := Bs.at_ hb (by rw [(RMM.out.row k hltk).1]; omega)
            rw [(RMM.out.row k hltk).1] at q1 hcell OU
            have q2 := hcell c (by omega)
            clear hb e ho hcell
            by_cases he : k = a
            · subst he
              obtain ⟨x, hx⟩ : ∃ x, (M.getD k []).getD c 0 = x := ⟨_, rfl⟩
              rw [hx] at q2
              have g0 : ((x : Int) == 0) = false := by
                have h1 : el M k c ≠ 0 := NE.out
                have h2 : x ≠ 0 := fun e => h1 (by unfold el; rw [hx]; exact e)
                simpa using h2
              have XX := Lib.hid hx
              clear hx
              go_wp2_with fail
              go_upto_region 19 with fail
              go_cut [] (fun wx => Hid (Below w1.heap.size w1 wx ∧ Wk Bs wx g 24 cap (swapF M c k)))
              case first =>
                have f1 : wo.frozen? ⟨g, k, none⟩ = false := HX.out.frozen k
                have f2 : wo.frozen? ⟨g, c, none⟩ = false := HX.out.frozen c
                by_cases ht : k = c
                · subst ht
                  go_region
                  all_goals (go_wp2_with fail; go_meet)
                  all_goals exact Lib.hid ⟨((HBW.out.setCell HG.out _).setCell HG.out _).drew, ((HX.out.store k OU.out).store k (OU.out.go (setCell_off wo g k _))).drew⟩
                · obtain ⟨u2, q3, ho2⟩ := HX.out.cell (k := c) (by rw [RMM.out.len]; exact hlt)
                  have e2 : M[c]'(by rw [RMM.out.len]; exact hlt) = M.getD c [] := (getD_in _).symm
                  rw [e2] at ho2
                  obtain ⟨A2, c3, rfl⟩ := ho2.here.form
                  have OU2 := Lib.hid ho2
                  have q4 : (wo.setCell ⟨g, c, none⟩ (.slice (some ⟨b, off, none⟩) (n + 1) c2)).cell? ⟨g, k, none⟩ = some (.slice (some ⟨b, off, none⟩) (n + 1) c2) := by
                    obtain ⟨cs, hrow, _⟩ := HX.out
                    rw [(hrow.store c _).cell, Array.getElem?_setIfInBounds_ne (fun e => ht e.symm), ← hrow.cell]
                    exact q1
                  clear ho2 e2 ht
                  go_region
                  all_goals (go_wp2_with fail; go_meet)
                  all_goals exact Lib.hid ⟨((HBW.out.setCell HG.out _).setCell HG.out _).drew, ((HX.out.store c OU.out).store k (OU2.out.go (setCell_off wo g c _))).drew⟩
              case rest =>
                obtain ⟨wd, rfl⟩ : ∃ wd, wd = wc := ⟨_, rfl⟩
                have HC := hcut.out
                have R1 := RMM.out.swap hlt haN
                have hne1 : el (swapF M c k) c c ≠ 0 := by
                  rw [RMM.out.swap_el hlt haN]
                  by_cases e : c = k
                  · rw [if_pos e]
                    have := NE.out
                    rwa [← e] at this
                  · rw [if_neg e, if_pos rfl]; exact NE.out
                have PF : pivotF M c c k = elimF ((swapF M c k).set c (normF ((swapF M c k).getD c []) c)) c c := rfl
                rw [← SUCC.out] at PF
                obtain ⟨M1, hM1⟩ : ∃ M1, swapF M c k = M1 := ⟨_, rfl⟩
                rw [hM1] at HC R1 hne1 PF
                have PFF := Lib.hid PF
                have X1 := Lib.hid HC.2
                have B1c := Lib.hid HC.1
                have RR1 := Lib.hid R1
                have hR2 := R1.set c (row := normF (M1.getD c []) c) (by rw [normF_len]; exact (R1.row c hlt).1) (normF_bytes _ _ (R1.row c hlt).2)
                obtain ⟨u5, p1, ho5⟩ := HC.2.cell (k := c) (by rw [R1.len]; exact hlt)
                have e5 : M1[c]'(by rw [R1.len]; exact hlt) = M1.getD c [] := (getD_in _).symm
                rw [e5] at ho5
                have hb5 := ho5.here
                have hl5 := (R1.row c hlt).1
                obtain ⟨row, hrow⟩ : ∃ row, M1.getD c [] = row := ⟨_, rfl⟩
                rw [hrow] at hb5 hl5 hR2
                obtain ⟨b5, o5, c5, rfl, -, hcell5⟩ := Bs.at_ hb5 (by rw [hl5]; omega)
                rw [hl5] at p1 hcell5 hb5
                have p2 := hcell5 c (by omega)
                obtain ⟨y, hy⟩ : ∃ y, row.getD c 0 = y := ⟨_, rfl⟩
                rw [hy] at p2
                have hy2 : y < 256 := by rw [← hy]; exact hb5.getD_lt c
                have hyne : y ≠ 0 := by
                  have : el M1 c c = y := by unfold el; rw [hrow, hy]
                  rw [← this]; exact hne1
                have IV := Lib.hid (rinv_any y hy2 wd)
                have YN := Lib.hid hyne
                have hm2 := Gf.gpow_lt y 254 hy2
                have HI2 : Gf.inv y < 256 := hm2
                obtain ⟨M2, hM2⟩ : ∃ M2, M1.set c (normF row c) = M2 := ⟨_, rfl⟩
                have EM2 := Lib.hid hM2
                rw [hM2] at hR2
                have R2 := Lib.hid hR2
                have NF : Hid (fused (List.replicate (n + 1) 0) row (Gf.inv y) = normF row c) := Lib.hid (by unfold normF; rw [hl5, hy])
                have hmk : ∀ w : World, (Instr.makeSlice 24 (.int .i64 ((n : Int) + 1)) (.int .i64 ((n : Int) + 1))).run Try.prog w = .ok (.slice (some ⟨w.heap.size, 0, none⟩) (n + 1) (n + 1)) (w.alloc (.cells (madeCells #[.int .u8 0] (n + 1)) 5)) := fun w => run_make_row' (P := Try.prog) 24 5 _ _ Try.underlying24 info_u8 rfl .i64 .i64 (n + 1) (by omega) (by omega) w
                have LNF : Hid ((normF row c).length = n + 1) := Lib.hid (by rw [normF_len, hl5])
                have hwr : IntKind.i64.wrap ((n : Int) + 1) = (n : Int) + 1 := by rw [IntKind.wrap_i64]; omega
                have RB5 := Lib.hid hb5
                have RL5 := Lib.hid hl5
                have P1 := Lib.hid p1
                have PF' : Hid ((reduceF E (c + 1)).1 = elimF M2 c c) := Lib.hid (by rw [PFF.out, hrow, hM2])
                clear HC R1 hne1 PF hM1 hR2 ho5 e5 hb5 hl5 hrow hcell5 hy hyne hm2 hM2 hcut PFF
                go_wp2_with (go_at_call 34; refine IV.out.mono ?_; rintro e w' ⟨h1, -, rfl⟩; obtain rfl := h1 YN.out; clear h1)
                obtain ⟨z, hz⟩ : ∃ z, Gf.inv y = z := ⟨_, rfl⟩
                rw [hz] at HI2 NF ⊢
                clear hz IV YN
                go_upto_region 21 with fail
                go_cut [] (fun wx => Hid (Below w1.heap.size w1 wx ∧ Wk Bs wx g 24 cap M2))
                case first =>
                  clear p2
                  refine wp_region_held (P := Try.prog) (S := (fun w' : World => True)) rfl ?_
                  change wpAnyH _ _ _ _ _ _ _ _ wd.drew
                  have zhz2 : Below wd.heap.size wd wd.drew := (Below.refl wd.heap.size wd).drew
                  generalize wd.drew = zwz1 at zhz2 ⊢
                  have zhq3 : Below wd.heap.size wd zwz1 := zhz2
                  have zX_4 := Lib.hid (Wk.to X1.out zhq3)
                  have zR_5 := Lib.hid (Bs.to RB5.out zhq3)
                  have zC_6 := Lib.hid (cellTo P1.out zhq3)
                  have zHB_7 : Hid (Below w1.heap.size w1 zwz1) := Lib.hid (B1c.out.trans (zhq3.mono B1c.out.size))
                  clear zhq3
                  clear zhz2
                  have zhS8 : (fun w' : World => True) zwz1 := trivial
                  refine takeD (i := 0) (v := .slice (some ⟨g, 0, none⟩) n cap) (some 98) rfl rfl (by kernel_rfl) (by kernel_rfl) (by kernel_rfl) (fun _ _ _ h => h) (Or.inl ⟨by rfl, by rintro w' -; go_simp⟩) zhS8 ?_
                  simp only [Act.put, List.setIfInBounds_toArray, List.set_cons_zero, List.set_cons_succ]
                  refine takeD (i := 1) (v := .int .i64 (c : Int)) (some 99) rfl rfl (by kernel_rfl) (by kernel_rfl) (by kernel_rfl) (fun _ _ _ h => h) (Or.inl ⟨by rfl, by rintro w' -; go_simp⟩) zhS8 ?_
                  simp only [Act.put, List.setIfInBounds_toArray, List.set_cons_zero, List.set_cons_succ]
                  refine takeD (i := 2) (v := .int .i64 (n : Int)) (some 100) rfl rfl (by kernel_rfl) (by kernel_rfl) (by kernel_rfl) (fun _ _ _ h => h) (Or.inl ⟨by rfl, by rintro w' -; go_simp⟩) zhS8 ?_
                  simp only [Act.put, List.setIfInBounds_toArray, List.set_cons_zero, List.set_cons_succ]
                  refine takeD (i := 3) (v := .int .i64 ((n : Int) + 1)) (some 101) rfl rfl (by kernel_rfl) (by kernel_rfl) (by kernel_rfl) (fun _ _ _ h => h) (Or.inl ⟨by rfl, by rintro w' -; go_simp⟩) zhS8 ?_
                  simp only [Act.put, List.setIfInBounds_toArray, List.set_cons_zero, List.set_cons_succ]
                  refine takeD (i := 5) (v := .slice (some ⟨g, 0, none⟩) n cap) (some 103) rfl rfl (by kernel_rfl) (by kernel_rfl) (by kernel_rfl) (fun _ _ _ h => h) (Or.inl ⟨by rfl, by rintro w' -; go_simp⟩) zhS8 ?_
                  simp only [Act.put, List.setIfInBounds_toArray, List.set_cons_zero, List.set_cons_succ]
                  refine takeD (i := 6) (v := .int .i64 (c : Int)) (some 104) rfl rfl (by kernel_rfl) (by kernel_rfl) (by kernel_rfl) (fun _ _ _ h => h) (Or.inl ⟨by rfl, by rintro w' -; go_simp⟩) zhS8 ?_
                  simp only [Act.put, List.setIfInBounds_toArray, List.set_cons_zero, List.set_cons_succ]
                  refine takeD (i := 7) (v := .pointer (some ⟨g, c, none⟩)) (some 105) rfl rfl (by kernel_rfl) (by kernel_rfl) (by kernel_rfl) (fun _ _ _ h => h) (Or.inl ⟨by rfl, by rintro w' -; go_simp⟩) zhS8 ?_
                  simp only [Act.put, List.setIfInBounds_toArray, List.set_cons_zero, List.set_cons_succ]
                  refine takeD (i := 9) (v := .int .u8 (z : Int)) (some 107) rfl rfl (by kernel_rfl) (by kernel_rfl) (by kernel_rfl) (fun _ _ _ h => h) (Or.inl ⟨by rfl, by rintro w' -; go_simp⟩) zhS8 ?_
                  simp only [Act.put, List.setIfInBounds_toArray, List.set_cons_zero, List.set_cons_succ]
                  refine wpAnyH_ready (rs := [4, 8]) (by kernel_rfl) (by simp) ?_
                  refine AllReadyH.cons rfl (fun K hK => ?_) (AllReadyH.cons rfl (fun K hK => ?_) AllReadyH.nil)
                  · have HzK9 := Lib.hid hK
                    clear hK
                    rw [if_pos (by rfl)]
                    go_simp
                    obtain ⟨zy10, zy10e⟩ : ∃ q, zwz1.alloc (.cells (madeCells #[.int .u8 0] (n + 1)) 5) = q := ⟨_, rfl⟩
                    have zq11 : Below zwz1.heap.size zwz1 zy10 := by rw [← zy10e]; exact (Below.refl _ _).alloc (Nat.le_refl _) _
                    have zy10z := Lib.hid (bs_zeros zwz1 (n + 1) (by unfold maxLen; omega))
                    rw [zy10e] at zy10z ⊢
                    clear zy10e
                    have zhq12 : Below zwz1.heap.size zwz1 zy10 := zq11
                    have zX_13 := Lib.hid (Wk.to zX_4.out zhq12)
                    have zR_14 := Lib.hid (Bs.to zR_5.out zhq12)
                    have zC_15 := Lib.hid (cellTo zC_6.out zhq12)
                    have zHB_16 : Hid (Below w1.heap.size w1 zy10) := Lib.hid (zHB_7.out.trans (zhq12.mono zHB_7.out.size))
                    clear zhq12
                    clear zq11
                    have zhS17 : (fun w' : World => True) zy10 := trivial
                    refine HzK9.out _ _ zhS17 fun _ => ?_
                    try simp only [Act.put, List.setIfInBounds_toArray, List.set_cons_zero, List.set_cons_succ]
                    refine wpAnyH_ready (rs := [8]) (by kernel_rfl) (by simp) ?_
                    refine AllReadyH.cons rfl (fun zK18 hzK18 => ?_) AllReadyH.nil
                    have HzK18 := Lib.hid hzK18
                    clear hzK18
                    rw [if_pos (by rfl)]
                    have zcc19 := zC_15.out
                    go_simp
                    skip
                    refine HzK18.out _ _ zhS17 fun _ => ?_
                    try simp only [Act.put, List.setIfInBounds_toArray, List.set_cons_zero, List.set_cons_succ]
                    refine wpAnyH_ready (rs := [10]) (by kernel_rfl) (by simp) ?_
                    refine AllReadyH.cons rfl (fun zK20 hzK20 => ?_) AllReadyH.nil
                    have HzK20 := Lib.hid hzK20
                    clear hzK20
                    rw [if_pos (by rfl)]
                    go_simp
                    go_at_call 35
                    refine (rfused_new _ _ _ _ z _ zy10z.out zR_14.out (by rw [RL5.out]; simp) HI2 (by simp; omega)).mono ?_
                    rintro e zx21 ⟨_, rfl, nb, nn, nw⟩
                    rw [NF.out] at nb
                    obtain ⟨An, cn, rfl⟩ := nb.form
                    rw [LNF.out] at nb nn ⊢
                    have zlt22 : g < zy10.heap.size := zX_13.out.lt
                    have ON := Lib.hid (nb.off_of (g := g) fun q hq => by have := nn q hq; omega)
                    have zhq23 : Below zy10.heap.size zy10 zx21 := nw
                    have zX_24 := Lib.hid (Wk.to zX_13.out zhq23)
                    have zR_25 := Lib.hid (Bs.to zR_14.out zhq23)
                    have zC_26 := Lib.hid (cellTo zC_15.out zhq23)
                    have zZ_27 := Lib.hid (Bs.to zy10z.out zhq23)
                    have zHB_28 : Hid (Below w1.heap.size w1 zx21) := Lib.hid (zHB_16.out.trans (zhq23.mono zHB_16.out.size))
                    clear zhq23
                    clear nb nn nw
                    have zhS29 : (fun w' : World => True) zx21 := trivial
                    refine HzK20.out _ _ zhS29 fun _ => ?_
                    try simp only [Act.put, List.setIfInBounds_toArray, List.set_cons_zero, List.set_cons_succ]
                    refine takeD (i := 11) (v := .pointer (some ⟨g, c, none⟩)) (some 109) rfl rfl (by kernel_rfl) (by kernel_rfl) (by kernel_rfl) (fun _ _ _ h => h) (Or.inl ⟨by rfl, by rintro w' -; go_simp⟩) zhS29 ?_
                    simp only [Act.put, List.setIfInBounds_toArray, List.set_cons_zero, List.set_cons_succ]
                    refine wpAnyH_ready (rs := [12]) (by kernel_rfl) (by simp) ?_
                    refine AllReadyH.cons rfl (fun zK30 hzK30 => ?_) AllReadyH.nil
                    have HzK30 := Lib.hid hzK30
                    clear hzK30
                    rw [if_pos (by rfl)]
                    have cc := zC_26.out
                    have ff : zx21.frozen? ⟨g, c, none⟩ = false := zX_24.out.frozen c
                    go_simp
                    clear cc ff
                    have Z1 := Lib.hid (zX_24.out.store c ON.out)
                    have Z2 := Lib.hid (zHB_28.out.setCell (p := ⟨g, c, none⟩) HG.out (.slice An (n + 1) cn))
                    have zhS31 : (fun w' : World => True) (zx21.setCell ⟨g, c, none⟩ (.slice An (n + 1) cn)) := trivial
                    refine HzK30.out _ _ zhS31 fun _ => ?_
                    refine wpAnyH_done (by kernel_rfl) ?_ _
                    go_wp2_with fail
                    go_meet
                    exact Lib.hid ⟨Z2.out, by rw [EM2.out] at Z1; exact Z1.out⟩
                  · have HzK9 := Lib.hid hK
                    clear hK
                    rw [if_pos (by rfl)]
                    have zcc10 := zC_6.out
                    go_simp
                    skip
                    refine HzK9.out _ _ zhS8 fun _ => ?_
                    try simp only [Act.put, List.setIfInBounds_toArray, List.set_cons_zero, List.set_cons_succ]
                    refine wpAnyH_ready (rs := [4]) (by kernel_rfl) (by simp) ?_
                    refine AllReadyH.cons rfl (fun zK11 hzK11 => ?_) AllReadyH.nil
                    have HzK11 := Lib.hid hzK11
                    clear hzK11
                    rw [if_pos (by rfl)]
                    go_simp
                    obtain ⟨zy12, zy12e⟩ : ∃ q, zwz1.alloc (.cells (madeCells #[.int .u8 0] (n + 1)) 5) = q := ⟨_, rfl⟩
                    have zq13 : Below zwz1.heap.size zwz1 zy12 := by rw [← zy12e]; exact (Below.refl _ _).alloc (Nat.le_refl _) _
                    have zy12z := Lib.hid (bs_zeros zwz1 (n + 1) (by unfold maxLen; omega))
                    rw [zy12e] at zy12z ⊢
                    clear zy12e
                    have zhq14 : Below zwz1.heap.size zwz1 zy12 := zq13
                    have zX_15 := Lib.hid (Wk.to zX_4.out zhq14)
                    have zR_16 := Lib.hid (Bs.to zR_5.out zhq14)
                    have zC_17 := Lib.hid (cellTo zC_6.out zhq14)
                    have zHB_18 : Hid (Below w1.heap.size w1 zy12) := Lib.hid (zHB_7.out.trans (zhq14.mono zHB_7.out.size))
                    clear zhq14
                    clear zq13
                    have zhS19 : (fun w' : World => True) zy12 := trivial
                    refine HzK11.out _ _ zhS19 fun _ => ?_
                    try simp only [Act.put, List.setIfInBounds_toArray, List.set_cons_zero, List.set_cons_succ]
                    refine wpAnyH_ready (rs := [10]) (by kernel_rfl) (by simp) ?_
                    refine AllReadyH.cons rfl (fun zK20 hzK20 => ?_) AllReadyH.nil
                    have HzK20 := Lib.hid hzK20
                    clear hzK20
                    rw [if_pos (by rfl)]
                    go_simp
                    go_at_call 35
                    refine (rfused_new _ _ _ _ z _ zy12z.out zR_16.out (by rw [RL5.out]; simp) HI2 (by simp; omega)).mono ?_
                    rintro e zx21 ⟨_, rfl, nb, nn, nw⟩
                    rw [NF.out] at nb
                    obtain ⟨An, cn, rfl⟩ := nb.form
                    rw [LNF.out] at nb nn ⊢
                    have zlt22 : g < zy12.heap.size := zX_15.out.lt
                    have ON := Lib.hid (nb.off_of (g := g) fun q hq => by have := nn q hq; omega)
                    have zhq23 : Below zy12.heap.size zy12 zx21 := nw
                    have zX_24 := Lib.hid (Wk.to zX_15.out zhq23)
                    have zR_25 := Lib.hid (Bs.to zR_16.out zhq23)
                    have zC_26 := Lib.hid (cellTo zC_17.out zhq23)
                    have zZ_27 := Lib.hid (Bs.to zy12z.out zhq23)
                    have zHB_28 : Hid (Below w1.heap.size w1 zx21) := Lib.hid (zHB_18.out.trans (zhq23.mono zHB_18.out.size))
                    clear zhq23
                    clear nb nn nw
                    have zhS29 : (fun w' : World => True) zx21 := trivial
                    refine HzK20.out _ _ zhS29 fun _ => ?_
                    try simp only [Act.put, List.setIfInBounds_toArray, List.set_cons_zero, List.set_cons_succ]
                    refine takeD (i := 11) (v := .pointer (some ⟨g, c, none⟩)) (some 109) rfl rfl (by kernel_rfl) (by kernel_rfl) (by kernel_rfl) (fun _ _ _ h => h) (Or.inl ⟨by rfl, by rintro w' -; go_simp⟩) zhS29 ?_
                    simp only [Act.put, List.setIfInBounds_toArray, List.set_cons_zero, List.set_cons_succ]
                    refine wpAnyH_ready (rs := [12]) (by kernel_rfl) (by simp) ?_
                    refine AllReadyH.cons rfl (fun zK30 hzK30 => ?_) AllReadyH.nil
                    have HzK30 := Lib.hid hzK30
                    clear hzK30
                    rw [if_pos (by rfl)]
                    have cc := zC_26.out
                    have ff : zx21.frozen? ⟨g, c, none⟩ = false := zX_24.out.frozen c
                    go_simp
                    clear cc ff
                    have Z1 := Lib.hid (zX_24.out.store c ON.out)
                    have Z2 := Lib.hid (zHB_28.out.setCell (p := ⟨g, c, none⟩) HG.out (.slice An (n + 1) cn))
                    have zhS31 : (fun w' : World => True) (zx21.setCell ⟨g, c, none⟩ (.slice An (n + 1) cn)) := trivial
                    refine HzK30.out _ _ zhS31 fun _ => ?_
                    refine wpAnyH_done (by kernel_rfl) ?_ _
                    go_wp2_with fail
                    go_meet
                    exact Lib.hid ⟨Z2.out, by rw [EM2.out] at Z1; exact Z1.out⟩
                case rest =>
                  obtain ⟨we, rfl⟩ : ∃ we, we = wc := ⟨_, rfl⟩
                  have X2 := Lib.hid hcut.out.2
                  have B2c := Lib.hid hcut.out.1
                  clear hcut hmk p1 p2 q1 q2 X1 B1c RB5 P1 HX HBW
                  go_wp2_with fail
                  go_loopw [17] (fun q wq => ∃ r : Nat, r ≤ n ∧ q = .int .i64 (r : Int) ∧ Hid (Below w1.heap.size w1 wq ∧ ∃ X, Rect n (n + 1) X ∧ Wk Bs wq g 24 cap X ∧ ∀ j, j < n → X.getD j [] = if j < r then elimRow M2 c c j else M2.getD j [])) (fun q _ => n - (intOf q).toNat)
                  case atStart => exact ⟨0, Nat.zero_le _, rfl, Lib.hid ⟨B2c.out, M2, R2.out, X2.out, fun j _ => by rw [if_neg (Nat.not_lt_zero j)]⟩⟩
                  case round =>
                    obtain ⟨r, hr, rfl, H5⟩ := hrel
                    by_cases hltr : r < n
                    · have hrI : (r : Int) < (n : Int) := by omega
                      obtain ⟨hB5, X, hRX, hX, hXe⟩ := H5.out
                      have B5' := Lib.hid hB5
                      have RX := Lib.hid hRX
                      have HX5 := Lib.hid hX
                      have XE := Lib.hid hXe
                      clear hB5 hRX hX hXe H5
                      by_cases hrc : r = c
                      · have g1 : ((r : Int) != (c : Int)) = false := by simp [hrc]
                        have RC := Lib.hid hrc
                        clear hrc
                        go_wp2
                        go_roundw
                        case rel =>
                          refine ⟨r + 1, by omega, by go_num, Lib.hid ⟨B5'.out, X, RX.out, HX5.out, fun j hj => ?_⟩⟩
                          rw [XE.out j hj]
                          by_cases e : j = r
                          · rw [if_neg (by omega), if_pos (by omega)]
                            unfold elimRow
                            rw [if_pos (by rw [e, RC.out])]
                          · (repeat' split) <;> first | rfl | omega
                        case measure => simp [intOf]; omega
                      · have g1 : ((r : Int) != (c : Int)) = true := by simp; omega
                        obtain ⟨u7, p7, ho7⟩ := HX5.out.cell (k := r) (by rw [RX.out.len]; exact hltr)
                        have e7 : X[r]'(by rw [RX.out.len]; exact hltr) = M2.getD r [] := by rw [← getD_in (x := []), XE.out r hltr, if_neg (Nat.lt_irrefl r)]
                        rw [e7] at ho7
                        have hb7 := ho7.here
                        obtain ⟨u8', p8, ho8⟩ := HX5.out.cell (k := c) (by rw [RX.out.len]; exact hlt)
                        have e8 : X[c]'(by rw [RX.out.len]; exact hlt) = M2.getD c [] := by
                          rw [← getD_in (x := []), XE.out c hlt]
                          split
                          · unfold elimRow; rw [if_pos rfl]
                          · rfl
                        rw [e8] at ho8
                        have hb8 := ho8.here
                        have EW : Hid (∀ j, j < n → (X.set r (fused (M2.getD r []) (M2.getD c []) (el M2 r c))).getD j [] = if j < r + 1 then elimRow M2 c c j else M2.getD j []) := Lib.hid fun j hj => by
                          rw [getD_set]
                          by_cases e : r = j
                          · subst e
                            rw [if_pos ⟨rfl, by rw [RX.out.len]; exact hltr⟩, if_pos (by omega)]
                            unfold elimRow
                            rw [if_neg hrc]
                          · rw [if_neg fun hh => e hh.1, XE.out j hj]
                            (repeat' split) <;> first | rfl | omega
                        have l7 := (R2.out.row r hltr).1
                        have l8 := (R2.out.row c hlt).1
                        obtain ⟨ra, hra⟩ : ∃ ra, M2.getD r [] = ra := ⟨_, rfl⟩
                        obtain ⟨rb, hrb⟩ : ∃ rb, M2.getD c [] = rb := ⟨_, rfl⟩
                        rw [hra] at hb7 l7 EW
                        rw [hrb] at hb8 l8 EW
                        obtain ⟨x7, hx7⟩ : ∃ x7, el M2 r c = x7 := ⟨_, rfl⟩
                        have hx7b : x7 < 256 := by rw [← hx7]; exact R2.out.by r c
                        have hx7' : ra.getD c 0 = x7 := by rw [← hra]; exact hx7
                        rw [hx7] at EW
                        obtain ⟨b7, o7, c7, rfl, -, hcell7⟩ := Bs.at_ hb7 (by rw [l7]; omega)
                        rw [l7] at p7 hcell7 hb7
                        have p9 := hcell7 c (by omega)
                        rw [hx7'] at p9
                        obtain ⟨A8, c8, rfl⟩ := hb8.form
                        rw [l8] at p8 hb8
                        have P7 := Lib.hid p7
                        have P8 := Lib.hid p8
                        have P9 := Lib.hid p9
                        have RA := Lib.hid hb7
                        have RB := Lib.hid hb8
                        have L7 := Lib.hid l7
                        have L8 := Lib.hid l8
                        have RXN := Lib.hid (RX.out.set r (row := fused ra rb x7) (by rw [fused_len, l7]) (fused_bytes _ _ _ (by rw [← hra]; exact (R2.out.row r hltr).2) hx7b))
                        have LF : Hid ((fused ra rb x7).length = n + 1) := Lib.hid (by rw [fused_len, l7])
                        have NRC := Lib.hid hrc
                        clear p7 p8 p9 ho7 e7 hb7 ho8 e8 hb8 l7 l8 hra hrb hx7 hx7' hcell7 hrc XE RX
                        go_wp2_with fail
                        refine wp_region_held (P := Try.prog) (S := (fun w' : World => w'.cell? ⟨g, c, none⟩ = some (.slice A8 (n + 1) c8))) rfl ?_
                        change wpAnyH _ _ _ _ _ _ _ _ wr.drew
                        have yhz2 : Below wr.heap.size wr wr.drew := (Below.refl wr.heap.size wr).drew
                        generalize wr.drew = ywz1 at yhz2 ⊢
                        have yhq3 : Below wr.heap.size wr ywz1 := yhz2
                        have yX_4 := Lib.hid (Wk.to HX5.out yhq3)
                        have yP_5 := Lib.hid (cellTo P7.out yhq3)
                        have yQ_6 := Lib.hid (cellTo P8.out yhq3)
                        have yS_7 := Lib.hid (cellTo P9.out yhq3)
                        have yA_8 := Lib.hid (Bs.to RA.out yhq3)
                        have yR_9 := Lib.hid (Bs.to RB.out yhq3)
                        have yHB_10 : Hid (Below w1.heap.size w1 ywz1) := Lib.hid (B5'.out.trans (yhq3.mono B5'.out.size))
                        clear yhq3
                        clear yhz2
                        have yhS11 : (fun w' : World => w'.cell? ⟨g, c, none⟩ = some (.slice A8 (n + 1) c8)) ywz1 := yQ_6.out
                        refine takeD (i := 0) (v := .slice (some ⟨g, 0, none⟩) n cap) (some 118) rfl rfl (by kernel_rfl) (by kernel_rfl) (by kernel_rfl) (fun _ _ _ h => h) (Or.inl ⟨by rfl, by rintro w' -; go_simp⟩) yhS11 ?_
                        simp only [Act.put, List.setIfInBounds_toArray, List.set_cons_zero, List.set_cons_succ]
                        refine takeD (i := 1) (v := .int .i64 (r : Int)) (some 119) rfl rfl (by kernel_rfl) (by kernel_rfl) (by kernel_rfl) (fun _ _ _ h => h) (Or.inl ⟨by rfl, by rintro w' -; go_simp⟩) yhS11 ?_
                        simp only [Act.put, List.setIfInBounds_toArray, List.set_cons_zero, List.set_cons_succ]
                        refine takeD (i := 2) (v := .slice (some ⟨g, 0, none⟩) n cap) (some 120) rfl rfl (by kernel_rfl) (by kernel_rfl) (by kernel_rfl) (fun _ _ _ h => h) (Or.inl ⟨by rfl, by rintro w' -; go_simp⟩) yhS11 ?_
                        simp only [Act.put, List.setIfInBounds_toArray, List.set_cons_zero, List.set_cons_succ]
                        refine takeD (i := 3) (v := .int .i64 (r : Int)) (some 121) rfl rfl (by kernel_rfl) (by kernel_rfl) (by kernel_rfl) (fun _ _ _ h => h) (Or.inl ⟨by rfl, by rintro w' -; go_simp⟩) yhS11 ?_
                        simp only [Act.put, List.setIfInBounds_toArray, List.set_cons_zero, List.set_cons_succ]
                        refine takeD (i := 4) (v := .pointer (some ⟨g, r, none⟩)) (some 122) rfl rfl (by kernel_rfl) (by kernel_rfl) (by kernel_rfl) (fun _ _ _ h => h) (Or.inl ⟨by rfl, by rintro w' -; go_simp⟩) yhS11 ?_
                        simp only [Act.put, List.setIfInBounds_toArray, List.set_cons_zero, List.set_cons_succ]
                        refine takeD (i := 6) (v := .slice (some ⟨g, 0, none⟩) n cap) (some 124) rfl rfl (by kernel_rfl) (by kernel_rfl) (by kernel_rfl) (fun _ _ _ h => h) (Or.inl ⟨by rfl, by rintro w' -; go_simp⟩) yhS11 ?_
                        simp only [Act.put, List.setIfInBounds_toArray, List.set_cons_zero, List.set_cons_succ]
                        refine takeD (i := 7) (v := .int .i64 (c : Int)) (some 125) rfl rfl (by kernel_rfl) (by kernel_rfl) (by kernel_rfl) (fun _ _ _ h => h) (Or.inl ⟨by rfl, by rintro w' -; go_simp⟩) yhS11 ?_
                        simp only [Act.put, List.setIfInBounds_toArray, List.set_cons_zero, List.set_cons_succ]
                        refine takeD (i := 8) (v := .pointer (some ⟨g, c, none⟩)) (some 126) rfl rfl (by kernel_rfl) (by kernel_rfl) (by kernel_rfl) (fun _ _ _ h => h) (Or.inl ⟨by rfl, by rintro w' -; go_simp⟩) yhS11 ?_
                        simp only [Act.put, List.setIfInBounds_toArray, List.set_cons_zero, List.set_cons_succ]
                        refine takeD (i := 9) (v := .slice A8 (n + 1) c8) (some 127) rfl rfl (by kernel_rfl) (by kernel_rfl) (by kernel_rfl) (fun _ _ _ h => h) (Or.inl ⟨by rfl, by rintro w' s1; go_simp⟩) yhS11 ?_
                        simp only [Act.put, List.setIfInBounds_toArray, List.set_cons_zero, List.set_cons_succ]
                        refine takeD (i := 10) (v := .slice (some ⟨g, 0, none⟩) n cap) (some 128) rfl rfl (by kernel_rfl) (by kernel_rfl) (by kernel_rfl) (fun _ _ _ h => h) (Or.inl ⟨by rfl, by rintro w' -; go_simp⟩) yhS11 ?_
                        simp only [Act.put, List.setIfInBounds_toArray, List.set_cons_zero, List.set_cons_succ]
                        refine takeD (i := 11) (v := .int .i64 (r : Int)) (some 129) rfl rfl (by kernel_rfl) (by kernel_rfl) (by kernel_rfl) (fun _ _ _ h => h) (Or.inl ⟨by rfl, by rintro w' -; go_simp⟩) yhS11 ?_
                        simp only [Act.put, List.setIfInBounds_toArray, List.set_cons_zero, List.set_cons_succ]
                        refine takeD (i := 12) (v := .pointer (some ⟨g, r, none⟩)) (some 130) rfl rfl (by kernel_rfl) (by kernel_rfl) (by kernel_rfl) (fun _ _ _ h => h) (Or.inl ⟨by rfl, by rintro w' -; go_simp⟩) yhS11 ?_
                        simp only [Act.put, List.setIfInBounds_toArray, List.set_cons_zero, List.set_cons_succ]
                        refine takeD (i := 14) (v := .int .i64 (c : Int)) (some 132) rfl rfl (by kernel_rfl) (by kernel_rfl) (by kernel_rfl) (fun _ _ _ h => h) (Or.inl ⟨by rfl, by rintro w' -; go_simp⟩) yhS11 ?_
                        simp only [Act.put, List.setIfInBounds_toArray, List.set_cons_zero, List.set_cons_succ]
                        refine wpAnyH_ready (rs := [5, 13]) (by kernel_rfl) (by simp) ?_
                        refine AllReadyH.cons rfl (fun K hK => ?_) (AllReadyH.cons rfl (fun K hK => ?_) AllReadyH.nil)
                        · have HyK12 := Lib.hid hK
                          clear hK
                          rw [if_pos (by rfl)]
                          have ycc13 := yP_5.out
                          go_simp
                          clear ycc13
                          skip
                          refine HyK12.out _ _ yhS11 fun _ => ?_
                          try simp only [Act.put, List.setIfInBounds_toArray, List.set_cons_zero, List.set_cons_succ]
                          refine wpAnyH_ready (rs := [13]) (by kernel_rfl) (by simp) ?_
                          refine AllReadyH.cons rfl (fun yK14 hyK14 => ?_) AllReadyH.nil
                          have HyK14 := Lib.hid hyK14
                          clear hyK14
                          rw [if_pos (by rfl)]
                          have ycc15 := yP_5.out
                          go_simp
                          clear ycc15
                          skip
                          refine HyK14.out _ _ yhS11 fun _ => ?_
                          try simp only [Act.put, List.setIfInBounds_toArray, List.set_cons_zero, List.set_cons_succ]
                          refine takeD (i := 15) (v := .pointer (some ⟨b7, o7 + c, none⟩)) (some 133) rfl rfl (by kernel_rfl) (by kernel_rfl) (by kernel_rfl) (fun _ _ _ h => h) (Or.inl ⟨by rfl, by rintro w' -; go_simp⟩) yhS11 ?_
                          simp only [Act.put, List.setIfInBounds_toArray, List.set_cons_zero, List.set_cons_succ]
                          refine wpAnyH_ready (rs := [16]) (by kernel_rfl) (by simp) ?_
                          refine AllReadyH.cons rfl (fun yK16 hyK16 => ?_) AllReadyH.nil
                          have HyK16 := Lib.hid hyK16
                          clear hyK16
                          rw [if_pos (by rfl)]
                          have ycc17 := yS_7.out
                          go_simp
                          clear ycc17
                          skip
                          refine HyK16.out _ _ yhS11 fun _ => ?_
                          try simp only [Act.put, List.setIfInBounds_toArray, List.set_cons_zero, List.set_cons_succ]
                          refine wpAnyH_ready (rs := [17]) (by kernel_rfl) (by simp) ?_
                          refine AllReadyH.cons rfl (fun yK18 hyK18 => ?_) AllReadyH.nil
                          have HyK18 := Lib.hid hyK18
                          clear hyK18
                          rw [if_pos (by rfl)]
                          go_simp
                          go_at_call 35
                          refine (rfused_new _ _ _ _ x7 _ yA_8.out yR_9.out (by rw [L7.out, L8.out]) hx7b (by rw [L7.out]; omega)).mono ?_
                          rintro e yx19 ⟨_, rfl, nb, nn, nw⟩
                          obtain ⟨An, cn, rfl⟩ := nb.form
                          rw [LF.out] at nb nn ⊢
                          have ylt20 : g < ywz1.heap.size := yX_4.out.lt
                          have ON := Lib.hid (nb.off_of (g := g) fun q hq => by have := nn q hq; omega)
                          have yhq21 : Below ywz1.heap.size ywz1 yx19 := nw
                          have yX_22 := Lib.hid (Wk.to yX_4.out yhq21)
                          have yP_23 := Lib.hid (cellTo yP_5.out yhq21)
                          have yQ_24 := Lib.hid (cellTo yQ_6.out yhq21)
                          have yS_25 := Lib.hid (cellTo yS_7.out yhq21)
                          have yA_26 := Lib.hid (Bs.to yA_8.out yhq21)
                          have yR_27 := Lib.hid (Bs.to yR_9.out yhq21)
                          have yHB_28 : Hid (Below w1.heap.size w1 yx19) := Lib.hid (yHB_10.out.trans (yhq21.mono yHB_10.out.size))
                          clear yhq21
                          clear nb nn nw
                          have yhS29 : (fun w' : World => w'.cell? ⟨g, c, none⟩ = some (.slice A8 (n + 1) c8)) yx19 := yQ_24.out
                          refine HyK18.out _ _ yhS29 fun _ => ?_
                          try simp only [Act.put, List.setIfInBounds_toArray, List.set_cons_zero, List.set_cons_succ]
                          refine takeD (i := 18) (v := .pointer (some ⟨g, r, none⟩)) (some 136) rfl rfl (by kernel_rfl) (by kernel_rfl) (by kernel_rfl) (fun _ _ _ h => h) (Or.inl ⟨by rfl, by rintro w' -; go_simp⟩) yhS29 ?_
                          simp only [Act.put, List.setIfInBounds_toArray, List.set_cons_zero, List.set_cons_succ]
                          refine wpAnyH_ready (rs := [19]) (by kernel_rfl) (by simp) ?_
                          refine AllReadyH.cons rfl (fun yK30 hyK30 => ?_) AllReadyH.nil
                          have HyK30 := Lib.hid hyK30
                          clear hyK30
                          rw [if_pos (by rfl)]
                          have cc := yP_23.out
                          have ff : yx19.frozen? ⟨g, r, none⟩ = false := yX_22.out.frozen r
                          go_simp
                          clear cc ff
                          have Z1 := Lib.hid (yX_22.out.store r ON.out)
                          have Z2 := Lib.hid (yHB_28.out.setCell (p := ⟨g, r, none⟩) HG.out (.slice An (n + 1) cn))
                          have Z3 : Hid ((yx19.setCell ⟨g, r, none⟩ (.slice An (n + 1) cn)).cell? ⟨g, c, none⟩ = some (.slice A8 (n + 1) c8)) := Lib.hid (by
                            obtain ⟨cs, hrow, _⟩ := yX_22.out
                            rw [(hrow.store r _).cell, Array.getElem?_setIfInBounds_ne NRC.out, ← hrow.cell]
                            exact yQ_24.out)
                          have yhS31 : (fun w' : World => w'.cell? ⟨g, c, none⟩ = some (.slice A8 (n + 1) c8)) (yx19.setCell ⟨g, r, none⟩ (.slice An (n + 1) cn)) := Z3.out
                          refine HyK30.out _ _ yhS31 fun _ => ?_
                          refine wpAnyH_done (by kernel_rfl) ?_ _
                          go_wp2
                          go_roundw
                          case rel => exact ⟨r + 1, by omega, by go_num, Lib.hid ⟨Z2.out, _, RXN.out, Z1.out, EW.out⟩⟩
                          case measure => simp [intOf]; omega
                        · have HyK12 := Lib.hid hK
                          clear hK
                          rw [if_pos (by rfl)]
                          have ycc13 := yP_5.out
                          go_simp
                          clear ycc13
                          skip
                          refine HyK12.out _ _ yhS11 fun _ => ?_
                          try simp only [Act.put, List.setIfInBounds_toArray, List.set_cons_zero, List.set_cons_succ]
                          refine takeD (i := 15) (v := .pointer (some ⟨b7, o7 + c, none⟩)) (some 133) rfl rfl (by kernel_rfl) (by kernel_rfl) (by kernel_rfl) (fun _ _ _ h => h) (Or.inl ⟨by rfl, by rintro w' -; go_simp⟩) yhS11 ?_
                          simp only [Act.put, List.setIfInBounds_toArray, List.set_cons_zero, List.set_cons_succ]
                          refine wpAnyH_ready (rs := [5, 16]) (by kernel_rfl) (by simp) ?_
                          refine AllReadyH.cons rfl (fun K hK => ?_) (AllReadyH.cons rfl (fun K hK => ?_) AllReadyH.nil)
                          · have HyK14 := Lib.hid hK
                            clear hK
                            rw [if_pos (by rfl)]
                            have ycc15 := yP_5.out
                            go_simp
                            clear ycc15
                            skip
                            refine HyK14.out _ _ yhS11 fun _ => ?_
                            try simp only [Act.put, List.setIfInBounds_toArray, List.set_cons_zero, List.set_cons_succ]
                            refine wpAnyH_ready (rs := [16]) (by kernel_rfl) (by simp) ?_
                            refine AllReadyH.cons rfl (fun yK16 hyK16 => ?_) AllReadyH.nil
                            have HyK16 := Lib.hid hyK16
                            clear hyK16
                            rw [if_pos (by rfl)]
                            have ycc17 := yS_7.out
                            go_simp
                            clear ycc17
                            skip
                            refine HyK16.out _ _ yhS11 fun _ => ?_
                            try simp only [Act.put, List.setIfInBounds_toArray, List.set_cons_zero, List.set_cons_succ]
                            refine wpAnyH_ready (rs := [17]) (by kernel_rfl) (by simp) ?_
                            refine AllReadyH.cons rfl (fun yK18 hyK18 => ?_) AllReadyH.nil
                            have HyK18 := Lib.hid hyK18
                            clear hyK18
                            rw [if_pos (by rfl)]
                            go_simp
                            go_at_call 35
                            refine (rfused_new _ _ _ _ x7 _ yA_8.out yR_9.out (by rw [L7.out, L8.out]) hx7b (by rw [L7.out]; omega)).mono ?_
                            rintro e yx19 ⟨_, rfl, nb, nn, nw⟩
                            obtain ⟨An, cn, rfl⟩ := nb.form
                            rw [LF.out] at nb nn ⊢
                            have ylt20 : g < ywz1.heap.size := yX_4.out.lt
                            have ON := Lib.hid (nb.off_of (g := g) fun q hq => by have := nn q hq; omega)
                            have yhq21 : Below ywz1.heap.size ywz1 yx19 := nw
                            have yX_22 := Lib.hid (Wk.to yX_4.out yhq21)
                            have yP_23 := Lib.hid (cellTo yP_5.out yhq21)
                            have yQ_24 := Lib.hid (cellTo yQ_6.out yhq21)
                            have yS_25 := Lib.hid (cellTo yS_7.out yhq21)
                            have yA_26 := Lib.hid (Bs.to yA_8.out yhq21)
                            have yR_27 := Lib.hid (Bs.to yR_9.out yhq21)
                            have yHB_28 : Hid (Below w1.heap.size w1 yx19) := Lib.hid (yHB_10.out.trans (yhq21.mono yHB_10.out.size))
                            clear yhq21
                            clear nb nn nw
                            have yhS29 : (fun w' : World => w'.cell? ⟨g, c, none⟩ = some (.slice A8 (n + 1) c8)) yx19 := yQ_24.out
                            refine HyK18.out _ _ yhS29 fun _ => ?_
                            try simp only [Act.put, List.setIfInBounds_toArray, List.set_cons_zero, List.set_cons_succ]
                            refine takeD (i := 18) (v := .pointer (some ⟨g, r, none⟩)) (some 136) rfl rfl (by kernel_rfl) (by kernel_rfl) (by kernel_rfl) (fun _ _ _ h => h) (Or.inl ⟨by rfl, by rintro w' -; go_simp⟩) yhS29 ?_
                            simp only [Act.put, List.setIfInBounds_toArray, List.set_cons_zero, List.set_cons_succ]
                            refine wpAnyH_ready (rs := [19]) (by kernel_rfl) (by simp) ?_
                            refine AllReadyH.cons rfl (fun yK30 hyK30 => ?_) AllReadyH.nil
                            have HyK30 := Lib.hid hyK30
                            clear hyK30
                            rw [if_pos (by rfl)]
                            have cc := yP_23.out
                            have ff : yx19.frozen? ⟨g, r, none⟩ = false := yX_22.out.frozen r
                            go_simp
                            clear cc ff
                            have Z1 := Lib.hid (yX_22.out.store r ON.out)
                            have Z2 := Lib.hid (yHB_28.out.setCell (p := ⟨g, r, none⟩) HG.out (.slice An (n + 1) cn))
                            have Z3 : Hid ((yx19.setCell ⟨g, r, none⟩ (.slice An (n + 1) cn)).cell? ⟨g, c, none⟩ = some (.slice A8 (n + 1) c8)) := Lib.hid (by
                              obtain ⟨cs, hrow, _⟩ := yX_22.out
                              rw [(hrow.store r _).cell, Array.getElem?_setIfInBounds_ne NRC.out, ← hrow.cell]
                              exact yQ_24.out)
                            have yhS31 : (fun w' : World => w'.cell? ⟨g, c, none⟩ = some (.slice A8 (n + 1) c8)) (yx19.setCell ⟨g, r, none⟩ (.slice An (n + 1) cn)) := Z3.out
                            refine HyK30.out _ _ yhS31 fun _ => ?_
                            refine wpAnyH_done (by kernel_rfl) ?_ _
                            go_wp2
                            go_roundw
                            case rel => exact ⟨r + 1, by omega, by go_num, Lib.hid ⟨Z2.out, _, RXN.out, Z1.out, EW.out⟩⟩
                            case measure => simp [intOf]; omega
                          · have HyK14 := Lib.hid hK
                            clear hK
                            rw [if_pos (by rfl)]
                            have ycc15 := yS_7.out
                            go_simp
                            clear ycc15
                            skip
                            refine HyK14.out _ _ yhS11 fun _ => ?_
                            try simp only [Act.put, List.setIfInBounds_toArray, List.set_cons_zero, List.set_cons_succ]
                            refine wpAnyH_ready (rs := [5]) (by kernel_rfl) (by simp) ?_
                            refine AllReadyH.cons rfl (fun yK16 hyK16 => ?_) AllReadyH.nil
                            have HyK16 := Lib.hid hyK16
                            clear hyK16
                            rw [if_pos (by rfl)]
                            have ycc17 := yP_5.out
                            go_simp
                            clear ycc17
                            skip
                            refine HyK16.out _ _ yhS11 fun _ => ?_
                            try simp only [Act.put, List.setIfInBounds_toArray, List.set_cons_zero, List.set_cons_succ]
                            refine wpAnyH_ready (rs := [17]) (by kernel_rfl) (by simp) ?_
                            refine AllReadyH.cons rfl (fun yK18 hyK18 => ?_) AllReadyH.nil
                            have HyK18 := Lib.hid hyK18
                            clear hyK18
                            rw [if_pos (by rfl)]
                            go_simp
                            go_at_call 35
                            refine (rfused_new _ _ _ _ x7 _ yA_8.out yR_9.out (by rw [L7.out, L8.out]) hx7b (by rw [L7.out]; omega)).mono ?_
                            rintro e yx19 ⟨_, rfl, nb, nn, nw⟩
                            obtain ⟨An, cn, rfl⟩ := nb.form
                            rw [LF.out] at nb nn ⊢
                            have ylt20 : g < ywz1.heap.size := yX_4.out.lt
                            have ON := Lib.hid (nb.off_of (g := g) fun q hq => by have := nn q hq; omega)
                            have yhq21 : Below ywz1.heap.size ywz1 yx19 := nw
                            have yX_22 := Lib.hid (Wk.to yX_4.out yhq21)
                            have yP_23 := Lib.hid (cellTo yP_5.out yhq21)
                            have yQ_24 := Lib.hid (cellTo yQ_6.out yhq21)
                            have yS_25 := Lib.hid (cellTo yS_7.out yhq21)
                            have yA_26 := Lib.hid (Bs.to yA_8.out yhq21)
                            have yR_27 := Lib.hid (Bs.to yR_9.out yhq21)
                            have yHB_28 : Hid (Below w1.heap.size w1 yx19) := Lib.hid (yHB_10.out.trans (yhq21.mono yHB_10.out.size))
                            clear yhq21
                            clear nb nn nw
                            have yhS29 : (fun w' : World => w'.cell? ⟨g, c, none⟩ = some (.slice A8 (n + 1) c8)) yx19 := yQ_24.out
                            refine HyK18.out _ _ yhS29 fun _ => ?_
                            try simp only [Act.put, List.setIfInBounds_toArray, List.set_cons_zero, List.set_cons_succ]
                            refine takeD (i := 18) (v := .pointer (some ⟨g, r, none⟩)) (some 136) rfl rfl (by kernel_rfl) (by kernel_rfl) (by kernel_rfl) (fun _ _ _ h => h) (Or.inl ⟨by rfl, by rintro w' -; go_simp⟩) yhS29 ?_
                            simp only [Act.put, List.setIfInBounds_toArray, List.set_cons_zero, List.set_cons_succ]
                            refine wpAnyH_ready (rs := [19]) (by kernel_rfl) (by simp) ?_
                            refine AllReadyH.cons rfl (fun yK30 hyK30 => ?_) AllReadyH.nil
                            have HyK30 := Lib.hid hyK30
                            clear hyK30
                            rw [if_pos (by rfl)]
                            have cc := yP_23.out
                            have ff : yx19.frozen? ⟨g, r, none⟩ = false := yX_22.out.frozen r
                            go_simp
                            clear cc ff
                            have Z1 := Lib.hid (yX_22.out.store r ON.out)
                            have Z2 := Lib.hid (yHB_28.out.setCell (p := ⟨g, r, none⟩) HG.out (.slice An (n + 1) cn))
                            have Z3 : Hid ((yx19.setCell ⟨g, r, none⟩ (.slice An (n + 1) cn)).cell? ⟨g, c, none⟩ = some (.slice A8 (n + 1) c8)) := Lib.hid (by
                              obtain ⟨cs, hrow, _⟩ := yX_22.out
                              rw [(hrow.store r _).cell, Array.getElem?_setIfInBounds_ne NRC.out, ← hrow.cell]
                              exact yQ_24.out)
                            have yhS31 : (fun w' : World => w'.cell? ⟨g, c, none⟩ = some (.slice A8 (n + 1) c8)) (yx19.setCell ⟨g, r, none⟩ (.slice An (n + 1) cn)) := Z3.out
                            refine HyK30.out _ _ yhS31 fun _ => ?_
                            refine wpAnyH_done (by kernel_rfl) ?_ _
                            go_wp2
                            go_roundw
                            case rel => exact ⟨r + 1, by omega, by go_num, Lib.hid ⟨Z2.out, _, RXN.out, Z1.out, EW.out⟩⟩
                            case measure => simp [intOf]; omega
                    · obtain ⟨hB5, X, hRX, hX, hXe⟩ := H5.out
                      have eX : X = (reduceF E (c + 1)).1 := by
                        rw [PF'.out]
                        refine list_ext [] (by rw [hRX.len]; simp [elimF, R2.out.len]) fun j hj => ?_
                        rw [hRX.len] at hj
                        unfold elimF
                        rw [hXe j hj, if_pos (by omega), range_getD _ _ _ _ (by rw [R2.out.len]; exact hj)]
                      have F5 := Lib.hid (And.intro hB5 hX)
                      rw [eX] at F5
                      clear hB5 hRX hX hXe eX H5
                      go_wp2
                      go_roundw
                      case rel => exact ⟨c + 1, by omega, by go_num, F5⟩
                      case measure => simp [intOf]; omega
            · have z : (M.getD k []).getD c 0 = 0 := ZB.out k hk0 (by omega)
              rw [z] at q2
              clear z OU
              go_wp2
              go_round
              case rel => exact ⟨k + 1, by omega, by omega, by go_num⟩
              case measure => simp [intOf]; omega
        · obtain rfl : n = c := by omega
          have W6 : Hid (∀ i, i < n → (wtR n F p).getD i 0 = el (reduceF E n).1 i n) := Lib.hid fun i hi => by rw [wtR, range_getD _ _ _ _ hi, EE.out]
          have WB := Lib.hid (wtR_ok n F p)
          have WL : Hid ((wtR n F p).length = n) := Lib.hid (by simp [wtR])
          obtain ⟨l, hl⟩ : ∃ l, wtR n F p = l := ⟨_, rfl⟩
          rw [hl] at W6 WB WL
          have HL := Lib.hid hl
          have RM := (reduce_inv REE.out n).1
          have H6 := H.out
          obtain ⟨M, hM⟩ : ∃ M, (reduceF E n).1 = M := ⟨_, rfl⟩
          rw [hM] at W6 RM H6
          have RMM := Lib.hid RM
          have HX := Lib.hid H6.2
          have HBW := Lib.hid H6.1
          clear hM RM H6 H hl
          go_wp2_with fail
          go_loopw [18, 19] (fun u q wq => ∃ k : Nat, k ≤ n ∧ q = .int .i64 (k : Int) ∧ Hid (Below wo.heap.size wo wq ∧ OwnL Bv wq wo.heap.size 5 u (l.take k))) (fun _ q _ => n - (intOf q).toNat)
          case atStart => exact ⟨0, Nat.zero_le _, rfl, Lib.hid ⟨Below.refl _ _, by rw [List.take_zero]; exact OwnL.nil_ _ _ _⟩⟩
          case round =>
            obtain ⟨k, hk2, rfl, H2⟩ := hrel
            obtain ⟨A7, c7, rfl⟩ := H2.out.2.sl.form
            have hl7 : (l.take k).length = k := by rw [List.length_take, WL.out]; omega
            rw [hl7] at H2 ⊢
            by_cases hlt2 : k < n
            · have hkI : (k : Int) < (n : Int) := by omega
              obtain ⟨u5, p1, ho5⟩ := HX.out.cell (k := k) (by rw [RMM.out.len]; exact hlt2)
              have e5 : M[k]'(by rw [RMM.out.len]; exact hlt2) = M.getD k [] := (getD_in _).symm
              rw [e5] at ho5
              obtain ⟨b5, o5, c5, rfl, -, hcell5⟩ := Bs.at_ ho5.here (by rw [(RMM.out.row k hlt2).1]; omega)
              rw [(RMM.out.row k hlt2).1] at p1 hcell5
              have p2 := hcell5 n (by omega)
              obtain ⟨s, hs⟩ : ∃ s, (M.getD k []).getD n 0 = s := ⟨_, rfl⟩
              rw [hs] at p2
              have q1 := cellTo p1 H2.out.1
              have q2 := cellTo p2 H2.out.1
              have T := Lib.hid (take_snoc 0 l k (by rw [WL.out]; omega))
              have GX : l.getD k 0 = s := by rw [W6.out k hlt2]; exact hs
              rw [GX] at T
              have F3 := Lib.hid (push_plain H2.out.2 (Below.refl wr.heap.size wr) (fun _ => (rfl : Bv _ (.int .u8 (s : Int)) s)) 5 wr.heap.size rfl)
              have L1 : k + 1 ≤ maxLen := by unfold maxLen; omega
              have L2 : (k + 1) * 1 ≤ 140737488355328 := by omega
              have L := Lib.hid (And.intro L1 L2)
              have HS := Lib.hid H2.out.1.size
              have LN := Lib.hid hl7
              have H2D := Lib.hid H2.out
              have hnI : (n : Int) < (n : Int) + 1 := by omega
              clear p1 p2 ho5 e5 hcell5 hs GX L1 L2 hl7 H2
              go_wp2_with (at_builtin; refine wpList_push rfl (.tmp 142) (.tmp 150) 24 rfl wo.heap.size 5 i1 (.int .u8 0) 1 Try.underlying24 I1.out.1 I1.out.2.1 I1.out.2.2.1 I1.out.2.2.2 rfl Bv.keeps (.slice A7 k c7) _ rfl F3.out.1 k LN.out wr.heap.size (.int .u8 (s : Int)) s rfl F3.out.2.1 rfl F3.out.2.2.1 F3.out.2.2.2 L.out.1 L.out.2 (by simp; have := HS.out; omega) ?_; intro g4 cap4 w4 hown4 hgrow4)
              have HO4 := Lib.hid hown4
              have HG4 := Lib.hid hgrow4
              clear hown4 hgrow4
              go_wp2
              go_roundw
              case rel =>
                have hsz := HS.out
                refine ⟨k + 1, by omega, by go_num, Lib.hid ⟨?_, ?_⟩⟩
                · exact (H2D.out.1.alloc (by omega) _).grown HG4.out (by simp; omega) fun g hg => (H2D.out.2.own g hg).1
                · rw [T.out]; exact HO4.out
              case measure => simp [intOf]; omega
            · obtain rfl : n = k := by omega
              have hbw : Below w.heap.size w wr := B1.out.trans ((HBW.out.trans (H2.out.1.mono HBW.out.size)).mono B1.out.size)
              have hbs := H2.out.2
              rw [List.take_of_length_le (by rw [WL.out]; exact Nat.le_refl _)] at hbs
              have hbs' := hbs.bs WB.out
              have K := Lib.hid (And.intro hbs' hbw)
              clear hbw hbs hbs' H2
              go_wp2
              go_ret
              exact ⟨A7, c7, rfl, by rw [HL.out]; exact K.out⟩
end Go.Proofs.Ytheijobnmdbodaa
