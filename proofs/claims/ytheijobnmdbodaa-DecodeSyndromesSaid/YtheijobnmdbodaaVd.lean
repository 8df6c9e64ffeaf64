/- The walk of the law DecodeCorrects. WRITTEN BY gen_Vd.py. -/
import Derived.Test.YtheijobnmdbodaaDo
import Derived.Test.YtheijobnmdbodaaGJ
namespace Go.Proofs.Ytheijobnmdbodaa
open Go Go.RowKit Lin
set_option linter.unusedVariables false
set_option linter.unusedSimpArgs false

def oneL (N i : Nat) : List Bool := (List.range N).map fun k => decide (i = k)
theorem oneL_len (N i : Nat) : (oneL N i).length = N := by simp [oneL]
theorem oneL_at {N i k : Nat} (hk : k < N) : (oneL N i).getD k false = decide (i = k) := range_getD _ _ _ _ hk
theorem oneL_cnt (N i : Nat) : cntL (oneL N i) N ≤ 3 := by
  have : ((List.range N).filter fun k => (oneL N i).getD k false) = (List.range N).filter fun k => decide (i = k) := List.filter_congr fun k hk => oneL_at (List.mem_range.1 hk)
  unfold cntL
  rw [this]
  exact Nat.le_trans (filter_le_one N i) (by decide)
theorem fix_dec {P : List (List Nat)} (hP : ∀ d ∈ P, B8 d) (h4 : 4 ≤ P.length) (h16 : P.length ≤ 16) {i : Nat} (hi : i < P.length) : chk (decL P (oneL P.length i)) = true ↔ ∃ b, B8 b ∧ chk (P.set i b) = true := by
  constructor
  · intro h
    refine ⟨_, combB_ok (wtR_ok (P.length - 3) (fromL (oneL P.length i) (P.length - 3)) i) (pickB P (fromL (oneL P.length i) (P.length - 3))), ?_⟩
    rw [← h]
    congr 1
    refine list_ext [] (by rw [List.length_set, decL_len]) fun k hk => ?_
    rw [List.length_set] at hk
    rw [decL_at hk, oneL_at hk, getD_set]
    by_cases e : i = k
    · subst e; rw [if_pos ⟨rfl, hk⟩, if_pos (by simp)]
    · rw [if_neg fun h => e h.1, if_neg (by simpa using e)]
  · rintro ⟨b, hb, hc⟩
    have hc' := hc
    rw [chk, decide_eq_true_eq, List.length_set] at hc
    obtain ⟨-, -, hg⟩ := hc
    obtain ⟨n, hn⟩ : ∃ n, P.length = n + 3 := ⟨P.length - 3, by omega⟩
    rw [hn, Nat.add_sub_cancel] at hg
    have hG := set_ok hP hb i
    have tl : ((P.set i b).take n).length = n := by rw [List.length_take, List.length_set]; omega
    have := restore (P := P) (bad := oneL P.length i) (D := (P.set i b).take n) (fun d hd => hG d (List.mem_of_mem_take hd)) (by omega) (by rw [tl]; exact hn) (by rw [tl, ← hn]; exact oneL_cnt _ _) fun k hk hbk => by
      rw [← hg, getD_set, if_neg fun h => ?_]
      rw [oneL_at hk] at hbk
      simp [h.1] at hbk
    rw [this, ← hg]
    exact hc'
theorem syn_chk {P : List (List Nat)} (hP : ∀ d ∈ P, B8 d) (h4 : 4 ≤ P.length) (h16 : P.length ≤ 16) : decide (synL P = List.replicate 3 zeroB.1) = chk P := by
  have : synL P = List.replicate 3 zeroB.1 ↔ chk P = true := by
    rw [chk_zero hP h4 h16]
    constructor
    · intro h j hj
      match j, hj with
      | 0, _ => exact congrArg (fun l => l.getD 0 []) h
      | 1, _ => exact congrArg (fun l => l.getD 1 []) h
      | 2, _ => exact congrArg (fun l => l.getD 2 []) h
    · intro h
      unfold synL
      rw [h 0 (by decide), h 1 (by decide), h 2 (by decide)]; rfl
  by_cases h : chk P = true
  · rw [h]; exact decide_eq_true (this.2 h)
  · have hf : chk P = false := by simpa using h
    rw [hf]; exact decide_eq_false fun e => h (this.1 e)
/-- What the search has found. -/
def fndR (X : Nat → Bool) (i : Nat) (f : Int) : Prop := (f = -1 ∧ ∀ m, m < i → X m = false) ∨ (∃ k : Nat, f = (k : Int) ∧ k < i ∧ X k = true ∧ ∀ m, m < i → m ≠ k → X m = false)

set_option maxHeartbeats 4000000 in
set_option maxRecDepth 100000 in
theorem col_long (v : Value) (P : List (List Nat)) (w : World) (h : Bl w v P) (hs : 20 < P.length) : Calls Try.prog 10 #[v] w (lawPost w) := by
  have HP := Lib.hid h
  have hm : P.length ≤ maxLen := by obtain ⟨_, _, _, hm, _⟩ := h; omega
  obtain ⟨A, c, rfl⟩ := h.form
  obtain ⟨N, hN⟩ : ∃ N, P.length = N := ⟨_, rfl⟩
  have NN := Lib.hid hN
  have OK := Lib.hid h.ok
  rw [hN] at hm HP hs ⊢
  have hmI : (N : Int) ≤ 9223372036854775807 := by unfold maxLen at hm; omega
  clear h hN hm
  have g0 : decide ((20 : Int) < (N : Int)) = true := by simp; omega
  clear hs
  go_enter Try.func10, Try.ntmps10
  go_wp2_with fail
  refine (dawake_any _).mono ?_
  rintro e x2 ⟨rfl, hb1⟩
  have hq3 : Below w.heap.size w x2 := hb1
  have HB_4 : Hid (Below w.heap.size w x2) := Lib.hid (hq3)
  clear hq3
  clear hb1
  go_wp2_with fail
  go_ret
  exact ⟨by first | rfl | simp, HB_4.out⟩
set_option maxHeartbeats 4000000 in
set_option maxRecDepth 100000 in
theorem col_arg (v : Value) (P : List (List Nat)) (w : World) (h : Bl w v P) (hs : P.length ≤ 20 ∧ (P.length < 4 ∨ 16 < P.length)) : Calls Try.prog 10 #[v] w (lawPost w) := by
  have LA := Lib.hid fun w v (h : Bl w v P) => loc_arg v P w h hs.2
  have HP := Lib.hid h
  have hm : P.length ≤ maxLen := by obtain ⟨_, _, _, hm, _⟩ := h; omega
  obtain ⟨A, c, rfl⟩ := h.form
  obtain ⟨N, hN⟩ : ∃ N, P.length = N := ⟨_, rfl⟩
  have NN := Lib.hid hN
  have OK := Lib.hid h.ok
  rw [hN] at hm HP hs ⊢
  have hmI : (N : Int) ≤ 9223372036854775807 := by unfold maxLen at hm; omega
  clear h hN hm
  have g0 : decide ((20 : Int) < (N : Int)) = false := by simp; omega
  have hcase : decide ((N : Int) < 4) = true ∨ (decide ((N : Int) < 4) = false ∧ decide ((16 : Int) < (N : Int)) = true) := by
    by_cases h : N < 4
    · exact Or.inl (by simp; omega)
    · exact Or.inr ⟨by simp; omega, by have := hs.2; simp; omega⟩
  clear hs
  rcases hcase with g1 | ⟨g1, g2⟩
  all_goals
    go_enter Try.func10, Try.ntmps10
    go_wp2_with fail
    refine (dawake_any _).mono ?_
    rintro e x2 ⟨rfl, hb1⟩
    have hq3 : Below w.heap.size w x2 := hb1
    have P_4 := Lib.hid (Bl.to HP.out hq3)
    have HB_5 : Hid (Below w.heap.size w x2) := Lib.hid (hq3)
    clear hq3
    clear hb1
    go_wp2_with fail
    refine (LA.out _ _ P_4.out).mono ?_
    rintro e x7 ⟨rfl, hb6⟩
    have hq8 : Below x2.heap.size x2 x7 := hb6
    have P_9 := Lib.hid (Bl.to P_4.out hq8)
    have HB_10 : Hid (Below w.heap.size w x7) := Lib.hid (HB_5.out.trans (hq8.mono HB_5.out.size))
    clear hq8
    clear hb6
    go_wp2_with fail
    go_ret
    exact ⟨by first | rfl | simp, HB_10.out⟩
set_option maxHeartbeats 4000000 in
set_option maxRecDepth 100000 in
theorem col_chk (v : Value) (P : List (List Nat)) (w : World) (h : Bl w v P) (hs : 4 ≤ P.length ∧ P.length ≤ 16) (hc : chk P = true) : Calls Try.prog 10 #[v] w (lawPost w) := by
  have OK0 := h.ok
  have LO := Lib.hid fun w v (h : Bl w v P) => loc_any v P w h hs.1 hs.2
  have RS := Lib.hid fun w v (h : Bl w v P) => rsyn_ok v P w h hs.1 hs.2
  have SC := Lib.hid ((syn_chk OK0 hs.1 hs.2).trans hc)
  obtain ⟨S, hS⟩ : ∃ S, synL P = S := ⟨_, rfl⟩
  rw [hS] at RS SC
  clear hS
  have LR : Hid (∀ k en, locR P k en → k = 0 ∧ en = 9) := Lib.hid fun k en h => by
    rcases h with ⟨-, h1, h2⟩ | ⟨h, -⟩ | ⟨h, -⟩
    · exact ⟨h1, h2⟩
    · rw [hc] at h; cases h
    · rw [hc] at h; cases h
  clear OK0 hc
  have HP := Lib.hid h
  have hm : P.length ≤ maxLen := by obtain ⟨_, _, _, hm, _⟩ := h; omega
  obtain ⟨A, c, rfl⟩ := h.form
  obtain ⟨N, hN⟩ : ∃ N, P.length = N := ⟨_, rfl⟩
  have NN := Lib.hid hN
  have OK := Lib.hid h.ok
  rw [hN] at hm HP hs ⊢
  have hmI : (N : Int) ≤ 9223372036854775807 := by unfold maxLen at hm; omega
  clear h hN hm
  have g0 : decide ((20 : Int) < (N : Int)) = false := by simp; omega
  have g1 : decide ((N : Int) < 4) = false := by simp; omega
  have g2 : decide ((16 : Int) < (N : Int)) = false := by simp; omega
  have hN16 : N ≤ 16 := hs.2
  obtain ⟨zc, hzc⟩ : ∃ z, bcs (List.replicate 24 0) = z := ⟨_, rfl⟩
  have hmk : ∀ w : World, (Instr.makeSlice 31 (.int .i64 3) (.int .i64 3)).run Try.prog w = .ok (.slice (some ⟨w.heap.size, 0, none⟩) 3 3) (w.alloc (.cells zc 33)) := fun w => by rw [← hzc]; exact make_blk3 w
  have ZC := Lib.hid hzc
  clear hs hzc
  go_enter Try.func10, Try.ntmps10
  go_wp2_with fail
  refine (dawake_any _).mono ?_
  rintro e x2 ⟨rfl, hb1⟩
  have hq3 : Below w.heap.size w x2 := hb1
  have P_4 := Lib.hid (Bl.to HP.out hq3)
  have HB_5 : Hid (Below w.heap.size w x2) := Lib.hid (hq3)
  clear hq3
  clear hb1
  go_wp2_with fail
  refine (LO.out _ _ P_4.out).mono ?_
  rintro e x6 ⟨k, en, rfl, hlr, hb⟩
  have KR := Lib.hid (LR.out k en hlr)
  have hq7 : Below x2.heap.size x2 x6 := hb
  have P_8 := Lib.hid (Bl.to P_4.out hq7)
  have HB_9 : Hid (Below w.heap.size w x6) := Lib.hid (HB_5.out.trans (hq7.mono HB_5.out.size))
  clear hq7
  clear hb hlr LR LO
  obtain ⟨rfl, rfl⟩ := KR.out
  go_wp2_with fail
  obtain ⟨wz, hwz⟩ : ∃ wz, x6.alloc (.cells zc 33) = wz := ⟨_, rfl⟩
  have hq : Below x6.heap.size x6 wz := by rw [← hwz]; exact (Below.refl _ _).alloc (Nat.le_refl _) _
  have OZ := Lib.hid (own_zeros x6 3 (by decide)).bl
  rw [show 3 * 8 = 24 from rfl, ZC.out, hwz] at OZ
  rw [hwz]
  clear hwz hmk
  obtain ⟨gz, hgz⟩ : ∃ gz, x6.heap.size = gz := ⟨_, rfl⟩
  rw [hgz] at OZ ⊢
  obtain ⟨Z, hZ⟩ : ∃ Z, List.replicate 3 zeroB.1 = Z := ⟨_, rfl⟩
  rw [hZ] at OZ SC
  clear hgz hZ
  have hq10 : Below x6.heap.size x6 wz := hq
  have P_11 := Lib.hid (Bl.to P_8.out hq10)
  have HB_12 : Hid (Below w.heap.size w wz) := Lib.hid (HB_9.out.trans (hq10.mono HB_9.out.size))
  clear hq10
  clear hq
  refine (RS.out _ _ P_11.out).mono ?_
  rintro e x14 ⟨gs, rfl, hn15, hb13⟩
  have hq16 : Below wz.heap.size wz x14 := hb13
  have P_17 := Lib.hid (Bl.to P_11.out hq16)
  have Z_18 := Lib.hid (Bl.to OZ.out hq16)
  have HB_19 : Hid (Below w.heap.size w x14) := Lib.hid (HB_12.out.trans (hq16.mono HB_12.out.size))
  clear hq16
  have S_20 := Lib.hid hn15
  clear hb13 hn15
  go_wp2_with fail
  refine (same_b _ _ S Z true _ S_20.out Z_18.out SC.out).mono ?_
  rintro e x22 ⟨rfl, hb21⟩
  have hq23 : Below x14.heap.size x14 x22 := hb21
  have P_24 := Lib.hid (Bl.to P_17.out hq23)
  have Z_25 := Lib.hid (Bl.to Z_18.out hq23)
  have S_26 := Lib.hid (Bl.to S_20.out hq23)
  have HB_27 : Hid (Below w.heap.size w x22) := Lib.hid (HB_19.out.trans (hq23.mono HB_19.out.size))
  clear hq23
  clear hb21
  go_wp2_with fail
  go_ret
  exact ⟨by first | rfl | simp, HB_27.out⟩
set_option maxHeartbeats 4000000 in
set_option maxRecDepth 100000 in
theorem col_not (v : Value) (P : List (List Nat)) (w : World) (h : Bl w v P) (hs : 4 ≤ P.length ∧ P.length ≤ 16) (hc : chk P = false) : Calls Try.prog 10 #[v] w (lawPost w) := by
  have OK0 := h.ok
  have LO := Lib.hid fun w v (h : Bl w v P) => loc_any v P w h hs.1 hs.2
  have RS := Lib.hid fun w v (h : Bl w v P) => rsyn_ok v P w h hs.1 hs.2
  have SC := Lib.hid ((syn_chk OK0 hs.1 hs.2).trans hc)
  obtain ⟨S, hS⟩ : ∃ S, synL P = S := ⟨_, rfl⟩
  rw [hS] at RS SC
  clear hS
  obtain ⟨X, hX⟩ : ∃ X : Nat → Bool, X = fun i => chk (decL P (oneL P.length i)) := ⟨_, rfl⟩
  have XD : Hid (∀ i, X i = chk (decL P (oneL P.length i))) := Lib.hid fun i => by rw [hX]
  have XF : Hid (∀ i, i < P.length → (X i = true ↔ ∃ b, B8 b ∧ chk (P.set i b) = true)) := Lib.hid fun i hi => by rw [hX]; exact fix_dec OK0 hs.1 hs.2 hi
  have X1 : Hid (∀ i j, i < P.length → j < P.length → X i = true → X j = true → i = j) := Lib.hid fun i j hi hj h1 h2 => by
    obtain ⟨b, hb, e1⟩ := (XF.out i hi).1 h1
    obtain ⟨b', hb', e2⟩ := (XF.out j hj).1 h2
    exact fix_one OK0 hc hi hj hb hb' e1 e2
  have LR : Hid (∀ k en, locR P k en → (en = 12 ∧ k = 0 ∧ ∀ i, i < P.length → X i = false) ∨ (en = 0 ∧ k < P.length ∧ X k = true)) := Lib.hid fun k en h => by
    rcases h with ⟨h, -⟩ | ⟨-, h1, h2, h3⟩ | ⟨-, h1, h2, h3⟩
    · rw [hc] at h; cases h
    · exact Or.inr ⟨h1, h2, (XF.out k h2).2 h3⟩
    · refine Or.inl ⟨h1, h2, fun i hi => Bool.eq_false_iff.2 fun e => ?_⟩
      obtain ⟨b, hb, e1⟩ := (XF.out i hi).1 e
      rw [h3 i hi b hb] at e1; cases e1
  have DX := Lib.hid fun i w v vb (h : Bl w v P) (hb : Bos w vb (oneL P.length i)) => dec_ok v vb P (oneL P.length i) w h hb ⟨hs.1, hs.2, oneL_len _ _, oneL_cnt _ _⟩
  have DS := Lib.hid fun i w v (h : Bl w v (decL P (oneL P.length i))) => rsyn_ok v _ w h (by rw [decL_len]; exact hs.1) (by rw [decL_len]; exact hs.2)
  have DC := Lib.hid fun i => syn_chk (decL_ok OK0 (oneL P.length i)) (by rw [decL_len]; exact hs.1) (by rw [decL_len]; exact hs.2)
  clear hX
  clear OK0 hc
  have HP := Lib.hid h
  have hm : P.length ≤ maxLen := by obtain ⟨_, _, _, hm, _⟩ := h; omega
  obtain ⟨A, c, rfl⟩ := h.form
  obtain ⟨N, hN⟩ : ∃ N, P.length = N := ⟨_, rfl⟩
  have NN := Lib.hid hN
  have OK := Lib.hid h.ok
  rw [hN] at hm HP hs ⊢
  have hmI : (N : Int) ≤ 9223372036854775807 := by unfold maxLen at hm; omega
  clear h hN hm
  rw [NN.out] at XD XF X1 LR DX DS DC
  have g0 : decide ((20 : Int) < (N : Int)) = false := by simp; omega
  have g1 : decide ((N : Int) < 4) = false := by simp; omega
  have g2 : decide ((16 : Int) < (N : Int)) = false := by simp; omega
  have hN16 : N ≤ 16 := hs.2
  obtain ⟨zc, hzc⟩ : ∃ z, bcs (List.replicate 24 0) = z := ⟨_, rfl⟩
  have hmk : ∀ w : World, (Instr.makeSlice 31 (.int .i64 3) (.int .i64 3)).run Try.prog w = .ok (.slice (some ⟨w.heap.size, 0, none⟩) 3 3) (w.alloc (.cells zc 33)) := fun w => by rw [← hzc]; exact make_blk3 w
  have ZC := Lib.hid hzc
  clear hs hzc
  go_enter Try.func10, Try.ntmps10
  go_wp2_with fail
  refine (dawake_any _).mono ?_
  rintro e x2 ⟨rfl, hb1⟩
  have hq3 : Below w.heap.size w x2 := hb1
  have P_4 := Lib.hid (Bl.to HP.out hq3)
  have HB_5 : Hid (Below w.heap.size w x2) := Lib.hid (hq3)
  clear hq3
  clear hb1
  go_wp2_with fail
  refine (LO.out _ _ P_4.out).mono ?_
  rintro e x6 ⟨k, en, rfl, hlr, hb⟩
  have KR := Lib.hid (LR.out k en hlr)
  have hq7 : Below x2.heap.size x2 x6 := hb
  have P_8 := Lib.hid (Bl.to P_4.out hq7)
  have HB_9 : Hid (Below w.heap.size w x6) := Lib.hid (HB_5.out.trans (hq7.mono HB_5.out.size))
  clear hq7
  clear hb hlr LR LO
  go_wp2_with fail
  obtain ⟨wz, hwz⟩ : ∃ wz, x6.alloc (.cells zc 33) = wz := ⟨_, rfl⟩
  have hq : Below x6.heap.size x6 wz := by rw [← hwz]; exact (Below.refl _ _).alloc (Nat.le_refl _) _
  have OZ := Lib.hid (own_zeros x6 3 (by decide)).bl
  rw [show 3 * 8 = 24 from rfl, ZC.out, hwz] at OZ
  rw [hwz]
  clear hwz hmk
  obtain ⟨gz, hgz⟩ : ∃ gz, x6.heap.size = gz := ⟨_, rfl⟩
  rw [hgz] at OZ ⊢
  obtain ⟨Z, hZ⟩ : ∃ Z, List.replicate 3 zeroB.1 = Z := ⟨_, rfl⟩
  rw [hZ] at OZ SC DC
  clear hgz hZ
  have hq10 : Below x6.heap.size x6 wz := hq
  have P_11 := Lib.hid (Bl.to P_8.out hq10)
  have HB_12 : Hid (Below w.heap.size w wz) := Lib.hid (HB_9.out.trans (hq10.mono HB_9.out.size))
  clear hq10
  clear hq
  refine (RS.out _ _ P_11.out).mono ?_
  rintro e x14 ⟨gs, rfl, hn15, hb13⟩
  have hq16 : Below wz.heap.size wz x14 := hb13
  have P_17 := Lib.hid (Bl.to P_11.out hq16)
  have Z_18 := Lib.hid (Bl.to OZ.out hq16)
  have HB_19 : Hid (Below w.heap.size w x14) := Lib.hid (HB_12.out.trans (hq16.mono HB_12.out.size))
  clear hq16
  have S_20 := Lib.hid hn15
  clear hb13 hn15
  go_wp2_with fail
  refine (same_b _ _ S Z false _ S_20.out Z_18.out SC.out).mono ?_
  rintro e x22 ⟨rfl, hb21⟩
  have hq23 : Below x14.heap.size x14 x22 := hb21
  have P_24 := Lib.hid (Bl.to P_17.out hq23)
  have Z_25 := Lib.hid (Bl.to Z_18.out hq23)
  have S_26 := Lib.hid (Bl.to S_20.out hq23)
  have HB_27 : Hid (Below w.heap.size w x22) := Lib.hid (HB_19.out.trans (hq23.mono HB_19.out.size))
  clear hq23
  clear hb21
  go_wp2_with fail
  go_loopw [6, 7, 8, 9, 10] (fun f q _ _ _ wr => ∃ (i : Nat) (fi : Int), i ≤ N ∧ f = .int .i64 fi ∧ q = .int .i64 (i : Int) ∧ Hid (Below x22.heap.size x22 wr ∧ fndR X i fi)) (fun _ q _ _ _ _ => N - (intOf q).toNat)
  case atStart => exact ⟨0, -1, Nat.zero_le _, rfl, rfl, Lib.hid ⟨Below.refl _ _, Or.inl ⟨rfl, fun m hm => absurd hm (Nat.not_lt_zero m)⟩⟩⟩
  case round =>
    obtain ⟨i, fi, hi, rfl, rfl, H⟩ := hrel
    have HB := Lib.hid H.out.1
    have HF := Lib.hid H.out.2
    clear H
    by_cases hlt : i < N
    · have hiI : (i : Int) < (N : Int) := by omega
      have hmb := run_make_row' (P := Try.prog) 41 4 _ _ Try.underlying41 info_bool rfl .i64 .i64 N (by omega) (by omega)
      have q1 : ∀ t, (wr.alloc (.cells (madeCells #[.bool false] N) t)).cell? ⟨wr.heap.size, i, none⟩ = some (.bool false) := fun t => (World.rowIs_made wr (.bool false) N t).cell hlt
      have q2 : ∀ t, (wr.alloc (.cells (madeCells #[.bool false] N) t)).frozen? ⟨wr.heap.size, i, none⟩ = false := fun t => (World.rowIs_made wr (.bool false) N t).frozen i
      go_wp2_with fail
      obtain ⟨wb, hwb⟩ : ∃ wb, wr.alloc (.cells ((madeCells #[.bool false] N).setIfInBounds i (.bool true)) 4) = wb := ⟨_, rfl⟩
      have hq : Below wr.heap.size wr wb := by rw [← hwb]; exact (Below.refl _ _).alloc (Nat.le_refl _) _
      have hrow : wb.rowIs wr.heap.size 4 N (fun k => .bool (decide (i = k))) := by
        rw [← hwb]
        have hsz : ((madeCells #[.bool false] N).setIfInBounds i (.bool true)).size = N := by simp [madeCells]
        have := World.rowIs_alloc wr ((madeCells #[.bool false] N).setIfInBounds i (.bool true)) 4 (fun k => .bool (decide (i = k))) fun k hk => by
          rw [hsz] at hk
          rw [Array.getElem?_setIfInBounds]
          by_cases e : i = k
          · rw [if_pos e, if_pos (by simp [madeCells]; exact hlt), decide_eq_true e]
          · rw [if_neg e, decide_eq_false e]; simp [madeCells, hk, Nat.mod_one]
        rw [hsz] at this
        exact this
      have BO := Lib.hid (bos_of_row hrow (by unfold maxLen; omega))
      rw [hwb]
      obtain ⟨gb, hgb⟩ : ∃ gb, wr.heap.size = gb := ⟨_, rfl⟩
      rw [hgb] at BO ⊢
      clear hmb q1 q2 hwb hrow hgb
      have PZ := Lib.hid (Bl.to P_24.out HB.out)
      have ZZ := Lib.hid (Bl.to Z_25.out HB.out)
      have zhq1 : Below wr.heap.size wr wb := hq
      have zP_2 := Lib.hid (Bl.to PZ.out zhq1)
      have zZ_3 := Lib.hid (Bl.to ZZ.out zhq1)
      have zHB_4 : Hid (Below x22.heap.size x22 wb) := Lib.hid (HB.out.trans (zhq1.mono HB.out.size))
      clear zhq1
      clear hq
      refine (DX.out i _ _ _ zP_2.out BO.out).mono ?_
      rintro e zx6 ⟨gl, cl, rfl, zhn7, zhb5⟩
      have zhq8 : Below wb.heap.size wb zx6 := zhb5
      have zP_9 := Lib.hid (Bl.to zP_2.out zhq8)
      have zZ_10 := Lib.hid (Bl.to zZ_3.out zhq8)
      have zO_11 := Lib.hid (Bos.to BO.out zhq8)
      have zHB_12 : Hid (Below x22.heap.size x22 zx6) := Lib.hid (zHB_4.out.trans (zhq8.mono zHB_4.out.size))
      clear zhq8
      have zX_13 := Lib.hid zhn7
      clear zhb5 zhn7
      have DI := Lib.hid (DS.out i)
      have CI := Lib.hid (DC.out i)
      have XI := Lib.hid (XD.out i)
      obtain ⟨Y, hY⟩ : ∃ Y, decL P (oneL N i) = Y := ⟨_, rfl⟩
      rw [hY] at DI CI XI
      have XX := zX_13.out
      rw [hY] at XX
      have XXX := Lib.hid XX
      obtain ⟨S2, hS2⟩ : ∃ S2, synL Y = S2 := ⟨_, rfl⟩
      rw [hS2] at DI CI
      obtain ⟨t, ht⟩ : ∃ t, chk Y = t := ⟨_, rfl⟩
      rw [ht] at CI XI
      clear XX hY hS2 ht
      go_wp2_with fail
      refine (DI.out _ _ XXX.out).mono ?_
      rintro e zx15 ⟨gt, rfl, zhn16, zhb14⟩
      have zhq17 : Below zx6.heap.size zx6 zx15 := zhb14
      have zP_18 := Lib.hid (Bl.to zP_9.out zhq17)
      have zZ_19 := Lib.hid (Bl.to zZ_10.out zhq17)
      have zO_20 := Lib.hid (Bos.to zO_11.out zhq17)
      have zX_21 := Lib.hid (Bl.to XXX.out zhq17)
      have zHB_22 : Hid (Below x22.heap.size x22 zx15) := Lib.hid (zHB_12.out.trans (zhq17.mono zHB_12.out.size))
      clear zhq17
      have zT_23 := Lib.hid zhn16
      clear zhb14 zhn16
      go_wp2_with fail
      refine (same_b _ _ S2 Z t _ zT_23.out zZ_19.out CI.out).mono ?_
      rintro e zx25 ⟨rfl, zhb24⟩
      have zhq26 : Below zx15.heap.size zx15 zx25 := zhb24
      have zP_27 := Lib.hid (Bl.to zP_18.out zhq26)
      have zZ_28 := Lib.hid (Bl.to zZ_19.out zhq26)
      have zO_29 := Lib.hid (Bos.to zO_20.out zhq26)
      have zX_30 := Lib.hid (Bl.to zX_21.out zhq26)
      have zT_31 := Lib.hid (Bl.to zT_23.out zhq26)
      have zHB_32 : Hid (Below x22.heap.size x22 zx25) := Lib.hid (zHB_22.out.trans (zhq26.mono zHB_22.out.size))
      clear zhq26
      clear zhb24
      have KX := Lib.hid zHB_32.out
      cases t with
      | false =>
        go_wp2
        go_roundw
        case rel =>
          refine ⟨i + 1, fi, by omega, rfl, by go_num, Lib.hid ⟨KX.out, ?_⟩⟩
          rcases HF.out with ⟨h1, h2⟩ | ⟨k', h1, h2, h3, h4⟩
          · refine Or.inl ⟨h1, fun m hm => ?_⟩
            rcases Nat.lt_or_ge m i with h | h
            · exact h2 m h
            · obtain rfl : m = i := by omega
              exact XI.out
          · refine Or.inr ⟨k', h1, by omega, h3, fun m hm hne => ?_⟩
            rcases Nat.lt_or_ge m i with h | h
            · exact h4 m h hne
            · obtain rfl : m = i := by omega
              exact XI.out
        case measure => simp [intOf]; omega
      | true =>
        rcases HF.out with ⟨rfl, h2⟩ | ⟨k', h1, h2, h3, h4⟩
        · have FF := Lib.hid h2
          clear h2
          go_wp2
          go_roundw
          case rel =>
            refine ⟨i + 1, (i : Int), by omega, rfl, by go_num, Lib.hid ⟨KX.out, Or.inr ⟨i, rfl, by omega, XI.out, fun m hm hne => FF.out m (by omega)⟩⟩⟩
          case measure => simp [intOf]; omega
        · exact absurd (X1.out k' i (by omega) hlt h3 XI.out) (by omega)
    · obtain rfl : N = i := by omega
      have KB : Hid (Below w.heap.size w wr) := Lib.hid (HB_27.out.trans (HB.out.mono HB_27.out.size))
      rcases HF.out with ⟨rfl, h2⟩ | ⟨k', rfl, h2, h3, h4⟩
      · have hk : en = 12 ∧ k = 0 := by
          rcases KR.out with ⟨a1, a2, a3⟩ | ⟨a1, a2, a3⟩
          · exact ⟨a1, a2⟩
          · rw [h2 k a2] at a3; cases a3
        obtain ⟨rfl, rfl⟩ := hk
        clear h2 HF
        go_wp2
        go_ret
        exact ⟨by first | rfl | simp, KB.out⟩
      · have hk : en = 0 ∧ k = k' := by
          rcases KR.out with ⟨a1, a2, a3⟩ | ⟨a1, a2, a3⟩
          · rw [a3 k' h2] at h3; cases h3
          · exact ⟨a1, X1.out k k' a2 h2 a3 h3⟩
        obtain ⟨rfl, rfl⟩ := hk
        have hk0 : decide ((k : Int) < 0) = false := by simp
        clear h2 h3 h4 HF
        go_wp2
        go_ret
        exact ⟨by first | rfl | simp, KB.out⟩
theorem correctslaw (v : Value) (P : List (List Nat)) (w : World) (h : Bl w v P) : Calls Try.prog 10 #[v] w (lawPost w) := by
  by_cases hs : 20 < P.length
  · exact col_long v P w h hs
  · by_cases h1 : P.length < 4 ∨ 16 < P.length
    · exact col_arg v P w h ⟨by omega, h1⟩
    · cases hc : chk P with
      | true => exact col_chk v P w h ⟨by omega, by omega⟩ hc
      | false => exact col_not v P w h ⟨by omega, by omega⟩ hc
end Go.Proofs.Ytheijobnmdbodaa
