/- Contracts: decode's locateData and Locate. WRITTEN BY gen_Dj.py. -/
import Derived.Test.YtheijobnmdbodaaDi
import Derived.Test.YtheijobnmdbodaaGI
import Derived.Test.YtheijobnmdbodaaGH
namespace Go.Proofs.Ytheijobnmdbodaa
open Go Go.RowKit Lin
set_option linter.unusedVariables false
set_option linter.unusedSimpArgs false

/-- Data piece i alone explains the syndromes. -/
def fitS (s0 s1 s2 : List Nat) (i : Nat) : Prop := sclB (Gf.gpow 2 (1 * i)) s0 = s1 ∧ sclB (Gf.gpow 2 (2 * i)) s0 = s2
/-- What Locate answers. -/
def locR (P : List (List Nat)) (k e : Nat) : Prop :=
  (chk P = true ∧ k = 0 ∧ e = 9) ∨ (chk P = false ∧ e = 0 ∧ k < P.length ∧ ∃ b, B8 b ∧ chk (P.set k b) = true) ∨ (chk P = false ∧ e = 12 ∧ k = 0 ∧ ∀ i, i < P.length → ∀ b, B8 b → chk (P.set i b) = false)
theorem ucol_data {n i j : Nat} (hi : i < n) (hn : n ≤ 13) : ucol (colI n i) j = Gf.gpow 2 (j * i) := by rw [colI, if_pos hi, ucol, if_pos (by omega)]
theorem ucol_par {n m j : Nat} : ucol (colI n (n + m)) j = if m = j then 1 else 0 := by
  rw [colI, if_neg (by omega), ucol, if_neg (by omega), Nat.add_sub_cancel_left]
  by_cases e : m = j
  · rw [if_pos e, if_pos (by omega)]
  · rw [if_neg e, if_neg (by omega)]
section
variable {P : List (List Nat)} (hP : ∀ d ∈ P, B8 d) (h4 : 4 ≤ P.length) (h16 : P.length ≤ 16)
include hP h4 h16
theorem syn_zero {j : Nat} (hj : j < 3) : synB P j = zeroB.1 ↔ ∀ k, k < 8 → syn (P.length - 3) (fun m => el P m k) j = 0 := by
  constructor
  · intro h k hk
    rw [← synB_at hP h4 h16 hj hk, h]
    exact blk_at (fun _ => 0) hk
  · intro h
    refine (synB_ok hP (by omega) hj).ext zeroB.2 fun k hk => ?_
    rw [synB_at hP h4 h16 hj hk, h k hk]
    exact (blk_at (fun _ => 0) hk).symm
theorem chk_zero : chk P = true ↔ ∀ j, j < 3 → synB P j = zeroB.1 := by
  rw [chk_syn hP h4 h16]
  exact ⟨fun h j hj => (syn_zero hP h4 h16 hj).2 (h j hj), fun h j hj => (syn_zero hP h4 h16 hj).1 (h j hj)⟩
theorem loc_none (h0 : synB P 0 = zeroB.1) (h1 : synB P 1 = zeroB.1) (h2 : synB P 2 = zeroB.1) : locR P 0 9 :=
  .inl ⟨(chk_zero hP h4 h16).2 fun j hj => by
    match j, hj with
    | 0, _ => exact h0
    | 1, _ => exact h1
    | 2, _ => exact h2, rfl, rfl⟩
theorem chk_not {j : Nat} (hj : j < 3) (h : synB P j ≠ zeroB.1) : chk P = false := Bool.eq_false_iff.2 fun e => h ((chk_zero hP h4 h16).1 e j hj)
theorem loc_par {m : Nat} (hm : m < 3) (hn : synB P m ≠ zeroB.1) (hz : ∀ j, j < 3 → j ≠ m → synB P j = zeroB.1) : locR P (P.length - 3 + m) 0 := by
  refine .inr (.inl ⟨chk_not hP h4 h16 hm hn, rfl, by omega, (fix_iff hP h4 h16 (by omega)).2 ⟨fun k => (synB P m).getD k 0, fun k => (synB_ok hP (by omega) hm).lt k, fun j hj k hk => ?_⟩⟩)
  show syn (P.length - 3) (fun m => el P m k) j = _
  rw [ucol_par]
  by_cases e : m = j
  · subst e
    rw [if_pos rfl, Gf.one_mul _ ((synB_ok hP (by omega) hm).lt k), synB_at hP h4 h16 hm hk]
  · rw [if_neg e, Gf.zero_mul]
    exact (syn_zero hP h4 h16 hj).1 (hz j hj fun e' => e e'.symm) k hk
theorem loc_data {i j : Nat} (hj : j < 3) (hn : synB P j ≠ zeroB.1) (hi : i < P.length - 3) (hf : fitS (synB P 0) (synB P 1) (synB P 2) i) : locR P i 0 := by
  refine .inr (.inl ⟨chk_not hP h4 h16 hj hn, rfl, by omega, (fix_iff hP h4 h16 (by omega)).2 ⟨fun k => (synB P 0).getD k 0, fun k => (synB_ok hP (by omega) (by decide)).lt k, fun j hj k hk => ?_⟩⟩)
  show syn (P.length - 3) (fun m => el P m k) j = _
  rw [ucol_data hi (by omega), ← synB_at hP h4 h16 hj hk]
  match j, hj with
  | 0, _ =>
    rw [Nat.zero_mul]
    exact (Gf.one_mul _ ((synB_ok hP (by omega) (by decide)).lt k)).symm
  | 1, _ => rw [← hf.1, sclB, blk_at _ hk]
  | 2, _ => rw [← hf.2, sclB, blk_at _ hk]
theorem loc_lost (h01 : ¬ (synB P 0 = zeroB.1 ∧ synB P 1 = zeroB.1)) (h02 : ¬ (synB P 0 = zeroB.1 ∧ synB P 2 = zeroB.1)) (h12 : ¬ (synB P 1 = zeroB.1 ∧ synB P 2 = zeroB.1)) (hf : ∀ i, i < P.length - 3 → ¬ fitS (synB P 0) (synB P 1) (synB P 2) i) : locR P 0 12 := by
  have hc : chk P = false := Bool.eq_false_iff.2 fun e => h01 ⟨(chk_zero hP h4 h16).1 e 0 (by decide), (chk_zero hP h4 h16).1 e 1 (by decide)⟩
  refine .inr (.inr ⟨hc, rfl, rfl, fun i hi b hb => Bool.eq_false_iff.2 fun e => ?_⟩)
  obtain ⟨x, hx, hs⟩ := (fix_iff hP h4 h16 hi).1 ⟨b, hb, e⟩
  have hs : ∀ j, j < 3 → ∀ k, k < 8 → (synB P j).getD k 0 = Gf.mul (ucol (colI (P.length - 3) i) j) (x k) := fun j hj k hk => (synB_at hP h4 h16 hj hk).trans (hs j hj k hk)
  rcases Nat.lt_or_ge i (P.length - 3) with hlt | hge
  · have h0 : ∀ k, k < 8 → (synB P 0).getD k 0 = x k := fun k hk => by
      rw [hs 0 (by decide) k hk, ucol_data hlt (by omega), Nat.zero_mul]
      exact Gf.one_mul _ (hx k)
    have fj : ∀ j, j < 3 → sclB (Gf.gpow 2 (j * i)) (synB P 0) = synB P j := fun j hj => by
      refine (sclB_ok (gp_lt _) (synB_ok hP (by omega) (by decide))).ext (synB_ok hP (by omega) hj) fun k hk => ?_
      rw [sclB, blk_at _ hk, hs j hj k hk, ucol_data hlt (by omega), h0 k hk]
    exact hf i hlt ⟨fj 1 (by decide), fj 2 (by decide)⟩
  · obtain ⟨m, rfl⟩ : ∃ m, i = P.length - 3 + m := ⟨i - (P.length - 3), by omega⟩
    have hz : ∀ j, j < 3 → j ≠ m → synB P j = zeroB.1 := fun j hj hne => by
      refine (synB_ok hP (by omega) hj).ext zeroB.2 fun k hk => ?_
      rw [hs j hj k hk, ucol_par, if_neg fun e => hne e.symm, Gf.zero_mul]
      exact (blk_at (fun _ => 0) hk).symm
    by_cases e0 : m = 0
    · exact h12 ⟨hz 1 (by decide) (by omega), hz 2 (by decide) (by omega)⟩
    · by_cases e1 : m = 1
      · exact h02 ⟨hz 0 (by decide) (by omega), hz 2 (by decide) (by omega)⟩
      · exact h01 ⟨hz 0 (by decide) (by omega), hz 1 (by decide) (by omega)⟩
end
def locdPost (s0 s1 s2 : List Nat) (n : Nat) (w : World) (e : Ending) (w' : World) : Prop := ∃ k en : Nat, e = .returned (.tuple #[.int .i64 (k : Int), .int .i64 (en : Int)]) ∧ ((en = 0 ∧ k < n ∧ fitS s0 s1 s2 k) ∨ (en = 12 ∧ k = 0 ∧ ∀ i, i < n → ¬ fitS s0 s1 s2 i)) ∧ Below w.heap.size w w'
set_option maxHeartbeats 4000000 in
set_option maxRecDepth 100000 in
theorem locd_any (v : Value) (s0 s1 s2 : List Nat) (n : Nat) (w : World) (h : Bl w v [s0, s1, s2]) (h1 : 1 ≤ n) (h13 : n ≤ 13) : Calls Try.prog 44 #[v, .int .i64 (n : Int)] w (locdPost s0 s1 s2 n w) := by
  have hB := h
  obtain ⟨bs, os, cs, rfl, -, hbs, -⟩ := Bl.at_ h (by simp)
  have a0 := Bl.at8 h (i := 0) (by simp)
  have a1 := Bl.at8 h (i := 1) (by simp)
  have a2 := Bl.at8 h (i := 2) (by simp)
  have b0 := h.ok s0 (by simp)
  have b1 := h.ok s1 (by simp)
  have b2 := h.ok s2 (by simp)
  rw [show [s0, s1, s2].getD 0 [] = s0 from rfl, Nat.zero_mul, Nat.add_zero] at a0
  rw [show [s0, s1, s2].getD 1 [] = s1 from rfl, Nat.one_mul] at a1
  rw [show [s0, s1, s2].getD 2 [] = s2 from rfl] at a2
  have A0 := Lib.hid a0
  have A1 := Lib.hid a1
  have A2 := Lib.hid a2
  rw [show [s0, s1, s2].length = 3 from rfl]
  clear h hB a0 a1 a2 hbs
  go_enter Try.func44, Try.ntmps44
  go_wp2_with fail
  obtain ⟨B, eB⟩ : ∃ B, w.heap.size = B := ⟨_, rfl⟩
  refine (matrix_ok n w h1 h13).mono ?_
  rintro e w1 ⟨rfl, hg, hb⟩
  rw [eB] at hg ⊢
  have hq1 : Below w.heap.size w w1 := hb
  have A0_2 := Lib.hid (At8.to A0.out hq1)
  have A1_3 := Lib.hid (At8.to A1.out hq1)
  have A2_4 := Lib.hid (At8.to A2.out hq1)
  have HB_5 : Hid (Below w.heap.size w w1) := Lib.hid (hq1)
  clear hq1
  have HG := Lib.hid hg
  clear hg hb eB
  go_wp2_with fail
  go_loopw [8, 15] (fun _ q wr => ∃ i : Nat, i ≤ n ∧ q = .int .i64 (i : Int) ∧ Hid (Below w1.heap.size w1 wr ∧ ∀ m, m < i → ¬ fitS s0 s1 s2 m)) (fun _ q _ => n - (intOf q).toNat)
  case atStart => exact ⟨0, Nat.zero_le _, rfl, Lib.hid ⟨Below.refl _ _, fun m hm => absurd hm (Nat.not_lt_zero m)⟩⟩
  case round =>
    obtain ⟨i, hi, rfl, H⟩ := hrel
    by_cases hlt : i < n
    · have hiI : (i : Int) < (n : Int) := by omega
      obtain ⟨hbel, hnf⟩ := H.out
      have HB := Lib.hid hbel
      have HN := Lib.hid hnf
      have Q0 := Lib.hid (At8.to A0_2.out hbel)
      have Q1 := Lib.hid (At8.to A1_3.out hbel)
      have Q2 := Lib.hid (At8.to A2_4.out hbel)
      have C1 := Lib.hid (cellTo (HG.out.slot (i := 1) (by decide)) hbel)
      have C2 := Lib.hid (cellTo (HG.out.slot (i := 2) (by decide)) hbel)
      have D1 := cellTo ((HG.out.row 1 (by decide)).cell hlt) hbel
      have D2 := cellTo ((HG.out.row 2 (by decide)).cell hlt) hbel
      obtain ⟨x1, e1⟩ : ∃ x, Gf.gpow 2 (1 * i) = x := ⟨_, rfl⟩
      obtain ⟨x2, e2⟩ : ∃ x, Gf.gpow 2 (2 * i) = x := ⟨_, rfl⟩
      have x1b : x1 < 256 := by rw [← e1]; exact gp_lt _
      have x2b : x2 < 256 := by rw [← e2]; exact gp_lt _
      rw [e1] at D1
      rw [e2] at D2
      have DD1 := Lib.hid D1
      have DD2 := Lib.hid D2
      obtain ⟨m1, f1⟩ : ∃ m, sclB x1 s0 = m := ⟨_, rfl⟩
      obtain ⟨m2, f2⟩ : ∃ m, sclB x2 s0 = m := ⟨_, rfl⟩
      have m18 : B8 m1 := f1 ▸ sclB_ok x1b b0
      have m28 : B8 m2 := f2 ▸ sclB_ok x2b b0
      have M1 := Lib.hid f1
      have M2 := Lib.hid f2
      have FI : Hid (fitS s0 s1 s2 i ↔ (s1 = m1 ∧ s2 = m2)) := Lib.hid (by unfold fitS; rw [e1, e2, f1, f2]; exact ⟨fun h => ⟨h.1.symm, h.2.symm⟩, fun h => ⟨h.1.symm, h.2.symm⟩⟩)
      have E1 := fun w' => eql8 s1 m1 b1 m18 w'
      have E2 := fun w' => eql8 s2 m2 b2 m28 w'
      clear hbel hnf D1 D2 e1 e2 f1 f2 H
      by_cases t1 : s1 = m1
      · have T1 := Lib.hid t1
        simp only [t1, decide_true] at E1
        rw [← t1] at E1
        by_cases t2 : s2 = m2
        · have T2 := Lib.hid t2
          simp only [t2, decide_true] at E2
          rw [← t2] at E2
          have t1 := T1.out
          have t2 := T2.out
          subst t1 t2
          clear T1 T2
          go_wp2_with fail
          refine wp_region_held (P := Try.prog) (S := (fun w' : World => At8 w' bs os s0 ∧ At8 w' bs (os + 8) s1 ∧ At8 w' bs (os + 2 * 8) s2 ∧ w'.cell? ⟨B, 1, none⟩ = some (.slice (some ⟨B + 1 + 1, 0, none⟩) n n) ∧ w'.cell? ⟨B, 2, none⟩ = some (.slice (some ⟨B + 1 + 2, 0, none⟩) n n) ∧ w'.cell? ⟨B + 1 + 1, i, none⟩ = some (.int .u8 (x1 : Int)) ∧ w'.cell? ⟨B + 1 + 2, i, none⟩ = some (.int .u8 (x2 : Int)))) rfl ?_
          change wpAnyH _ _ _ _ _ _ _ _ wr.drew
          have zhz2 : Below wr.heap.size wr wr.drew := (Below.refl wr.heap.size wr).drew
          generalize wr.drew = zwz1 at zhz2 ⊢
          have zhq3 : Below wr.heap.size wr zwz1 := zhz2
          have zQ0_4 := Lib.hid (At8.to Q0.out zhq3)
          have zQ1_5 := Lib.hid (At8.to Q1.out zhq3)
          have zQ2_6 := Lib.hid (At8.to Q2.out zhq3)
          have zC1_7 := Lib.hid (cellTo C1.out zhq3)
          have zC2_8 := Lib.hid (cellTo C2.out zhq3)
          have zD1_9 := Lib.hid (cellTo DD1.out zhq3)
          have zD2_10 := Lib.hid (cellTo DD2.out zhq3)
          have zHB_11 : Hid (Below w1.heap.size w1 zwz1) := Lib.hid (HB.out.trans (zhq3.mono HB.out.size))
          clear zhq3
          clear zhz2
          have zhS12 : (fun w' : World => At8 w' bs os s0 ∧ At8 w' bs (os + 8) s1 ∧ At8 w' bs (os + 2 * 8) s2 ∧ w'.cell? ⟨B, 1, none⟩ = some (.slice (some ⟨B + 1 + 1, 0, none⟩) n n) ∧ w'.cell? ⟨B, 2, none⟩ = some (.slice (some ⟨B + 1 + 2, 0, none⟩) n n) ∧ w'.cell? ⟨B + 1 + 1, i, none⟩ = some (.int .u8 (x1 : Int)) ∧ w'.cell? ⟨B + 1 + 2, i, none⟩ = some (.int .u8 (x2 : Int))) zwz1 := ⟨zQ0_4.out, zQ1_5.out, zQ2_6.out, zC1_7.out, zC2_8.out, zD1_9.out, zD2_10.out⟩
          refine takeD (i := 0) (v := .slice (some ⟨bs, os, none⟩) 3 cs) (some 18) rfl rfl (by kernel_rfl) (by kernel_rfl) (by kernel_rfl) (fun _ _ _ h => h) (Or.inl ⟨by rfl, by rintro w' -; go_simp⟩) zhS12 ?_
          simp only [Act.put, List.setIfInBounds_toArray, List.set_cons_zero, List.set_cons_succ]
          refine takeD (i := 1) (v := .pointer (some ⟨bs, os + 8, none⟩)) (some 19) rfl rfl (by kernel_rfl) (by kernel_rfl) (by kernel_rfl) (fun _ _ _ h => h) (Or.inl ⟨by rfl, by rintro w' -; go_simp⟩) zhS12 ?_
          simp only [Act.put, List.setIfInBounds_toArray, List.set_cons_zero, List.set_cons_succ]
          refine takeD (i := 2) (v := .agg (bcs s1)) (some 20) rfl rfl (by kernel_rfl) (by kernel_rfl) (by kernel_rfl) (fun _ _ _ h => h) (yieldsIf_load8 (by rfl) _ _ rfl _ _ rfl s1 _ (fun w' h => h.2.1) Try.underlying33 rfl (size8 b1.1)) zhS12 ?_
          simp only [Act.put, List.setIfInBounds_toArray, List.set_cons_zero, List.set_cons_succ]
          refine takeD (i := 3) (v := .slice (some ⟨bs, os, none⟩) 3 cs) (some 21) rfl rfl (by kernel_rfl) (by kernel_rfl) (by kernel_rfl) (fun _ _ _ h => h) (Or.inl ⟨by rfl, by rintro w' -; go_simp⟩) zhS12 ?_
          simp only [Act.put, List.setIfInBounds_toArray, List.set_cons_zero, List.set_cons_succ]
          refine takeD (i := 4) (v := .pointer (some ⟨bs, os, none⟩)) (some 22) rfl rfl (by kernel_rfl) (by kernel_rfl) (by kernel_rfl) (fun _ _ _ h => h) (Or.inl ⟨by rfl, by rintro w' -; go_simp⟩) zhS12 ?_
          simp only [Act.put, List.setIfInBounds_toArray, List.set_cons_zero, List.set_cons_succ]
          refine takeD (i := 5) (v := .agg (bcs s0)) (some 23) rfl rfl (by kernel_rfl) (by kernel_rfl) (by kernel_rfl) (fun _ _ _ h => h) (yieldsIf_load8 (by rfl) _ _ rfl _ _ rfl s0 _ (fun w' h => h.1) Try.underlying33 rfl (size8 b0.1)) zhS12 ?_
          simp only [Act.put, List.setIfInBounds_toArray, List.set_cons_zero, List.set_cons_succ]
          refine takeD (i := 6) (v := .slice (some ⟨B, 0, none⟩) 3 3) (some 24) rfl rfl (by kernel_rfl) (by kernel_rfl) (by kernel_rfl) (fun _ _ _ h => h) (Or.inl ⟨by rfl, by rintro w' -; go_simp⟩) zhS12 ?_
          simp only [Act.put, List.setIfInBounds_toArray, List.set_cons_zero, List.set_cons_succ]
          refine takeD (i := 7) (v := .pointer (some ⟨B, 1, none⟩)) (some 25) rfl rfl (by kernel_rfl) (by kernel_rfl) (by kernel_rfl) (fun _ _ _ h => h) (Or.inl ⟨by rfl, by rintro w' -; go_simp⟩) zhS12 ?_
          simp only [Act.put, List.setIfInBounds_toArray, List.set_cons_zero, List.set_cons_succ]
          refine takeD (i := 8) (v := .slice (some ⟨B + 1 + 1, 0, none⟩) n n) (some 26) rfl rfl (by kernel_rfl) (by kernel_rfl) (by kernel_rfl) (fun _ _ _ h => h) (Or.inl ⟨by rfl, by rintro w' h; have hc := h.2.2.2.1; go_simp⟩) zhS12 ?_
          simp only [Act.put, List.setIfInBounds_toArray, List.set_cons_zero, List.set_cons_succ]
          refine takeD (i := 9) (v := .int .i64 (i : Int)) (some 27) rfl rfl (by kernel_rfl) (by kernel_rfl) (by kernel_rfl) (fun _ _ _ h => h) (Or.inl ⟨by rfl, by rintro w' -; go_simp⟩) zhS12 ?_
          simp only [Act.put, List.setIfInBounds_toArray, List.set_cons_zero, List.set_cons_succ]
          refine takeD (i := 10) (v := .pointer (some ⟨B + 1 + 1, i, none⟩)) (some 28) rfl rfl (by kernel_rfl) (by kernel_rfl) (by kernel_rfl) (fun _ _ _ h => h) (Or.inl ⟨by rfl, by rintro w' -; go_simp⟩) zhS12 ?_
          simp only [Act.put, List.setIfInBounds_toArray, List.set_cons_zero, List.set_cons_succ]
          refine takeD (i := 11) (v := .int .u8 (x1 : Int)) (some 29) rfl rfl (by kernel_rfl) (by kernel_rfl) (by kernel_rfl) (fun _ _ _ h => h) (Or.inl ⟨by rfl, by rintro w' h; have hc := h.2.2.2.2.2.1; go_simp⟩) zhS12 ?_
          simp only [Act.put, List.setIfInBounds_toArray, List.set_cons_zero, List.set_cons_succ]
          refine wpAnyH_ready (rs := [12]) (by kernel_rfl) (by simp) ?_
          refine AllReadyH.cons rfl (fun zK13 hzK13 => ?_) AllReadyH.nil
          have HzK13 := Lib.hid hzK13
          clear hzK13
          rw [if_pos (by rfl)]
          go_simp
          go_at_call 37
          refine (mulb_b s0 x1 s1 _ b0 x1b M1.out).mono ?_
          rintro e zx14 ⟨rfl, hb⟩
          have zhq15 : Below zwz1.heap.size zwz1 zx14 := hb
          have zQ0_16 := Lib.hid (At8.to zQ0_4.out zhq15)
          have zQ1_17 := Lib.hid (At8.to zQ1_5.out zhq15)
          have zQ2_18 := Lib.hid (At8.to zQ2_6.out zhq15)
          have zC1_19 := Lib.hid (cellTo zC1_7.out zhq15)
          have zC2_20 := Lib.hid (cellTo zC2_8.out zhq15)
          have zD1_21 := Lib.hid (cellTo zD1_9.out zhq15)
          have zD2_22 := Lib.hid (cellTo zD2_10.out zhq15)
          have zHB_23 : Hid (Below w1.heap.size w1 zx14) := Lib.hid (zHB_11.out.trans (zhq15.mono zHB_11.out.size))
          clear zhq15
          clear hb
          have zhS24 : (fun w' : World => At8 w' bs os s0 ∧ At8 w' bs (os + 8) s1 ∧ At8 w' bs (os + 2 * 8) s2 ∧ w'.cell? ⟨B, 1, none⟩ = some (.slice (some ⟨B + 1 + 1, 0, none⟩) n n) ∧ w'.cell? ⟨B, 2, none⟩ = some (.slice (some ⟨B + 1 + 2, 0, none⟩) n n) ∧ w'.cell? ⟨B + 1 + 1, i, none⟩ = some (.int .u8 (x1 : Int)) ∧ w'.cell? ⟨B + 1 + 2, i, none⟩ = some (.int .u8 (x2 : Int))) zx14 := ⟨zQ0_16.out, zQ1_17.out, zQ2_18.out, zC1_19.out, zC2_20.out, zD1_21.out, zD2_22.out⟩
          refine HzK13.out _ _ zhS24 fun _ => ?_
          try simp only [Act.put, List.setIfInBounds_toArray, List.set_cons_zero, List.set_cons_succ]
          refine takeD (i := 13) (v := .bool true) (some 31) rfl rfl (by kernel_rfl) (by kernel_rfl) (by kernel_rfl) (fun _ _ _ h => h) (Or.inl ⟨by rfl, by rintro w' -; go_simp⟩) zhS24 ?_
          simp only [Act.put, List.setIfInBounds_toArray, List.set_cons_zero, List.set_cons_succ]
          refine takeD (i := 14) (v := .bool true) (some 32) rfl rfl (by kernel_rfl) (by kernel_rfl) (by kernel_rfl) (fun _ _ _ h => h) (Or.inl ⟨by rfl, by rintro w' -; go_simp⟩) zhS24 ?_
          simp only [Act.put, List.setIfInBounds_toArray, List.set_cons_zero, List.set_cons_succ]
          refine takeD (i := 15) (v := .slice (some ⟨bs, os, none⟩) 3 cs) (some 33) rfl rfl (by kernel_rfl) (by kernel_rfl) (by kernel_rfl) (fun _ _ _ h => h) (Or.inl ⟨by rfl, by rintro w' -; go_simp⟩) zhS24 ?_
          simp only [Act.put, List.setIfInBounds_toArray, List.set_cons_zero, List.set_cons_succ]
          refine takeD (i := 16) (v := .pointer (some ⟨bs, os + 2 * 8, none⟩)) (some 34) rfl rfl (by kernel_rfl) (by kernel_rfl) (by kernel_rfl) (fun _ _ _ h => h) (Or.inl ⟨by rfl, by rintro w' -; go_simp⟩) zhS24 ?_
          simp only [Act.put, List.setIfInBounds_toArray, List.set_cons_zero, List.set_cons_succ]
          refine takeD (i := 17) (v := .agg (bcs s2)) (some 35) rfl rfl (by kernel_rfl) (by kernel_rfl) (by kernel_rfl) (fun _ _ _ h => h) (yieldsIf_load8 (by rfl) _ _ rfl _ _ rfl s2 _ (fun w' h => h.2.2.1) Try.underlying33 rfl (size8 b2.1)) zhS24 ?_
          simp only [Act.put, List.setIfInBounds_toArray, List.set_cons_zero, List.set_cons_succ]
          refine takeD (i := 18) (v := .slice (some ⟨bs, os, none⟩) 3 cs) (some 36) rfl rfl (by kernel_rfl) (by kernel_rfl) (by kernel_rfl) (fun _ _ _ h => h) (Or.inl ⟨by rfl, by rintro w' -; go_simp⟩) zhS24 ?_
          simp only [Act.put, List.setIfInBounds_toArray, List.set_cons_zero, List.set_cons_succ]
          refine takeD (i := 19) (v := .pointer (some ⟨bs, os, none⟩)) (some 37) rfl rfl (by kernel_rfl) (by kernel_rfl) (by kernel_rfl) (fun _ _ _ h => h) (Or.inl ⟨by rfl, by rintro w' -; go_simp⟩) zhS24 ?_
          simp only [Act.put, List.setIfInBounds_toArray, List.set_cons_zero, List.set_cons_succ]
          refine takeD (i := 20) (v := .agg (bcs s0)) (some 38) rfl rfl (by kernel_rfl) (by kernel_rfl) (by kernel_rfl) (fun _ _ _ h => h) (yieldsIf_load8 (by rfl) _ _ rfl _ _ rfl s0 _ (fun w' h => h.1) Try.underlying33 rfl (size8 b0.1)) zhS24 ?_
          simp only [Act.put, List.setIfInBounds_toArray, List.set_cons_zero, List.set_cons_succ]
          refine takeD (i := 21) (v := .slice (some ⟨B, 0, none⟩) 3 3) (some 39) rfl rfl (by kernel_rfl) (by kernel_rfl) (by kernel_rfl) (fun _ _ _ h => h) (Or.inl ⟨by rfl, by rintro w' -; go_simp⟩) zhS24 ?_
          simp only [Act.put, List.setIfInBounds_toArray, List.set_cons_zero, List.set_cons_succ]
          refine takeD (i := 22) (v := .pointer (some ⟨B, 2, none⟩)) (some 40) rfl rfl (by kernel_rfl) (by kernel_rfl) (by kernel_rfl) (fun _ _ _ h => h) (Or.inl ⟨by rfl, by rintro w' -; go_simp⟩) zhS24 ?_
          simp only [Act.put, List.setIfInBounds_toArray, List.set_cons_zero, List.set_cons_succ]
          refine takeD (i := 23) (v := .slice (some ⟨B + 1 + 2, 0, none⟩) n n) (some 41) rfl rfl (by kernel_rfl) (by kernel_rfl) (by kernel_rfl) (fun _ _ _ h => h) (Or.inl ⟨by rfl, by rintro w' h; have hc := h.2.2.2.2.1; go_simp⟩) zhS24 ?_
          simp only [Act.put, List.setIfInBounds_toArray, List.set_cons_zero, List.set_cons_succ]
          refine takeD (i := 24) (v := .int .i64 (i : Int)) (some 42) rfl rfl (by kernel_rfl) (by kernel_rfl) (by kernel_rfl) (fun _ _ _ h => h) (Or.inl ⟨by rfl, by rintro w' -; go_simp⟩) zhS24 ?_
          simp only [Act.put, List.setIfInBounds_toArray, List.set_cons_zero, List.set_cons_succ]
          refine takeD (i := 25) (v := .pointer (some ⟨B + 1 + 2, i, none⟩)) (some 43) rfl rfl (by kernel_rfl) (by kernel_rfl) (by kernel_rfl) (fun _ _ _ h => h) (Or.inl ⟨by rfl, by rintro w' -; go_simp⟩) zhS24 ?_
          simp only [Act.put, List.setIfInBounds_toArray, List.set_cons_zero, List.set_cons_succ]
          refine takeD (i := 26) (v := .int .u8 (x2 : Int)) (some 44) rfl rfl (by kernel_rfl) (by kernel_rfl) (by kernel_rfl) (fun _ _ _ h => h) (Or.inl ⟨by rfl, by rintro w' h; have hc := h.2.2.2.2.2.2; go_simp⟩) zhS24 ?_
          simp only [Act.put, List.setIfInBounds_toArray, List.set_cons_zero, List.set_cons_succ]
          refine wpAnyH_ready (rs := [27]) (by kernel_rfl) (by simp) ?_
          refine AllReadyH.cons rfl (fun zK25 hzK25 => ?_) AllReadyH.nil
          have HzK25 := Lib.hid hzK25
          clear hzK25
          rw [if_pos (by rfl)]
          go_simp
          go_at_call 37
          refine (mulb_b s0 x2 s2 _ b0 x2b M2.out).mono ?_
          rintro e zx26 ⟨rfl, hb⟩
          have zhq27 : Below zx14.heap.size zx14 zx26 := hb
          have zQ0_28 := Lib.hid (At8.to zQ0_16.out zhq27)
          have zQ1_29 := Lib.hid (At8.to zQ1_17.out zhq27)
          have zQ2_30 := Lib.hid (At8.to zQ2_18.out zhq27)
          have zC1_31 := Lib.hid (cellTo zC1_19.out zhq27)
          have zC2_32 := Lib.hid (cellTo zC2_20.out zhq27)
          have zD1_33 := Lib.hid (cellTo zD1_21.out zhq27)
          have zD2_34 := Lib.hid (cellTo zD2_22.out zhq27)
          have zHB_35 : Hid (Below w1.heap.size w1 zx26) := Lib.hid (zHB_23.out.trans (zhq27.mono zHB_23.out.size))
          clear zhq27
          clear hb
          have zhS36 : (fun w' : World => At8 w' bs os s0 ∧ At8 w' bs (os + 8) s1 ∧ At8 w' bs (os + 2 * 8) s2 ∧ w'.cell? ⟨B, 1, none⟩ = some (.slice (some ⟨B + 1 + 1, 0, none⟩) n n) ∧ w'.cell? ⟨B, 2, none⟩ = some (.slice (some ⟨B + 1 + 2, 0, none⟩) n n) ∧ w'.cell? ⟨B + 1 + 1, i, none⟩ = some (.int .u8 (x1 : Int)) ∧ w'.cell? ⟨B + 1 + 2, i, none⟩ = some (.int .u8 (x2 : Int))) zx26 := ⟨zQ0_28.out, zQ1_29.out, zQ2_30.out, zC1_31.out, zC2_32.out, zD1_33.out, zD2_34.out⟩
          refine HzK25.out _ _ zhS36 fun _ => ?_
          try simp only [Act.put, List.setIfInBounds_toArray, List.set_cons_zero, List.set_cons_succ]
          refine takeD (i := 28) (v := .bool true) (some 46) rfl rfl (by kernel_rfl) (by kernel_rfl) (by kernel_rfl) (fun _ _ _ h => h) (Or.inl ⟨by rfl, by rintro w' -; go_simp⟩) zhS36 ?_
          simp only [Act.put, List.setIfInBounds_toArray, List.set_cons_zero, List.set_cons_succ]
          refine takeD (i := 29) (v := .bool true) (some 47) rfl rfl (by kernel_rfl) (by kernel_rfl) (by kernel_rfl) (fun _ _ _ h => h) (Or.inl ⟨by rfl, by rintro w' -; go_simp⟩) zhS36 ?_
          simp only [Act.put, List.setIfInBounds_toArray, List.set_cons_zero, List.set_cons_succ]
          refine wpAnyH_done (by kernel_rfl) ?_ _
          go_wp2_with fail
          go_ret2
          exact ⟨i, 0, rfl, .inl ⟨rfl, hlt, FI.out.2 (by first | exact ⟨rfl, rfl⟩ | simp)⟩, HB_5.out.trans (zHB_35.out.mono HB_5.out.size)⟩
        · have T2 := Lib.hid t2
          simp only [t2, decide_false] at E2
          have t1 := T1.out
          subst t1
          clear T1
          go_wp2_with fail
          refine wp_region_held (P := Try.prog) (S := (fun w' : World => At8 w' bs os s0 ∧ At8 w' bs (os + 8) s1 ∧ At8 w' bs (os + 2 * 8) s2 ∧ w'.cell? ⟨B, 1, none⟩ = some (.slice (some ⟨B + 1 + 1, 0, none⟩) n n) ∧ w'.cell? ⟨B, 2, none⟩ = some (.slice (some ⟨B + 1 + 2, 0, none⟩) n n) ∧ w'.cell? ⟨B + 1 + 1, i, none⟩ = some (.int .u8 (x1 : Int)) ∧ w'.cell? ⟨B + 1 + 2, i, none⟩ = some (.int .u8 (x2 : Int)))) rfl ?_
          change wpAnyH _ _ _ _ _ _ _ _ wr.drew
          have zhz2 : Below wr.heap.size wr wr.drew := (Below.refl wr.heap.size wr).drew
          generalize wr.drew = zwz1 at zhz2 ⊢
          have zhq3 : Below wr.heap.size wr zwz1 := zhz2
          have zQ0_4 := Lib.hid (At8.to Q0.out zhq3)
          have zQ1_5 := Lib.hid (At8.to Q1.out zhq3)
          have zQ2_6 := Lib.hid (At8.to Q2.out zhq3)
          have zC1_7 := Lib.hid (cellTo C1.out zhq3)
          have zC2_8 := Lib.hid (cellTo C2.out zhq3)
          have zD1_9 := Lib.hid (cellTo DD1.out zhq3)
          have zD2_10 := Lib.hid (cellTo DD2.out zhq3)
          have zHB_11 : Hid (Below w1.heap.size w1 zwz1) := Lib.hid (HB.out.trans (zhq3.mono HB.out.size))
          clear zhq3
          clear zhz2
          have zhS12 : (fun w' : World => At8 w' bs os s0 ∧ At8 w' bs (os + 8) s1 ∧ At8 w' bs (os + 2 * 8) s2 ∧ w'.cell? ⟨B, 1, none⟩ = some (.slice (some ⟨B + 1 + 1, 0, none⟩) n n) ∧ w'.cell? ⟨B, 2, none⟩ = some (.slice (some ⟨B + 1 + 2, 0, none⟩) n n) ∧ w'.cell? ⟨B + 1 + 1, i, none⟩ = some (.int .u8 (x1 : Int)) ∧ w'.cell? ⟨B + 1 + 2, i, none⟩ = some (.int .u8 (x2 : Int))) zwz1 := ⟨zQ0_4.out, zQ1_5.out, zQ2_6.out, zC1_7.out, zC2_8.out, zD1_9.out, zD2_10.out⟩
          refine takeD (i := 0) (v := .slice (some ⟨bs, os, none⟩) 3 cs) (some 18) rfl rfl (by kernel_rfl) (by kernel_rfl) (by kernel_rfl) (fun _ _ _ h => h) (Or.inl ⟨by rfl, by rintro w' -; go_simp⟩) zhS12 ?_
          simp only [Act.put, List.setIfInBounds_toArray, List.set_cons_zero, List.set_cons_succ]
          refine takeD (i := 1) (v := .pointer (some ⟨bs, os + 8, none⟩)) (some 19) rfl rfl (by kernel_rfl) (by kernel_rfl) (by kernel_rfl) (fun _ _ _ h => h) (Or.inl ⟨by rfl, by rintro w' -; go_simp⟩) zhS12 ?_
          simp only [Act.put, List.setIfInBounds_toArray, List.set_cons_zero, List.set_cons_succ]
          refine takeD (i := 2) (v := .agg (bcs s1)) (some 20) rfl rfl (by kernel_rfl) (by kernel_rfl) (by kernel_rfl) (fun _ _ _ h => h) (yieldsIf_load8 (by rfl) _ _ rfl _ _ rfl s1 _ (fun w' h => h.2.1) Try.underlying33 rfl (size8 b1.1)) zhS12 ?_
          simp only [Act.put, List.setIfInBounds_toArray, List.set_cons_zero, List.set_cons_succ]
          refine takeD (i := 3) (v := .slice (some ⟨bs, os, none⟩) 3 cs) (some 21) rfl rfl (by kernel_rfl) (by kernel_rfl) (by kernel_rfl) (fun _ _ _ h => h) (Or.inl ⟨by rfl, by rintro w' -; go_simp⟩) zhS12 ?_
          simp only [Act.put, List.setIfInBounds_toArray, List.set_cons_zero, List.set_cons_succ]
          refine takeD (i := 4) (v := .pointer (some ⟨bs, os, none⟩)) (some 22) rfl rfl (by kernel_rfl) (by kernel_rfl) (by kernel_rfl) (fun _ _ _ h => h) (Or.inl ⟨by rfl, by rintro w' -; go_simp⟩) zhS12 ?_
          simp only [Act.put, List.setIfInBounds_toArray, List.set_cons_zero, List.set_cons_succ]
          refine takeD (i := 5) (v := .agg (bcs s0)) (some 23) rfl rfl (by kernel_rfl) (by kernel_rfl) (by kernel_rfl) (fun _ _ _ h => h) (yieldsIf_load8 (by rfl) _ _ rfl _ _ rfl s0 _ (fun w' h => h.1) Try.underlying33 rfl (size8 b0.1)) zhS12 ?_
          simp only [Act.put, List.setIfInBounds_toArray, List.set_cons_zero, List.set_cons_succ]
          refine takeD (i := 6) (v := .slice (some ⟨B, 0, none⟩) 3 3) (some 24) rfl rfl (by kernel_rfl) (by kernel_rfl) (by kernel_rfl) (fun _ _ _ h => h) (Or.inl ⟨by rfl, by rintro w' -; go_simp⟩) zhS12 ?_
          simp only [Act.put, List.setIfInBounds_toArray, List.set_cons_zero, List.set_cons_succ]
          refine takeD (i := 7) (v := .pointer (some ⟨B, 1, none⟩)) (some 25) rfl rfl (by kernel_rfl) (by kernel_rfl) (by kernel_rfl) (fun _ _ _ h => h) (Or.inl ⟨by rfl, by rintro w' -; go_simp⟩) zhS12 ?_
          simp only [Act.put, List.setIfInBounds_toArray, List.set_cons_zero, List.set_cons_succ]
          refine takeD (i := 8) (v := .slice (some ⟨B + 1 + 1, 0, none⟩) n n) (some 26) rfl rfl (by kernel_rfl) (by kernel_rfl) (by kernel_rfl) (fun _ _ _ h => h) (Or.inl ⟨by rfl, by rintro w' h; have hc := h.2.2.2.1; go_simp⟩) zhS12 ?_
          simp only [Act.put, List.setIfInBounds_toArray, List.set_cons_zero, List.set_cons_succ]
          refine takeD (i := 9) (v := .int .i64 (i : Int)) (some 27) rfl rfl (by kernel_rfl) (by kernel_rfl) (by kernel_rfl) (fun _ _ _ h => h) (Or.inl ⟨by rfl, by rintro w' -; go_simp⟩) zhS12 ?_
          simp only [Act.put, List.setIfInBounds_toArray, List.set_cons_zero, List.set_cons_succ]
          refine takeD (i := 10) (v := .pointer (some ⟨B + 1 + 1, i, none⟩)) (some 28) rfl rfl (by kernel_rfl) (by kernel_rfl) (by kernel_rfl) (fun _ _ _ h => h) (Or.inl ⟨by rfl, by rintro w' -; go_simp⟩) zhS12 ?_
          simp only [Act.put, List.setIfInBounds_toArray, List.set_cons_zero, List.set_cons_succ]
          refine takeD (i := 11) (v := .int .u8 (x1 : Int)) (some 29) rfl rfl (by kernel_rfl) (by kernel_rfl) (by kernel_rfl) (fun _ _ _ h => h) (Or.inl ⟨by rfl, by rintro w' h; have hc := h.2.2.2.2.2.1; go_simp⟩) zhS12 ?_
          simp only [Act.put, List.setIfInBounds_toArray, List.set_cons_zero, List.set_cons_succ]
          refine wpAnyH_ready (rs := [12]) (by kernel_rfl) (by simp) ?_
          refine AllReadyH.cons rfl (fun zK13 hzK13 => ?_) AllReadyH.nil
          have HzK13 := Lib.hid hzK13
          clear hzK13
          rw [if_pos (by rfl)]
          go_simp
          go_at_call 37
          refine (mulb_b s0 x1 s1 _ b0 x1b M1.out).mono ?_
          rintro e zx14 ⟨rfl, hb⟩
          have zhq15 : Below zwz1.heap.size zwz1 zx14 := hb
          have zQ0_16 := Lib.hid (At8.to zQ0_4.out zhq15)
          have zQ1_17 := Lib.hid (At8.to zQ1_5.out zhq15)
          have zQ2_18 := Lib.hid (At8.to zQ2_6.out zhq15)
          have zC1_19 := Lib.hid (cellTo zC1_7.out zhq15)
          have zC2_20 := Lib.hid (cellTo zC2_8.out zhq15)
          have zD1_21 := Lib.hid (cellTo zD1_9.out zhq15)
          have zD2_22 := Lib.hid (cellTo zD2_10.out zhq15)
          have zHB_23 : Hid (Below w1.heap.size w1 zx14) := Lib.hid (zHB_11.out.trans (zhq15.mono zHB_11.out.size))
          clear zhq15
          clear hb
          have zhS24 : (fun w' : World => At8 w' bs os s0 ∧ At8 w' bs (os + 8) s1 ∧ At8 w' bs (os + 2 * 8) s2 ∧ w'.cell? ⟨B, 1, none⟩ = some (.slice (some ⟨B + 1 + 1, 0, none⟩) n n) ∧ w'.cell? ⟨B, 2, none⟩ = some (.slice (some ⟨B + 1 + 2, 0, none⟩) n n) ∧ w'.cell? ⟨B + 1 + 1, i, none⟩ = some (.int .u8 (x1 : Int)) ∧ w'.cell? ⟨B + 1 + 2, i, none⟩ = some (.int .u8 (x2 : Int))) zx14 := ⟨zQ0_16.out, zQ1_17.out, zQ2_18.out, zC1_19.out, zC2_20.out, zD1_21.out, zD2_22.out⟩
          refine HzK13.out _ _ zhS24 fun _ => ?_
          try simp only [Act.put, List.setIfInBounds_toArray, List.set_cons_zero, List.set_cons_succ]
          refine takeD (i := 13) (v := .bool true) (some 31) rfl rfl (by kernel_rfl) (by kernel_rfl) (by kernel_rfl) (fun _ _ _ h => h) (Or.inl ⟨by rfl, by rintro w' -; go_simp⟩) zhS24 ?_
          simp only [Act.put, List.setIfInBounds_toArray, List.set_cons_zero, List.set_cons_succ]
          refine takeD (i := 14) (v := .bool true) (some 32) rfl rfl (by kernel_rfl) (by kernel_rfl) (by kernel_rfl) (fun _ _ _ h => h) (Or.inl ⟨by rfl, by rintro w' -; go_simp⟩) zhS24 ?_
          simp only [Act.put, List.setIfInBounds_toArray, List.set_cons_zero, List.set_cons_succ]
          refine takeD (i := 15) (v := .slice (some ⟨bs, os, none⟩) 3 cs) (some 33) rfl rfl (by kernel_rfl) (by kernel_rfl) (by kernel_rfl) (fun _ _ _ h => h) (Or.inl ⟨by rfl, by rintro w' -; go_simp⟩) zhS24 ?_
          simp only [Act.put, List.setIfInBounds_toArray, List.set_cons_zero, List.set_cons_succ]
          refine takeD (i := 16) (v := .pointer (some ⟨bs, os + 2 * 8, none⟩)) (some 34) rfl rfl (by kernel_rfl) (by kernel_rfl) (by kernel_rfl) (fun _ _ _ h => h) (Or.inl ⟨by rfl, by rintro w' -; go_simp⟩) zhS24 ?_
          simp only [Act.put, List.setIfInBounds_toArray, List.set_cons_zero, List.set_cons_succ]
          refine takeD (i := 17) (v := .agg (bcs s2)) (some 35) rfl rfl (by kernel_rfl) (by kernel_rfl) (by kernel_rfl) (fun _ _ _ h => h) (yieldsIf_load8 (by rfl) _ _ rfl _ _ rfl s2 _ (fun w' h => h.2.2.1) Try.underlying33 rfl (size8 b2.1)) zhS24 ?_
          simp only [Act.put, List.setIfInBounds_toArray, List.set_cons_zero, List.set_cons_succ]
          refine takeD (i := 18) (v := .slice (some ⟨bs, os, none⟩) 3 cs) (some 36) rfl rfl (by kernel_rfl) (by kernel_rfl) (by kernel_rfl) (fun _ _ _ h => h) (Or.inl ⟨by rfl, by rintro w' -; go_simp⟩) zhS24 ?_
          simp only [Act.put, List.setIfInBounds_toArray, List.set_cons_zero, List.set_cons_succ]
          refine takeD (i := 19) (v := .pointer (some ⟨bs, os, none⟩)) (some 37) rfl rfl (by kernel_rfl) (by kernel_rfl) (by kernel_rfl) (fun _ _ _ h => h) (Or.inl ⟨by rfl, by rintro w' -; go_simp⟩) zhS24 ?_
          simp only [Act.put, List.setIfInBounds_toArray, List.set_cons_zero, List.set_cons_succ]
          refine takeD (i := 20) (v := .agg (bcs s0)) (some 38) rfl rfl (by kernel_rfl) (by kernel_rfl) (by kernel_rfl) (fun _ _ _ h => h) (yieldsIf_load8 (by rfl) _ _ rfl _ _ rfl s0 _ (fun w' h => h.1) Try.underlying33 rfl (size8 b0.1)) zhS24 ?_
          simp only [Act.put, List.setIfInBounds_toArray, List.set_cons_zero, List.set_cons_succ]
          refine takeD (i := 21) (v := .slice (some ⟨B, 0, none⟩) 3 3) (some 39) rfl rfl (by kernel_rfl) (by kernel_rfl) (by kernel_rfl) (fun _ _ _ h => h) (Or.inl ⟨by rfl, by rintro w' -; go_simp⟩) zhS24 ?_
          simp only [Act.put, List.setIfInBounds_toArray, List.set_cons_zero, List.set_cons_succ]
          refine takeD (i := 22) (v := .pointer (some ⟨B, 2, none⟩)) (some 40) rfl rfl (by kernel_rfl) (by kernel_rfl) (by kernel_rfl) (fun _ _ _ h => h) (Or.inl ⟨by rfl, by rintro w' -; go_simp⟩) zhS24 ?_
          simp only [Act.put, List.setIfInBounds_toArray, List.set_cons_zero, List.set_cons_succ]
          refine takeD (i := 23) (v := .slice (some ⟨B + 1 + 2, 0, none⟩) n n) (some 41) rfl rfl (by kernel_rfl) (by kernel_rfl) (by kernel_rfl) (fun _ _ _ h => h) (Or.inl ⟨by rfl, by rintro w' h; have hc := h.2.2.2.2.1; go_simp⟩) zhS24 ?_
          simp only [Act.put, List.setIfInBounds_toArray, List.set_cons_zero, List.set_cons_succ]
          refine takeD (i := 24) (v := .int .i64 (i : Int)) (some 42) rfl rfl (by kernel_rfl) (by kernel_rfl) (by kernel_rfl) (fun _ _ _ h => h) (Or.inl ⟨by rfl, by rintro w' -; go_simp⟩) zhS24 ?_
          simp only [Act.put, List.setIfInBounds_toArray, List.set_cons_zero, List.set_cons_succ]
          refine takeD (i := 25) (v := .pointer (some ⟨B + 1 + 2, i, none⟩)) (some 43) rfl rfl (by kernel_rfl) (by kernel_rfl) (by kernel_rfl) (fun _ _ _ h => h) (Or.inl ⟨by rfl, by rintro w' -; go_simp⟩) zhS24 ?_
          simp only [Act.put, List.setIfInBounds_toArray, List.set_cons_zero, List.set_cons_succ]
          refine takeD (i := 26) (v := .int .u8 (x2 : Int)) (some 44) rfl rfl (by kernel_rfl) (by kernel_rfl) (by kernel_rfl) (fun _ _ _ h => h) (Or.inl ⟨by rfl, by rintro w' h; have hc := h.2.2.2.2.2.2; go_simp⟩) zhS24 ?_
          simp only [Act.put, List.setIfInBounds_toArray, List.set_cons_zero, List.set_cons_succ]
          refine wpAnyH_ready (rs := [27]) (by kernel_rfl) (by simp) ?_
          refine AllReadyH.cons rfl (fun zK25 hzK25 => ?_) AllReadyH.nil
          have HzK25 := Lib.hid hzK25
          clear hzK25
          rw [if_pos (by rfl)]
          go_simp
          go_at_call 37
          refine (mulb_b s0 x2 m2 _ b0 x2b M2.out).mono ?_
          rintro e zx26 ⟨rfl, hb⟩
          have zhq27 : Below zx14.heap.size zx14 zx26 := hb
          have zQ0_28 := Lib.hid (At8.to zQ0_16.out zhq27)
          have zQ1_29 := Lib.hid (At8.to zQ1_17.out zhq27)
          have zQ2_30 := Lib.hid (At8.to zQ2_18.out zhq27)
          have zC1_31 := Lib.hid (cellTo zC1_19.out zhq27)
          have zC2_32 := Lib.hid (cellTo zC2_20.out zhq27)
          have zD1_33 := Lib.hid (cellTo zD1_21.out zhq27)
          have zD2_34 := Lib.hid (cellTo zD2_22.out zhq27)
          have zHB_35 : Hid (Below w1.heap.size w1 zx26) := Lib.hid (zHB_23.out.trans (zhq27.mono zHB_23.out.size))
          clear zhq27
          clear hb
          have zhS36 : (fun w' : World => At8 w' bs os s0 ∧ At8 w' bs (os + 8) s1 ∧ At8 w' bs (os + 2 * 8) s2 ∧ w'.cell? ⟨B, 1, none⟩ = some (.slice (some ⟨B + 1 + 1, 0, none⟩) n n) ∧ w'.cell? ⟨B, 2, none⟩ = some (.slice (some ⟨B + 1 + 2, 0, none⟩) n n) ∧ w'.cell? ⟨B + 1 + 1, i, none⟩ = some (.int .u8 (x1 : Int)) ∧ w'.cell? ⟨B + 1 + 2, i, none⟩ = some (.int .u8 (x2 : Int))) zx26 := ⟨zQ0_28.out, zQ1_29.out, zQ2_30.out, zC1_31.out, zC2_32.out, zD1_33.out, zD2_34.out⟩
          refine HzK25.out _ _ zhS36 fun _ => ?_
          try simp only [Act.put, List.setIfInBounds_toArray, List.set_cons_zero, List.set_cons_succ]
          refine takeD (i := 28) (v := .bool false) (some 46) rfl rfl (by kernel_rfl) (by kernel_rfl) (by kernel_rfl) (fun _ _ _ h => h) (Or.inl ⟨by rfl, by rintro w' -; go_simp⟩) zhS36 ?_
          simp only [Act.put, List.setIfInBounds_toArray, List.set_cons_zero, List.set_cons_succ]
          refine takeD (i := 29) (v := .bool false) (some 47) rfl rfl (by kernel_rfl) (by kernel_rfl) (by kernel_rfl) (fun _ _ _ h => h) (Or.inl ⟨by rfl, by rintro w' -; go_simp⟩) zhS36 ?_
          simp only [Act.put, List.setIfInBounds_toArray, List.set_cons_zero, List.set_cons_succ]
          refine wpAnyH_done (by kernel_rfl) ?_ _
          go_wp2
          go_roundw
          case rel =>
            refine ⟨i + 1, by omega, by go_num, Lib.hid ⟨zHB_35.out, fun m hm hf => ?_⟩⟩
            rcases Nat.lt_or_ge m i with h | h
            · exact HN.out m h hf
            · obtain rfl : m = i := by omega
              exact T2.out (FI.out.1 hf).2
          case measure => simp [intOf]; omega
      · have T1 := Lib.hid t1
        simp only [t1, decide_false] at E1
        go_wp2_with fail
        refine wp_region_held (P := Try.prog) (S := (fun w' : World => At8 w' bs os s0 ∧ At8 w' bs (os + 8) s1 ∧ At8 w' bs (os + 2 * 8) s2 ∧ w'.cell? ⟨B, 1, none⟩ = some (.slice (some ⟨B + 1 + 1, 0, none⟩) n n) ∧ w'.cell? ⟨B, 2, none⟩ = some (.slice (some ⟨B + 1 + 2, 0, none⟩) n n) ∧ w'.cell? ⟨B + 1 + 1, i, none⟩ = some (.int .u8 (x1 : Int)) ∧ w'.cell? ⟨B + 1 + 2, i, none⟩ = some (.int .u8 (x2 : Int)))) rfl ?_
        change wpAnyH _ _ _ _ _ _ _ _ wr.drew
        have zhz2 : Below wr.heap.size wr wr.drew := (Below.refl wr.heap.size wr).drew
        generalize wr.drew = zwz1 at zhz2 ⊢
        have zhq3 : Below wr.heap.size wr zwz1 := zhz2
        have zQ0_4 := Lib.hid (At8.to Q0.out zhq3)
        have zQ1_5 := Lib.hid (At8.to Q1.out zhq3)
        have zQ2_6 := Lib.hid (At8.to Q2.out zhq3)
        have zC1_7 := Lib.hid (cellTo C1.out zhq3)
        have zC2_8 := Lib.hid (cellTo C2.out zhq3)
        have zD1_9 := Lib.hid (cellTo DD1.out zhq3)
        have zD2_10 := Lib.hid (cellTo DD2.out zhq3)
        have zHB_11 : Hid (Below w1.heap.size w1 zwz1) := Lib.hid (HB.out.trans (zhq3.mono HB.out.size))
        clear zhq3
        clear zhz2
        have zhS12 : (fun w' : World => At8 w' bs os s0 ∧ At8 w' bs (os + 8) s1 ∧ At8 w' bs (os + 2 * 8) s2 ∧ w'.cell? ⟨B, 1, none⟩ = some (.slice (some ⟨B + 1 + 1, 0, none⟩) n n) ∧ w'.cell? ⟨B, 2, none⟩ = some (.slice (some ⟨B + 1 + 2, 0, none⟩) n n) ∧ w'.cell? ⟨B + 1 + 1, i, none⟩ = some (.int .u8 (x1 : Int)) ∧ w'.cell? ⟨B + 1 + 2, i, none⟩ = some (.int .u8 (x2 : Int))) zwz1 := ⟨zQ0_4.out, zQ1_5.out, zQ2_6.out, zC1_7.out, zC2_8.out, zD1_9.out, zD2_10.out⟩
        refine takeD (i := 0) (v := .slice (some ⟨bs, os, none⟩) 3 cs) (some 18) rfl rfl (by kernel_rfl) (by kernel_rfl) (by kernel_rfl) (fun _ _ _ h => h) (Or.inl ⟨by rfl, by rintro w' -; go_simp⟩) zhS12 ?_
        simp only [Act.put, List.setIfInBounds_toArray, List.set_cons_zero, List.set_cons_succ]
        refine takeD (i := 1) (v := .pointer (some ⟨bs, os + 8, none⟩)) (some 19) rfl rfl (by kernel_rfl) (by kernel_rfl) (by kernel_rfl) (fun _ _ _ h => h) (Or.inl ⟨by rfl, by rintro w' -; go_simp⟩) zhS12 ?_
        simp only [Act.put, List.setIfInBounds_toArray, List.set_cons_zero, List.set_cons_succ]
        refine takeD (i := 2) (v := .agg (bcs s1)) (some 20) rfl rfl (by kernel_rfl) (by kernel_rfl) (by kernel_rfl) (fun _ _ _ h => h) (yieldsIf_load8 (by rfl) _ _ rfl _ _ rfl s1 _ (fun w' h => h.2.1) Try.underlying33 rfl (size8 b1.1)) zhS12 ?_
        simp only [Act.put, List.setIfInBounds_toArray, List.set_cons_zero, List.set_cons_succ]
        refine takeD (i := 3) (v := .slice (some ⟨bs, os, none⟩) 3 cs) (some 21) rfl rfl (by kernel_rfl) (by kernel_rfl) (by kernel_rfl) (fun _ _ _ h => h) (Or.inl ⟨by rfl, by rintro w' -; go_simp⟩) zhS12 ?_
        simp only [Act.put, List.setIfInBounds_toArray, List.set_cons_zero, List.set_cons_succ]
        refine takeD (i := 4) (v := .pointer (some ⟨bs, os, none⟩)) (some 22) rfl rfl (by kernel_rfl) (by kernel_rfl) (by kernel_rfl) (fun _ _ _ h => h) (Or.inl ⟨by rfl, by rintro w' -; go_simp⟩) zhS12 ?_
        simp only [Act.put, List.setIfInBounds_toArray, List.set_cons_zero, List.set_cons_succ]
        refine takeD (i := 5) (v := .agg (bcs s0)) (some 23) rfl rfl (by kernel_rfl) (by kernel_rfl) (by kernel_rfl) (fun _ _ _ h => h) (yieldsIf_load8 (by rfl) _ _ rfl _ _ rfl s0 _ (fun w' h => h.1) Try.underlying33 rfl (size8 b0.1)) zhS12 ?_
        simp only [Act.put, List.setIfInBounds_toArray, List.set_cons_zero, List.set_cons_succ]
        refine takeD (i := 6) (v := .slice (some ⟨B, 0, none⟩) 3 3) (some 24) rfl rfl (by kernel_rfl) (by kernel_rfl) (by kernel_rfl) (fun _ _ _ h => h) (Or.inl ⟨by rfl, by rintro w' -; go_simp⟩) zhS12 ?_
        simp only [Act.put, List.setIfInBounds_toArray, List.set_cons_zero, List.set_cons_succ]
        refine takeD (i := 7) (v := .pointer (some ⟨B, 1, none⟩)) (some 25) rfl rfl (by kernel_rfl) (by kernel_rfl) (by kernel_rfl) (fun _ _ _ h => h) (Or.inl ⟨by rfl, by rintro w' -; go_simp⟩) zhS12 ?_
        simp only [Act.put, List.setIfInBounds_toArray, List.set_cons_zero, List.set_cons_succ]
        refine takeD (i := 8) (v := .slice (some ⟨B + 1 + 1, 0, none⟩) n n) (some 26) rfl rfl (by kernel_rfl) (by kernel_rfl) (by kernel_rfl) (fun _ _ _ h => h) (Or.inl ⟨by rfl, by rintro w' h; have hc := h.2.2.2.1; go_simp⟩) zhS12 ?_
        simp only [Act.put, List.setIfInBounds_toArray, List.set_cons_zero, List.set_cons_succ]
        refine takeD (i := 9) (v := .int .i64 (i : Int)) (some 27) rfl rfl (by kernel_rfl) (by kernel_rfl) (by kernel_rfl) (fun _ _ _ h => h) (Or.inl ⟨by rfl, by rintro w' -; go_simp⟩) zhS12 ?_
        simp only [Act.put, List.setIfInBounds_toArray, List.set_cons_zero, List.set_cons_succ]
        refine takeD (i := 10) (v := .pointer (some ⟨B + 1 + 1, i, none⟩)) (some 28) rfl rfl (by kernel_rfl) (by kernel_rfl) (by kernel_rfl) (fun _ _ _ h => h) (Or.inl ⟨by rfl, by rintro w' -; go_simp⟩) zhS12 ?_
        simp only [Act.put, List.setIfInBounds_toArray, List.set_cons_zero, List.set_cons_succ]
        refine takeD (i := 11) (v := .int .u8 (x1 : Int)) (some 29) rfl rfl (by kernel_rfl) (by kernel_rfl) (by kernel_rfl) (fun _ _ _ h => h) (Or.inl ⟨by rfl, by rintro w' h; have hc := h.2.2.2.2.2.1; go_simp⟩) zhS12 ?_
        simp only [Act.put, List.setIfInBounds_toArray, List.set_cons_zero, List.set_cons_succ]
        refine wpAnyH_ready (rs := [12]) (by kernel_rfl) (by simp) ?_
        refine AllReadyH.cons rfl (fun zK13 hzK13 => ?_) AllReadyH.nil
        have HzK13 := Lib.hid hzK13
        clear hzK13
        rw [if_pos (by rfl)]
        go_simp
        go_at_call 37
        refine (mulb_b s0 x1 m1 _ b0 x1b M1.out).mono ?_
        rintro e zx14 ⟨rfl, hb⟩
        have zhq15 : Below zwz1.heap.size zwz1 zx14 := hb
        have zQ0_16 := Lib.hid (At8.to zQ0_4.out zhq15)
        have zQ1_17 := Lib.hid (At8.to zQ1_5.out zhq15)
        have zQ2_18 := Lib.hid (At8.to zQ2_6.out zhq15)
        have zC1_19 := Lib.hid (cellTo zC1_7.out zhq15)
        have zC2_20 := Lib.hid (cellTo zC2_8.out zhq15)
        have zD1_21 := Lib.hid (cellTo zD1_9.out zhq15)
        have zD2_22 := Lib.hid (cellTo zD2_10.out zhq15)
        have zHB_23 : Hid (Below w1.heap.size w1 zx14) := Lib.hid (zHB_11.out.trans (zhq15.mono zHB_11.out.size))
        clear zhq15
        clear hb
        have zhS24 : (fun w' : World => At8 w' bs os s0 ∧ At8 w' bs (os + 8) s1 ∧ At8 w' bs (os + 2 * 8) s2 ∧ w'.cell? ⟨B, 1, none⟩ = some (.slice (some ⟨B + 1 + 1, 0, none⟩) n n) ∧ w'.cell? ⟨B, 2, none⟩ = some (.slice (some ⟨B + 1 + 2, 0, none⟩) n n) ∧ w'.cell? ⟨B + 1 + 1, i, none⟩ = some (.int .u8 (x1 : Int)) ∧ w'.cell? ⟨B + 1 + 2, i, none⟩ = some (.int .u8 (x2 : Int))) zx14 := ⟨zQ0_16.out, zQ1_17.out, zQ2_18.out, zC1_19.out, zC2_20.out, zD1_21.out, zD2_22.out⟩
        refine HzK13.out _ _ zhS24 fun _ => ?_
        try simp only [Act.put, List.setIfInBounds_toArray, List.set_cons_zero, List.set_cons_succ]
        refine takeD (i := 13) (v := .bool false) (some 31) rfl rfl (by kernel_rfl) (by kernel_rfl) (by kernel_rfl) (fun _ _ _ h => h) (Or.inl ⟨by rfl, by rintro w' -; go_simp⟩) zhS24 ?_
        simp only [Act.put, List.setIfInBounds_toArray, List.set_cons_zero, List.set_cons_succ]
        refine takeD (i := 14) (v := .bool false) (some 32) rfl rfl (by kernel_rfl) (by kernel_rfl) (by kernel_rfl) (fun _ _ _ h => h) (Or.inl ⟨by rfl, by rintro w' -; go_simp⟩) zhS24 ?_
        simp only [Act.put, List.setIfInBounds_toArray, List.set_cons_zero, List.set_cons_succ]
        refine takeD (i := 15) (v := undef) (some 33) rfl rfl (by kernel_rfl) (by kernel_rfl) (by kernel_rfl) (fun _ _ _ h => h) (Or.inr ⟨by rfl, rfl⟩) zhS24 ?_
        simp only [Act.put, List.setIfInBounds_toArray, List.set_cons_zero, List.set_cons_succ]
        refine takeD (i := 16) (v := undef) (some 34) rfl rfl (by kernel_rfl) (by kernel_rfl) (by kernel_rfl) (fun _ _ _ h => h) (Or.inr ⟨by rfl, rfl⟩) zhS24 ?_
        simp only [Act.put, List.setIfInBounds_toArray, List.set_cons_zero, List.set_cons_succ]
        refine takeD (i := 17) (v := undef) (some 35) rfl rfl (by kernel_rfl) (by kernel_rfl) (by kernel_rfl) (fun _ _ _ h => h) (Or.inr ⟨by rfl, rfl⟩) zhS24 ?_
        simp only [Act.put, List.setIfInBounds_toArray, List.set_cons_zero, List.set_cons_succ]
        refine takeD (i := 18) (v := undef) (some 36) rfl rfl (by kernel_rfl) (by kernel_rfl) (by kernel_rfl) (fun _ _ _ h => h) (Or.inr ⟨by rfl, rfl⟩) zhS24 ?_
        simp only [Act.put, List.setIfInBounds_toArray, List.set_cons_zero, List.set_cons_succ]
        refine takeD (i := 19) (v := undef) (some 37) rfl rfl (by kernel_rfl) (by kernel_rfl) (by kernel_rfl) (fun _ _ _ h => h) (Or.inr ⟨by rfl, rfl⟩) zhS24 ?_
        simp only [Act.put, List.setIfInBounds_toArray, List.set_cons_zero, List.set_cons_succ]
        refine takeD (i := 20) (v := undef) (some 38) rfl rfl (by kernel_rfl) (by kernel_rfl) (by kernel_rfl) (fun _ _ _ h => h) (Or.inr ⟨by rfl, rfl⟩) zhS24 ?_
        simp only [Act.put, List.setIfInBounds_toArray, List.set_cons_zero, List.set_cons_succ]
        refine takeD (i := 21) (v := undef) (some 39) rfl rfl (by kernel_rfl) (by kernel_rfl) (by kernel_rfl) (fun _ _ _ h => h) (Or.inr ⟨by rfl, rfl⟩) zhS24 ?_
        simp only [Act.put, List.setIfInBounds_toArray, List.set_cons_zero, List.set_cons_succ]
        refine takeD (i := 22) (v := undef) (some 40) rfl rfl (by kernel_rfl) (by kernel_rfl) (by kernel_rfl) (fun _ _ _ h => h) (Or.inr ⟨by rfl, rfl⟩) zhS24 ?_
        simp only [Act.put, List.setIfInBounds_toArray, List.set_cons_zero, List.set_cons_succ]
        refine takeD (i := 23) (v := undef) (some 41) rfl rfl (by kernel_rfl) (by kernel_rfl) (by kernel_rfl) (fun _ _ _ h => h) (Or.inr ⟨by rfl, rfl⟩) zhS24 ?_
        simp only [Act.put, List.setIfInBounds_toArray, List.set_cons_zero, List.set_cons_succ]
        refine takeD (i := 24) (v := undef) (some 42) rfl rfl (by kernel_rfl) (by kernel_rfl) (by kernel_rfl) (fun _ _ _ h => h) (Or.inr ⟨by rfl, rfl⟩) zhS24 ?_
        simp only [Act.put, List.setIfInBounds_toArray, List.set_cons_zero, List.set_cons_succ]
        refine takeD (i := 25) (v := undef) (some 43) rfl rfl (by kernel_rfl) (by kernel_rfl) (by kernel_rfl) (fun _ _ _ h => h) (Or.inr ⟨by rfl, rfl⟩) zhS24 ?_
        simp only [Act.put, List.setIfInBounds_toArray, List.set_cons_zero, List.set_cons_succ]
        refine takeD (i := 26) (v := undef) (some 44) rfl rfl (by kernel_rfl) (by kernel_rfl) (by kernel_rfl) (fun _ _ _ h => h) (Or.inr ⟨by rfl, rfl⟩) zhS24 ?_
        simp only [Act.put, List.setIfInBounds_toArray, List.set_cons_zero, List.set_cons_succ]
        refine takeD (i := 27) (v := undef) (some 45) rfl rfl (by kernel_rfl) (by kernel_rfl) (by kernel_rfl) (fun _ _ _ h => h) (Or.inr ⟨by rfl, rfl⟩) zhS24 ?_
        simp only [Act.put, List.setIfInBounds_toArray, List.set_cons_zero, List.set_cons_succ]
        refine takeD (i := 28) (v := undef) (some 46) rfl rfl (by kernel_rfl) (by kernel_rfl) (by kernel_rfl) (fun _ _ _ h => h) (Or.inr ⟨by rfl, rfl⟩) zhS24 ?_
        simp only [Act.put, List.setIfInBounds_toArray, List.set_cons_zero, List.set_cons_succ]
        refine takeD (i := 29) (v := .bool false) (some 47) rfl rfl (by kernel_rfl) (by kernel_rfl) (by kernel_rfl) (fun _ _ _ h => h) (Or.inl ⟨by rfl, by rintro w' -; go_simp⟩) zhS24 ?_
        simp only [Act.put, List.setIfInBounds_toArray, List.set_cons_zero, List.set_cons_succ]
        refine wpAnyH_done (by kernel_rfl) ?_ _
        go_wp2
        go_roundw
        case rel =>
          refine ⟨i + 1, by omega, by go_num, Lib.hid ⟨zHB_23.out, fun m hm hf => ?_⟩⟩
          rcases Nat.lt_or_ge m i with h | h
          · exact HN.out m h hf
          · obtain rfl : m = i := by omega
            exact T1.out (FI.out.1 hf).1
        case measure => simp [intOf]; omega
    · obtain rfl : n = i := by omega
      have hnf := H.out.2
      have K := Lib.hid (And.intro hnf (HB_5.out.trans (H.out.1.mono HB_5.out.size)))
      clear hnf H
      go_wp2
      go_ret2
      exact ⟨0, 12, rfl, .inr ⟨rfl, rfl, K.out.1⟩, K.out.2⟩
end Go.Proofs.Ytheijobnmdbodaa
