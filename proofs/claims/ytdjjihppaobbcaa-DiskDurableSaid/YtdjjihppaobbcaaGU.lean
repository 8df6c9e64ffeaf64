/- Joined: Mdf Mdg Mdh Mdi Mdj Mdl. -/
import Derived.Test.YtdjjihppaobbcaaGT
import Derived.BigRegion
import Derived.Deep.RegionWith
import Derived.Laws.MakeOwn
import Derived.Deep.OwnRows
import Derived.Lib.SliceRun
import Derived.Deep.AppendLies
import Derived.Test.YtdjjihppaobbcaaRu
import Derived.Deep.MidRow
import Derived.Laws.Rows
import Derived.Test.YtdjjihppaobbcaaGK
import Derived.Lib.SlBytesConst
namespace Go.Proofs.Ytdjjihppaobbcaa
open Go Go.RowKit Med
set_option linter.unusedVariables false
set_option linter.unusedSimpArgs false
/-- What New returns for a valid geometry. -/
def newPost (tm ts : TypeId) (R B T S O : Nat) (w : World) (e : Ending) (w' : World) : Prop := ∃ M X, e = .returned (.tuple #[.pointer (some ⟨M, 0, none⟩), .int .i64 0]) ∧ Md tm ts w' M X (R + B * (T * S)) R B T S O (List.replicate (R + B * (T * S)) Med.blank) ∧ (w.heap.size ≤ M ∧ w.heap.size ≤ X) ∧ Below w.heap.size w w'
theorem md_box {tm ts : TypeId} {w : World} {X c n M R B T S O : Nat} {l : List Sec} (hM : w.heap.size = M) (h : Sx w X ts c l) (hv : Geo.GV (R : Int) B T S O) (hl : l.length = R + B * (T * S)) (hn : l.length = n) (hs : ∀ s ∈ l, s.2.size ≤ 64) :
    Md tm ts (w.alloc (.cells #[.int .i64 (R : Int), .int .i64 (B : Int), .int .i64 (T : Int), .int .i64 (S : Int), .int .i64 (O : Int), .slice (some ⟨X, 0, none⟩) n c] tm)) M X c R B T S O l := by
  subst hn
  exact ⟨hv, hl, gr_new w _ tm hM, h.block ((Below.refl w.heap.size w).alloc (Nat.le_refl _) (.cells #[.int .i64 (R : Int), .int .i64 (B : Int), .int .i64 (T : Int), .int .i64 (S : Int), .int .i64 (O : Int), .slice (some ⟨X, 0, none⟩) l.length c] tm) |>.block X h.lt), by have := h.lt; omega, hs⟩
def zsec : Value := .agg #[.int .i64 0, .string ⟨#[]⟩]
theorem made_sec (N : Nat) (w : World) (ts : TypeId) (hN : N ≤ 100000) : Sx (w.alloc (.cells (madeCells zsec.cells (N * 2)) ts)) w.heap.size ts N (List.replicate N Med.blank) := by
  refine ⟨_, gr_new w _ ts rfl, by simp [madeCells], by simp, by unfold maxLen; omega, fun k hk => ?_⟩
  have hk' : k < N := by simpa using hk
  rw [List.getElem_replicate]
  have z : zsec.cells = #[.int .i64 0, .string ⟨#[]⟩] := rfl
  refine ⟨?_, ?_⟩
  · rw [z]
    simp only [madeCells, Array.getElem?_map, Array.getElem?_range, if_pos (show k * 2 < N * 2 by omega), Option.map_some]
    rw [show (#[Value.int .i64 0, .string ⟨#[]⟩] : Array Value).size = 2 from rfl, Nat.mul_mod_left]; rfl
  · rw [z]
    simp only [madeCells, Array.getElem?_map, Array.getElem?_range, if_pos (show k * 2 + 1 < N * 2 by omega), Option.map_some]
    rw [show (#[Value.int .i64 0, .string ⟨#[]⟩] : Array Value).size = 2 from rfl, show (k * 2 + 1) % 2 = 1 by omega]; rfl
theorem pinfo_sec : (Try.prog.info? 135).map (fun i => (i.zero, i.size, i.bytes)) = some (some zsec, 2, 24) := by kernel_rfl
theorem pmake_sec (N : Nat) (hN : N ≤ 100000) (w : World) : (Instr.makeSlice 110 (.int .i64 (N : Int)) (.int .i64 (N : Int))).run Try.prog w = .ok (.slice (some ⟨w.heap.size, 0, none⟩) N N) (w.alloc (.cells (madeCells zsec.cells (N * 2)) 135)) := by
  obtain ⟨i, hi, hz, hs, hb⟩ := info_pt pinfo_sec
  have hr := run_make (P := Try.prog) w 110 135 i _ Try.underlying110 hi hz .i64 .i64 N N (by omega) (Int.le_refl _) (by rw [hb]; omega) (by omega)
  rw [Int.toNat_natCast, hs] at hr
  exact hr
set_option maxHeartbeats 4000000 in
set_option maxRecDepth 100000 in
theorem pnew_bad (r b t s o : Int) (w : World) (h : ¬ Geo.GV r b t s o) : Calls Try.prog 39 #[.agg #[.int .i64 r, .int .i64 b, .int .i64 t, .int .i64 s, .int .i64 o]] w (gPost (.tuple #[.pointer none, .int .i64 1]) w) := by
  obtain ⟨B0, hB0⟩ : ∃ B, w.heap.size = B := ⟨_, rfl⟩
  obtain ⟨W0, hW0⟩ : ∃ W, w.alloc (.cells #[.int .i64 r, .int .i64 b, .int .i64 t, .int .i64 s, .int .i64 o] 23) = W := ⟨_, rfl⟩
  have BW : Hid (Below w.heap.size w W0) := Lib.hid (by subst hW0; exact (Below.refl _ _).alloc (Nat.le_refl _) _)
  have R0 : Hid (Row W0 B0 23 #[.int .i64 r, .int .i64 b, .int .i64 t, .int .i64 s, .int .i64 o]) := Lib.hid (by subst hW0; exact gr_new w _ _ hB0)
  have c0 := R0.out.cell 0
  have c1 := R0.out.cell 1
  have c2 := R0.out.cell 2
  have c3 := R0.out.cell 3
  have c4 := R0.out.cell 4
  simp only [List.getElem?_toArray, List.getElem?_cons_zero, List.getElem?_cons_succ] at c0 c1 c2 c3 c4
  have HB0 := Lib.hid hB0
  have HW0 := Lib.hid hW0
  clear hB0 hW0
  go_enter Try.func39, Try.ntmps39
  go_wp2_with (first | rw [HB0.out] | rw [HW0.out])
  refine (pvalid_any r b t s o W0).mono ?_
  rintro e w1 ⟨rfl, hb⟩
  have B1 := Lib.hid (BW.out.trans (hb.mono BW.out.size))
  clear hb c0 c1 c2 c3 c4
  rw [decide_eq_false h]
  clear h
  go_wp2_with fail
  refine bodyPost_ret (results_tmp2 rfl _ _ _) rfl ?_
  exact ⟨rfl, B1.out⟩
set_option maxHeartbeats 4000000 in
set_option maxRecDepth 100000 in
theorem pnew_ok (R B T S O : Nat) (w : World) (h : Geo.GV (R : Int) B T S O) : Calls Try.prog 39 #[.agg #[.int .i64 (R : Int), .int .i64 (B : Int), .int .i64 (T : Int), .int .i64 (S : Int), .int .i64 (O : Int)]] w (newPost 112 135 R B T S O w) := by
  obtain ⟨B0, hB0⟩ : ∃ B, w.heap.size = B := ⟨_, rfl⟩
  obtain ⟨W0, hW0⟩ : ∃ W, w.alloc (.cells #[.int .i64 (R : Int), .int .i64 (B : Int), .int .i64 (T : Int), .int .i64 (S : Int), .int .i64 (O : Int)] 23) = W := ⟨_, rfl⟩
  have BW : Hid (Below w.heap.size w W0) := Lib.hid (by subst hW0; exact (Below.refl _ _).alloc (Nat.le_refl _) _)
  have R0 : Hid (Row W0 B0 23 #[.int .i64 (R : Int), .int .i64 (B : Int), .int .i64 (T : Int), .int .i64 (S : Int), .int .i64 (O : Int)]) := Lib.hid (by subst hW0; exact gr_new w _ _ hB0)
  have c0 := R0.out.cell 0
  have c1 := R0.out.cell 1
  have c2 := R0.out.cell 2
  have c3 := R0.out.cell 3
  have c4 := R0.out.cell 4
  simp only [List.getElem?_toArray, List.getElem?_cons_zero, List.getElem?_cons_succ] at c0 c1 c2 c3 c4
  have HB0 := Lib.hid hB0
  have HW0 := Lib.hid hW0
  clear hB0 hW0
  have HV := Lib.hid h
  have SZ := Lib.hid fun w => psize_any (R : Int) B T S O w
  rw [Geo.size_nat h] at SZ
  have hg := Geo.gv_nat h
  have hm := Geo.bts_le hg.2.2.1 hg.2.2.2.2.1 hg.2.2.2.2.2.2.1
  obtain ⟨N, hN⟩ : ∃ N, R + B * (T * S) = N := ⟨_, rfl⟩
  have NE := Lib.hid hN
  unfold newPost
  rw [hN] at SZ ⊢
  have nN : N ≤ 100000 := by omega
  have hmk := pmake_sec N nN
  have MK := Lib.hid fun w => made_sec N w 135 nN
  generalize madeCells zsec.cells (N * 2) = MC at hmk MK
  clear hg hm hN
  go_enter Try.func39, Try.ntmps39
  go_wp2_with (first | rw [HB0.out] | rw [HW0.out])
  refine (pvalid_any (R : Int) B T S O W0).mono ?_
  rintro e w1 ⟨rfl, hb⟩
  have B1 := Lib.hid (BW.out.trans (hb.mono BW.out.size))
  replace c0 := ce_fw c0 hb
  replace c1 := ce_fw c1 hb
  replace c2 := ce_fw c2 hb
  replace c3 := ce_fw c3 hb
  replace c4 := ce_fw c4 hb
  have R1 := Lib.hid (rw_fw R0.out hb)
  clear hb
  rw [decide_eq_true h]
  clear h
  go_wp2_with fail
  have d0 : w1.drew.cell? ⟨B0, 0, none⟩ = _ := c0
  have d1 : w1.drew.cell? ⟨B0, 1, none⟩ = _ := c1
  have d2 : w1.drew.cell? ⟨B0, 2, none⟩ = _ := c2
  have d3 : w1.drew.cell? ⟨B0, 3, none⟩ = _ := c3
  have d4 : w1.drew.cell? ⟨B0, 4, none⟩ = _ := c4
  go_region_with (go_at_call 71; refine (SZ.out _).mono ?_; rintro e w2 ⟨rfl, hb⟩; have B2 := Lib.hid (B1.out.drew.trans (hb.mono B1.out.size)); have R2 := Lib.hid (rw_fw (w := w1.drew) R1.out hb); have e0 := ce_fw d0 hb; have e1 := ce_fw d1 hb; have e2 := ce_fw d2 hb; have e3 := ce_fw d3 hb; have e4 := ce_fw d4 hb; have g0 := ce_fw e0 ((Below.refl w2.heap.size w2).alloc (Nat.le_refl _) (.cells MC 135)); have g1 := ce_fw e1 ((Below.refl w2.heap.size w2).alloc (Nat.le_refl _) (.cells MC 135)); have g2 := ce_fw e2 ((Below.refl w2.heap.size w2).alloc (Nat.le_refl _) (.cells MC 135)); have g3 := ce_fw e3 ((Below.refl w2.heap.size w2).alloc (Nat.le_refl _) (.cells MC 135)); have g4 := ce_fw e4 ((Below.refl w2.heap.size w2).alloc (Nat.le_refl _) (.cells MC 135)); clear hb)
  all_goals
    go_wp2_with fail
    refine bodyPost_ret (results_tmp2 rfl _ _ _) rfl ?_
    exact ⟨_, _, rfl, md_box (by simp) (MK.out w2) HV.out (by rw [List.length_replicate]; exact NE.out.symm) (List.length_replicate ..) (fun s hs => by rw [List.eq_of_mem_replicate hs]; exact Nat.zero_le _), ⟨Nat.le_trans B2.out.size (Nat.le_succ _), B2.out.size⟩, (B2.out.alloc B2.out.size _).alloc (by have := B2.out.size; simp; omega) _⟩
theorem rinfo_sec : (Try.prog.info? 126).map (fun i => (i.zero, i.size, i.bytes)) = some (some zsec, 2, 24) := by kernel_rfl
theorem rmake_sec (N : Nat) (hN : N ≤ 100000) (w : World) : (Instr.makeSlice 127 (.int .i64 (N : Int)) (.int .i64 (N : Int))).run Try.prog w = .ok (.slice (some ⟨w.heap.size, 0, none⟩) N N) (w.alloc (.cells (madeCells zsec.cells (N * 2)) 126)) := by
  obtain ⟨i, hi, hz, hs, hb⟩ := info_pt rinfo_sec
  have hr := run_make (P := Try.prog) w 127 126 i _ Try.underlying127 hi hz .i64 .i64 N N (by omega) (Int.le_refl _) (by rw [hb]; omega) (by omega)
  rw [Int.toNat_natCast, hs] at hr
  exact hr
set_option maxHeartbeats 4000000 in
set_option maxRecDepth 100000 in
theorem rnew_bad (r b t s o : Int) (w : World) (h : ¬ Geo.GV r b t s o) : Calls Try.prog 75 #[.agg #[.int .i64 r, .int .i64 b, .int .i64 t, .int .i64 s, .int .i64 o]] w (gPost (.tuple #[.pointer none, .int .i64 1]) w) := by
  obtain ⟨B0, hB0⟩ : ∃ B, w.heap.size = B := ⟨_, rfl⟩
  obtain ⟨W0, hW0⟩ : ∃ W, w.alloc (.cells #[.int .i64 r, .int .i64 b, .int .i64 t, .int .i64 s, .int .i64 o] 23) = W := ⟨_, rfl⟩
  have BW : Hid (Below w.heap.size w W0) := Lib.hid (by subst hW0; exact (Below.refl _ _).alloc (Nat.le_refl _) _)
  have R0 : Hid (Row W0 B0 23 #[.int .i64 r, .int .i64 b, .int .i64 t, .int .i64 s, .int .i64 o]) := Lib.hid (by subst hW0; exact gr_new w _ _ hB0)
  have c0 := R0.out.cell 0
  have c1 := R0.out.cell 1
  have c2 := R0.out.cell 2
  have c3 := R0.out.cell 3
  have c4 := R0.out.cell 4
  simp only [List.getElem?_toArray, List.getElem?_cons_zero, List.getElem?_cons_succ] at c0 c1 c2 c3 c4
  have HB0 := Lib.hid hB0
  have HW0 := Lib.hid hW0
  clear hB0 hW0
  go_enter Try.func75, Try.ntmps75
  go_wp2_with (first | rw [HB0.out] | rw [HW0.out])
  refine (rvalid_any r b t s o W0).mono ?_
  rintro e w1 ⟨rfl, hb⟩
  have B1 := Lib.hid (BW.out.trans (hb.mono BW.out.size))
  clear hb c0 c1 c2 c3 c4
  rw [decide_eq_false h]
  clear h
  go_wp2_with fail
  refine bodyPost_ret (results_tmp2 rfl _ _ _) rfl ?_
  exact ⟨rfl, B1.out⟩
set_option maxHeartbeats 4000000 in
set_option maxRecDepth 100000 in
theorem rnew_ok (R B T S O : Nat) (w : World) (h : Geo.GV (R : Int) B T S O) : Calls Try.prog 75 #[.agg #[.int .i64 (R : Int), .int .i64 (B : Int), .int .i64 (T : Int), .int .i64 (S : Int), .int .i64 (O : Int)]] w (newPost 129 126 R B T S O w) := by
  obtain ⟨B0, hB0⟩ : ∃ B, w.heap.size = B := ⟨_, rfl⟩
  obtain ⟨W0, hW0⟩ : ∃ W, w.alloc (.cells #[.int .i64 (R : Int), .int .i64 (B : Int), .int .i64 (T : Int), .int .i64 (S : Int), .int .i64 (O : Int)] 23) = W := ⟨_, rfl⟩
  have BW : Hid (Below w.heap.size w W0) := Lib.hid (by subst hW0; exact (Below.refl _ _).alloc (Nat.le_refl _) _)
  have R0 : Hid (Row W0 B0 23 #[.int .i64 (R : Int), .int .i64 (B : Int), .int .i64 (T : Int), .int .i64 (S : Int), .int .i64 (O : Int)]) := Lib.hid (by subst hW0; exact gr_new w _ _ hB0)
  have c0 := R0.out.cell 0
  have c1 := R0.out.cell 1
  have c2 := R0.out.cell 2
  have c3 := R0.out.cell 3
  have c4 := R0.out.cell 4
  simp only [List.getElem?_toArray, List.getElem?_cons_zero, List.getElem?_cons_succ] at c0 c1 c2 c3 c4
  have HB0 := Lib.hid hB0
  have HW0 := Lib.hid hW0
  clear hB0 hW0
  have HV := Lib.hid h
  have SZ := Lib.hid fun w => rsize_any (R : Int) B T S O w
  rw [Geo.size_nat h] at SZ
  have hg := Geo.gv_nat h
  have hm := Geo.bts_le hg.2.2.1 hg.2.2.2.2.1 hg.2.2.2.2.2.2.1
  obtain ⟨N, hN⟩ : ∃ N, R + B * (T * S) = N := ⟨_, rfl⟩
  have NE := Lib.hid hN
  unfold newPost
  rw [hN] at SZ ⊢
  have nN : N ≤ 100000 := by omega
  have hmk := rmake_sec N nN
  have MK := Lib.hid fun w => made_sec N w 126 nN
  generalize madeCells zsec.cells (N * 2) = MC at hmk MK
  clear hg hm hN
  go_enter Try.func75, Try.ntmps75
  go_wp2_with (first | rw [HB0.out] | rw [HW0.out])
  refine (rvalid_any (R : Int) B T S O W0).mono ?_
  rintro e w1 ⟨rfl, hb⟩
  have B1 := Lib.hid (BW.out.trans (hb.mono BW.out.size))
  replace c0 := ce_fw c0 hb
  replace c1 := ce_fw c1 hb
  replace c2 := ce_fw c2 hb
  replace c3 := ce_fw c3 hb
  replace c4 := ce_fw c4 hb
  have R1 := Lib.hid (rw_fw R0.out hb)
  clear hb
  rw [decide_eq_true h]
  clear h
  go_wp2_with fail
  have d0 : w1.drew.cell? ⟨B0, 0, none⟩ = _ := c0
  have d1 : w1.drew.cell? ⟨B0, 1, none⟩ = _ := c1
  have d2 : w1.drew.cell? ⟨B0, 2, none⟩ = _ := c2
  have d3 : w1.drew.cell? ⟨B0, 3, none⟩ = _ := c3
  have d4 : w1.drew.cell? ⟨B0, 4, none⟩ = _ := c4
  go_region_with (go_at_call 10; refine (SZ.out _).mono ?_; rintro e w2 ⟨rfl, hb⟩; have B2 := Lib.hid (B1.out.drew.trans (hb.mono B1.out.size)); have R2 := Lib.hid (rw_fw (w := w1.drew) R1.out hb); have e0 := ce_fw d0 hb; have e1 := ce_fw d1 hb; have e2 := ce_fw d2 hb; have e3 := ce_fw d3 hb; have e4 := ce_fw d4 hb; have g0 := ce_fw e0 ((Below.refl w2.heap.size w2).alloc (Nat.le_refl _) (.cells MC 126)); have g1 := ce_fw e1 ((Below.refl w2.heap.size w2).alloc (Nat.le_refl _) (.cells MC 126)); have g2 := ce_fw e2 ((Below.refl w2.heap.size w2).alloc (Nat.le_refl _) (.cells MC 126)); have g3 := ce_fw e3 ((Below.refl w2.heap.size w2).alloc (Nat.le_refl _) (.cells MC 126)); have g4 := ce_fw e4 ((Below.refl w2.heap.size w2).alloc (Nat.le_refl _) (.cells MC 126)); clear hb)
  all_goals
    go_wp2_with fail
    refine bodyPost_ret (results_tmp2 rfl _ _ _) rfl ?_
    exact ⟨_, _, rfl, md_box (by simp) (MK.out w2) HV.out (by rw [List.length_replicate]; exact NE.out.symm) (List.length_replicate ..) (fun s hs => by rw [List.eq_of_mem_replicate hs]; exact Nat.zero_le _), ⟨Nat.le_trans B2.out.size (Nat.le_succ _), B2.out.size⟩, (B2.out.alloc B2.out.size _).alloc (by have := B2.out.size; simp; omega) _⟩
end Go.Proofs.Ytdjjihppaobbcaa
namespace Go.Proofs.Ytdjjihppaobbcaa
open Go Go.RowKit Med
set_option linter.unusedVariables false
set_option linter.unusedSimpArgs false
theorem Sx.fw {w w' : World} {X c : Nat} {ts : TypeId} {l : List Sec} (h : Sx w X ts c l) (hb : Below w.heap.size w w') : Sx w' X ts c l := h.block (hb.block X h.lt)
/-- The cells of some sectors. -/
def slc : List Sec → List Value
  | [] => []
  | s :: r => .int .i64 s.1 :: .string s.2 :: slc r
theorem slc_len : ∀ l : List Sec, (slc l).length = l.length * 2
  | [] => rfl
  | s :: r => by show (slc r).length + 1 + 1 = (r.length + 1) * 2; rw [slc_len r]; omega
theorem slc_at : ∀ (l : List Sec) (k : Nat) (h : k < l.length), (slc l)[k * 2]? = some (.int .i64 l[k].1) ∧ (slc l)[k * 2 + 1]? = some (.string l[k].2)
  | [], k, h => absurd h (Nat.not_lt_zero k)
  | s :: r, 0, _ => ⟨rfl, rfl⟩
  | s :: r, k + 1, h => by
    have := slc_at r k (by simpa using h)
    rw [show (k + 1) * 2 = k * 2 + 1 + 1 by omega]
    simp only [slc, List.getElem?_cons_succ, List.getElem_cons_succ]
    exact this
theorem slc_one : ∀ l : List Sec, ∀ u ∈ slc l, u.oneCell' = true
  | [], u, h => by cases h
  | s :: r, u, h => by
    rcases List.mem_cons.1 h with rfl | h
    · rfl
    · rcases List.mem_cons.1 h with rfl | h
      · rfl
      · exact slc_one r u h
theorem slc_cell {w : World} {X c : Nat} {ts : TypeId} {l : List Sec} (h : Sx w X ts c l) (j : Nat) (u : Value) (hj : (slc l)[j]? = some u) : w.cell? ((⟨X, 0, none⟩ : Addr).add j) = some u := by
  have hlt : j < l.length * 2 := by rw [← slc_len]; exact (List.getElem?_eq_some_iff.1 hj).1
  have hk : j / 2 < l.length := by omega
  obtain ⟨a0, a1⟩ := slc_at l (j / 2) hk
  rw [Go.WideShapes.add_plain, Nat.zero_add]
  rcases Nat.mod_two_eq_zero_or_one j with e | e
  · have ej : j = j / 2 * 2 := by omega
    rw [ej] at hj ⊢
    rw [a0] at hj
    rw [h.c0 hk, ← hj]
  · have ej : j = j / 2 * 2 + 1 := by omega
    rw [ej] at hj ⊢
    rw [a1] at hj
    rw [h.c1 hk, ← hj]
theorem run_build_sec {P : Program} {tl ts : TypeId} (ht : P.underlying tl = some (.slice ts)) (info : (P.info? ts).map (fun i => (i.zero, i.size, i.bytes)) = some (some zsec, 2, 24)) (w : World) : (Instr.buildSlice tl 0 #[]).run P w = .ok (.slice (some ⟨w.heap.size, 0, none⟩) 0 0) (w.alloc (.cells #[] ts)) := by
  obtain ⟨i, hi, hz, hs, hb⟩ := info_pt info
  simp [Instr.buildSlice, run_underlying ht, sizeOf, typeInfo, hi, hs, zeroValue, hz, newRow, Instr.fill, Value.cells, show Array.range 0 = #[] from rfl]
theorem wp_build_sec {P : Program} {tl ts : TypeId} (ht : P.underlying tl = some (.slice ts)) (info : (P.info? ts).map (fun i => (i.zero, i.size, i.bytes)) = some (some zsec, 2, 24)) {o : Oper} {a : Act} {w : World} {K : Act → World → Prop} {Q : Exit → Act → World → Prop} (ho : o.op = .buildSlice tl 0 #[])
    (hk : K (a.put o.dst (.slice (some ⟨w.heap.size, 0, none⟩) 0 0)) (w.alloc (.cells #[] ts))) : o.wp P a w K Q := by
  unfold Oper.wp
  simp only [execOp, ho, List.map_toArray, List.map_nil, Sem.run_bind, Sem.run_pure, Result.andThen_ok, run_build_sec ht info w]
  exact hk
/-- 'append([]Sector{}, x...)'. -/
theorem wp_copy_sec {P : Program} {tl ts : TypeId} (ht : P.underlying tl = some (.slice ts)) (info : (P.info? ts).map (fun i => (i.zero, i.size, i.bytes)) = some (some zsec, 2, 24)) {w : World} {o : Oper} {a : Act} {K : Act → World → Prop} {Q : Exit → Act → World → Prop} (s x : Operand)
    (ho : o.op = .call { callee := .builtin .append, args := #[s, x], argTypes := #[tl, tl] })
    (b0 X n c c2 : Nat) (l : List Sec) (hs : a.eval s = .slice (some ⟨b0, 0, none⟩) 0 0) (hrow : Row w b0 ts #[]) (hx : a.eval x = .slice (some ⟨X, 0, none⟩) n c2) (hl : l.length = n) (hk : 0 < n) (hk2 : n ≤ 100000) (hX : Sx w X ts c l)
    (h : ∀ g cap w', Sx w' g ts cap l → w.grownBy w' (some b0) → b0 ≤ g → K (a.put o.dst (.slice (some ⟨g, 0, none⟩) n cap)) w') : o.wp P a w K Q := by
  obtain ⟨i, hi, hz, hsz, hby⟩ := info_pt info
  have hown : w.ownsRow b0 ts 2 (.slice (some ⟨b0, 0, none⟩) 0 0) 0 [] := ⟨rfl, Or.inr ⟨b0, 0, #[], rfl, Nat.le_refl _, hrow, Nat.le_refl 0, Nat.zero_le _, rfl, rfl⟩⟩
  refine wp_append_lies w s x _ ho b0 _ i _ 2 24 ht hi hz hsz hby rfl (by decide) _ 0 [] hs hown ⟨X, 0, none⟩ n c2 (slc l) hx (by rw [slc_len, hl]) (slc_cell hX) (slc_one l) hk (by unfold maxLen; omega) (by omega) (by have := hrow.lt; omega) _ rfl fun g cap w' h1 h2 h3 h4 => ?_
  rw [Nat.zero_add] at h1 ⊢
  rw [List.nil_append] at h1
  obtain ⟨_, h1⟩ := h1
  rcases h1 with ⟨h1, _⟩ | ⟨g', cap', cur, hv, hb', hh, hle, hm, hs', ht⟩
  · cases h1
  · injection hv with hv1 hv2 hv3
    injection hv1 with hv1
    injection hv1 with hv1
    subst hv1 hv3
    refine h g cap w' ⟨cur, hh, hs', by omega, hm, fun k hk => ?_⟩ h2 hb'
    obtain ⟨a0, a1⟩ := slc_at l k hk
    refine ⟨?_, ?_⟩
    · rw [← a0, ← ht, List.getElem?_take_of_lt (by omega)]; simp
    · rw [← a1, ← ht, List.getElem?_take_of_lt (by omega)]; simp
/-- What a copy of a list returns. -/
def cpPost (ts : TypeId) (n : Nat) (l : List Sec) (w : World) (e : Ending) (w' : World) : Prop := ∃ g cap, e = .returned (.slice (some ⟨g, 0, none⟩) n cap) ∧ Sx w' g ts cap l ∧ w.heap.size ≤ g ∧ Below w.heap.size w w'
set_option maxHeartbeats 1000000 in
set_option maxRecDepth 100000 in
theorem sclone_any (X n c : Nat) (l : List Sec) (w : World) (hX : Sx w X 135 c l) (hl : l.length = n) (h0 : 0 < n) (h1 : n ≤ 100000) :
    Calls Try.prog 98 #[.slice (some ⟨X, 0, none⟩) n c] w (cpPost 135 n l w) := by
  have hnil := fun w => Lib.run_eql_slice_nil (P := Try.prog) w 110 135 (some ⟨X, 0, none⟩) n c 0 0 Try.underlying110
  have HL := Lib.hid hl
  have R0 := Lib.hid (gr_new w #[] 135 rfl)
  have HX := Lib.hid (hX.fw ((Below.refl _ w).alloc (Nat.le_refl _) (.cells #[] 135)))
  have AT := Lib.hid (Nat.le_of_eq (show w.heap.size = w.heap.size from rfl))
  clear hX hl
  go_enter Try.func98, Try.ntmps98
  go_wp2_with (first | (refine wpList_plain rfl fun _ hK' => wp_build_sec Try.underlying110 pinfo_sec rfl (hK' _ _ ?_)) | (at_builtin; refine wpList_plain rfl fun _ hK' => wp_copy_sec Try.underlying110 pinfo_sec _ _ rfl w.heap.size X n c c l rfl R0.out rfl HL.out h0 h1 HX.out ?_; intro g cap w1 ho hg hat; refine hK' _ _ ?_))
  have hb1 : Below w.heap.size w w1 := ((Below.refl _ w).alloc (Nat.le_refl _) _).grown hg (by simp) fun q hq => by injection hq with hq; exact Nat.le_of_eq hq
  have P := Lib.hid (And.intro ho (And.intro hat hb1))
  clear ho hg hat hb1
  go_wp2_with fail
  go_ret
  exact ⟨g, cap, rfl, P.out.1, P.out.2.1, P.out.2.2⟩
end Go.Proofs.Ytdjjihppaobbcaa
namespace Go.Proofs.Ytdjjihppaobbcaa
open Go Go.RowKit Med
set_option linter.unusedVariables false
set_option linter.unusedSimpArgs false

/-- What Clone returns. -/
def clPost (tm ts : TypeId) (R B T S O : Nat) (l : List Sec) (w : World) (e : Ending) (w' : World) : Prop := ∃ M X c, e = .returned (.pointer (some ⟨M, 0, none⟩)) ∧ Md tm ts w' M X c R B T S O l ∧ (w.heap.size ≤ M ∧ w.heap.size ≤ X) ∧ Below w.heap.size w w'
theorem grown_chg {w w' : World} {b : Nat} (h : w.grownBy w' (some b)) : Chg (fun k => k = b) w w' := ⟨h.os, h.tape, h.output, h.size, fun k hk hn => h.block k hk (by simpa using fun e => hn e)⟩
set_option maxHeartbeats 4000000 in
set_option maxRecDepth 100000 in
theorem pcl_any {w : World} {M X c R B T S O : Nat} {l : List Sec} (h : PMd w M X c R B T S O l) : Calls Try.prog 73 #[.pointer (some ⟨M, 0, none⟩)] w (clPost 112 135 R B T S O l w) := by
  have HM := Lib.hid h
  have HV := Lib.hid h.v
  have HS := Lib.hid h.sh
  have sm := h.small
  obtain ⟨n, hn⟩ : ∃ n, l.length = n := ⟨_, rfl⟩
  have LN := Lib.hid hn
  rw [hn] at sm
  have LL := Lib.hid h.len
  clear h hn
  go_enter Try.func73, Try.ntmps73
  go_wp2_with fail
  refine wp_region_held (P := Try.prog) (S := (fun w' : World => Below w.heap.size w w')) rfl ?_
  change wpAnyH _ _ _ _ _ _ _ _ w.drew
  have hz2 : Below w.heap.size w w.drew := (Below.refl w.heap.size w).drew
  generalize w.drew = wz1 at hz2 ⊢
  have M_3 := Lib.hid (Md.fw HM.out (hz2))
  have hl4 := hz2
  have HT_5 : Hid (Below w.heap.size w wz1) := Lib.hid (hl4)
  refine wpAnyH_up (S' := (fun w' : World => Below wz1.heap.size wz1 w')) (fun w' h => hz2.trans (h.mono hz2.size)) ?_
  have hS6 : (fun w' : World => Below wz1.heap.size wz1 w') wz1 := Below.refl _ _
  refine takeD (i := 0) (v := .pointer (some ⟨M, 0, none⟩)) (some 5) rfl rfl (by kernel_rfl) (by kernel_rfl) (by kernel_rfl) (fun _ _ _ h => h) (Or.inl ⟨by rfl, by rintro w' -; go_simp⟩) hS6 ?_
  simp only [Act.put, List.setIfInBounds_toArray, List.set_cons_zero, List.set_cons_succ]
  refine takeD (i := 1) (v := .pointer (some ⟨M, 0, none⟩)) (some 6) rfl rfl (by kernel_rfl) (by kernel_rfl) (by kernel_rfl) (fun _ _ _ h => h) (Or.inl ⟨by rfl, by rintro w' -; go_simp⟩) hS6 ?_
  simp only [Act.put, List.setIfInBounds_toArray, List.set_cons_zero, List.set_cons_succ]
  refine takeD (i := 2) (v := .pointer (some ⟨M, 0, none⟩)) (some 7) rfl rfl (by kernel_rfl) (by kernel_rfl) (by kernel_rfl) (fun _ _ _ h => h) (Or.inl ⟨by rfl, by rintro w' -; go_simp⟩) hS6 ?_
  simp only [Act.put, List.setIfInBounds_toArray, List.set_cons_zero, List.set_cons_succ]
  refine takeD (i := 3) (v := .agg #[.int .i64 (R : Int), .int .i64 (B : Int), .int .i64 (T : Int), .int .i64 (S : Int), .int .i64 (O : Int)]) (some 8) rfl rfl (by kernel_rfl) (by kernel_rfl) (by kernel_rfl) (fun _ _ _ h => h) (yieldsIf_load_mid (by rfl) _ _ rfl M 0 rfl [.int .i64 (R : Int), .int .i64 (B : Int), .int .i64 (T : Int), .int .i64 (S : Int), .int .i64 (O : Int)] _ (fun w' h => (Md.fw M_3.out h).rng) Try.underlying23 rfl (by kernel_rfl)) hS6 ?_
  simp only [Act.put, List.setIfInBounds_toArray, List.set_cons_zero, List.set_cons_succ]
  refine takeD (i := 4) (v := .pointer (some ⟨M, 0, none⟩)) (some 9) rfl rfl (by kernel_rfl) (by kernel_rfl) (by kernel_rfl) (fun _ _ _ h => h) (Or.inl ⟨by rfl, by rintro w' -; go_simp⟩) hS6 ?_
  simp only [Act.put, List.setIfInBounds_toArray, List.set_cons_zero, List.set_cons_succ]
  refine takeD (i := 5) (v := .pointer (some ⟨M, 0, none⟩)) (some 10) rfl rfl (by kernel_rfl) (by kernel_rfl) (by kernel_rfl) (fun _ _ _ h => h) (Or.inl ⟨by rfl, by rintro w' -; go_simp⟩) hS6 ?_
  simp only [Act.put, List.setIfInBounds_toArray, List.set_cons_zero, List.set_cons_succ]
  refine takeD (i := 6) (v := .pointer (some ⟨M, 5, none⟩)) (some 11) rfl rfl (by kernel_rfl) (by kernel_rfl) (by kernel_rfl) (fun _ _ _ h => h) (Or.inl ⟨by rfl, by rintro w' -; go_simp⟩) hS6 ?_
  simp only [Act.put, List.setIfInBounds_toArray, List.set_cons_zero, List.set_cons_succ]
  refine takeD (i := 7) (v := .slice (some ⟨X, 0, none⟩) n c) (some 12) rfl rfl (by kernel_rfl) (by kernel_rfl) (by kernel_rfl) (fun _ _ _ h => h) (Or.inl ⟨by rfl, by rintro w' h; have hc := (Md.fw M_3.out h).c5; rw [LN.out] at hc; go_simp⟩) hS6 ?_
  simp only [Act.put, List.setIfInBounds_toArray, List.set_cons_zero, List.set_cons_succ]
  refine wpAnyH_ready (rs := [8]) (by kernel_rfl) (by simp) ?_
  refine AllReadyH.cons rfl (fun K7 hK7 => ?_) AllReadyH.nil
  have HK7 := Lib.hid hK7
  clear hK7
  rw [if_pos (by rfl)]
  go_simp
  refine (sclone_any X n c l wz1 M_3.out.sx LN.out (by omega) (by omega)).mono ?_
  rintro e x8 ⟨gX, gc, rfl, hx1, hx2, hb⟩
  have GX := Lib.hid (Nat.le_trans HT_5.out.size hx2)
  have M_9 := Lib.hid (Md.fw M_3.out (hb))
  have hl10 := hb
  have HT_11 : Hid (Below w.heap.size w x8) := Lib.hid (HT_5.out.trans ((hl10).mono HT_5.out.size))
  have HX := Lib.hid hx1
  clear hb hx1 hx2
  have hb13 : Below wz1.heap.size wz1 x8 := hl10
  have hS12 : (fun w' : World => Below wz1.heap.size wz1 w') x8 := hb13
  refine HK7.out _ _ hS12 fun _ => ?_
  try simp only [Act.put, List.setIfInBounds_toArray, List.set_cons_zero, List.set_cons_succ]
  refine wpAnyH_up (S' := (fun w' : World => Below x8.heap.size x8 w')) (fun w' h => hb13.trans (h.mono hb13.size)) ?_
  have hS14 : (fun w' : World => Below x8.heap.size x8 w') x8 := Below.refl _ _
  refine takeD (i := 9) (v := .agg #[.int .i64 (R : Int), .int .i64 (B : Int), .int .i64 (T : Int), .int .i64 (S : Int), .int .i64 (O : Int), .slice (some ⟨gX, 0, none⟩) n gc]) (some 14) rfl rfl (by kernel_rfl) (by kernel_rfl) (by kernel_rfl) (fun _ _ _ h => h) (Or.inl ⟨by rfl, by rintro w' -; go_simp⟩) hS14 ?_
  simp only [Act.put, List.setIfInBounds_toArray, List.set_cons_zero, List.set_cons_succ]
  refine wpAnyH_ready (rs := [10]) (by kernel_rfl) (by simp) ?_
  refine AllReadyH.cons rfl (fun K15 hK15 => ?_) AllReadyH.nil
  have HK15 := Lib.hid hK15
  clear hK15
  rw [if_pos (by rfl)]
  go_simp
  obtain ⟨N1, hN1⟩ : ∃ n, x8.heap.size = n := ⟨_, rfl⟩
  have SB := md_box (tm := 112) hN1 HX.out HV.out LL.out LN.out HS.out
  obtain ⟨x16, hxb⟩ : ∃ q, x8.alloc (.cells #[.int .i64 (R : Int), .int .i64 (B : Int), .int .i64 (T : Int), .int .i64 (S : Int), .int .i64 (O : Int), .slice (some ⟨gX, 0, none⟩) n gc] 112) = q := ⟨_, rfl⟩
  have hbx : Below x8.heap.size x8 x16 := by rw [← hxb]; exact (Below.refl _ _).alloc (Nat.le_refl _) _
  rw [hxb] at SB
  rw [hxb]
  rw [hN1]
  have NG := Lib.hid (show w.heap.size ≤ N1 from by rw [← hN1]; exact HT_11.out.size)
  have M_17 := Lib.hid (Md.fw M_9.out (hbx))
  have S_18 := Lib.hid (Sx.fw HX.out (hbx))
  have hl19 := hbx
  have HT_20 : Hid (Below w.heap.size w x16) := Lib.hid (HT_11.out.trans ((hl19).mono HT_11.out.size))
  have SBH := Lib.hid SB
  clear SB
  clear hbx hxb hN1
  have hb22 : Below x8.heap.size x8 x16 := hl19
  have hS21 : (fun w' : World => Below x8.heap.size x8 w') x16 := hb22
  refine HK15.out _ _ hS21 fun _ => ?_
  try simp only [Act.put, List.setIfInBounds_toArray, List.set_cons_zero, List.set_cons_succ]
  refine wpAnyH_up (S' := (fun w' : World => Below x16.heap.size x16 w')) (fun w' h => hb22.trans (h.mono hb22.size)) ?_
  have hS23 : (fun w' : World => Below x16.heap.size x16 w') x16 := Below.refl _ _
  refine takeD (i := 11) (v := .pointer (some ⟨N1, 0, none⟩)) (some 2) rfl rfl (by kernel_rfl) (by kernel_rfl) (by kernel_rfl) (fun _ _ _ h => h) (Or.inl ⟨by rfl, by rintro w' -; go_simp⟩) hS23 ?_
  simp only [Act.put, List.setIfInBounds_toArray, List.set_cons_zero, List.set_cons_succ]
  refine wpAnyH_done (by kernel_rfl) ?_ _
  go_wp2_with fail
  go_ret
  exact ⟨N1, gX, gc, rfl, SBH.out, ⟨NG.out, GX.out⟩, HT_20.out⟩
set_option maxHeartbeats 4000000 in
set_option maxRecDepth 100000 in
theorem rcl_any {w : World} {M X c R B T S O : Nat} {l : List Sec} (h : RMd w M X c R B T S O l) : Calls Try.prog 88 #[.pointer (some ⟨M, 0, none⟩)] w (clPost 129 126 R B T S O l w) := by
  have HM := Lib.hid h
  have HV := Lib.hid h.v
  have HS := Lib.hid h.sh
  have sm := h.small
  obtain ⟨n, hn⟩ : ∃ n, l.length = n := ⟨_, rfl⟩
  have LN := Lib.hid hn
  rw [hn] at sm
  have LL := Lib.hid h.len
  clear h hn
  go_enter Try.func88, Try.ntmps88
  go_wp2_with fail
  refine wp_region_held (P := Try.prog) (S := (fun w' : World => Below w.heap.size w w')) rfl ?_
  change wpAnyH _ _ _ _ _ _ _ _ w.drew
  have hz2 : Below w.heap.size w w.drew := (Below.refl w.heap.size w).drew
  generalize w.drew = wz1 at hz2 ⊢
  have M_3 := Lib.hid (Md.fw HM.out (hz2))
  have hl4 := hz2
  have HT_5 : Hid (Below w.heap.size w wz1) := Lib.hid (hl4)
  refine wpAnyH_up (S' := (fun w' : World => Below wz1.heap.size wz1 w')) (fun w' h => hz2.trans (h.mono hz2.size)) ?_
  have hS6 : (fun w' : World => Below wz1.heap.size wz1 w') wz1 := Below.refl _ _
  refine takeD (i := 0) (v := .pointer (some ⟨M, 0, none⟩)) (some 3) rfl rfl (by kernel_rfl) (by kernel_rfl) (by kernel_rfl) (fun _ _ _ h => h) (Or.inl ⟨by rfl, by rintro w' -; go_simp⟩) hS6 ?_
  simp only [Act.put, List.setIfInBounds_toArray, List.set_cons_zero, List.set_cons_succ]
  refine takeD (i := 1) (v := .pointer (some ⟨M, 0, none⟩)) (some 4) rfl rfl (by kernel_rfl) (by kernel_rfl) (by kernel_rfl) (fun _ _ _ h => h) (Or.inl ⟨by rfl, by rintro w' -; go_simp⟩) hS6 ?_
  simp only [Act.put, List.setIfInBounds_toArray, List.set_cons_zero, List.set_cons_succ]
  refine takeD (i := 2) (v := .pointer (some ⟨M, 0, none⟩)) (some 5) rfl rfl (by kernel_rfl) (by kernel_rfl) (by kernel_rfl) (fun _ _ _ h => h) (Or.inl ⟨by rfl, by rintro w' -; go_simp⟩) hS6 ?_
  simp only [Act.put, List.setIfInBounds_toArray, List.set_cons_zero, List.set_cons_succ]
  refine takeD (i := 3) (v := .agg #[.int .i64 (R : Int), .int .i64 (B : Int), .int .i64 (T : Int), .int .i64 (S : Int), .int .i64 (O : Int)]) (some 6) rfl rfl (by kernel_rfl) (by kernel_rfl) (by kernel_rfl) (fun _ _ _ h => h) (yieldsIf_load_mid (by rfl) _ _ rfl M 0 rfl [.int .i64 (R : Int), .int .i64 (B : Int), .int .i64 (T : Int), .int .i64 (S : Int), .int .i64 (O : Int)] _ (fun w' h => (Md.fw M_3.out h).rng) Try.underlying23 rfl (by kernel_rfl)) hS6 ?_
  simp only [Act.put, List.setIfInBounds_toArray, List.set_cons_zero, List.set_cons_succ]
  refine takeD (i := 5) (v := .pointer (some ⟨M, 0, none⟩)) (some 8) rfl rfl (by kernel_rfl) (by kernel_rfl) (by kernel_rfl) (fun _ _ _ h => h) (Or.inl ⟨by rfl, by rintro w' -; go_simp⟩) hS6 ?_
  simp only [Act.put, List.setIfInBounds_toArray, List.set_cons_zero, List.set_cons_succ]
  refine takeD (i := 6) (v := .pointer (some ⟨M, 0, none⟩)) (some 9) rfl rfl (by kernel_rfl) (by kernel_rfl) (by kernel_rfl) (fun _ _ _ h => h) (Or.inl ⟨by rfl, by rintro w' -; go_simp⟩) hS6 ?_
  simp only [Act.put, List.setIfInBounds_toArray, List.set_cons_zero, List.set_cons_succ]
  refine takeD (i := 7) (v := .pointer (some ⟨M, 5, none⟩)) (some 10) rfl rfl (by kernel_rfl) (by kernel_rfl) (by kernel_rfl) (fun _ _ _ h => h) (Or.inl ⟨by rfl, by rintro w' -; go_simp⟩) hS6 ?_
  simp only [Act.put, List.setIfInBounds_toArray, List.set_cons_zero, List.set_cons_succ]
  refine takeD (i := 8) (v := .slice (some ⟨X, 0, none⟩) n c) (some 11) rfl rfl (by kernel_rfl) (by kernel_rfl) (by kernel_rfl) (fun _ _ _ h => h) (Or.inl ⟨by rfl, by rintro w' h; have hc := (Md.fw M_3.out h).c5; rw [LN.out] at hc; go_simp⟩) hS6 ?_
  simp only [Act.put, List.setIfInBounds_toArray, List.set_cons_zero, List.set_cons_succ]
  refine wpAnyH_ready (rs := [4]) (by kernel_rfl) (by simp) ?_
  refine AllReadyH.cons rfl (fun K7 hK7 => ?_) AllReadyH.nil
  have HK7 := Lib.hid hK7
  clear hK7
  rw [if_pos (by rfl)]
  refine wp_build_sec Try.underlying127 rinfo_sec rfl ?_
  have hq9 : Below wz1.heap.size wz1 (wz1.alloc (.cells #[] 126)) := (Below.refl _ _).alloc (Nat.le_refl _) _
  have hh10 := gr_new wz1 #[] 126 rfl
  have BG := Lib.hid HT_5.out.size
  generalize wz1.alloc (.cells #[] 126) = x8 at hq9 hh10 ⊢
  obtain ⟨b0, hb0⟩ : ∃ b, wz1.heap.size = b := ⟨_, rfl⟩
  rw [hb0] at BG hh10 ⊢
  have MB := Lib.hid (And.intro (show M < b0 from by rw [← hb0]; exact M_3.out.row.lt) (show X < b0 from by rw [← hb0]; exact M_3.out.sx.lt))
  have QB := Lib.hid hb0
  have M_11 := Lib.hid (Md.fw M_3.out (hq9))
  have hl12 := hq9
  have HT_13 : Hid (Below w.heap.size w x8) := Lib.hid (HT_5.out.trans ((hl12).mono HT_5.out.size))
  have RB := Lib.hid hh10
  clear hq9 hh10 hb0
  have hb15 : Below wz1.heap.size wz1 x8 := hl12
  have hS14 : (fun w' : World => Below wz1.heap.size wz1 w') x8 := hb15
  refine HK7.out _ _ hS14 fun _ => ?_
  try simp only [Act.put, List.setIfInBounds_toArray, List.set_cons_zero, List.set_cons_succ]
  refine wpAnyH_up (S' := (fun w' : World => Chg (fun j => j = b0) x8 w')) (fun w' h => hb15.trans (h.below hb15.size (fun j hj => Nat.le_of_eq (by rw [hj]; exact QB.out)))) ?_
  have hS16 : (fun w' : World => Chg (fun j => j = b0) x8 w') x8 := Chg.refl _ _
  refine wpAnyH_ready (rs := [9]) (by kernel_rfl) (by simp) ?_
  refine AllReadyH.cons rfl (fun K17 hK17 => ?_) AllReadyH.nil
  have HK17 := Lib.hid hK17
  clear hK17
  rw [if_pos (by rfl)]
  refine wp_copy_sec Try.underlying127 rinfo_sec (.tmp 7) (.tmp 11) rfl b0 X n c c l rfl RB.out rfl LN.out (by omega) (by omega) M_11.out.sx ?_
  intro gX gc x18 hx1 hg hx2
  have GX := Lib.hid (Nat.le_trans BG.out hx2)
  have hc : Chg (fun j => j = b0) x8 x18 := grown_chg hg
  have HM2 := Lib.hid (M_11.out.chg hc (fun e => by have := MB.out; omega) (fun e => by have := MB.out; omega))
  have HT_19 : Hid (Below w.heap.size w x18) := Lib.hid (HT_13.out.trans (hc.below HT_13.out.size (fun j hj => by rw [hj]; exact BG.out)))
  have HX := Lib.hid hx1
  clear hg hx1 hx2
  have hb21 : Chg (fun j => j = b0) x8 x18 := hc
  have hS20 : (fun w' : World => Chg (fun j => j = b0) x8 w') x18 := hb21
  refine HK17.out _ _ hS20 fun _ => ?_
  try simp only [Act.put, List.setIfInBounds_toArray, List.set_cons_zero, List.set_cons_succ]
  refine wpAnyH_up (S' := (fun w' : World => Below x18.heap.size x18 w')) (fun w' h => hb21.trans (below_chg h (fun j => j = b0))) ?_
  have hS22 : (fun w' : World => Below x18.heap.size x18 w') x18 := Below.refl _ _
  refine takeD (i := 10) (v := .agg #[.int .i64 (R : Int), .int .i64 (B : Int), .int .i64 (T : Int), .int .i64 (S : Int), .int .i64 (O : Int), .slice (some ⟨gX, 0, none⟩) n gc]) (some 13) rfl rfl (by kernel_rfl) (by kernel_rfl) (by kernel_rfl) (fun _ _ _ h => h) (Or.inl ⟨by rfl, by rintro w' -; go_simp⟩) hS22 ?_
  simp only [Act.put, List.setIfInBounds_toArray, List.set_cons_zero, List.set_cons_succ]
  refine wpAnyH_ready (rs := [11]) (by kernel_rfl) (by simp) ?_
  refine AllReadyH.cons rfl (fun K23 hK23 => ?_) AllReadyH.nil
  have HK23 := Lib.hid hK23
  clear hK23
  rw [if_pos (by rfl)]
  go_simp
  obtain ⟨N1, hN1⟩ : ∃ n, x18.heap.size = n := ⟨_, rfl⟩
  have SB := md_box (tm := 129) hN1 HX.out HV.out LL.out LN.out HS.out
  obtain ⟨x24, hxb⟩ : ∃ q, x18.alloc (.cells #[.int .i64 (R : Int), .int .i64 (B : Int), .int .i64 (T : Int), .int .i64 (S : Int), .int .i64 (O : Int), .slice (some ⟨gX, 0, none⟩) n gc] 129) = q := ⟨_, rfl⟩
  have hbx : Below x18.heap.size x18 x24 := by rw [← hxb]; exact (Below.refl _ _).alloc (Nat.le_refl _) _
  rw [hxb] at SB
  rw [hxb]
  rw [hN1]
  have NG := Lib.hid (show w.heap.size ≤ N1 from by rw [← hN1]; exact HT_19.out.size)
  have M_25 := Lib.hid (Md.fw HM2.out (hbx))
  have S_26 := Lib.hid (Sx.fw HX.out (hbx))
  have hl27 := hbx
  have HT_28 : Hid (Below w.heap.size w x24) := Lib.hid (HT_19.out.trans ((hl27).mono HT_19.out.size))
  have SBH := Lib.hid SB
  clear SB
  clear hbx hxb hN1
  have hb30 : Below x18.heap.size x18 x24 := hl27
  have hS29 : (fun w' : World => Below x18.heap.size x18 w') x24 := hb30
  refine HK23.out _ _ hS29 fun _ => ?_
  try simp only [Act.put, List.setIfInBounds_toArray, List.set_cons_zero, List.set_cons_succ]
  refine wpAnyH_up (S' := (fun w' : World => Below x24.heap.size x24 w')) (fun w' h => hb30.trans (h.mono hb30.size)) ?_
  have hS31 : (fun w' : World => Below x24.heap.size x24 w') x24 := Below.refl _ _
  refine takeD (i := 12) (v := .pointer (some ⟨N1, 0, none⟩)) (some 2) rfl rfl (by kernel_rfl) (by kernel_rfl) (by kernel_rfl) (fun _ _ _ h => h) (Or.inl ⟨by rfl, by rintro w' -; go_simp⟩) hS31 ?_
  simp only [Act.put, List.setIfInBounds_toArray, List.set_cons_zero, List.set_cons_succ]
  refine wpAnyH_done (by kernel_rfl) ?_ _
  go_wp2_with fail
  go_ret
  exact ⟨N1, gX, gc, rfl, SBH.out, ⟨NG.out, GX.out⟩, HT_28.out⟩
end Go.Proofs.Ytdjjihppaobbcaa
namespace Go.Proofs.Ytdjjihppaobbcaa
open Go Go.RowKit Med
set_option linter.unusedVariables false
set_option linter.unusedSimpArgs false
set_option maxHeartbeats 4000000 in
set_option maxRecDepth 100000 in
theorem pst_nil (a : Int) (w : World) : Calls Try.prog 74 #[.pointer none, .int .i64 a] w (qPost (.int .i64 0) w) := by
  go_enter Try.func74, Try.ntmps74
  go_wp2_with fail
  go_ret
  exact ⟨rfl, rfl⟩
set_option maxHeartbeats 4000000 in
set_option maxRecDepth 100000 in
theorem prd_nil (a : Int) (w : World) : Calls Try.prog 87 #[.pointer none, .int .i64 a] w (qPost (.tuple #[.slice none 0 0, .int .i64 8]) w) := by
  go_enter Try.func87, Try.ntmps87
  go_wp2_with fail
  refine bodyPost_ret (results_tmp2 rfl _ _ _) rfl ?_
  exact ⟨rfl, rfl⟩
set_option maxHeartbeats 4000000 in
set_option maxRecDepth 100000 in
theorem pwr_nil (a : Int) (v : Value) (w : World) : Calls Try.prog 94 #[.pointer none, .int .i64 a, v] w (qPost (.int .i64 8) w) := by
  go_enter Try.func94, Try.ntmps94
  go_wp2_with fail
  go_ret
  exact ⟨rfl, rfl⟩
set_option maxHeartbeats 4000000 in
set_option maxRecDepth 100000 in
theorem per_nil (a : Int) (w : World) : Calls Try.prog 96 #[.pointer none, .int .i64 a] w (qPost (.int .i64 8) w) := by
  go_enter Try.func96, Try.ntmps96
  go_wp2_with fail
  go_ret
  exact ⟨rfl, rfl⟩
set_option maxHeartbeats 4000000 in
set_option maxRecDepth 100000 in
theorem pcl_nil  (w : World) : Calls Try.prog 73 #[.pointer none] w (qPost (.pointer none) w) := by
  go_enter Try.func73, Try.ntmps73
  go_wp2_with fail
  go_ret
  exact ⟨rfl, rfl⟩
set_option maxHeartbeats 4000000 in
set_option maxRecDepth 100000 in
theorem rdo_any {w : World} {M X c R B T S O : Nat} {l : List Sec} (h : RMd w M X c R B T S O l) (o : Med.Op) (v : Value) (hb : Bs w v o.bytes) : Calls Try.prog 56 #[.pointer (some ⟨M, 0, none⟩), .agg #[.bool o.erase, .int .i64 o.pos, v]] w (wrPost 129 126 M X c R B T S O (opE B l o) (opL R B T S O l o) w) := by
  obtain ⟨er0, p, b⟩ := o
  obtain ⟨B0, hB0⟩ : ∃ B, w.heap.size = B := ⟨_, rfl⟩
  obtain ⟨A, cc, hv⟩ := hb.form
  obtain ⟨W0, hW0⟩ : ∃ W, w.alloc (.cells #[.bool er0, .int .i64 p, v] 103) = W := ⟨_, rfl⟩
  have BW : Below w.heap.size w W0 := by subst hW0; exact (Below.refl _ _).alloc (Nat.le_refl _) _
  have R0 : Row W0 B0 103 #[.bool er0, .int .i64 p, v] := by subst hW0; exact gr_new w _ _ hB0
  have c0 := R0.cell 0
  have c1 := R0.cell 1
  have c2 := R0.cell 2
  simp only [List.getElem?_toArray, List.getElem?_cons_zero, List.getElem?_cons_succ] at c0 c1 c2
  have M0 := h.fw BW
  have b0 := hb.below BW
  have C0 := Lib.hid (below_chg BW (fun j => j = X))
  have HB0 := Lib.hid hB0
  have HW0 := Lib.hid hW0
  cases er0 with
  | true =>
    have E := Lib.hid (rer_any M0 p)
    unfold opE opL
    rw [if_pos rfl, if_pos rfl]
    show Calls _ _ #[_, .agg #[.bool true, .int .i64 p, v]] w _
    clear h hb BW R0 M0 b0 hB0 hW0
    subst hv
    generalize b.length = m at *
    go_enter Try.func56, Try.ntmps56
    go_wp2_with (first | rw [HB0.out] | rw [HW0.out])
    refine E.out.mono ?_
    rintro e w1 ⟨rfl, hm, hc⟩
    have Q := Lib.hid (And.intro hm (C0.out.trans hc))
    clear hm hc
    go_wp2_with fail
    go_ret
    exact ⟨rfl, Q.out⟩
  | false =>
    have E := Lib.hid (rwr_any M0 p v b b0)
    unfold opE opL
    rw [if_neg Bool.false_ne_true, if_neg Bool.false_ne_true]
    show Calls _ _ #[_, .agg #[.bool false, .int .i64 p, v]] w _
    clear h hb BW R0 M0 b0 hB0 hW0
    have wv : wrPost 129 126 M X c R B T S O (wrE l p (Med.Op.mk false p b).bytes.length) (wr (Geo.shadow R B T S O (Med.Op.mk false p b).pos) l p (Med.Op.mk false p b).bytes.length (strOf (Med.Op.mk false p b).bytes)) w = wrPost 129 126 M X c R B T S O (wrE l p b.length) (wr (Geo.shadow R B T S O p) l p b.length (strOf b)) w := rfl
    show Calls _ _ _ w (wrPost 129 126 M X c R B T S O (wrE l p b.length) (wr (Geo.shadow R B T S O p) l p b.length (strOf b)) w)
    clear wv
    subst hv
    obtain ⟨LE, hLE⟩ : ∃ x, wrE l p b.length = x := ⟨_, rfl⟩
    obtain ⟨LL, hLL⟩ : ∃ x, wr (Geo.shadow R B T S O p) l p b.length (strOf b) = x := ⟨_, rfl⟩
    rw [hLE, hLL] at E ⊢
    clear hLE hLL
    generalize b.length = m at *
    go_enter Try.func56, Try.ntmps56
    go_wp2_with (first | rw [HB0.out] | rw [HW0.out])
    refine E.out.mono ?_
    rintro e w1 ⟨rfl, hm, hc⟩
    have Q := Lib.hid (And.intro hm (C0.out.trans hc))
    clear hm hc
    go_wp2_with fail
    go_ret
    exact ⟨rfl, Q.out⟩
end Go.Proofs.Ytdjjihppaobbcaa
namespace Go.Proofs.Ytdjjihppaobbcaa
open Go Go.RowKit Med
set_option linter.unusedVariables false
set_option linter.unusedSimpArgs false
/-- The slice value v reads as these operations. -/
def Ols (w : World) (v : Value) (L : List Med.Op) : Prop :=
  ∃ A c, v = .slice A L.length c ∧ (L.length ≤ c ∧ c ≤ maxLen) ∧ (0 < L.length → ∃ b off, A = some ⟨b, off, none⟩ ∧ ∀ k (h : k < L.length), w.cell? ⟨b, off + k * 3, none⟩ = some (.bool L[k].erase) ∧ w.cell? ⟨b, off + k * 3 + 1, none⟩ = some (.int .i64 L[k].pos) ∧ ∃ u, w.cell? ⟨b, off + k * 3 + 2, none⟩ = some u ∧ Bs w u L[k].bytes)
theorem Ols.fw {w w' : World} {v : Value} {L : List Med.Op} (h : Ols w v L) (hb : Below w.heap.size w w') : Ols w' v L := by
  obtain ⟨A, c, rfl, hm, hc⟩ := h
  refine ⟨A, c, rfl, hm, fun hn => ?_⟩
  obtain ⟨b, off, rfl, hq⟩ := hc hn
  refine ⟨b, off, rfl, fun k hk => ?_⟩
  obtain ⟨h0, h1, u, h2, h3⟩ := hq k hk
  exact ⟨ce_fw h0 hb, ce_fw h1 hb, u, ce_fw h2 hb, h3.below hb⟩
theorem Ols.form {w : World} {v : Value} {L : List Med.Op} (h : Ols w v L) : ∃ A c, v = .slice A L.length c := by obtain ⟨A, c, h, _⟩ := h; exact ⟨A, c, h⟩
theorem Ols.len {w : World} {v : Value} {L : List Med.Op} (h : Ols w v L) : L.length ≤ 9223372036854775807 := by
  obtain ⟨A, c, _, hm, _⟩ := h
  have : maxLen ≤ 9223372036854775807 := by decide
  omega
/-- An operation's value. -/
def opV (o : Med.Op) (u : Value) : Value := .agg #[.bool o.erase, .int .i64 o.pos, u]
theorem Ols.nth {w : World} {A : Option Addr} {n c : Nat} {L : List Med.Op} (h : Ols w (.slice A n c) L) {k : Nat} (hk : k < n) : ∃ b off u, ∃ hk2 : k < L.length, A = some ⟨b, off, none⟩ ∧ w.cell? ⟨b, off + k * 3, none⟩ = some (.bool L[k].erase) ∧ w.cell? ⟨b, off + k * 3 + 1, none⟩ = some (.int .i64 L[k].pos) ∧ w.cell? ⟨b, off + k * 3 + 2, none⟩ = some u ∧ Bs w u L[k].bytes := by
  obtain ⟨A', c', e, -, hc⟩ := h
  injection e with e1 e2 e3
  obtain ⟨b, off, h1, h2⟩ := hc (by omega)
  obtain ⟨h3, h4, u, h5, h6⟩ := h2 k (by omega)
  exact ⟨b, off, u, by omega, by rw [e1, h1], h3, h4, h5, h6⟩
theorem op_rng {w : World} {b off k : Nat} {e : Bool} {p : Int} {u : Value} (h0 : w.cell? ⟨b, off + k * 3, none⟩ = some (.bool e)) (h1 : w.cell? ⟨b, off + k * 3 + 1, none⟩ = some (.int .i64 p)) (h2 : w.cell? ⟨b, off + k * 3 + 2, none⟩ = some u) : w.rangeAt b (off + k * 3) [.bool e, .int .i64 p, u] := fun j v hv => by
  match j, hv with
  | 0, hv => simp at hv; subst hv; exact h0
  | 1, hv => simp at hv; subst hv; exact h1
  | 2, hv => simp at hv; subst hv; exact h2
  | j + 3, hv => simp at hv
/-- 'string(b)'. -/
theorem cvb {w : World} (A : Option Addr) (n c : Nat) (l : List Nat) (h : Bs w (.slice A n c) l) : (convert 60 9 (.slice A n c)).run Try.prog w = .ok (.string (strOf l)) w :=
  conv_bs (P := Try.prog) 60 5 9 Try.underlying60 Try.underlying5 Try.underlying9 h
/-- A truth value is returned, and nothing changes. -/
def boPost (w : World) (e : Ending) (w' : World) : Prop := ∃ b : Bool, e = .returned (.bool b) ∧ w = w'
/-- Whether a geometry is small. -/
def Geo.fair (r b t s o : Int) : Prop := Geo.GV r b t s o ∧ Geo.size r b t s o ≤ 200
instance (r b t s o : Int) : Decidable (Geo.fair r b t s o) := by unfold Geo.fair; infer_instance
theorem bs_lit (w : World) (t : TypeId) (fr : Nat × Nat) (x : Nat) (hx : x < 256) : Bs (w.alloc (.cells #[.int .u8 (x : Int)] t fr)) (.slice (some ⟨w.heap.size, 0, none⟩) 1 1) [x] :=
  ⟨_, 1, rfl, ⟨Nat.le_refl _, by decide⟩, by simpa using hx, fun h => (by cases h), fun _ => ⟨w.heap.size, 0, rfl, fun k hk => by
    rw [Nat.zero_add, cell_of_row _ _ _ _ _ _ (heap_alloc_new w _)]
    obtain rfl : k = 0 := by simpa using hk
    rfl⟩⟩
def exL1 : List Sec := wr (Geo.shadow 0 1 2 2 1 2) (List.replicate 4 Med.blank) 2 1 (strOf [120])
def exL2 : List Sec := wr (Geo.shadow 0 1 2 2 1 0) exL1 0 1 (strOf [121])
theorem ex_e1 : wrE (List.replicate 4 Med.blank) 2 1 = 0 := by decide +kernel
theorem ex_e2 : wrE exL1 0 1 = 0 := by decide +kernel
theorem ex_r : rdE exL2 0 = 0 ∧ rdB exL2 0 = strOf [121] ∧ st exL2 0 = 1 ∧ st exL2 1 = 0 ∧ st exL2 2 = 2 := by decide +kernel
theorem ex_s : strOf [121] = ⟨#[121]⟩ := by decide +kernel
end Go.Proofs.Ytdjjihppaobbcaa
namespace Go.Proofs.Ytdjjihppaobbcaa
open Go Go.RowKit Med
set_option linter.unusedVariables false
set_option linter.unusedSimpArgs false

theorem md_ne {w : World} {M X c R B T S O : Nat} {l : List Sec} {M' X' c' R' B' T' S' O' : Nat} {l' : List Sec} (h1 : PMd w M X c R B T S O l) (h2 : RMd w M' X' c' R' B' T' S' O' l') : M ≠ X' ∧ M' ≠ X ∧ X ≠ X' ∧ M ≠ M' := by
  obtain ⟨cs, hr, -⟩ := h1.sx
  obtain ⟨cs', hr', -⟩ := h2.sx
  have key : ∀ (a b : Nat) (x y : Array Value) (s t : TypeId), Row w a s x → Row w b t y → s ≠ t → a ≠ b := by
    rintro a b x y s t ha hb hn rfl
    have := ha.symm.trans hb
    injection this with this
    injection this with _ e _
    exact hn e
  exact ⟨key _ _ _ _ _ _ h1.row hr' (by decide), key _ _ _ _ _ _ h2.row hr (by decide), key _ _ _ _ _ _ hr hr' (by decide), key _ _ _ _ _ _ h1.row h2.row (by decide)⟩
theorem rng_fw {w w' : World} {b off : Nat} {cs : List Value} (h : w.rangeAt b off cs) (hb : Below w.heap.size w w') : w'.rangeAt b off cs := fun j v hv => ce_fw (h j v hv) hb
/-- What the law's play returns. -/
def plPost (M X c M' X' c' R B T S O : Nat) (l : List Sec) (w : World) (e : Ending) (w' : World) : Prop := e = .returned (.bool true) ∧ PMd w' M X c R B T S O l ∧ RMd w' M' X' c' R B T S O l ∧ Chg (fun j => j = X ∨ j = X') w w'
end Go.Proofs.Ytdjjihppaobbcaa
