/- Media: New, of the program and of the reference. WRITTEN BY gen_Mdf.py. -/
import Derived.Test.YtbaclcpnnompnaaMde
import Derived.BigRegion
import Derived.Deep.RegionWith
import Derived.Laws.MakeOwn
import Derived.Deep.OwnRows
namespace Go.Proofs.Ytbaclcpnnompnaa
open Go Go.RowKit Med
set_option linter.unusedVariables false
set_option linter.unusedSimpArgs false
/-- What New returns for a valid geometry. -/
def newPost (tm ts : TypeId) (R B T S O : Nat) (w : World) (e : Ending) (w' : World) : Prop := ∃ M X, e = .returned (.tuple #[.pointer (some ⟨M, 0, none⟩), .int .i64 0]) ∧ Md tm ts w' M X (R + B * (T * S)) R B T S O (List.replicate (R + B * (T * S)) Med.blank) ∧ (w.heap.size ≤ M ∧ w.heap.size ≤ X) ∧ Below w.heap.size w w'
theorem md_box {tm ts : TypeId} {w : World} {X c n M R B T S O : Nat} {l : List Sec} (hM : w.heap.size = M) (h : Sx w X ts c l) (hv : Geo.GV (R : Int) B T S O) (hl : l.length = R + B * (T * S)) (hn : l.length = n) (hs : ∀ s ∈ l, s.2.size ≤ 64) :
    Md tm ts (w.alloc (.cells #[.int .i64 (R : Int), .int .i64 (B : Int), .int .i64 (T : Int), .int .i64 (S : Int), .int .i64 (O : Int), .slice (some ⟨X, 0, none⟩) n c] tm)) M X c R B T S O l := by
  subst hn
  exact ⟨hv, hl, gr_new w _ tm hM, h.block ((Below.refl w.heap.size w).alloc (Nat.le_refl _) (.cells #[.int .i64 (R : Int), .int .i64 (B : Int), .int .i64 (T : Int), .int .i64 (S : Int), .int .i64 (O : Int), .slice (some ⟨X, 0, none⟩) l.length c] tm) |>.block X h.lt), by have := h.lt; omega, hs⟩
def zsec : Value := .agg #[.int .i64 0, .string ⟨#[]⟩]
theorem made_sec (N : Nat) (w : World) (ts : TypeId) (hN : N ≤ 100000) : Sx (w.alloc (.cells (madeCells zsec.cells (N * 2)) ts)) w.heap.size ts N (List.replicate N Med.blank) := by
  refine ⟨_, gr_new w _ ts rfl, by simp [madeCells], by simp, by unfold maxLen; omega, fun k hk => ?_⟩
  have hk' : k < N := by simpa using hk
  rw [List.getElem_replicate]
  have z : zsec.cells = #[.int .i64 0, .string ⟨#[]⟩] := rfl
  refine ⟨?_, ?_⟩
  · rw [z]
    simp only [madeCells, Array.getElem?_map, Array.getElem?_range, if_pos (show k * 2 < N * 2 by omega), Option.map_some]
    rw [show (#[Value.int .i64 0, .string ⟨#[]⟩] : Array Value).size = 2 from rfl, Nat.mul_mod_left]; rfl
  · rw [z]
    simp only [madeCells, Array.getElem?_map, Array.getElem?_range, if_pos (show k * 2 + 1 < N * 2 by omega), Option.map_some]
    rw [show (#[Value.int .i64 0, .string ⟨#[]⟩] : Array Value).size = 2 from rfl, show (k * 2 + 1) % 2 = 1 by omega]; rfl
theorem pinfo_sec : (Try.prog.info? 81).map (fun i => (i.zero, i.size, i.bytes)) = some (some zsec, 2, 24) := by kernel_rfl
theorem pmake_sec (N : Nat) (hN : N ≤ 100000) (w : World) : (Instr.makeSlice 82 (.int .i64 (N : Int)) (.int .i64 (N : Int))).run Try.prog w = .ok (.slice (some ⟨w.heap.size, 0, none⟩) N N) (w.alloc (.cells (madeCells zsec.cells (N * 2)) 81)) := by
  obtain ⟨i, hi, hz, hs, hb⟩ := info_pt pinfo_sec
  have hr := run_make (P := Try.prog) w 82 81 i _ Try.underlying82 hi hz .i64 .i64 N N (by omega) (Int.le_refl _) (by rw [hb]; omega) (by omega)
  rw [Int.toNat_natCast, hs] at hr
  exact hr
set_option maxHeartbeats 4000000 in
set_option maxRecDepth 100000 in
theorem pnew_bad (r b t s o : Int) (w : World) (h : ¬ Geo.GV r b t s o) : Calls Try.prog 28 #[.agg #[.int .i64 r, .int .i64 b, .int .i64 t, .int .i64 s, .int .i64 o]] w (gPost (.tuple #[.pointer none, .int .i64 1]) w) := by
  obtain ⟨B0, hB0⟩ : ∃ B, w.heap.size = B := ⟨_, rfl⟩
  obtain ⟨W0, hW0⟩ : ∃ W, w.alloc (.cells #[.int .i64 r, .int .i64 b, .int .i64 t, .int .i64 s, .int .i64 o] 23) = W := ⟨_, rfl⟩
  have BW : Hid (Below w.heap.size w W0) := Lib.hid (by subst hW0; exact (Below.refl _ _).alloc (Nat.le_refl _) _)
  have R0 : Hid (Row W0 B0 23 #[.int .i64 r, .int .i64 b, .int .i64 t, .int .i64 s, .int .i64 o]) := Lib.hid (by subst hW0; exact gr_new w _ _ hB0)
  have c0 := R0.out.cell 0
  have c1 := R0.out.cell 1
  have c2 := R0.out.cell 2
  have c3 := R0.out.cell 3
  have c4 := R0.out.cell 4
  simp only [List.getElem?_toArray, List.getElem?_cons_zero, List.getElem?_cons_succ] at c0 c1 c2 c3 c4
  have HB0 := Lib.hid hB0
  have HW0 := Lib.hid hW0
  clear hB0 hW0
  go_enter Try.func28, Try.ntmps28
  go_wp2_with (first | rw [HB0.out] | rw [HW0.out])
  refine (pvalid_any r b t s o W0).mono ?_
  rintro e w1 ⟨rfl, hb⟩
  have B1 := Lib.hid (BW.out.trans (hb.mono BW.out.size))
  clear hb c0 c1 c2 c3 c4
  rw [decide_eq_false h]
  clear h
  go_wp2_with fail
  refine bodyPost_ret (results_tmp2 rfl _ _ _) rfl ?_
  exact ⟨rfl, B1.out⟩
set_option maxHeartbeats 4000000 in
set_option maxRecDepth 100000 in
theorem pnew_ok (R B T S O : Nat) (w : World) (h : Geo.GV (R : Int) B T S O) : Calls Try.prog 28 #[.agg #[.int .i64 (R : Int), .int .i64 (B : Int), .int .i64 (T : Int), .int .i64 (S : Int), .int .i64 (O : Int)]] w (newPost 84 81 R B T S O w) := by
  obtain ⟨B0, hB0⟩ : ∃ B, w.heap.size = B := ⟨_, rfl⟩
  obtain ⟨W0, hW0⟩ : ∃ W, w.alloc (.cells #[.int .i64 (R : Int), .int .i64 (B : Int), .int .i64 (T : Int), .int .i64 (S : Int), .int .i64 (O : Int)] 23) = W := ⟨_, rfl⟩
  have BW : Hid (Below w.heap.size w W0) := Lib.hid (by subst hW0; exact (Below.refl _ _).alloc (Nat.le_refl _) _)
  have R0 : Hid (Row W0 B0 23 #[.int .i64 (R : Int), .int .i64 (B : Int), .int .i64 (T : Int), .int .i64 (S : Int), .int .i64 (O : Int)]) := Lib.hid (by subst hW0; exact gr_new w _ _ hB0)
  have c0 := R0.out.cell 0
  have c1 := R0.out.cell 1
  have c2 := R0.out.cell 2
  have c3 := R0.out.cell 3
  have c4 := R0.out.cell 4
  simp only [List.getElem?_toArray, List.getElem?_cons_zero, List.getElem?_cons_succ] at c0 c1 c2 c3 c4
  have HB0 := Lib.hid hB0
  have HW0 := Lib.hid hW0
  clear hB0 hW0
  have HV := Lib.hid h
  have SZ := Lib.hid fun w => psize_any (R : Int) B T S O w
  rw [Geo.size_nat h] at SZ
  have hg := Geo.gv_nat h
  have hm := Geo.bts_le hg.2.2.1 hg.2.2.2.2.1 hg.2.2.2.2.2.2.1
  obtain ⟨N, hN⟩ : ∃ N, R + B * (T * S) = N := ⟨_, rfl⟩
  have NE := Lib.hid hN
  unfold newPost
  rw [hN] at SZ ⊢
  have nN : N ≤ 100000 := by omega
  have hmk := pmake_sec N nN
  have MK := Lib.hid fun w => made_sec N w 81 nN
  generalize madeCells zsec.cells (N * 2) = MC at hmk MK
  clear hg hm hN
  go_enter Try.func28, Try.ntmps28
  go_wp2_with (first | rw [HB0.out] | rw [HW0.out])
  refine (pvalid_any (R : Int) B T S O W0).mono ?_
  rintro e w1 ⟨rfl, hb⟩
  have B1 := Lib.hid (BW.out.trans (hb.mono BW.out.size))
  replace c0 := ce_fw c0 hb
  replace c1 := ce_fw c1 hb
  replace c2 := ce_fw c2 hb
  replace c3 := ce_fw c3 hb
  replace c4 := ce_fw c4 hb
  have R1 := Lib.hid (rw_fw R0.out hb)
  clear hb
  rw [decide_eq_true h]
  clear h
  go_wp2_with fail
  have d0 : w1.drew.cell? ⟨B0, 0, none⟩ = _ := c0
  have d1 : w1.drew.cell? ⟨B0, 1, none⟩ = _ := c1
  have d2 : w1.drew.cell? ⟨B0, 2, none⟩ = _ := c2
  have d3 : w1.drew.cell? ⟨B0, 3, none⟩ = _ := c3
  have d4 : w1.drew.cell? ⟨B0, 4, none⟩ = _ := c4
  go_region_with (go_at_call 53; refine (SZ.out _).mono ?_; rintro e w2 ⟨rfl, hb⟩; have B2 := Lib.hid (B1.out.drew.trans (hb.mono B1.out.size)); have R2 := Lib.hid (rw_fw (w := w1.drew) R1.out hb); have e0 := ce_fw d0 hb; have e1 := ce_fw d1 hb; have e2 := ce_fw d2 hb; have e3 := ce_fw d3 hb; have e4 := ce_fw d4 hb; have g0 := ce_fw e0 ((Below.refl w2.heap.size w2).alloc (Nat.le_refl _) (.cells MC 81)); have g1 := ce_fw e1 ((Below.refl w2.heap.size w2).alloc (Nat.le_refl _) (.cells MC 81)); have g2 := ce_fw e2 ((Below.refl w2.heap.size w2).alloc (Nat.le_refl _) (.cells MC 81)); have g3 := ce_fw e3 ((Below.refl w2.heap.size w2).alloc (Nat.le_refl _) (.cells MC 81)); have g4 := ce_fw e4 ((Below.refl w2.heap.size w2).alloc (Nat.le_refl _) (.cells MC 81)); clear hb)
  all_goals
    go_wp2_with fail
    refine bodyPost_ret (results_tmp2 rfl _ _ _) rfl ?_
    exact ⟨_, _, rfl, md_box (by simp) (MK.out w2) HV.out (by rw [List.length_replicate]; exact NE.out.symm) (List.length_replicate ..) (fun s hs => by rw [List.eq_of_mem_replicate hs]; exact Nat.zero_le _), ⟨Nat.le_trans B2.out.size (Nat.le_succ _), B2.out.size⟩, (B2.out.alloc B2.out.size _).alloc (by have := B2.out.size; simp; omega) _⟩
theorem rinfo_sec : (Try.prog.info? 92).map (fun i => (i.zero, i.size, i.bytes)) = some (some zsec, 2, 24) := by kernel_rfl
theorem rmake_sec (N : Nat) (hN : N ≤ 100000) (w : World) : (Instr.makeSlice 71 (.int .i64 (N : Int)) (.int .i64 (N : Int))).run Try.prog w = .ok (.slice (some ⟨w.heap.size, 0, none⟩) N N) (w.alloc (.cells (madeCells zsec.cells (N * 2)) 92)) := by
  obtain ⟨i, hi, hz, hs, hb⟩ := info_pt rinfo_sec
  have hr := run_make (P := Try.prog) w 71 92 i _ Try.underlying71 hi hz .i64 .i64 N N (by omega) (Int.le_refl _) (by rw [hb]; omega) (by omega)
  rw [Int.toNat_natCast, hs] at hr
  exact hr
set_option maxHeartbeats 4000000 in
set_option maxRecDepth 100000 in
theorem rnew_bad (r b t s o : Int) (w : World) (h : ¬ Geo.GV r b t s o) : Calls Try.prog 29 #[.agg #[.int .i64 r, .int .i64 b, .int .i64 t, .int .i64 s, .int .i64 o]] w (gPost (.tuple #[.pointer none, .int .i64 1]) w) := by
  obtain ⟨B0, hB0⟩ : ∃ B, w.heap.size = B := ⟨_, rfl⟩
  obtain ⟨W0, hW0⟩ : ∃ W, w.alloc (.cells #[.int .i64 r, .int .i64 b, .int .i64 t, .int .i64 s, .int .i64 o] 23) = W := ⟨_, rfl⟩
  have BW : Hid (Below w.heap.size w W0) := Lib.hid (by subst hW0; exact (Below.refl _ _).alloc (Nat.le_refl _) _)
  have R0 : Hid (Row W0 B0 23 #[.int .i64 r, .int .i64 b, .int .i64 t, .int .i64 s, .int .i64 o]) := Lib.hid (by subst hW0; exact gr_new w _ _ hB0)
  have c0 := R0.out.cell 0
  have c1 := R0.out.cell 1
  have c2 := R0.out.cell 2
  have c3 := R0.out.cell 3
  have c4 := R0.out.cell 4
  simp only [List.getElem?_toArray, List.getElem?_cons_zero, List.getElem?_cons_succ] at c0 c1 c2 c3 c4
  have HB0 := Lib.hid hB0
  have HW0 := Lib.hid hW0
  clear hB0 hW0
  go_enter Try.func29, Try.ntmps29
  go_wp2_with (first | rw [HB0.out] | rw [HW0.out])
  refine (rvalid_any r b t s o W0).mono ?_
  rintro e w1 ⟨rfl, hb⟩
  have B1 := Lib.hid (BW.out.trans (hb.mono BW.out.size))
  clear hb c0 c1 c2 c3 c4
  rw [decide_eq_false h]
  clear h
  go_wp2_with fail
  refine bodyPost_ret (results_tmp2 rfl _ _ _) rfl ?_
  exact ⟨rfl, B1.out⟩
set_option maxHeartbeats 4000000 in
set_option maxRecDepth 100000 in
theorem rnew_ok (R B T S O : Nat) (w : World) (h : Geo.GV (R : Int) B T S O) : Calls Try.prog 29 #[.agg #[.int .i64 (R : Int), .int .i64 (B : Int), .int .i64 (T : Int), .int .i64 (S : Int), .int .i64 (O : Int)]] w (newPost 73 92 R B T S O w) := by
  obtain ⟨B0, hB0⟩ : ∃ B, w.heap.size = B := ⟨_, rfl⟩
  obtain ⟨W0, hW0⟩ : ∃ W, w.alloc (.cells #[.int .i64 (R : Int), .int .i64 (B : Int), .int .i64 (T : Int), .int .i64 (S : Int), .int .i64 (O : Int)] 23) = W := ⟨_, rfl⟩
  have BW : Hid (Below w.heap.size w W0) := Lib.hid (by subst hW0; exact (Below.refl _ _).alloc (Nat.le_refl _) _)
  have R0 : Hid (Row W0 B0 23 #[.int .i64 (R : Int), .int .i64 (B : Int), .int .i64 (T : Int), .int .i64 (S : Int), .int .i64 (O : Int)]) := Lib.hid (by subst hW0; exact gr_new w _ _ hB0)
  have c0 := R0.out.cell 0
  have c1 := R0.out.cell 1
  have c2 := R0.out.cell 2
  have c3 := R0.out.cell 3
  have c4 := R0.out.cell 4
  simp only [List.getElem?_toArray, List.getElem?_cons_zero, List.getElem?_cons_succ] at c0 c1 c2 c3 c4
  have HB0 := Lib.hid hB0
  have HW0 := Lib.hid hW0
  clear hB0 hW0
  have HV := Lib.hid h
  have SZ := Lib.hid fun w => rsize_any (R : Int) B T S O w
  rw [Geo.size_nat h] at SZ
  have hg := Geo.gv_nat h
  have hm := Geo.bts_le hg.2.2.1 hg.2.2.2.2.1 hg.2.2.2.2.2.2.1
  obtain ⟨N, hN⟩ : ∃ N, R + B * (T * S) = N := ⟨_, rfl⟩
  have NE := Lib.hid hN
  unfold newPost
  rw [hN] at SZ ⊢
  have nN : N ≤ 100000 := by omega
  have hmk := rmake_sec N nN
  have MK := Lib.hid fun w => made_sec N w 92 nN
  generalize madeCells zsec.cells (N * 2) = MC at hmk MK
  clear hg hm hN
  go_enter Try.func29, Try.ntmps29
  go_wp2_with (first | rw [HB0.out] | rw [HW0.out])
  refine (rvalid_any (R : Int) B T S O W0).mono ?_
  rintro e w1 ⟨rfl, hb⟩
  have B1 := Lib.hid (BW.out.trans (hb.mono BW.out.size))
  replace c0 := ce_fw c0 hb
  replace c1 := ce_fw c1 hb
  replace c2 := ce_fw c2 hb
  replace c3 := ce_fw c3 hb
  replace c4 := ce_fw c4 hb
  have R1 := Lib.hid (rw_fw R0.out hb)
  clear hb
  rw [decide_eq_true h]
  clear h
  go_wp2_with fail
  have d0 : w1.drew.cell? ⟨B0, 0, none⟩ = _ := c0
  have d1 : w1.drew.cell? ⟨B0, 1, none⟩ = _ := c1
  have d2 : w1.drew.cell? ⟨B0, 2, none⟩ = _ := c2
  have d3 : w1.drew.cell? ⟨B0, 3, none⟩ = _ := c3
  have d4 : w1.drew.cell? ⟨B0, 4, none⟩ = _ := c4
  go_region_with (go_at_call 37; refine (SZ.out _).mono ?_; rintro e w2 ⟨rfl, hb⟩; have B2 := Lib.hid (B1.out.drew.trans (hb.mono B1.out.size)); have R2 := Lib.hid (rw_fw (w := w1.drew) R1.out hb); have e0 := ce_fw d0 hb; have e1 := ce_fw d1 hb; have e2 := ce_fw d2 hb; have e3 := ce_fw d3 hb; have e4 := ce_fw d4 hb; have g0 := ce_fw e0 ((Below.refl w2.heap.size w2).alloc (Nat.le_refl _) (.cells MC 92)); have g1 := ce_fw e1 ((Below.refl w2.heap.size w2).alloc (Nat.le_refl _) (.cells MC 92)); have g2 := ce_fw e2 ((Below.refl w2.heap.size w2).alloc (Nat.le_refl _) (.cells MC 92)); have g3 := ce_fw e3 ((Below.refl w2.heap.size w2).alloc (Nat.le_refl _) (.cells MC 92)); have g4 := ce_fw e4 ((Below.refl w2.heap.size w2).alloc (Nat.le_refl _) (.cells MC 92)); clear hb)
  all_goals
    go_wp2_with fail
    refine bodyPost_ret (results_tmp2 rfl _ _ _) rfl ?_
    exact ⟨_, _, rfl, md_box (by simp) (MK.out w2) HV.out (by rw [List.length_replicate]; exact NE.out.symm) (List.length_replicate ..) (fun s hs => by rw [List.eq_of_mem_replicate hs]; exact Nat.zero_le _), ⟨Nat.le_trans B2.out.size (Nat.le_succ _), B2.out.size⟩, (B2.out.alloc B2.out.size _).alloc (by have := B2.out.size; simp; omega) _⟩
end Go.Proofs.Ytbaclcpnnompnaa
