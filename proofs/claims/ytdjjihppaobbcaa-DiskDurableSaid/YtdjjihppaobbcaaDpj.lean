/- Layer 14: contracts of the program: Acquire, Kill, Restart, what a disk shows; the methods of a nil disk. WRITTEN BY gen_Dpj.py. -/
import Derived.Test.YtdjjihppaobbcaaDpi
import Derived.BigRegion
namespace Go.Proofs.Ytdjjihppaobbcaa
open Go Go.RowKit Med Flt
set_option linter.unusedVariables false
set_option linter.unusedSimpArgs false
set_option maxHeartbeats 4000000 in
set_option maxRecDepth 100000 in
theorem pacq_any {B : Zn} {w : World} {D P R Bn T S O : Nat} {L : List F} {p : Dsk.Pw} {d : Dsk.Dk} (h : PDk B w D P R Bn T S O L d) (hp : PPw w P p) (hP : B.fr P) (key : Nat) :
    Calls Try.prog 33 #[.pointer (some ⟨D, 0, none⟩), .int .u64 (key : Int)] w (pdPost B D P R Bn T S O L (Dsk.acqE p d) p (Dsk.acqD p d key) w) := by
  obtain ⟨K, v, q0⟩ := h.start hp hP (Tch.refl B tyD _)
  have RF := Lib.hid (prfs_any q0)
  have Q0 := Lib.hid q0
  clear h hp hP q0
  unfold pdPost Dsk.acqD
  by_cases hE : Dsk.acqE p d = 0
  · rw [if_pos hE, hE]
    rw [show (if d.dead = true then (14 : Int) else if ¬ Dsk.rdy p d then 13 else 0) = 0 from hE] at RF
    clear hE
    go_enter Try.func33, Try.ntmps33
    go_wp2_with fail
    refine RF.out.mono ?_
    rintro e w1 ⟨rfl, hb⟩
    have Q1 := Lib.hid (Q0.out.fw hb)
    have a14 := Q1.out.row.oths.2.2.2.2.1
    have f14 := Row.frozen Q1.out.row 14
    have Q2 := Lib.hid (Q1.out.put (d' := { d with key := key }) 14 (.int .u64 (key : Int)) (by decide) rfl)
    clear hb RF
    go_wp2_with fail
    go_ret
    exact ⟨rfl, Q2.out.fin rfl rfl rfl⟩
  · rw [if_neg hE]
    obtain ⟨E, hq⟩ : ∃ q, Dsk.acqE p d = q := ⟨_, rfl⟩
    rw [hq] at hE ⊢
    rw [show (if d.dead = true then (14 : Int) else if ¬ Dsk.rdy p d then 13 else 0) = E from hq] at RF
    have dE : (E != 0) = true := by simp [hE]
    clear hq hE
    go_enter Try.func33, Try.ntmps33
    go_wp2_with fail
    refine RF.out.mono ?_
    rintro e w1 ⟨rfl, hb⟩
    have Q1 := Lib.hid (Q0.out.fw hb)
    clear hb RF
    go_wp2_with fail
    go_ret
    exact ⟨rfl, Q1.out.fin rfl rfl rfl⟩
def pkPost (B : Zn) (D P R Bn T S O : Nat) (L : List F) (p : Dsk.Pw) (d : Dsk.Dk) (w : World) (e : Ending) (w' : World) : Prop :=
  (∃ u, e = .returned u) ∧ PDk B w' D P R Bn T S O L d ∧ PPw w' P p ∧ Tch B tyD w w'
set_option maxHeartbeats 4000000 in
set_option maxRecDepth 100000 in
theorem pkill_any {B : Zn} {w : World} {D P R Bn T S O : Nat} {L : List F} {p : Dsk.Pw} {d : Dsk.Dk} (h : PDk B w D P R Bn T S O L d) (hp : PPw w P p) (hP : B.fr P) :
    Calls Try.prog 35 #[.pointer (some ⟨D, 0, none⟩)] w (pkPost B D P R Bn T S O L p { d with dead := true } w) := by
  obtain ⟨K, v, q0⟩ := h.start hp hP (Tch.refl B tyD _)
  have a15 := q0.row.oths.2.2.2.2.2
  have f15 := Row.frozen q0.row 15
  have Q1 := Lib.hid (q0.put (d' := { d with dead := true }) 15 (.bool true) (by decide) rfl)
  clear h hp hP q0
  go_enter Try.func35, Try.ntmps35
  go_wp2_with fail
  go_end0
  exact ⟨⟨_, rfl⟩, Q1.out.fin rfl rfl rfl⟩
set_option maxHeartbeats 4000000 in
set_option maxRecDepth 100000 in
theorem prs14_any {B : Zn} {w : World} {D P R Bn T S O : Nat} {L : List F} {p : Dsk.Pw} {d : Dsk.Dk} (h : PDk B w D P R Bn T S O L d) (hp : PPw w P p) (hP : B.fr P) (hT : B.top w) (keep : Int) :
    Calls Try.prog 28 #[.pointer (some ⟨D, 0, none⟩), .int .i64 keep] w (pdPost B D P R Bn T S O L (Dsk.resE p d) p (Dsk.resD R Bn T S O p d keep) w) := by
  obtain ⟨K, v, q0⟩ := h.start hp hP (Tch.refl B tyD _)
  have Q0 := Lib.hid q0
  have a15 := q0.row.oths.2.2.2.2.2
  have a12 := q0.row.oths.2.2.1
  have OF := Lib.hid (poff_any hp)
  have HT := Lib.hid hT
  clear h hp hT q0
  unfold pdPost Dsk.resD Dsk.resE
  by_cases hd : d.dead = true
  · rw [if_pos hd, if_neg (by decide)]
    rw [hd] at a15
    clear hd
    go_enter Try.func28, Try.ntmps28
    go_wp2_with fail
    go_ret
    exact ⟨rfl, Q0.out.fin rfl rfl rfl⟩
  · rw [if_neg hd]
    rw [(Bool.not_eq_true _).mp hd] at a15
    clear hd
    by_cases ho : p.off = false
    · rw [if_pos ho, if_neg (by decide)]
      rw [ho] at OF
      clear ho
      go_enter Try.func28, Try.ntmps28
      go_wp2_with fail
      refine OF.out.mono ?_
      rintro e w1 ⟨rfl, rfl⟩
      clear OF
      go_wp2_with fail
      go_ret
      exact ⟨rfl, Q0.out.fin rfl rfl rfl⟩
    · have ho' : p.off = true := by simpa using ho
      rw [if_neg ho, if_pos rfl]
      rw [ho'] at OF
      have CU := Lib.hid (ccu_any Q0.out.ce keep HT.out)
      have a10 := Q0.out.row.oths.1
      clear ho ho'
      go_enter Try.func28, Try.ntmps28
      go_wp2_with fail
      refine OF.out.mono ?_
      rintro e w1 ⟨rfl, rfl⟩
      clear OF
      go_wp2_with fail
      refine CU.out.mono ?_
      rintro e w1 ⟨⟨u, rfl⟩, hr, ht⟩
      have Q1 := Lib.hid (Q0.out.cac hr ht)
      have b12 := Q1.out.row.oths.2.2.1
      have b13 := Q1.out.row.oths.2.2.2.1
      have p3 := Q1.out.pw.cells.2.2.2
      have f13 := Row.frozen Q1.out.row 13
      have Q2 := Lib.hid (Q1.out.put (d' := { d with seen := p.fails }) 13 (.int .i64 (p.fails : Int)) (by decide) rfl)
      clear hr ht CU a15 a12 a10
      go_wp2_with fail
      go_ret
      refine ⟨rfl, ?_⟩
      obtain ⟨q1, q2, q3, q4, q5, q6, q7, q8⟩ := Q2.out
      exact PqL.fin (Ls := tyD) (d := { d with l := Med.play R Bn T S O d.l (d.ops.take keep.toNat), ops := [], seen := p.fails }) ⟨q1, q2, q3, q4, q5, q6, q7, q8⟩ rfl rfl rfl
set_option maxHeartbeats 4000000 in
set_option maxRecDepth 100000 in
theorem pdead_any {B : Zn} {w : World} {D P R Bn T S O : Nat} {L : List F} {p : Dsk.Pw} {d : Dsk.Dk} (h : PDk B w D P R Bn T S O L d) :
    Calls Try.prog 15 #[.pointer (some ⟨D, 0, none⟩)] w (qPost (.bool d.dead) w) := by
  obtain ⟨⟨K, v, hr, hc, hf⟩, hvl, hlow⟩ := h
  have a15 := hr.oths.2.2.2.2.2
  obtain ⟨q, hq⟩ : ∃ q, d.dead = q := ⟨_, rfl⟩
  rw [hq] at a15 ⊢
  clear hq
  clear hr hc hf hvl hlow
  go_enter Try.func15, Try.ntmps15
  go_wp2_with fail
  go_ret
  exact ⟨rfl, rfl⟩
set_option maxHeartbeats 4000000 in
set_option maxRecDepth 100000 in
theorem pops_any {B : Zn} {w : World} {D P R Bn T S O : Nat} {L : List F} {p : Dsk.Pw} {d : Dsk.Dk} (h : PDk B w D P R Bn T S O L d) :
    Calls Try.prog 16 #[.pointer (some ⟨D, 0, none⟩)] w (qPost (.int .i64 (d.count : Int)) w) := by
  obtain ⟨⟨K, v, hr, hc, hf⟩, hvl, hlow⟩ := h
  have a0 := hr.nums.1
  clear hr hc hf hvl hlow
  go_enter Try.func16, Try.ntmps16
  go_wp2_with fail
  go_ret
  exact ⟨rfl, rfl⟩
set_option maxHeartbeats 4000000 in
set_option maxRecDepth 100000 in
theorem ppend_any {B : Zn} {w : World} {D P R Bn T S O : Nat} {L : List F} {p : Dsk.Pw} {d : Dsk.Dk} (h : PDk B w D P R Bn T S O L d) :
    Calls Try.prog 17 #[.pointer (some ⟨D, 0, none⟩)] w (qPost (.int .i64 (d.ops.length : Int)) w) := by
  obtain ⟨⟨K, v, hr, hc, hf⟩, hvl, hlow⟩ := h
  have a10 := hr.oths.1
  have C := Lib.hid (cpe_any hc)
  obtain ⟨q, hq⟩ : ∃ q, d.ops.length = q := ⟨_, rfl⟩
  rw [hq] at C ⊢
  clear hq
  clear hr hc hf hvl hlow
  go_enter Try.func17, Try.ntmps17
  go_wp2_with fail
  refine C.out.mono ?_
  rintro e w1 ⟨rfl, rfl⟩
  clear C
  go_wp2_with fail
  go_ret
  exact ⟨rfl, rfl⟩
set_option maxHeartbeats 4000000 in
set_option maxRecDepth 100000 in
theorem pstat_any {B : Zn} {w : World} {D P R Bn T S O : Nat} {L : List F} {p : Dsk.Pw} {d : Dsk.Dk} (h : PDk B w D P R Bn T S O L d) (a : Int) :
    Calls Try.prog 18 #[.pointer (some ⟨D, 0, none⟩), .int .i64 a] w (qPost (.int .i64 (st (Dsk.cont R Bn T S O d) a)) w) := by
  obtain ⟨⟨K, v, hr, hc, hf⟩, hvl, hlow⟩ := h
  have a10 := hr.oths.1
  have C := Lib.hid (cst_any hc a)
  rw [show Med.play R Bn T S O d.l d.ops = Dsk.cont R Bn T S O d from rfl] at C
  obtain ⟨q, hq⟩ : ∃ q, st (Dsk.cont R Bn T S O d) a = q := ⟨_, rfl⟩
  rw [hq] at C ⊢
  clear hq
  clear hr hc hf hvl hlow
  go_enter Try.func18, Try.ntmps18
  go_wp2_with fail
  refine C.out.mono ?_
  rintro e w1 ⟨rfl, rfl⟩
  clear C
  go_wp2_with fail
  go_ret
  exact ⟨rfl, rfl⟩
set_option maxHeartbeats 4000000 in
set_option maxRecDepth 100000 in
theorem pgeo14_any {B : Zn} {w : World} {D P R Bn T S O : Nat} {L : List F} {p : Dsk.Pw} {d : Dsk.Dk} (h : PDk B w D P R Bn T S O L d) : Calls Try.prog 14 #[.pointer (some ⟨D, 0, none⟩)] w (gPost (.agg #[.int .i64 (R : Int), .int .i64 (Bn : Int), .int .i64 (T : Int), .int .i64 (S : Int), .int .i64 (O : Int)]) w) := by
  obtain ⟨⟨K, v, hr, hc, hf⟩, hvl, hlow⟩ := h
  obtain ⟨W0, hW0⟩ : ∃ W, w.alloc (.cells #[.int .i64 0, .int .i64 0, .int .i64 0, .int .i64 0, .int .i64 0] 23) = W := ⟨_, rfl⟩
  have RG := Lib.hid (PRow.geo hr)
  obtain ⟨m0, m1, m2, m3, m4⟩ := PRow.geo5 (Row.go hr ((Below.refl _ _).alloc (Nat.le_refl _) (.cells #[.int .i64 0, .int .i64 0, .int .i64 0, .int .i64 0, .int .i64 0] 23)))
  clear hr hc hf hvl hlow hW0
  go_enter Try.func14, Try.ntmps14
  go_wp2_with fail
  refine bodyPost_ret (results_cell_row (g := w.heap.size) (t := 23) (fr := (0, 0)) rfl _ _ _ _ rfl (gr_new w #[.int .i64 (R : Int), .int .i64 (Bn : Int), .int .i64 (T : Int), .int .i64 (S : Int), .int .i64 (O : Int)] _ rfl) Try.underlying23 rfl (by kernel_rfl)) rfl ?_
  exact ⟨rfl, (Below.refl _ _).alloc (Nat.le_refl _) _⟩
set_option maxHeartbeats 4000000 in
set_option maxRecDepth 100000 in
theorem pstats_any {B : Zn} {w : World} {D P R Bn T S O : Nat} {L : List F} {p : Dsk.Pw} {d : Dsk.Dk} (h : PDk B w D P R Bn T S O L d) : Calls Try.prog 19 #[.pointer (some ⟨D, 0, none⟩)] w (gPost (.agg #[.int .i64 (d.rs : Int), .int .i64 (d.ws : Int), .int .i64 (d.es : Int), .int .i64 (d.fs : Int)]) w) := by
  obtain ⟨⟨K, v, hr, hc, hf⟩, hvl, hlow⟩ := h
  obtain ⟨b4, e4⟩ : ∃ b, w.heap.size = b := ⟨_, rfl⟩
  obtain ⟨W0, hW0⟩ : ∃ W, w.alloc (.cells #[.int .i64 0, .int .i64 0, .int .i64 0, .int .i64 0] 39) = W := ⟨_, rfl⟩
  have B0 : Below w.heap.size w W0 := by subst hW0; exact (Below.refl _ _).alloc (Nat.le_refl _) _
  have R4 : Hid (Row W0 b4 39 #[.int .i64 0, .int .i64 0, .int .i64 0, .int .i64 0]) := Lib.hid (by subst hW0; exact gr_new w _ _ e4)
  obtain ⟨-, m1, m2, m3, m4⟩ := PRow.nums (Row.go hr B0)
  have BH := Lib.hid B0
  have E4 := Lib.hid e4
  have HW0 := Lib.hid hW0
  clear hr hc hf hvl hlow hW0 e4 B0
  go_enter Try.func19, Try.ntmps19
  go_wp2_with (first | rw [HW0.out, E4.out])
  refine wp_region_still_tail 25 (by kernel_rfl) (by kernel_rfl) ?_
  simp only [List.take_succ_cons, List.take_zero, List.drop_succ_cons, List.drop_zero]
  repeat still_step
  refine wpStill_nil ?_
  change wpList _ _ _ _ _ W0.drew
  have f0 := R4.out.frozen 0
  have f1 := R4.out.frozen 1
  have f2 := R4.out.frozen 2
  have f3 := R4.out.frozen 3
  have g0 : W0.cell? ⟨b4, 0, none⟩ = some (.int .i64 0) := by rw [R4.out.cell]; rfl
  have g1 : W0.cell? ⟨b4, 1, none⟩ = some (.int .i64 0) := by rw [R4.out.cell]; rfl
  have g2 : W0.cell? ⟨b4, 2, none⟩ = some (.int .i64 0) := by rw [R4.out.cell]; rfl
  have g3 : W0.cell? ⟨b4, 3, none⟩ = some (.int .i64 0) := by rw [R4.out.cell]; rfl
  go_wp2_with fail
  refine bodyPost_ret (results_cell_row (g := b4) (t := 39) (fr := (0, 0)) rfl _ _ _ _ rfl ((((Row.store (w := W0.drew) R4.out 0 _).store 1 _).store 2 _).store 3 _) Try.underlying39 rfl (by kernel_rfl)) rfl ?_
  refine ⟨rfl, ?_⟩
  have hb : w.heap.size ≤ b4 := Nat.le_of_eq E4.out
  exact ((((BH.out.drew).setCell (p := ⟨b4, 0, none⟩) hb _).setCell (p := ⟨b4, 1, none⟩) hb _).setCell (p := ⟨b4, 2, none⟩) hb _).setCell (p := ⟨b4, 3, none⟩) hb _
set_option maxHeartbeats 4000000 in
set_option maxRecDepth 100000 in
theorem pkill_nil (w : World) : Calls Try.prog 35 #[.pointer none] w (q0Post w) := by
  go_enter Try.func35, Try.ntmps35
  go_wp2_with fail
  go_end0
  exact ⟨⟨_, rfl⟩, rfl⟩
set_option maxHeartbeats 4000000 in
set_option maxRecDepth 100000 in
theorem pdead_nil (w : World) : Calls Try.prog 15 #[.pointer none] w (qPost (.bool false) w) := by
  go_enter Try.func15, Try.ntmps15
  go_wp2_with fail
  go_ret
  exact ⟨rfl, rfl⟩
set_option maxHeartbeats 4000000 in
set_option maxRecDepth 100000 in
theorem pops_nil (w : World) : Calls Try.prog 16 #[.pointer none] w (qPost (.int .i64 0) w) := by
  go_enter Try.func16, Try.ntmps16
  go_wp2_with fail
  go_ret
  exact ⟨rfl, rfl⟩
set_option maxHeartbeats 4000000 in
set_option maxRecDepth 100000 in
theorem ppend_nil (w : World) : Calls Try.prog 17 #[.pointer none] w (qPost (.int .i64 0) w) := by
  go_enter Try.func17, Try.ntmps17
  go_wp2_with fail
  go_ret
  exact ⟨rfl, rfl⟩
set_option maxHeartbeats 4000000 in
set_option maxRecDepth 100000 in
theorem pstat_nil (a : Int) (w : World) : Calls Try.prog 18 #[.pointer none, .int .i64 a] w (qPost (.int .i64 0) w) := by
  go_enter Try.func18, Try.ntmps18
  go_wp2_with fail
  go_ret
  exact ⟨rfl, rfl⟩
set_option maxHeartbeats 4000000 in
set_option maxRecDepth 100000 in
theorem prs14_nil (a : Int) (w : World) : Calls Try.prog 28 #[.pointer none, .int .i64 a] w (qPost (.int .i64 8) w) := by
  go_enter Try.func28, Try.ntmps28
  go_wp2_with fail
  go_ret
  exact ⟨rfl, rfl⟩
set_option maxHeartbeats 4000000 in
set_option maxRecDepth 100000 in
theorem prfs_nil (w : World) : Calls Try.prog 63 #[.pointer none] w (qPost (.int .i64 8) w) := by
  go_enter Try.func63, Try.ntmps63
  go_wp2_with fail
  go_ret
  exact ⟨rfl, rfl⟩
set_option maxHeartbeats 4000000 in
set_option maxRecDepth 100000 in
theorem pgeo14_nil (w : World) : Calls Try.prog 14 #[.pointer none] w (gPost (.agg #[.int .i64 0, .int .i64 0, .int .i64 0, .int .i64 0, .int .i64 0]) w) := by
  go_enter Try.func14, Try.ntmps14
  go_wp2_with fail
  refine bodyPost_ret (results_cell_row (g := w.heap.size) (t := 23) (fr := (0, 0)) rfl _ _ _ _ rfl (gr_new w #[.int .i64 0, .int .i64 0, .int .i64 0, .int .i64 0, .int .i64 0] _ rfl) Try.underlying23 rfl (by kernel_rfl)) rfl ?_
  exact ⟨rfl, (Below.refl _ _).alloc (Nat.le_refl _) _⟩
set_option maxHeartbeats 4000000 in
set_option maxRecDepth 100000 in
theorem pstats_nil (w : World) : Calls Try.prog 19 #[.pointer none] w (gPost (.agg #[.int .i64 0, .int .i64 0, .int .i64 0, .int .i64 0]) w) := by
  go_enter Try.func19, Try.ntmps19
  go_wp2_with fail
  refine bodyPost_ret (results_cell_row (g := w.heap.size) (t := 39) (fr := (0, 0)) rfl _ _ _ _ rfl (gr_new w #[.int .i64 0, .int .i64 0, .int .i64 0, .int .i64 0] _ rfl) Try.underlying39 rfl (by kernel_rfl)) rfl ?_
  exact ⟨rfl, (Below.refl _ _).alloc (Nat.le_refl _) _⟩
set_option maxHeartbeats 4000000 in
set_option maxRecDepth 100000 in
theorem pacq_nil (key : Nat) (w : World) : Calls Try.prog 33 #[.pointer none, .int .u64 (key : Int)] w (qPost (.int .i64 8) w) := by
  have RF := Lib.hid (prfs_nil w)
  go_enter Try.func33, Try.ntmps33
  go_wp2_with fail
  refine RF.out.mono ?_
  rintro e w1 ⟨rfl, rfl⟩
  clear RF
  go_wp2_with fail
  go_ret
  exact ⟨rfl, rfl⟩
set_option maxHeartbeats 4000000 in
set_option maxRecDepth 100000 in
theorem pop_nil (key : Nat) (j : Int) (k : Nat) (caps : Array Value) (w : World) : Calls Try.prog 57 #[.pointer none, .int .u64 (key : Int), .int .i64 j, .func (.func k) #[] caps] w (qPost (.int .i64 8) w) := by
  have RF := Lib.hid (prfs_nil w)
  go_enter Try.func57, Try.ntmps57
  go_wp2_with fail
  refine RF.out.mono ?_
  rintro e w1 ⟨rfl, rfl⟩
  clear RF
  go_wp2_with fail
  go_ret
  exact ⟨rfl, rfl⟩
set_option maxHeartbeats 4000000 in
set_option maxRecDepth 100000 in
theorem pfl14_nil (key : Nat) (w : World) : Calls Try.prog 34 #[.pointer none, .int .u64 (key : Int)] w (gPost (.int .i64 8) w) := by
  obtain ⟨b0, hb0⟩ : ∃ b, w.heap.size = b := ⟨_, rfl⟩
  obtain ⟨W0, hW0⟩ : ∃ q, w.alloc (.cells #[.pointer none] 30) = q := ⟨_, rfl⟩
  have B0 : Below w.heap.size w W0 := by subst hW0; exact (Below.refl _ _).alloc (Nat.le_refl _) _
  have R0 : Row W0 b0 30 #[.pointer none] := by subst hW0; exact gr_new w _ _ hb0
  have c0 : W0.cell? ⟨b0, 0, none⟩ = some (.pointer none) := by rw [Row.cell R0]; rfl
  have BB := Lib.hid (show Below w.heap.size w W0 from B0)
  have OP := Lib.hid (pop_nil key 3 64 #[.pointer (some ⟨b0, 0, none⟩)] W0)
  have HB0 := Lib.hid hb0
  have HW0 := Lib.hid hW0
  clear hb0 hW0 B0 R0
  go_enter Try.func34, Try.ntmps34
  go_wp2_with (first | rw [HB0.out] | rw [HW0.out])
  refine OP.out.mono ?_
  rintro e w1 ⟨rfl, rfl⟩
  clear OP
  go_wp2_with fail
  go_ret
  exact ⟨rfl, BB.out⟩
set_option maxHeartbeats 4000000 in
set_option maxRecDepth 100000 in
theorem per14_nil (key : Nat) (a : Int) (w : World) : Calls Try.prog 37 #[.pointer none, .int .u64 (key : Int), .int .i64 a] w (gPost (.int .i64 8) w) := by
  obtain ⟨b0, hb0⟩ : ∃ b, w.heap.size = b := ⟨_, rfl⟩
  obtain ⟨W0, hW0⟩ : ∃ q, w.alloc (.cells #[.pointer none] 30) = q := ⟨_, rfl⟩
  have B0 : Below w.heap.size w W0 := by subst hW0; exact (Below.refl _ _).alloc (Nat.le_refl _) _
  have R0 : Row W0 b0 30 #[.pointer none] := by subst hW0; exact gr_new w _ _ hb0
  obtain ⟨b1, hb1⟩ : ∃ b, W0.heap.size = b := ⟨_, rfl⟩
  obtain ⟨W1, hW1⟩ : ∃ q, W0.alloc (.cells #[.int .i64 a] 3) = q := ⟨_, rfl⟩
  have B1 : Below W0.heap.size W0 W1 := by subst hW1; exact (Below.refl _ _).alloc (Nat.le_refl _) _
  have R1 : Row W1 b1 3 #[.int .i64 a] := by subst hW1; exact gr_new W0 _ _ hb1
  have c0 : W1.cell? ⟨b0, 0, none⟩ = some (.pointer none) := by rw [Row.cell (Row.go R0 B1)]; rfl
  have BB := Lib.hid (show Below w.heap.size w W1 from (Below.trans B0 (B1.mono B0.size)))
  have OP := Lib.hid (pop_nil key 2 68 #[.pointer (some ⟨b0, 0, none⟩), .pointer (some ⟨b1, 0, none⟩)] W1)
  have HB0 := Lib.hid hb0
  have HW0 := Lib.hid hW0
  have HB1 := Lib.hid hb1
  have HW1 := Lib.hid hW1
  clear hb0 hW0 B0 R0 hb1 hW1 B1 R1
  go_enter Try.func37, Try.ntmps37
  go_wp2_with (first | rw [HB0.out] | rw [HW0.out] | rw [HB1.out] | rw [HW1.out])
  refine OP.out.mono ?_
  rintro e w1 ⟨rfl, rfl⟩
  clear OP
  go_wp2_with fail
  go_ret
  exact ⟨rfl, BB.out⟩
set_option maxHeartbeats 4000000 in
set_option maxRecDepth 100000 in
theorem prd14_nil (key : Nat) (a : Int) (w : World) : Calls Try.prog 31 #[.pointer none, .int .u64 (key : Int), .int .i64 a] w (gPost (.tuple #[.slice none 0 0, .int .i64 8]) w) := by
  obtain ⟨b0, hb0⟩ : ∃ b, w.heap.size = b := ⟨_, rfl⟩
  obtain ⟨W0, hW0⟩ : ∃ q, w.alloc (.cells #[.pointer none] 30) = q := ⟨_, rfl⟩
  have B0 : Below w.heap.size w W0 := by subst hW0; exact (Below.refl _ _).alloc (Nat.le_refl _) _
  have R0 : Row W0 b0 30 #[.pointer none] := by subst hW0; exact gr_new w _ _ hb0
  obtain ⟨b1, hb1⟩ : ∃ b, W0.heap.size = b := ⟨_, rfl⟩
  obtain ⟨W1, hW1⟩ : ∃ q, W0.alloc (.cells #[.int .i64 a] 3) = q := ⟨_, rfl⟩
  have B1 : Below W0.heap.size W0 W1 := by subst hW1; exact (Below.refl _ _).alloc (Nat.le_refl _) _
  have R1 : Row W1 b1 3 #[.int .i64 a] := by subst hW1; exact gr_new W0 _ _ hb1
  obtain ⟨b2, hb2⟩ : ∃ b, W1.heap.size = b := ⟨_, rfl⟩
  obtain ⟨W2, hW2⟩ : ∃ q, W1.alloc (.cells #[.slice none 0 0] 60) = q := ⟨_, rfl⟩
  have B2 : Below W1.heap.size W1 W2 := by subst hW2; exact (Below.refl _ _).alloc (Nat.le_refl _) _
  have R2 : Row W2 b2 60 #[.slice none 0 0] := by subst hW2; exact gr_new W1 _ _ hb2
  have c0 : W2.cell? ⟨b0, 0, none⟩ = some (.pointer none) := by rw [Row.cell (Row.go (Row.go R0 B1) B2)]; rfl
  have BB := Lib.hid (show Below w.heap.size w W2 from (Below.trans (Below.trans B0 (B1.mono B0.size)) (B2.mono (Nat.le_trans B0.size B1.size))))
  have c2 : W2.cell? ⟨b2, 0, none⟩ = some (.slice none 0 0) := by rw [R2.cell]; rfl
  have OP := Lib.hid (pop_nil key 0 58 #[.pointer (some ⟨b0, 0, none⟩), .pointer (some ⟨b1, 0, none⟩), .pointer (some ⟨b2, 0, none⟩)] W2)
  have HB0 := Lib.hid hb0
  have HW0 := Lib.hid hW0
  have HB1 := Lib.hid hb1
  have HW1 := Lib.hid hW1
  have HB2 := Lib.hid hb2
  have HW2 := Lib.hid hW2
  clear hb0 hW0 B0 R0 hb1 hW1 B1 R1 hb2 hW2 B2 R2
  go_enter Try.func31, Try.ntmps31
  go_wp2_with (first | rw [HB0.out] | rw [HW0.out] | rw [HB1.out] | rw [HW1.out] | rw [HB2.out] | rw [HW2.out])
  refine OP.out.mono ?_
  rintro e w1 ⟨rfl, rfl⟩
  clear OP
  go_wp2_with fail
  refine bodyPost_ret (results_tmp2 rfl _ _ _) rfl ?_
  exact ⟨rfl, BB.out⟩
set_option maxHeartbeats 4000000 in
set_option maxRecDepth 100000 in
theorem pwr14_nil (key : Nat) (a : Int)  (force : Bool) (w : World) : Calls Try.prog 36 #[.pointer none, .int .u64 (key : Int), .int .i64 a, .slice none 0 0, .bool force] w (gPost (.int .i64 8) w) := by
  obtain ⟨b0, hb0⟩ : ∃ b, w.heap.size = b := ⟨_, rfl⟩
  obtain ⟨W0, hW0⟩ : ∃ q, w.alloc (.cells #[.pointer none] 30) = q := ⟨_, rfl⟩
  have B0 : Below w.heap.size w W0 := by subst hW0; exact (Below.refl _ _).alloc (Nat.le_refl _) _
  have R0 : Row W0 b0 30 #[.pointer none] := by subst hW0; exact gr_new w _ _ hb0
  obtain ⟨b1, hb1⟩ : ∃ b, W0.heap.size = b := ⟨_, rfl⟩
  obtain ⟨W1, hW1⟩ : ∃ q, W0.alloc (.cells #[.int .i64 a] 3) = q := ⟨_, rfl⟩
  have B1 : Below W0.heap.size W0 W1 := by subst hW1; exact (Below.refl _ _).alloc (Nat.le_refl _) _
  have R1 : Row W1 b1 3 #[.int .i64 a] := by subst hW1; exact gr_new W0 _ _ hb1
  obtain ⟨b2, hb2⟩ : ∃ b, W1.heap.size = b := ⟨_, rfl⟩
  obtain ⟨W2, hW2⟩ : ∃ q, W1.alloc (.cells #[.slice none 0 0] 60) = q := ⟨_, rfl⟩
  have B2 : Below W1.heap.size W1 W2 := by subst hW2; exact (Below.refl _ _).alloc (Nat.le_refl _) _
  have R2 : Row W2 b2 60 #[.slice none 0 0] := by subst hW2; exact gr_new W1 _ _ hb2
  obtain ⟨b3, hb3⟩ : ∃ b, W2.heap.size = b := ⟨_, rfl⟩
  obtain ⟨W3, hW3⟩ : ∃ q, W2.alloc (.cells #[.bool force] 4) = q := ⟨_, rfl⟩
  have B3 : Below W2.heap.size W2 W3 := by subst hW3; exact (Below.refl _ _).alloc (Nat.le_refl _) _
  have R3 : Row W3 b3 4 #[.bool force] := by subst hW3; exact gr_new W2 _ _ hb3
  have c0 : W3.cell? ⟨b0, 0, none⟩ = some (.pointer none) := by rw [Row.cell (Row.go (Row.go (Row.go R0 B1) B2) B3)]; rfl
  have BB := Lib.hid (show Below w.heap.size w W3 from (Below.trans (Below.trans (Below.trans B0 (B1.mono B0.size)) (B2.mono (Nat.le_trans B0.size B1.size))) (B3.mono (Nat.le_trans (Nat.le_trans B0.size B1.size) B2.size))))
  have OP := Lib.hid (pop_nil key 1 66 #[.pointer (some ⟨b0, 0, none⟩), .pointer (some ⟨b1, 0, none⟩), .pointer (some ⟨b2, 0, none⟩), .pointer (some ⟨b3, 0, none⟩)] W3)
  have HB0 := Lib.hid hb0
  have HW0 := Lib.hid hW0
  have HB1 := Lib.hid hb1
  have HW1 := Lib.hid hW1
  have HB2 := Lib.hid hb2
  have HW2 := Lib.hid hW2
  have HB3 := Lib.hid hb3
  have HW3 := Lib.hid hW3
  clear hb0 hW0 B0 R0 hb1 hW1 B1 R1 hb2 hW2 B2 R2 hb3 hW3 B3 R3
  go_enter Try.func36, Try.ntmps36
  go_wp2_with (first | rw [HB0.out] | rw [HW0.out] | rw [HB1.out] | rw [HW1.out] | rw [HB2.out] | rw [HW2.out] | rw [HB3.out] | rw [HW3.out])
  refine OP.out.mono ?_
  rintro e w1 ⟨rfl, rfl⟩
  clear OP
  go_wp2_with fail
  go_ret
  exact ⟨rfl, BB.out⟩
end Go.Proofs.Ytdjjihppaobbcaa

