/- Caches: settle, Flush, Cut. WRITTEN BY gen_Ccg.py. -/
import Derived.Test.YtbaclcpnnompnaaCcf
namespace Go.Proofs.Ytbaclcpnnompnaa
open Go Go.RowKit Med
set_option linter.unusedVariables false
set_option linter.unusedSimpArgs false
/-- The first k pending operations. -/
theorem slice_F (p : Option Addr) (m c k : Nat) (hk : k ≤ m) (hm : m ≤ c) : ∃ q d, (∀ w, (Instr.slice 74 (.slice p m c) none (some (.int .i64 (k : Int))) none).run Try.prog w = .ok (.slice q k d) w) ∧ (∀ w, (Instr.sliceAt 74 (.slice p m c) none (some (.int .i64 (k : Int))) none).run Try.prog w = .ok (.slice q k d) w) ∧
    ∀ g, p = some ⟨g, 0, none⟩ → 0 < c → q = some ⟨g, 0, none⟩ := by
  have hel : Try.prog.elem 74 = 79 := by kernel_rfl
  have hu : Try.prog.underlying 74 = some (.slice (Try.prog.elem 74)) := by rw [hel]; exact Try.underlying74
  obtain ⟨i, hi, hzz⟩ := Option.map_eq_some_iff.1 info_fn
  simp only [Prod.mk.injEq] at hzz
  have key : ∀ w, (Instr.slice 74 (.slice p m c) none (some (.int .i64 (k : Int))) none).run Try.prog w = .ok (sliced p 0 k c 1) w := fun w => by
    rw [run_slice_h w 74 p m c hu .i64 (k : Int) (by omega) (by omega), hel]
    simp [sizeOf, typeInfo, hi, hzz.2.1, Result.andThen]
  refine ⟨if c = 0 then p else p.map (fun a => Addr.add a (0 * 1)), c, key, fun w => by rw [run_sliceAt_slice w _ _ _ _ _ hu]; exact key w, fun g hp h0 => ?_⟩
  rw [if_neg (by omega), hp]
  rfl
def sePost (B K D X c C Y d R Bn T S O : Nat) (l : List Sec) (ops : List Med.Op) (n : Nat) (w : World) (e : Ending) (w' : World) : Prop :=
  (∃ u, e = .returned u) ∧ Row w' K 76 #[.pointer (some ⟨D, 0, none⟩), .slice none 0 0, .pointer (some ⟨C, 0, none⟩)] ∧ PMd w' D X c R Bn T S O (Med.play R Bn T S O l (ops.take n)) ∧ PMd w' C Y d R Bn T S O (Med.play R Bn T S O l ops) ∧ Tch B tyP w w'
/-- What stands while operations are carried out on block X. -/
theorem Ca.during {B : Nat} {w w1 : World} {K D X c C Y d R Bn T S O : Nat} {v : Value} {l : List Sec} {ops : List Med.Op} (h : Ca B w K D X c C Y d R Bn T S O v l ops) (hc : Chg (fun j => j = X) w w1) :
    Tch B [81] w w1 ∧ Row w1 K 76 #[.pointer (some ⟨D, 0, none⟩), v, .pointer (some ⟨C, 0, none⟩)] ∧ PMd w1 C Y d R Bn T S O (Med.play R Bn T S O l ops) ∧ Fl B w1 v ops := by
  have t : Tch B [81] w w1 := Tch.of_one hc h.low.2.1 h.du.sx.ty (by simp)
  exact ⟨t, h.row.tch t (by decide), h.co.chg hc (fun e => ((h.co.row.ty).ne h.du.sx.ty (by decide)) e) (fun e => h.ne e.symm), h.fl.tch t (by unfold NoCap; decide) (by decide)⟩
set_option maxHeartbeats 4000000 in
set_option maxRecDepth 100000 in
theorem cse_any {B : Nat} {w : World} {K D X c C Y d R Bn T S O : Nat} {v : Value} {l : List Sec} {ops : List Med.Op} (h : Ca B w K D X c C Y d R Bn T S O v l ops) (n : Nat) (hn : n ≤ ops.length) :
    Calls Try.prog 42 #[.pointer (some ⟨K, 0, none⟩), .int .i64 (n : Int)] w (sePost B K D X c C Y d R Bn T S O l ops n w) := by
  obtain ⟨c0, c1, c2⟩ := h.cells
  obtain ⟨p, cap, rfl, hl, hm⟩ := h.fl.form
  obtain ⟨N, hN⟩ : ∃ N, ops.length = N := ⟨_, rfl⟩
  rw [hN] at h c1 hl hn
  obtain ⟨q, dd, sa, sb, sc⟩ := slice_F p N cap n hn hl
  have H := Lib.hid h
  have EN := Lib.hid hN
  have NN := Lib.hid hn
  have NI := Lib.hid (show n ≤ 9223372036854775807 from by unfold maxLen at hm; omega)
  have PQ : Hid (∀ g, p = some ⟨g, 0, none⟩ → 0 < n → q = some ⟨g, 0, none⟩) := Lib.hid fun g hg h0 => sc g hg (by omega)
  clear h hN hm hn sc hl c0 c2
  go_enter Try.func42, Try.ntmps42
  go_wp2_with fail
  clear c1 sa sb
  go_loopw [13] (fun i wr => ∃ k : Nat, k ≤ n ∧ i = .int .i64 (k : Int) ∧ Hid (PMd wr D X c R Bn T S O (Med.play R Bn T S O l (ops.take k)) ∧ Chg (fun j => j = X) w wr)) (fun i _ => n - (intOf i).toNat)
  case atStart => exact ⟨0, Nat.zero_le _, rfl, Lib.hid ⟨H.out.du, Chg.refl _ _⟩⟩
  case round =>
    obtain ⟨k, hk, rfl, V⟩ := hrel
    have nb := NI.out
    by_cases hlt : k < n
    · have kI : (k : Int) < (n : Int) := by omega
      have hk2 : k < ops.length := by have := EN.out; have := NN.out; omega
      obtain ⟨t1, r1, -, fl1⟩ := H.out.during V.out.2
      obtain ⟨g, u, rfl, cu, fo⟩ := fl1.at_ hk2
      obtain rfl := PQ.out g rfl (by omega)
      have PK := Lib.hid (play_take R Bn T S O l ops hk2)
      have c0 : wr.cell? ⟨K, 0, none⟩ = some (.pointer (some ⟨D, 0, none⟩)) := by rw [r1.cell]; rfl
      obtain ⟨lk, hlk⟩ : ∃ x, Med.play R Bn T S O l (ops.take k) = x := ⟨_, rfl⟩
      rw [hlk] at V PK
      obtain ⟨o, ho⟩ : ∃ o, ops[k] = o := ⟨_, rfl⟩
      rw [ho] at PK fo
      clear hlk ho t1 r1 fl1 hk2
      rcases fo with ⟨h0, b, rfl, h1⟩ | ⟨h0, b, kk, u, rfl, h1, h2, h3⟩
      · have E := Lib.hid (er1_op V.out.1 o b h0 h1)
        have VC := Lib.hid V.out.2
        clear h0 h1 V
        unfold opPost at E
        unfold erV at cu
        go_wp2_with fail
        refine E.out.mono ?_
        rintro e w1 ⟨rfl, hm, hc⟩
        have P1 := Lib.hid hm
        have C1 := Lib.hid (VC.out.trans hc)
        clear hm hc E
        generalize opE Bn lk o = z at *
        go_wp2_with fail
        go_roundw
        case rel => exact ⟨k + 1, by omega, by go_num, Lib.hid ⟨by rw [PK.out]; exact P1.out, C1.out⟩⟩
        case measure => simp [intOf]; omega
      · have E := Lib.hid (wr1_op V.out.1 o b kk u h0 h1 h2 h3.1)
        have VC := Lib.hid V.out.2
        clear h0 h1 h2 h3 V
        unfold opPost at E
        unfold wrV at cu
        go_wp2_with fail
        refine E.out.mono ?_
        rintro e w1 ⟨rfl, hm, hc⟩
        have P1 := Lib.hid hm
        have C1 := Lib.hid (VC.out.trans hc)
        clear hm hc E
        generalize opE Bn lk o = z at *
        go_wp2_with fail
        go_roundw
        case rel => exact ⟨k + 1, by omega, by go_num, Lib.hid ⟨by rw [PK.out]; exact P1.out, C1.out⟩⟩
        case measure => simp [intOf]; omega
    · obtain rfl : k = n := by omega
      have kI : ¬ (k : Int) < (k : Int) := by omega
      have dk : decide ((k : Int) < (k : Int)) = false := decide_eq_false kI
      obtain ⟨t1, r1, co1, -⟩ := H.out.during V.out.2
      have T1 := Lib.hid t1
      have R1 := Lib.hid r1
      have CO := Lib.hid co1
      have c1 : wr.cell? ⟨K, 1, none⟩ = some (.slice p N cap) := by rw [r1.cell]; rfl
      have f1 := r1.frozen 1
      clear t1 r1 co1
      go_wp2_with fail
      go_end0
      have ts : Tch B [76] wr (wr.setCell ⟨K, 1, none⟩ (.slice none 0 0)) := (Tch.refl _ _ _).set H.out.low.1 R1.out.ty (by simp) _
      exact ⟨⟨_, rfl⟩, R1.out.store 1 _, Md.tch ts V.out.1 (by decide) (by decide), Md.tch ts CO.out (by decide) (by decide), (tch_sub T1.out (by decide)).trans (tch_sub ts (by decide))⟩
def fuPost (B K R Bn T S O : Nat) (l : List Sec) (w : World) (e : Ending) (w' : World) : Prop := (∃ u, e = .returned u) ∧ Ce B w' K R Bn T S O l [] ∧ Tch B tyP w w'
set_option maxHeartbeats 4000000 in
set_option maxRecDepth 100000 in
theorem cfl_any {B : Nat} {w : World} {K R Bn T S O : Nat} {l : List Sec} {ops : List Med.Op} (h : Ce B w K R Bn T S O l ops) : Calls Try.prog 14 #[.pointer (some ⟨K, 0, none⟩)] w (fuPost B K R Bn T S O (Med.play R Bn T S O l ops) w) := by
  obtain ⟨D, X, c, C, Y, d, v, h⟩ := h
  obtain ⟨c0, c1, c2⟩ := h.cells
  have E := Lib.hid (cse_any h ops.length (Nat.le_refl _))
  have LOW := Lib.hid h.low
  have NE := Lib.hid h.ne
  obtain ⟨p, cap, rfl, hl, hm⟩ := h.fl.form
  have TL := Lib.hid (List.take_length (l := ops))
  clear h hl hm c0 c2
  obtain ⟨n, hn⟩ : ∃ n, ops.length = n := ⟨_, rfl⟩
  rw [hn] at E TL c1
  clear hn
  go_enter Try.func14, Try.ntmps14
  go_wp2_with fail
  refine E.out.mono ?_
  rintro e w1 ⟨⟨u, rfl⟩, hq⟩
  have Q := Lib.hid hq
  clear hq E
  go_wp2_with fail
  go_end0
  obtain ⟨r1, du, co, t⟩ := Q.out
  rw [TL.out] at du
  exact ⟨⟨_, rfl⟩, ⟨D, X, c, C, Y, d, _, r1, du, co, NE.out, Fl.nil_ _ _, LOW.out⟩, t⟩
set_option maxHeartbeats 4000000 in
set_option maxRecDepth 100000 in
theorem ccu_neg {B : Nat} {w : World} {K R Bn T S O : Nat} {l : List Sec} {ops : List Med.Op} (h : Ce B w K R Bn T S O l ops) (x : Int) (hx : x < 0) : Calls Try.prog 17 #[.pointer (some ⟨K, 0, none⟩), .int .i64 x] w (fuPost B K R Bn T S O (Med.play R Bn T S O l (ops.take 0)) w) := by
  obtain ⟨D, X, c, C, Y, d, v, h⟩ := h
  obtain ⟨c0, c1, c2⟩ := h.cells
  have E := Lib.hid (cse_any h 0 (by omega))
  have LOW := Lib.hid h.low
  have KL := Lib.hid h.row.lt
  obtain ⟨p, cap, rfl, hl, hm⟩ := h.fl.form
  clear h hl hm c0 c2
  obtain ⟨N, hN⟩ : ∃ n, ops.length = n := ⟨_, rfl⟩
  obtain ⟨l2, hl2⟩ : ∃ x, Med.play R Bn T S O l (ops.take 0) = x := ⟨_, rfl⟩
  have x0 : ¬ (0 : Int) ≤ x := by omega
  have n0 : (0 : Int) ≤ (N : Int) := by omega
  rw [hN] at c1
  clear hx
  unfold sePost at E
  rw [hl2] at E ⊢
  clear hN hl2
  go_enter Try.func17, Try.ntmps17
  go_wp2_with fail
  refine E.out.mono ?_
  rintro e w1 ⟨⟨u, rfl⟩, hr, hdu, hco, ht⟩
  have R1 := Lib.hid hr
  have DU := Lib.hid hdu
  have T1 := Lib.hid ht
  have E2 := Lib.hid (pcl_any hdu)
  have d0 : w1.cell? ⟨K, 0, none⟩ = some (.pointer (some ⟨D, 0, none⟩)) := by rw [hr.cell]; rfl
  clear hr hdu hco ht E c1
  go_wp2_with fail
  refine E2.out.mono ?_
  rintro e w2 ⟨M2, X2, c2, rfl, hm2, hb2, hw2⟩
  have M2' := Lib.hid hm2
  have B2 := Lib.hid hb2
  have W2 := Lib.hid hw2
  have R2 := Lib.hid (R1.out.go hw2)
  have f2 := R2.out.frozen 2
  have e2 : w2.cell? ⟨K, 2, none⟩ = some (.pointer (some ⟨C, 0, none⟩)) := by rw [R2.out.cell]; rfl
  clear hm2 hb2 hw2 E2 d0
  go_wp2_with fail
  go_end0
  have ts : Tch B [76] w2 (w2.setCell ⟨K, 2, none⟩ (.pointer (some ⟨M2, 0, none⟩))) := (Tch.refl _ _ _).set LOW.out.1 R2.out.ty (by simp) _
  have s1 := T1.out.size
  have xl := DU.out.sx.lt
  have lo := LOW.out
  have kl := KL.out
  have b2 := B2.out
  exact ⟨⟨_, rfl⟩, ⟨D, X, c, M2, X2, c2, _, R2.out.store 2 _, Md.tch ts (DU.out.fw W2.out) (by decide) (by decide), Md.tch ts M2'.out (by decide) (by decide), by omega, Fl.nil_ _ _, by omega⟩, T1.out.trans ((Tch.of_below W2.out _ _).trans (tch_sub ts (by decide)))⟩

set_option maxHeartbeats 4000000 in
set_option maxRecDepth 100000 in
theorem ccu_in {B : Nat} {w : World} {K R Bn T S O : Nat} {l : List Sec} {ops : List Med.Op} (h : Ce B w K R Bn T S O l ops) (k : Nat) (hk : k ≤ ops.length) : Calls Try.prog 17 #[.pointer (some ⟨K, 0, none⟩), .int .i64 (k : Int)] w (fuPost B K R Bn T S O (Med.play R Bn T S O l (ops.take k)) w) := by
  obtain ⟨D, X, c, C, Y, d, v, h⟩ := h
  obtain ⟨c0, c1, c2⟩ := h.cells
  have E := Lib.hid (cse_any h k (by omega))
  have LOW := Lib.hid h.low
  have KL := Lib.hid h.row.lt
  obtain ⟨p, cap, rfl, hl, hm⟩ := h.fl.form
  clear h hl hm c0 c2
  obtain ⟨N, hN⟩ : ∃ n, ops.length = n := ⟨_, rfl⟩
  obtain ⟨l2, hl2⟩ : ∃ x, Med.play R Bn T S O l (ops.take k) = x := ⟨_, rfl⟩
  have x0 : ¬ ((k : Int) < 0) := by omega
  rw [hN] at c1 hk
  have kN : (k : Int) ≤ (N : Int) := by omega
  unfold sePost at E
  rw [hl2] at E ⊢
  clear hN hl2
  go_enter Try.func17, Try.ntmps17
  go_wp2_with fail
  refine E.out.mono ?_
  rintro e w1 ⟨⟨u, rfl⟩, hr, hdu, hco, ht⟩
  have R1 := Lib.hid hr
  have DU := Lib.hid hdu
  have T1 := Lib.hid ht
  have E2 := Lib.hid (pcl_any hdu)
  have d0 : w1.cell? ⟨K, 0, none⟩ = some (.pointer (some ⟨D, 0, none⟩)) := by rw [hr.cell]; rfl
  clear hr hdu hco ht E c1
  go_wp2_with fail
  refine E2.out.mono ?_
  rintro e w2 ⟨M2, X2, c2, rfl, hm2, hb2, hw2⟩
  have M2' := Lib.hid hm2
  have B2 := Lib.hid hb2
  have W2 := Lib.hid hw2
  have R2 := Lib.hid (R1.out.go hw2)
  have f2 := R2.out.frozen 2
  have e2 : w2.cell? ⟨K, 2, none⟩ = some (.pointer (some ⟨C, 0, none⟩)) := by rw [R2.out.cell]; rfl
  clear hm2 hb2 hw2 E2 d0
  go_wp2_with fail
  go_end0
  have ts : Tch B [76] w2 (w2.setCell ⟨K, 2, none⟩ (.pointer (some ⟨M2, 0, none⟩))) := (Tch.refl _ _ _).set LOW.out.1 R2.out.ty (by simp) _
  have s1 := T1.out.size
  have xl := DU.out.sx.lt
  have lo := LOW.out
  have kl := KL.out
  have b2 := B2.out
  exact ⟨⟨_, rfl⟩, ⟨D, X, c, M2, X2, c2, _, R2.out.store 2 _, Md.tch ts (DU.out.fw W2.out) (by decide) (by decide), Md.tch ts M2'.out (by decide) (by decide), by omega, Fl.nil_ _ _, by omega⟩, T1.out.trans ((Tch.of_below W2.out _ _).trans (tch_sub ts (by decide)))⟩

set_option maxHeartbeats 4000000 in
set_option maxRecDepth 100000 in
theorem ccu_all {B : Nat} {w : World} {K R Bn T S O : Nat} {l : List Sec} {ops : List Med.Op} (h : Ce B w K R Bn T S O l ops) (k : Nat) (hk : ops.length < k) : Calls Try.prog 17 #[.pointer (some ⟨K, 0, none⟩), .int .i64 (k : Int)] w (fuPost B K R Bn T S O (Med.play R Bn T S O l (ops.take ops.length)) w) := by
  obtain ⟨D, X, c, C, Y, d, v, h⟩ := h
  obtain ⟨c0, c1, c2⟩ := h.cells
  have E := Lib.hid (cse_any h ops.length (by omega))
  have LOW := Lib.hid h.low
  have KL := Lib.hid h.row.lt
  obtain ⟨p, cap, rfl, hl, hm⟩ := h.fl.form
  clear h hl hm c0 c2
  obtain ⟨N, hN⟩ : ∃ n, ops.length = n := ⟨_, rfl⟩
  obtain ⟨l2, hl2⟩ : ∃ x, Med.play R Bn T S O l (ops.take ops.length) = x := ⟨_, rfl⟩
  have x0 : ¬ ((k : Int) < 0) := by omega
  rw [hN] at c1 hk E
  have kN : ¬ (k : Int) ≤ (N : Int) := by omega
  rw [hN] at hl2 ⊢
  unfold sePost at E
  rw [hl2] at E ⊢
  clear hN hl2
  go_enter Try.func17, Try.ntmps17
  go_wp2_with fail
  refine E.out.mono ?_
  rintro e w1 ⟨⟨u, rfl⟩, hr, hdu, hco, ht⟩
  have R1 := Lib.hid hr
  have DU := Lib.hid hdu
  have T1 := Lib.hid ht
  have E2 := Lib.hid (pcl_any hdu)
  have d0 : w1.cell? ⟨K, 0, none⟩ = some (.pointer (some ⟨D, 0, none⟩)) := by rw [hr.cell]; rfl
  clear hr hdu hco ht E c1
  go_wp2_with fail
  refine E2.out.mono ?_
  rintro e w2 ⟨M2, X2, c2, rfl, hm2, hb2, hw2⟩
  have M2' := Lib.hid hm2
  have B2 := Lib.hid hb2
  have W2 := Lib.hid hw2
  have R2 := Lib.hid (R1.out.go hw2)
  have f2 := R2.out.frozen 2
  have e2 : w2.cell? ⟨K, 2, none⟩ = some (.pointer (some ⟨C, 0, none⟩)) := by rw [R2.out.cell]; rfl
  clear hm2 hb2 hw2 E2 d0
  go_wp2_with fail
  go_end0
  have ts : Tch B [76] w2 (w2.setCell ⟨K, 2, none⟩ (.pointer (some ⟨M2, 0, none⟩))) := (Tch.refl _ _ _).set LOW.out.1 R2.out.ty (by simp) _
  have s1 := T1.out.size
  have xl := DU.out.sx.lt
  have lo := LOW.out
  have kl := KL.out
  have b2 := B2.out
  exact ⟨⟨_, rfl⟩, ⟨D, X, c, M2, X2, c2, _, R2.out.store 2 _, Md.tch ts (DU.out.fw W2.out) (by decide) (by decide), Md.tch ts M2'.out (by decide) (by decide), by omega, Fl.nil_ _ _, by omega⟩, T1.out.trans ((Tch.of_below W2.out _ _).trans (tch_sub ts (by decide)))⟩

end Go.Proofs.Ytbaclcpnnompnaa
