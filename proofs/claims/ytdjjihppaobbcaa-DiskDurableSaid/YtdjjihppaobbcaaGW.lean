/- Joined: Ccg Cch Cci Ccj Cck Ccl. -/
import Derived.Test.YtdjjihppaobbcaaGV
import Derived.Test.YtdjjihppaobbcaaRu
namespace Go.Proofs.Ytdjjihppaobbcaa
open Go Go.RowKit Med
set_option linter.unusedVariables false
set_option linter.unusedSimpArgs false
/-- The first k pending operations. -/
theorem slice_F (p : Option Addr) (m c k : Nat) (hk : k ≤ m) (hm : m ≤ c) : ∃ q d, (∀ w, (Instr.slice 114 (.slice p m c) none (some (.int .i64 (k : Int))) none).run Try.prog w = .ok (.slice q k d) w) ∧ (∀ w, (Instr.sliceAt 114 (.slice p m c) none (some (.int .i64 (k : Int))) none).run Try.prog w = .ok (.slice q k d) w) ∧
    ∀ g, p = some ⟨g, 0, none⟩ → 0 < c → q = some ⟨g, 0, none⟩ := by
  have hel : Try.prog.elem 114 = 138 := by kernel_rfl
  have hu : Try.prog.underlying 114 = some (.slice (Try.prog.elem 114)) := by rw [hel]; exact Try.underlying114
  obtain ⟨i, hi, hzz⟩ := Option.map_eq_some_iff.1 info_fn
  simp only [Prod.mk.injEq] at hzz
  have key : ∀ w, (Instr.slice 114 (.slice p m c) none (some (.int .i64 (k : Int))) none).run Try.prog w = .ok (sliced p 0 k c 1) w := fun w => by
    rw [run_slice_h w 114 p m c hu .i64 (k : Int) (by omega) (by omega), hel]
    simp [sizeOf, typeInfo, hi, hzz.2.1, Result.andThen]
  refine ⟨if c = 0 then p else p.map (fun a => Addr.add a (0 * 1)), c, key, fun w => by rw [run_sliceAt_slice w _ _ _ _ _ hu]; exact key w, fun g hp h0 => ?_⟩
  rw [if_neg (by omega), hp]
  rfl
def sePost (B : Zn) (K D X c C Y d R Bn T S O : Nat) (l : List Sec) (ops : List Med.Op) (n : Nat) (w : World) (e : Ending) (w' : World) : Prop :=
  (∃ u, e = .returned u) ∧ Row w' K 116 #[.pointer (some ⟨D, 0, none⟩), .slice none 0 0, .pointer (some ⟨C, 0, none⟩)] ∧ PMd w' D X c R Bn T S O (Med.play R Bn T S O l (ops.take n)) ∧ PMd w' C Y d R Bn T S O (Med.play R Bn T S O l ops) ∧ Tch B tyP w w'
/-- What stands while operations are carried out on block X. -/
theorem Ca.during {B : Zn} {w w1 : World} {K D X c C Y d R Bn T S O : Nat} {v : Value} {l : List Sec} {ops : List Med.Op} (h : Ca B w K D X c C Y d R Bn T S O v l ops) (hc : Chg (fun j => j = X) w w1) :
    Tch B [135] w w1 ∧ Row w1 K 116 #[.pointer (some ⟨D, 0, none⟩), v, .pointer (some ⟨C, 0, none⟩)] ∧ PMd w1 C Y d R Bn T S O (Med.play R Bn T S O l ops) ∧ Fl B w1 v ops := by
  have t : Tch B [135] w w1 := Tch.of_one hc h.low.2.1 h.du.sx.ty (by simp)
  exact ⟨t, h.row.tch t (by decide), h.co.chg hc (fun e => ((h.co.row.ty).ne h.du.sx.ty (by decide)) e) (fun e => h.ne e.symm), h.fl.tch t (by unfold NoCap; decide) (by decide)⟩
set_option maxHeartbeats 4000000 in
set_option maxRecDepth 100000 in
theorem cse_any {B : Zn} {w : World} {K D X c C Y d R Bn T S O : Nat} {v : Value} {l : List Sec} {ops : List Med.Op} (h : Ca B w K D X c C Y d R Bn T S O v l ops) (n : Nat) (hn : n ≤ ops.length) :
    Calls Try.prog 82 #[.pointer (some ⟨K, 0, none⟩), .int .i64 (n : Int)] w (sePost B K D X c C Y d R Bn T S O l ops n w) := by
  obtain ⟨c0, c1, c2⟩ := h.cells
  obtain ⟨p, cap, rfl, hl, hm⟩ := h.fl.form
  obtain ⟨N, hN⟩ : ∃ N, ops.length = N := ⟨_, rfl⟩
  rw [hN] at h c1 hl hn
  obtain ⟨q, dd, sa, sb, sc⟩ := slice_F p N cap n hn hl
  have H := Lib.hid h
  have EN := Lib.hid hN
  have NN := Lib.hid hn
  have NI := Lib.hid (show n ≤ 9223372036854775807 from by unfold maxLen at hm; omega)
  have PQ : Hid (∀ g, p = some ⟨g, 0, none⟩ → 0 < n → q = some ⟨g, 0, none⟩) := Lib.hid fun g hg h0 => sc g hg (by omega)
  clear h hN hm hn sc hl c0 c2
  go_enter Try.func82, Try.ntmps82
  go_wp2_with fail
  clear c1 sa sb
  go_loopw [13] (fun i wr => ∃ k : Nat, k ≤ n ∧ i = .int .i64 (k : Int) ∧ Hid (PMd wr D X c R Bn T S O (Med.play R Bn T S O l (ops.take k)) ∧ Chg (fun j => j = X) w wr)) (fun i _ => n - (intOf i).toNat)
  case atStart => exact ⟨0, Nat.zero_le _, rfl, Lib.hid ⟨H.out.du, Chg.refl _ _⟩⟩
  case round =>
    obtain ⟨k, hk, rfl, V⟩ := hrel
    have nb := NI.out
    by_cases hlt : k < n
    · have kI : (k : Int) < (n : Int) := by omega
      have hk2 : k < ops.length := by have := EN.out; have := NN.out; omega
      obtain ⟨t1, r1, -, fl1⟩ := H.out.during V.out.2
      obtain ⟨g, u, rfl, cu, fo⟩ := fl1.at_ hk2
      obtain rfl := PQ.out g rfl (by omega)
      have PK := Lib.hid (play_take R Bn T S O l ops hk2)
      have c0 : wr.cell? ⟨K, 0, none⟩ = some (.pointer (some ⟨D, 0, none⟩)) := by rw [r1.cell]; rfl
      obtain ⟨lk, hlk⟩ : ∃ x, Med.play R Bn T S O l (ops.take k) = x := ⟨_, rfl⟩
      rw [hlk] at V PK
      obtain ⟨o, ho⟩ : ∃ o, ops[k] = o := ⟨_, rfl⟩
      rw [ho] at PK fo
      clear hlk ho t1 r1 fl1 hk2
      rcases fo with ⟨h0, b, rfl, h1⟩ | ⟨h0, b, kk, u, rfl, h1, h2, h3⟩
      · have E := Lib.hid (er1_op V.out.1 o b h0 h1)
        have VC := Lib.hid V.out.2
        clear h0 h1 V
        unfold opPost at E
        unfold erV at cu
        go_wp2_with fail
        refine E.out.mono ?_
        rintro e w1 ⟨rfl, hm, hc⟩
        have P1 := Lib.hid hm
        have C1 := Lib.hid (VC.out.trans hc)
        clear hm hc E
        generalize opE Bn lk o = z at *
        go_wp2_with fail
        go_roundw
        case rel => exact ⟨k + 1, by omega, by go_num, Lib.hid ⟨by rw [PK.out]; exact P1.out, C1.out⟩⟩
        case measure => simp [intOf]; omega
      · have E := Lib.hid (wr1_op V.out.1 o b kk u h0 h1 h2 h3.1)
        have VC := Lib.hid V.out.2
        clear h0 h1 h2 h3 V
        unfold opPost at E
        unfold wrV at cu
        go_wp2_with fail
        refine E.out.mono ?_
        rintro e w1 ⟨rfl, hm, hc⟩
        have P1 := Lib.hid hm
        have C1 := Lib.hid (VC.out.trans hc)
        clear hm hc E
        generalize opE Bn lk o = z at *
        go_wp2_with fail
        go_roundw
        case rel => exact ⟨k + 1, by omega, by go_num, Lib.hid ⟨by rw [PK.out]; exact P1.out, C1.out⟩⟩
        case measure => simp [intOf]; omega
    · obtain rfl : k = n := by omega
      have kI : ¬ (k : Int) < (k : Int) := by omega
      have dk : decide ((k : Int) < (k : Int)) = false := decide_eq_false kI
      obtain ⟨t1, r1, co1, -⟩ := H.out.during V.out.2
      have T1 := Lib.hid t1
      have R1 := Lib.hid r1
      have CO := Lib.hid co1
      have c1 : wr.cell? ⟨K, 1, none⟩ = some (.slice p N cap) := by rw [r1.cell]; rfl
      have f1 := r1.frozen 1
      clear t1 r1 co1
      go_wp2_with fail
      go_end0
      have ts : Tch B [116] wr (wr.setCell ⟨K, 1, none⟩ (.slice none 0 0)) := (Tch.refl _ _ _).set H.out.low.1 R1.out.ty (by simp) _
      exact ⟨⟨_, rfl⟩, R1.out.store 1 _, Md.tch ts V.out.1 (by decide) (by decide), Md.tch ts CO.out (by decide) (by decide), (tch_sub T1.out (by decide)).trans (tch_sub ts (by decide))⟩
def fuPost (B : Zn) (K R Bn T S O : Nat) (l : List Sec) (w : World) (e : Ending) (w' : World) : Prop := (∃ u, e = .returned u) ∧ Ce B w' K R Bn T S O l [] ∧ Tch B tyP w w'
set_option maxHeartbeats 4000000 in
set_option maxRecDepth 100000 in
theorem cfl_any {B : Zn} {w : World} {K R Bn T S O : Nat} {l : List Sec} {ops : List Med.Op} (h : Ce B w K R Bn T S O l ops) : Calls Try.prog 65 #[.pointer (some ⟨K, 0, none⟩)] w (fuPost B K R Bn T S O (Med.play R Bn T S O l ops) w) := by
  obtain ⟨D, X, c, C, Y, d, v, h⟩ := h
  obtain ⟨c0, c1, c2⟩ := h.cells
  have E := Lib.hid (cse_any h ops.length (Nat.le_refl _))
  have LOW := Lib.hid h.low
  have NE := Lib.hid h.ne
  obtain ⟨p, cap, rfl, hl, hm⟩ := h.fl.form
  have TL := Lib.hid (List.take_length (l := ops))
  clear h hl hm c0 c2
  obtain ⟨n, hn⟩ : ∃ n, ops.length = n := ⟨_, rfl⟩
  rw [hn] at E TL c1
  clear hn
  go_enter Try.func65, Try.ntmps65
  go_wp2_with fail
  refine E.out.mono ?_
  rintro e w1 ⟨⟨u, rfl⟩, hq⟩
  have Q := Lib.hid hq
  clear hq E
  go_wp2_with fail
  go_end0
  obtain ⟨r1, du, co, t⟩ := Q.out
  rw [TL.out] at du
  exact ⟨⟨_, rfl⟩, ⟨D, X, c, C, Y, d, _, r1, du, co, NE.out, Fl.nil_ _ _, LOW.out⟩, t⟩
set_option maxHeartbeats 4000000 in
set_option maxRecDepth 100000 in
theorem ccu_neg {B : Zn} {w : World} {K R Bn T S O : Nat} {l : List Sec} {ops : List Med.Op} (h : Ce B w K R Bn T S O l ops) (x : Int) (hx : x < 0) (hT : B.top w) : Calls Try.prog 55 #[.pointer (some ⟨K, 0, none⟩), .int .i64 x] w (fuPost B K R Bn T S O (Med.play R Bn T S O l (ops.take 0)) w) := by
  obtain ⟨D, X, c, C, Y, d, v, h⟩ := h
  obtain ⟨c0, c1, c2⟩ := h.cells
  have E := Lib.hid (cse_any h 0 (by omega))
  have LOW := Lib.hid h.low
  have HT := Lib.hid hT
  clear hT
  have KL := Lib.hid h.row.lt
  obtain ⟨p, cap, rfl, hl, hm⟩ := h.fl.form
  clear h hl hm c0 c2
  obtain ⟨N, hN⟩ : ∃ n, ops.length = n := ⟨_, rfl⟩
  obtain ⟨l2, hl2⟩ : ∃ x, Med.play R Bn T S O l (ops.take 0) = x := ⟨_, rfl⟩
  have x0 : ¬ (0 : Int) ≤ x := by omega
  have n0 : (0 : Int) ≤ (N : Int) := by omega
  rw [hN] at c1
  clear hx
  unfold sePost at E
  rw [hl2] at E ⊢
  clear hN hl2
  go_enter Try.func55, Try.ntmps55
  go_wp2_with fail
  refine E.out.mono ?_
  rintro e w1 ⟨⟨u, rfl⟩, hr, hdu, hco, ht⟩
  have R1 := Lib.hid hr
  have DU := Lib.hid hdu
  have T1 := Lib.hid ht
  have E2 := Lib.hid (pcl_any hdu)
  have d0 : w1.cell? ⟨K, 0, none⟩ = some (.pointer (some ⟨D, 0, none⟩)) := by rw [hr.cell]; rfl
  clear hr hdu hco ht E c1
  go_wp2_with fail
  refine E2.out.mono ?_
  rintro e w2 ⟨M2, X2, c2, rfl, hm2, hb2, hw2⟩
  have M2' := Lib.hid hm2
  have B2 := Lib.hid hb2
  have W2 := Lib.hid hw2
  have R2 := Lib.hid (R1.out.go hw2)
  have f2 := R2.out.frozen 2
  have e2 : w2.cell? ⟨K, 2, none⟩ = some (.pointer (some ⟨C, 0, none⟩)) := by rw [R2.out.cell]; rfl
  clear hm2 hb2 hw2 E2 d0
  go_wp2_with fail
  go_end0
  have ts : Tch B [116] w2 (w2.setCell ⟨K, 2, none⟩ (.pointer (some ⟨M2, 0, none⟩))) := (Tch.refl _ _ _).set LOW.out.1 R2.out.ty (by simp) _
  have s1 := T1.out.size
  have xl := DU.out.sx.lt
  have lo := LOW.out
  have kl := KL.out
  have b2 := B2.out
  exact ⟨⟨_, rfl⟩, ⟨D, X, c, M2, X2, c2, _, R2.out.store 2 _, Md.tch ts (DU.out.fw W2.out) (by decide) (by decide), Md.tch ts M2'.out (by decide) (by decide), by omega, Fl.nil_ _ _, lo.1, lo.2.1, HT.out _ (by omega)⟩, T1.out.trans ((Tch.of_below W2.out _ _).trans (tch_sub ts (by decide)))⟩

set_option maxHeartbeats 4000000 in
set_option maxRecDepth 100000 in
theorem ccu_in {B : Zn} {w : World} {K R Bn T S O : Nat} {l : List Sec} {ops : List Med.Op} (h : Ce B w K R Bn T S O l ops) (k : Nat) (hk : k ≤ ops.length) (hT : B.top w) : Calls Try.prog 55 #[.pointer (some ⟨K, 0, none⟩), .int .i64 (k : Int)] w (fuPost B K R Bn T S O (Med.play R Bn T S O l (ops.take k)) w) := by
  obtain ⟨D, X, c, C, Y, d, v, h⟩ := h
  obtain ⟨c0, c1, c2⟩ := h.cells
  have E := Lib.hid (cse_any h k (by omega))
  have LOW := Lib.hid h.low
  have HT := Lib.hid hT
  clear hT
  have KL := Lib.hid h.row.lt
  obtain ⟨p, cap, rfl, hl, hm⟩ := h.fl.form
  clear h hl hm c0 c2
  obtain ⟨N, hN⟩ : ∃ n, ops.length = n := ⟨_, rfl⟩
  obtain ⟨l2, hl2⟩ : ∃ x, Med.play R Bn T S O l (ops.take k) = x := ⟨_, rfl⟩
  have x0 : ¬ ((k : Int) < 0) := by omega
  rw [hN] at c1 hk
  have kN : (k : Int) ≤ (N : Int) := by omega
  unfold sePost at E
  rw [hl2] at E ⊢
  clear hN hl2
  go_enter Try.func55, Try.ntmps55
  go_wp2_with fail
  refine E.out.mono ?_
  rintro e w1 ⟨⟨u, rfl⟩, hr, hdu, hco, ht⟩
  have R1 := Lib.hid hr
  have DU := Lib.hid hdu
  have T1 := Lib.hid ht
  have E2 := Lib.hid (pcl_any hdu)
  have d0 : w1.cell? ⟨K, 0, none⟩ = some (.pointer (some ⟨D, 0, none⟩)) := by rw [hr.cell]; rfl
  clear hr hdu hco ht E c1
  go_wp2_with fail
  refine E2.out.mono ?_
  rintro e w2 ⟨M2, X2, c2, rfl, hm2, hb2, hw2⟩
  have M2' := Lib.hid hm2
  have B2 := Lib.hid hb2
  have W2 := Lib.hid hw2
  have R2 := Lib.hid (R1.out.go hw2)
  have f2 := R2.out.frozen 2
  have e2 : w2.cell? ⟨K, 2, none⟩ = some (.pointer (some ⟨C, 0, none⟩)) := by rw [R2.out.cell]; rfl
  clear hm2 hb2 hw2 E2 d0
  go_wp2_with fail
  go_end0
  have ts : Tch B [116] w2 (w2.setCell ⟨K, 2, none⟩ (.pointer (some ⟨M2, 0, none⟩))) := (Tch.refl _ _ _).set LOW.out.1 R2.out.ty (by simp) _
  have s1 := T1.out.size
  have xl := DU.out.sx.lt
  have lo := LOW.out
  have kl := KL.out
  have b2 := B2.out
  exact ⟨⟨_, rfl⟩, ⟨D, X, c, M2, X2, c2, _, R2.out.store 2 _, Md.tch ts (DU.out.fw W2.out) (by decide) (by decide), Md.tch ts M2'.out (by decide) (by decide), by omega, Fl.nil_ _ _, lo.1, lo.2.1, HT.out _ (by omega)⟩, T1.out.trans ((Tch.of_below W2.out _ _).trans (tch_sub ts (by decide)))⟩

set_option maxHeartbeats 4000000 in
set_option maxRecDepth 100000 in
theorem ccu_all {B : Zn} {w : World} {K R Bn T S O : Nat} {l : List Sec} {ops : List Med.Op} (h : Ce B w K R Bn T S O l ops) (k : Nat) (hk : ops.length < k) (hT : B.top w) : Calls Try.prog 55 #[.pointer (some ⟨K, 0, none⟩), .int .i64 (k : Int)] w (fuPost B K R Bn T S O (Med.play R Bn T S O l (ops.take ops.length)) w) := by
  obtain ⟨D, X, c, C, Y, d, v, h⟩ := h
  obtain ⟨c0, c1, c2⟩ := h.cells
  have E := Lib.hid (cse_any h ops.length (by omega))
  have LOW := Lib.hid h.low
  have HT := Lib.hid hT
  clear hT
  have KL := Lib.hid h.row.lt
  obtain ⟨p, cap, rfl, hl, hm⟩ := h.fl.form
  clear h hl hm c0 c2
  obtain ⟨N, hN⟩ : ∃ n, ops.length = n := ⟨_, rfl⟩
  obtain ⟨l2, hl2⟩ : ∃ x, Med.play R Bn T S O l (ops.take ops.length) = x := ⟨_, rfl⟩
  have x0 : ¬ ((k : Int) < 0) := by omega
  rw [hN] at c1 hk E
  have kN : ¬ (k : Int) ≤ (N : Int) := by omega
  rw [hN] at hl2 ⊢
  unfold sePost at E
  rw [hl2] at E ⊢
  clear hN hl2
  go_enter Try.func55, Try.ntmps55
  go_wp2_with fail
  refine E.out.mono ?_
  rintro e w1 ⟨⟨u, rfl⟩, hr, hdu, hco, ht⟩
  have R1 := Lib.hid hr
  have DU := Lib.hid hdu
  have T1 := Lib.hid ht
  have E2 := Lib.hid (pcl_any hdu)
  have d0 : w1.cell? ⟨K, 0, none⟩ = some (.pointer (some ⟨D, 0, none⟩)) := by rw [hr.cell]; rfl
  clear hr hdu hco ht E c1
  go_wp2_with fail
  refine E2.out.mono ?_
  rintro e w2 ⟨M2, X2, c2, rfl, hm2, hb2, hw2⟩
  have M2' := Lib.hid hm2
  have B2 := Lib.hid hb2
  have W2 := Lib.hid hw2
  have R2 := Lib.hid (R1.out.go hw2)
  have f2 := R2.out.frozen 2
  have e2 : w2.cell? ⟨K, 2, none⟩ = some (.pointer (some ⟨C, 0, none⟩)) := by rw [R2.out.cell]; rfl
  clear hm2 hb2 hw2 E2 d0
  go_wp2_with fail
  go_end0
  have ts : Tch B [116] w2 (w2.setCell ⟨K, 2, none⟩ (.pointer (some ⟨M2, 0, none⟩))) := (Tch.refl _ _ _).set LOW.out.1 R2.out.ty (by simp) _
  have s1 := T1.out.size
  have xl := DU.out.sx.lt
  have lo := LOW.out
  have kl := KL.out
  have b2 := B2.out
  exact ⟨⟨_, rfl⟩, ⟨D, X, c, M2, X2, c2, _, R2.out.store 2 _, Md.tch ts (DU.out.fw W2.out) (by decide) (by decide), Md.tch ts M2'.out (by decide) (by decide), by omega, Fl.nil_ _ _, lo.1, lo.2.1, HT.out _ (by omega)⟩, T1.out.trans ((Tch.of_below W2.out _ _).trans (tch_sub ts (by decide)))⟩

end Go.Proofs.Ytdjjihppaobbcaa
namespace Go.Proofs.Ytdjjihppaobbcaa
open Go Go.RowKit Med
set_option linter.unusedVariables false
set_option linter.unusedSimpArgs false

theorem ccu_any {B : Zn} {w : World} {K R Bn T S O : Nat} {l : List Sec} {ops : List Med.Op} (h : Ce B w K R Bn T S O l ops) (x : Int) (hT : B.top w) : Calls Try.prog 55 #[.pointer (some ⟨K, 0, none⟩), .int .i64 x] w (fuPost B K R Bn T S O (Med.play R Bn T S O l (ops.take x.toNat)) w) := by
  by_cases h0 : x < 0
  · rw [show x.toNat = 0 by omega]; exact ccu_neg h x h0 hT
  · obtain ⟨k, rfl⟩ : ∃ k : Nat, x = k := ⟨x.toNat, by omega⟩
    rw [Int.toNat_natCast]
    by_cases hk : k ≤ ops.length
    · exact ccu_in h k hk hT
    · rw [List.take_of_length_le (by omega)]
      have := ccu_all h k (by omega) hT
      rwa [List.take_length] at this
/-- What the reference's New and Clone return. -/
def rnPost (R Bn T S O : Nat) (l : List Sec) (ops : List Med.Op) (w : World) (e : Ending) (w' : World) : Prop := ∃ K, e = .returned (.pointer (some ⟨K, 0, none⟩)) ∧ Re w.heap.size w' K R Bn T S O l ops ∧ Below w.heap.size w w'
end Go.Proofs.Ytdjjihppaobbcaa
namespace Go.Proofs.Ytdjjihppaobbcaa
open Go Go.RowKit Med
set_option linter.unusedVariables false
set_option linter.unusedSimpArgs false
def zop : Value := .agg #[.bool false, .int .i64 0, .slice none 0 0]
theorem info_op : (Try.prog.info? 103).map (fun i => (i.zero, i.size, i.bytes)) = some (some zop, 3, 40) := by kernel_rfl
section
variable {Q : World → Value → List Nat → Prop} {A B : Nat} {w w' : World} {v : Value} {L : List Med.Op}
/-- The k-th three cells stand for the operation o. -/
def OpAt (Q : World → Value → List Nat → Prop) (w : World) (xs : List Value) (k : Nat) (o : Med.Op) : Prop :=
  xs[k * 3]? = some (.bool o.erase) ∧ xs[k * 3 + 1]? = some (.int .i64 o.pos) ∧ ∃ u, xs[k * 3 + 2]? = some u ∧ Q w u o.bytes ∧ u.oneCell' = true
theorem OpAt.left {xs ys : List Value} {k : Nat} {o : Med.Op} (h : OpAt Q w xs k o) (hk : k * 3 + 2 < xs.length) : OpAt Q w (xs ++ ys) k o := by
  obtain ⟨h0, h1, u, h2, h3⟩ := h
  refine ⟨?_, ?_, u, ?_, h3⟩
  · rw [List.getElem?_append_left (by omega)]; exact h0
  · rw [List.getElem?_append_left (by omega)]; exact h1
  · rw [List.getElem?_append_left (by omega)]; exact h2
theorem Olx.row (h : Olx Q B w v L) : ∃ xs, w.ownsRow B 103 3 v L.length xs ∧ xs.length = L.length * 3 ∧ ∀ k (hk : k < L.length), OpAt Q w xs k L[k] := by
  rcases h with ⟨rfl, rfl⟩ | ⟨g, cap, cs, rfl, hg, hr, hs, hm, hl, hc⟩
  · exact ⟨[], World.ownsRow_nil _ _ _ _, rfl, fun k hk => absurd hk (Nat.not_lt_zero k)⟩
  · refine ⟨cs.toList.take (L.length * 3), ⟨by simp; omega, Or.inr ⟨g, cap, cs, rfl, hg, hr, hl, hm, by omega, rfl⟩⟩, by simp; omega, fun k hk => ?_⟩
    obtain ⟨h0, h1, u, h2, h3⟩ := hc k hk
    refine ⟨?_, ?_, u, ?_, h3⟩
    · rw [List.getElem?_take_of_lt (by omega)]; simpa using h0
    · rw [List.getElem?_take_of_lt (by omega)]; simpa using h1
    · rw [List.getElem?_take_of_lt (by omega)]; simpa using h2
theorem Olx.of_row {g cap n : Nat} {xs : List Value} (hr : w.ownsRow B 103 3 (.slice (some ⟨g, 0, none⟩) n cap) n xs) (hn : L.length = n) (hxs : ∀ k (hk : k < L.length), OpAt Q w xs k L[k]) :
    Olx Q B w (.slice (some ⟨g, 0, none⟩) n cap) L := by
  subst hn
  obtain ⟨_, h⟩ := hr
  rcases h with ⟨h, _⟩ | ⟨g', cap', cur, hv', hb, hh, hle, hm, hs, ht⟩
  · cases h
  · injection hv' with hv1 hv2 hv3
    injection hv1 with hv1
    injection hv1 with hv1
    subst hv1 hv3
    refine Or.inr ⟨g, cap, cur, rfl, hb, hh, by omega, hm, hle, fun k hk => ?_⟩
    obtain ⟨h0, h1, u, h2, h3⟩ := hxs k hk
    refine ⟨?_, ?_, u, ?_, h3⟩
    · rw [← h0, ← ht, List.getElem?_take_of_lt (by omega)]; simp
    · rw [← h1, ← ht, List.getElem?_take_of_lt (by omega)]; simp
    · rw [← h2, ← ht, List.getElem?_take_of_lt (by omega)]; simp
theorem OpAt.one {xs : List Value} (hl : xs.length = L.length * 3) (h : ∀ k (hk : k < L.length), OpAt Q w xs k L[k]) : ∀ u ∈ xs, u.oneCell' = true := by
  intro u hu
  obtain ⟨j, hj, rfl⟩ := List.getElem_of_mem hu
  have hk : j / 3 < L.length := by omega
  obtain ⟨h0, h1, u, h2, _, h3⟩ := h (j / 3) hk
  have e : j = j / 3 * 3 ∨ j = j / 3 * 3 + 1 ∨ j = j / 3 * 3 + 2 := by omega
  have hx := List.getElem?_eq_getElem hj
  generalize xs[j] = y at hx ⊢
  rcases e with e | e | e
  · rw [e, h0] at hx; injection hx with hx; rw [← hx]; rfl
  · rw [e, h1] at hx; injection hx with hx; rw [← hx]; rfl
  · rw [e, h2] at hx; injection hx with hx; rw [← hx]; exact h3
end
set_option maxRecDepth 100000 in
/-- 'append([]Op{}, x...)'. -/
theorem wp_copy_O {Q : World → Value → List Nat → Prop} {A B : Nat} {w : World} {o : Oper} {a : Act} {K : Act → World → Prop} {Qx : Exit → Act → World → Prop} (s x : Operand)
    (ho : o.op = .call { callee := .builtin .append, args := #[s, x], argTypes := #[98, 98] })
    (b0 n c : Nat) (p : Option Addr) (L : List Med.Op) (hs : a.eval s = .slice (some ⟨b0, 0, none⟩) 0 0) (hrow : Row w b0 103 #[]) (hx : a.eval x = .slice p n c) (hn : L.length = n) (hF : Olx Q A w (.slice p n c) L) (hlen : n ≤ 100000) (hB : B ≤ b0)
    (hQ : ∀ w' u l, Tch (0 : Nat) [103] w w' → Q w u l → Q w' u l)
    (h : ∀ g cap w', Olx Q B w' (.slice (some ⟨g, 0, none⟩) n cap) L → w.grownBy w' (some b0) → K (a.put o.dst (.slice (some ⟨g, 0, none⟩) n cap)) w') : o.wp Try.prog a w K Qx := by
  subst hn
  obtain ⟨i, hi, hz, hsz, hby⟩ := info_parts info_op
  by_cases h0 : L.length = 0
  · obtain rfl : L = [] := List.length_eq_zero_iff.1 h0
    exact wp_append_none s x i Try.underlying98 hi ho ⟨b0, 0, none⟩ 0 0 p c hs hx (Nat.le_refl _) (h b0 0 w (Or.inr ⟨b0, 0, #[], rfl, hB, hrow, rfl, Nat.zero_le _, Nat.le_refl _, fun k hk => absurd hk (Nat.not_lt_zero k)⟩) (World.grownBy.refl w _))
  · obtain ⟨xs, hrx, hxl, hxs⟩ := hF.row
    rcases hF with ⟨_, rfl⟩ | ⟨g, cap, cs, e, hg, hr, hsz2, hm, hl, hq⟩
    · exact absurd rfl h0
    · injection e with e1 e2 e3
      subst e1 e3
      have hown : w.ownsRow B 103 3 (.slice (some ⟨b0, 0, none⟩) 0 0) 0 [] := ⟨rfl, Or.inr ⟨b0, 0, #[], rfl, hB, hrow, Nat.le_refl 0, Nat.zero_le _, rfl, rfl⟩⟩
      refine wp_append_lies w s x _ ho B _ i _ 3 40 Try.underlying98 hi hz hsz hby rfl (by decide) _ 0 [] hs hown ⟨g, 0, none⟩ L.length c xs hx (by omega) (fun j u hj => ?_) (OpAt.one hxl hxs) (by omega) (by unfold maxLen; omega) (by omega) (by have := hrow.lt; omega) _ rfl fun g2 cap2 w' h1 h2 h3 h4 => ?_
      · rw [Go.WideShapes.add_plain, Nat.zero_add, hr.cell]
        obtain ⟨_, hrx⟩ := hrx
        rcases hrx with ⟨e, _⟩ | ⟨g', cap', cur, hv', hb, hh, hle, hm', hs', ht⟩
        · cases e
        · injection hv' with hv1 hv2 hv3
          injection hv1 with hv1
          injection hv1 with hv1
          subst hv1 hv3
          have : cs = cur := by
            have := hr.symm.trans hh
            injection this with this
            injection this
          subst this
          have hj3 : j < L.length * 3 := by have := (List.getElem?_eq_some_iff.1 hj).1; omega
          rw [← ht, List.getElem?_take_of_lt hj3] at hj
          simpa using hj
      · rw [Nat.zero_add] at h1 ⊢
        rw [List.nil_append] at h1
        have hc : Tch (0 : Nat) [103] w w' := Tch.grown h2 (fun k hk => by injection hk with hk; subst hk; exact ⟨Nat.zero_le _, hrow.ty⟩) (by simp)
        exact h g2 cap2 w' (Olx.of_row h1 rfl fun k hk => by obtain ⟨a0, a1, u, a2, a3, a4⟩ := hxs k hk; exact ⟨a0, a1, u, a2, hQ _ _ _ hc a3, a4⟩) h2
/-- 'append(v, o)'. -/
theorem wp_push_O {Q : World → Value → List Nat → Prop} {B : Nat} {w : World} {o : Oper} {a : Act} {Kt : Act → World → Prop} {Qx : Exit → Act → World → Prop} (s x : Operand)
    (ho : o.op = .call { callee := .builtin .append, args := #[s, x], argTypes := #[98, 98] })
    (v : Value) (L : List Med.Op) (n b : Nat) (u : Value) (op : Med.Op) (hs : a.eval s = v) (hown : Olx Q B w v L) (hn : L.length = n) (hx : a.eval x = .slice (some ⟨b, 0, none⟩) 1 1) (hrow : Row w b 103 #[.bool op.erase, .int .i64 op.pos, u])
    (hu : Q w u op.bytes) (h1 : u.oneCell' = true) (hlen : n ≤ 100000) (hbase : B ≤ w.heap.size)
    (hQ : ∀ w' u l, Tch (0 : Nat) [103] w w' → Q w u l → Q w' u l)
    (h : ∀ g cap w', Olx Q B w' (.slice (some ⟨g, 0, none⟩) (n + 1) cap) (L ++ [op]) → Tch B [103] w w' → Kt (a.put o.dst (.slice (some ⟨g, 0, none⟩) (n + 1) cap)) w') : o.wp Try.prog a w Kt Qx := by
  subst hn
  obtain ⟨i, hi, hz, hsz, hby⟩ := info_parts info_op
  obtain ⟨xs, hrx, hxl, hxs⟩ := hown.row
  refine wp_append_lies w s x _ ho B _ i _ 3 40 Try.underlying98 hi hz hsz hby rfl (by decide) v L.length xs hs hrx ⟨b, 0, none⟩ 1 1 [.bool op.erase, .int .i64 op.pos, u] hx rfl (fun j u' hj => ?_) (fun u' hu' => ?_) (by decide) (by unfold maxLen; omega) (by omega) hbase _ rfl fun g cap w' hown' hgrow hat _ => ?_
  · rw [Go.WideShapes.add_plain, Nat.zero_add, hrow.cell]
    simpa using hj
  · simp only [List.mem_cons, List.not_mem_nil, or_false] at hu'
    rcases hu' with rfl | rfl | rfl
    · rfl
    · rfl
    · exact h1
  · have hc : Tch B [103] w w' := Tch.grown hgrow hown.own (by simp)
    have hc0 := hc.mono (B' := ((0 : Nat) : Zn)) (fun k _ => Nat.zero_le k) (fun t h => h)
    refine h g cap w' (Olx.of_row hown' (by simp) fun k hk => ?_) hc
    rcases Nat.lt_or_ge k L.length with hlt | hge
    · rw [List.getElem_append_left hlt]
      obtain ⟨a0, a1, u', a2, a3, a4⟩ := hxs k hlt
      exact OpAt.left ⟨a0, a1, u', a2, hQ _ _ _ hc0 a3, a4⟩ (by omega)
    · obtain rfl : k = L.length := by simp at hk; omega
      simp only [List.getElem_concat_length]
      refine ⟨?_, ?_, u, ?_, hQ _ _ _ hc0 hu, h1⟩
      · rw [← hxl]; simp
      · rw [← hxl]; simp
      · rw [← hxl]; simp
theorem range3 : Array.range 3 = #[0, 1, 2] := rfl
/-- A literal list of one operation. -/
theorem run_build_op (e : Bool) (p : Int) (A : Option Addr) (n c : Nat) (w : World) : (Instr.buildSlice 98 1 #[(0, .agg #[.bool e, .int .i64 p, .slice A n c])]).run Try.prog w = .ok (.slice (some ⟨w.heap.size, 0, none⟩) 1 1) (w.alloc (.cells #[.bool e, .int .i64 p, .slice A n c] 103)) := by
  obtain ⟨i, hi, hzz⟩ := Option.map_eq_some_iff.1 info_op
  simp only [Prod.mk.injEq] at hzz
  obtain ⟨hz, hs, hb⟩ := hzz
  simp [Instr.buildSlice, run_underlying Try.underlying98, sizeOf, typeInfo, hi, hs, zeroValue, hz, newRow, Instr.fill, zop, Value.cells, range3]
theorem wp_build_op {o : Oper} {a : Act} {w : World} {K : Act → World → Prop} {Q : Exit → Act → World → Prop} (x : Operand) (ho : o.op = .buildSlice 98 1 #[(0, x)]) (e : Bool) (p : Int) (A : Option Addr) (n c : Nat) (hx : a.eval x = .agg #[.bool e, .int .i64 p, .slice A n c])
    (hk : K (a.put o.dst (.slice (some ⟨w.heap.size, 0, none⟩) 1 1)) (w.alloc (.cells #[.bool e, .int .i64 p, .slice A n c] 103))) : o.wp Try.prog a w K Q := by
  unfold Oper.wp
  simp only [execOp, ho, List.map_toArray, List.map_cons, List.map_nil, hx, Sem.run_bind, Sem.run_pure, Result.andThen_ok, run_build_op e p A n c w]
  exact hk
end Go.Proofs.Ytdjjihppaobbcaa
namespace Go.Proofs.Ytdjjihppaobbcaa
open Go Go.RowKit Med
set_option linter.unusedVariables false
set_option linter.unusedSimpArgs false

set_option maxHeartbeats 4000000 in
set_option maxRecDepth 100000 in
theorem rcn_any {w : World} {M X c R B T S O : Nat} {l : List Sec} (h : RMd w M X c R B T S O l) : Calls Try.prog 76 #[.pointer (some ⟨M, 0, none⟩)] w (rnPost R B T S O l [] w) := by
  have E := Lib.hid (rcl_any h)
  clear h
  go_enter Try.func76, Try.ntmps76
  go_wp2_with fail
  refine E.out.mono ?_
  rintro e w1 ⟨M1, X1, c1, rfl, hm1, hb1, hw1⟩
  have P1 := Lib.hid (And.intro hm1 (And.intro hb1 hw1))
  clear hm1 hb1 hw1 E
  go_wp2_with fail
  go_ret
  obtain ⟨hm1, hb1, hw1⟩ := P1.out
  have ba : Below w1.heap.size w1 (w1.alloc (.cells #[.pointer (some ⟨M1, 0, none⟩), .slice none 0 0] 100)) := (Below.refl _ _).alloc (Nat.le_refl _) _
  have s1 := hw1.size
  exact ⟨w1.heap.size, rfl, Ra.ex ⟨gr_new w1 _ _ rfl, hm1.fw ba, Olx.nil_ _ _, by omega⟩, hw1.trans (ba.mono s1)⟩
set_option maxHeartbeats 4000000 in
set_option maxRecDepth 100000 in
theorem rct_any {B : Zn} {w : World} {K R Bn T S O : Nat} {l : List Sec} {ops : List Med.Op} (h : Re B w K R Bn T S O l ops) : Calls Try.prog 61 #[.pointer (some ⟨K, 0, none⟩)] w (clPost 129 126 R Bn T S O (Med.play R Bn T S O l ops) w) := by
  obtain ⟨M, X, c, v, h⟩ := h
  obtain ⟨p, cap, rfl, hl, hm⟩ := h.ol.form
  have E := Lib.hid (rcl_any h.md)
  have H := Lib.hid h
  have LM := Lib.hid (show ops.length ≤ 9223372036854775807 by unfold maxLen at hm; omega)
  obtain ⟨N, hN⟩ : ∃ n, ops.length = n := ⟨_, rfl⟩
  have EN := Lib.hid hN
  obtain ⟨c0, c1⟩ := h.cells
  rw [hN] at H c1 LM
  clear h hl hm hN
  go_enter Try.func61, Try.ntmps61
  go_wp2_with fail
  refine E.out.mono ?_
  rintro e w1 ⟨M2, X2, c2, rfl, hm2, hx2, hb2⟩
  have P2 := Lib.hid hm2
  have Q2 := Lib.hid hx2
  have B2 := Lib.hid hb2
  clear hm2 hx2 hb2 c0 c1 E
  go_wp2_with fail
  go_loopw [4] (fun i wr => ∃ k : Nat, k ≤ N ∧ i = .int .i64 (k : Int) ∧ Hid (RMd wr M2 X2 c2 R Bn T S O (Med.play R Bn T S O l (ops.take k)) ∧ Chg (fun j => j = X2) w1 wr)) (fun i _ => N - (intOf i).toNat)
  case atStart => exact ⟨0, Nat.zero_le _, rfl, Lib.hid ⟨P2.out, Chg.refl _ _⟩⟩
  case round =>
    obtain ⟨k, hk, rfl, V⟩ := hrel
    have nb := LM.out
    have hbw : Below w.heap.size w wr := B2.out.trans (V.out.2.below B2.out.size (fun j hj => by rw [hj]; exact Q2.out.2))
    have hr := H.out.fw hbw
    have BW := Lib.hid hbw
    have c1 := hr.cells.2
    by_cases hlt : k < N
    · have kI : (k : Int) < (N : Int) := by omega
      obtain ⟨b, off, u, hk2, rfl, f0, f1, f2, f3⟩ := (hr.ol.ols fun _ _ q => q.1).nth hlt
      have PK := Lib.hid (play_take R Bn T S O l ops hk2)
      have RG := Lib.hid (op_rng f0 f1 f2)
      obtain ⟨lk, hlk⟩ : ∃ x, Med.play R Bn T S O l (ops.take k) = x := ⟨_, rfl⟩
      obtain ⟨P1, C1⟩ := V.out
      rw [hlk] at P1 PK
      obtain ⟨o, ho⟩ : ∃ o, ops[k] = o := ⟨_, rfl⟩
      rw [ho] at PK RG f3
      have D := Lib.hid (rdo_any P1 o u f3)
      have CC := Lib.hid C1
      clear f0 f1 f2 f3 P1 C1 V hlk ho hbw hr
      go_wp2_with (refine wpList_load_mid rfl _ _ rfl b (off + k * 3) rfl [.bool o.erase, .int .i64 o.pos, u] _ RG.out Try.underlying103 rfl (by kernel_rfl) ?_)
      refine D.out.mono ?_
      rintro e w2 ⟨rfl, hm, hc⟩
      have P3 := Lib.hid hm
      have C3 := Lib.hid (CC.out.trans hc)
      clear hm hc D
      generalize opE Bn lk o = z at *
      go_wp2_with fail
      go_roundw
      case rel => exact ⟨k + 1, by omega, by go_num, Lib.hid ⟨by rw [PK.out]; exact P3.out, C3.out⟩⟩
      case measure => simp [intOf]; omega
    · obtain rfl : k = N := by omega
      have kI : ¬ (k : Int) < (k : Int) := by omega
      have dk : decide ((k : Int) < (k : Int)) = false := decide_eq_false kI
      have tk : ops.take k = ops := List.take_of_length_le (Nat.le_of_eq EN.out)
      rw [tk] at V
      clear tk hr hbw
      go_wp2_with fail
      go_ret
      exact ⟨M2, X2, c2, rfl, V.out.1, Q2.out, BW.out⟩
def ruPost (B : Zn) (K R Bn T S O : Nat) (l : List Sec) (w : World) (e : Ending) (w' : World) : Prop := (∃ u, e = .returned u) ∧ Re B w' K R Bn T S O l [] ∧ Tch B tyR w w'
theorem tch_subR {B : Zn} {L : List TypeId} {w w' : World} (h : Tch B L w w') (hL : ∀ t ∈ L, t ∈ tyR) : Tch B tyR w w' := h.mono (fun _ h => h) hL
theorem Ra.during {B : Zn} {w w1 : World} {K M X c R Bn T S O : Nat} {v : Value} {l : List Sec} {ops : List Med.Op} (h : Ra B w K M X c R Bn T S O v l ops) (hc : Chg (fun j => j = X) w w1) :
    Tch B [126] w w1 ∧ Row w1 K 100 #[.pointer (some ⟨M, 0, none⟩), v] ∧ OlT 0 w1 v ops := by
  have t : Tch B [126] w w1 := Tch.of_one hc h.low.2 h.md.sx.ty (by simp)
  exact ⟨t, h.row.tch t (by decide), h.ol.tch t (by decide) (by decide)⟩
theorem rng_chg {w w' : World} {b off X : Nat} {cs : List Value} (h : w.rangeAt b off cs) (hc : Chg (fun j => j = X) w w') (hX : b ≠ X) : w'.rangeAt b off cs := fun j v hv => by
  have h1 := h j v hv
  exact (World.cell?_of_block (w := w) (hc.block b (World.block_lt_of_cell? w _ h1) hX)).trans h1
theorem row_at2 {w : World} {K : Nat} {t : TypeId} {a b : Value} (h : Row w K t #[a, b]) : w.cell? ⟨K, 0, none⟩ = some a ∧ w.cell? ⟨K, 1, none⟩ = some b := by
  refine ⟨?_, ?_⟩ <;> (rw [h.cell]; rfl)
set_option maxHeartbeats 4000000 in
set_option maxRecDepth 100000 in
theorem rcu_any {B : Zn} {w : World} {K R Bn T S O : Nat} {l : List Sec} {ops : List Med.Op} (h : Re B w K R Bn T S O l ops) (x : Int) : Calls Try.prog 30 #[.pointer (some ⟨K, 0, none⟩), .int .i64 x] w (ruPost B K R Bn T S O (Med.play R Bn T S O l (ops.take x.toNat)) w) := by
  obtain ⟨M, X, c, v, h⟩ := h
  obtain ⟨p, cap, rfl, hl, hm⟩ := h.ol.form
  have H := Lib.hid h
  have LM := Lib.hid (show ops.length ≤ 9223372036854775807 by unfold maxLen at hm; omega)
  obtain ⟨N, hN⟩ : ∃ n, ops.length = n := ⟨_, rfl⟩
  have EN := Lib.hid hN
  rw [hN] at H LM
  obtain ⟨n, hn⟩ : ∃ n, min N x.toNat = n := ⟨_, rfl⟩
  have HN := Lib.hid hn
  have TK := Lib.hid (show ops.take x.toNat = ops.take n by rw [← hn, ← hN]; rw [Nat.min_comm, List.take_eq_take_iff]; omega)
  rw [TK.out]
  clear h hl hm hN hn
  go_enter Try.func30, Try.ntmps30
  go_wp2_with fail
  go_loopw [4] (fun i wr => ∃ k : Nat, k ≤ n ∧ i = .int .i64 (k : Int) ∧ Hid (RMd wr M X c R Bn T S O (Med.play R Bn T S O l (ops.take k)) ∧ Chg (fun j => j = X) w wr)) (fun i _ => n - (intOf i).toNat)
  case atStart => exact ⟨0, Nat.zero_le _, rfl, Lib.hid ⟨H.out.md, Chg.refl _ _⟩⟩
  case round =>
    obtain ⟨k, hk, rfl, V⟩ := hrel
    have nb := LM.out
    have n1 := HN.out
    obtain ⟨t1, r1, o1⟩ := H.out.during V.out.2
    obtain ⟨c0, c1⟩ := row_at2 r1
    by_cases hlt : k < n
    · have kI : (k : Int) < (N : Int) := by omega
      have kx : (k : Int) < x := by omega
      obtain ⟨b, off, u, hk2, rfl, f0, f1, f2, f3⟩ := (o1.ols fun _ _ q => q.1).nth (show k < N by omega)
      have PK := Lib.hid (play_take R Bn T S O l ops hk2)
      have RG := Lib.hid (op_rng f0 f1 f2)
      obtain ⟨lk, hlk⟩ : ∃ x, Med.play R Bn T S O l (ops.take k) = x := ⟨_, rfl⟩
      obtain ⟨P1, C1⟩ := V.out
      rw [hlk] at P1 PK
      obtain ⟨o, ho⟩ : ∃ o, ops[k] = o := ⟨_, rfl⟩
      rw [ho] at PK RG f3
      have CC := Lib.hid C1
      have HU := Lib.hid f3
      have PP := Lib.hid P1
      have L0 : Hid (∀ w', Chg (fun j => j = X) wr w' → w'.cell? ⟨K, 0, none⟩ = some (.pointer (some ⟨M, 0, none⟩)) ∧ w'.cell? ⟨K, 1, none⟩ = some (.slice (some ⟨b, off, none⟩) N cap)) := Lib.hid fun w' h => row_at2 (H.out.during (V.out.2.trans h)).2.1
      have bX : b ≠ X := (o1.own b rfl).2.ne V.out.1.sx.ty (by decide)
      have L1 : Hid (∀ w', Chg (fun j => j = X) wr w' → w'.rangeAt b (off + k * 3) [.bool o.erase, .int .i64 o.pos, u]) := Lib.hid fun w' h => rng_chg RG.out h bX
      clear f0 f1 f2 f3 P1 C1 V hlk ho t1 r1 o1 n1 bX
      go_wp2_with fail
      clear c0 c1
      refine wp_region_held (P := Try.prog) (S := (fun w' : World => Chg (fun j => j = X) wr w')) rfl ?_
      change wpAnyH _ _ _ _ _ _ _ _ wr.drew
      have hz2 : Below wr.heap.size wr wr.drew := (Below.refl wr.heap.size wr).drew
      generalize wr.drew = wz1 at hz2 ⊢
      have P_3 := Lib.hid (Md.fw PP.out (hz2))
      have C_4 := Lib.hid (CC.out.trans (below_chg (hz2) _))
      have U_5 := Lib.hid (Bs.below HU.out (hz2))
      have HB_6 : Hid (Chg (fun j => j = X) wr wz1) := Lib.hid (below_chg (hz2) (fun j => j = X))
      clear hz2
      have hS7 : (fun w' : World => Chg (fun j => j = X) wr w') wz1 := HB_6.out
      refine takeD (i := 0) (v := .pointer (some ⟨K, 0, none⟩)) (some 19) rfl rfl (by kernel_rfl) (by kernel_rfl) (by kernel_rfl) (fun _ _ _ h => h) (Or.inl ⟨by rfl, by rintro w' -; go_simp⟩) hS7 ?_
      simp only [Act.put, List.setIfInBounds_toArray, List.set_cons_zero, List.set_cons_succ]
      refine takeD (i := 1) (v := .pointer (some ⟨K, 0, none⟩)) (some 20) rfl rfl (by kernel_rfl) (by kernel_rfl) (by kernel_rfl) (fun _ _ _ h => h) (Or.inl ⟨by rfl, by rintro w' -; go_simp⟩) hS7 ?_
      simp only [Act.put, List.setIfInBounds_toArray, List.set_cons_zero, List.set_cons_succ]
      refine takeD (i := 2) (v := .pointer (some ⟨K, 0, none⟩)) (some 21) rfl rfl (by kernel_rfl) (by kernel_rfl) (by kernel_rfl) (fun _ _ _ h => h) (Or.inl ⟨by rfl, by rintro w' -; go_simp⟩) hS7 ?_
      simp only [Act.put, List.setIfInBounds_toArray, List.set_cons_zero, List.set_cons_succ]
      refine takeD (i := 3) (v := .pointer (some ⟨M, 0, none⟩)) (some 22) rfl rfl (by kernel_rfl) (by kernel_rfl) (by kernel_rfl) (fun _ _ _ h => h) (Or.inl ⟨by rfl, by rintro w' h; have hc := (L0.out w' h).1; go_simp⟩) hS7 ?_
      simp only [Act.put, List.setIfInBounds_toArray, List.set_cons_zero, List.set_cons_succ]
      refine takeD (i := 4) (v := .pointer (some ⟨K, 0, none⟩)) (some 23) rfl rfl (by kernel_rfl) (by kernel_rfl) (by kernel_rfl) (fun _ _ _ h => h) (Or.inl ⟨by rfl, by rintro w' -; go_simp⟩) hS7 ?_
      simp only [Act.put, List.setIfInBounds_toArray, List.set_cons_zero, List.set_cons_succ]
      refine takeD (i := 5) (v := .pointer (some ⟨K, 0, none⟩)) (some 24) rfl rfl (by kernel_rfl) (by kernel_rfl) (by kernel_rfl) (fun _ _ _ h => h) (Or.inl ⟨by rfl, by rintro w' -; go_simp⟩) hS7 ?_
      simp only [Act.put, List.setIfInBounds_toArray, List.set_cons_zero, List.set_cons_succ]
      refine takeD (i := 6) (v := .pointer (some ⟨K, 1, none⟩)) (some 25) rfl rfl (by kernel_rfl) (by kernel_rfl) (by kernel_rfl) (fun _ _ _ h => h) (Or.inl ⟨by rfl, by rintro w' -; go_simp⟩) hS7 ?_
      simp only [Act.put, List.setIfInBounds_toArray, List.set_cons_zero, List.set_cons_succ]
      refine takeD (i := 7) (v := .slice (some ⟨b, off, none⟩) N cap) (some 26) rfl rfl (by kernel_rfl) (by kernel_rfl) (by kernel_rfl) (fun _ _ _ h => h) (Or.inl ⟨by rfl, by rintro w' h; have hc := (L0.out w' h).2; go_simp⟩) hS7 ?_
      simp only [Act.put, List.setIfInBounds_toArray, List.set_cons_zero, List.set_cons_succ]
      refine takeD (i := 8) (v := .int .i64 (k : Int)) (some 27) rfl rfl (by kernel_rfl) (by kernel_rfl) (by kernel_rfl) (fun _ _ _ h => h) (Or.inl ⟨by rfl, by rintro w' -; go_simp⟩) hS7 ?_
      simp only [Act.put, List.setIfInBounds_toArray, List.set_cons_zero, List.set_cons_succ]
      refine takeD (i := 9) (v := .pointer (some ⟨b, off + k * 3, none⟩)) (some 28) rfl rfl (by kernel_rfl) (by kernel_rfl) (by kernel_rfl) (fun _ _ _ h => h) (Or.inl ⟨by rfl, by rintro w' -; go_simp⟩) hS7 ?_
      simp only [Act.put, List.setIfInBounds_toArray, List.set_cons_zero, List.set_cons_succ]
      refine takeD (i := 10) (v := .agg #[.bool o.erase, .int .i64 o.pos, u]) (some 29) rfl rfl (by kernel_rfl) (by kernel_rfl) (by kernel_rfl) (fun _ _ _ h => h) (yieldsIf_load_mid (by rfl) _ _ rfl b (off + k * 3) rfl [.bool o.erase, .int .i64 o.pos, u] _ (fun w' h => L1.out w' h) Try.underlying103 rfl (by kernel_rfl)) hS7 ?_
      simp only [Act.put, List.setIfInBounds_toArray, List.set_cons_zero, List.set_cons_succ]
      refine wpAnyH_ready (rs := [11]) (by kernel_rfl) (by simp) ?_
      refine AllReadyH.cons rfl (fun K8 hK8 => ?_) AllReadyH.nil
      have HK8 := Lib.hid hK8
      clear hK8
      rw [if_pos (by rfl)]
      go_simp
      refine (rdo_any P_3.out o u U_5.out).mono ?_
      rintro e x9 ⟨rfl, hm, hc⟩
      have P10 := Lib.hid hm
      have C11 := Lib.hid (C_4.out.trans hc)
      have HB_12 : Hid (Chg (fun j => j = X) wr x9) := Lib.hid (HB_6.out.trans (hc))
      clear hm hc
      have hS13 : (fun w' : World => Chg (fun j => j = X) wr w') x9 := HB_12.out
      refine HK8.out _ _ hS13 fun _ => ?_
      try simp only [Act.put, List.setIfInBounds_toArray, List.set_cons_zero, List.set_cons_succ]
      refine wpAnyH_done (by kernel_rfl) ?_ _
      go_wp2_with fail
      go_roundw
      case rel => exact ⟨k + 1, by omega, by go_num, Lib.hid ⟨by rw [PK.out]; exact P10.out, C11.out⟩⟩
      case measure => simp [intOf]; omega
    · obtain rfl : k = n := by omega
      have TV := Lib.hid t1
      have RV := Lib.hid r1
      have f1 := r1.frozen 1
      have MV := Lib.hid V.out.1
      clear t1 r1 o1 V c0
      have fin : Hid (ruPost B K R Bn T S O (Med.play R Bn T S O l (ops.take k)) w (.returned (.tuple #[])) (wr.setCell ⟨K, 1, none⟩ (.slice none 0 0))) := Lib.hid (by
        have ts : Tch B [100] wr (wr.setCell ⟨K, 1, none⟩ (.slice none 0 0)) := (Tch.refl _ _ _).set H.out.low.1 RV.out.ty (by simp) _
        exact ⟨⟨_, rfl⟩, ⟨M, X, c, _, RV.out.store 1 _, Md.tch ts MV.out (by decide) (by decide), Olx.nil_ _ _, H.out.low⟩, (tch_subR TV.out (by decide)).trans (tch_subR ts (by decide))⟩)
      by_cases hN : k < N
      · have kI : (k : Int) < (N : Int) := by omega
        have kx : ¬ (k : Int) < x := by omega
        have dx : decide ((k : Int) < x) = false := decide_eq_false kx
        clear n1
        go_wp2_with fail
        go_end0
        exact ⟨⟨_, rfl⟩, fin.out.2⟩
      · have kI : ¬ (k : Int) < (N : Int) := by omega
        have dk : decide ((k : Int) < (N : Int)) = false := decide_eq_false kI
        clear n1
        go_wp2_with fail
        go_end0
        exact ⟨⟨_, rfl⟩, fin.out.2⟩
set_option maxHeartbeats 4000000 in
set_option maxRecDepth 100000 in
theorem rfl_any {B : Zn} {w : World} {K R Bn T S O : Nat} {l : List Sec} {ops : List Med.Op} (h : Re B w K R Bn T S O l ops) : Calls Try.prog 80 #[.pointer (some ⟨K, 0, none⟩)] w (ruPost B K R Bn T S O (Med.play R Bn T S O l ops) w) := by
  have E := Lib.hid (rcu_any h (ops.length : Int))
  rw [Int.toNat_natCast, List.take_length] at E
  obtain ⟨M, X, c, v, h⟩ := h
  obtain ⟨p, cap, rfl, hl, hm⟩ := h.ol.form
  obtain ⟨c0, c1⟩ := h.cells
  clear h hl hm c0
  obtain ⟨N, hN⟩ : ∃ n, ops.length = n := ⟨_, rfl⟩
  rw [hN] at E c1
  clear hN
  go_enter Try.func80, Try.ntmps80
  go_wp2_with fail
  refine E.out.mono ?_
  rintro e w1 ⟨⟨u, rfl⟩, hq⟩
  have Q := Lib.hid hq
  clear hq E
  go_wp2_with fail
  go_end0
  exact ⟨⟨_, rfl⟩, Q.out⟩
end Go.Proofs.Ytdjjihppaobbcaa
namespace Go.Proofs.Ytdjjihppaobbcaa
open Go Go.RowKit Med
set_option linter.unusedVariables false
set_option linter.unusedSimpArgs false

/-- What Do does. -/
def rdoPost (B : Zn) (K R Bn T S O : Nat) (l : List Sec) (ops : List Med.Op) (o : Med.Op) (w : World) (e : Ending) (w' : World) : Prop :=
  e = .returned (.int .i64 (opE Bn (Med.play R Bn T S O l ops) o)) ∧ Re B w' K R Bn T S O l (app ops (opE Bn (Med.play R Bn T S O l ops) o) o) ∧ Tch B tyR w w'
theorem BsT.fw {w w' : World} {v : Value} {l : List Nat} (h : BsT w v l) (hb : Below w.heap.size w w') : BsT w' v l := h.tch (Tch.of_below hb (0 : Nat) []) (by simp)
theorem op_row {w : World} {b : Nat} {e : Bool} {p : Int} {u : Value} (h : Row w b 103 #[.bool e, .int .i64 p, u]) : w.rangeAt b 0 [.bool e, .int .i64 p, u] ∧ w.cell? ⟨b, 0, none⟩ = some (.bool e) ∧ w.cell? ⟨b, 1, none⟩ = some (.int .i64 p) ∧ w.cell? ⟨b, 2, none⟩ = some u := by
  have c0 : w.cell? ⟨b, 0, none⟩ = some (.bool e) := by rw [h.cell]; rfl
  have c1 : w.cell? ⟨b, 1, none⟩ = some (.int .i64 p) := by rw [h.cell]; rfl
  have c2 : w.cell? ⟨b, 2, none⟩ = some u := by rw [h.cell]; rfl
  exact ⟨by simpa using op_rng (k := 0) (off := 0) (by simpa using c0) (by simpa using c1) (by simpa using c2), c0, c1, c2⟩
set_option maxHeartbeats 4000000 in
set_option maxRecDepth 100000 in
theorem rdo12_any {B : Zn} {w : World} {K R Bn T S O : Nat} {l : List Sec} {ops : List Med.Op} (h : Re B w K R Bn T S O l ops) (o : Med.Op) (v0 : Value) (hv : Bs w v0 o.bytes) (hl0 : o.bytes.length ≤ 1000) (hn : ops.length ≤ 1000) : Calls Try.prog 79 #[.pointer (some ⟨K, 0, none⟩), .agg #[.bool o.erase, .int .i64 o.pos, v0]] w (rdoPost B K R Bn T S O l ops o w) := by
  obtain ⟨er0, x, d⟩ := o
  obtain ⟨m, A0, cc0, rfl⟩ : ∃ m A cc, v0 = .slice A m cc := by obtain ⟨A, cc, hv⟩ := hv.form; exact ⟨_, A, cc, hv⟩
  show Calls _ _ #[_, .agg #[.bool er0, .int .i64 x, .slice A0 m cc0]] w _
  have hv : Bs w (.slice A0 m cc0) d := hv
  have hl0 : d.length ≤ 1000 := hl0
  obtain ⟨B0, hB0⟩ : ∃ B, w.heap.size = B := ⟨_, rfl⟩
  obtain ⟨W0, hW0⟩ : ∃ W, w.alloc (.cells #[.bool er0, .int .i64 x, .slice A0 m cc0] 103) = W := ⟨_, rfl⟩
  have T0 : Hid (Below w.heap.size w W0) := Lib.hid (by subst hW0; exact (Below.refl _ _).alloc (Nat.le_refl _) _)
  have RB : Hid (Row W0 B0 103 #[.bool er0, .int .i64 x, .slice A0 m cc0]) := Lib.hid (by subst hW0; exact gr_new w _ _ hB0)
  have HB0 := Lib.hid hB0
  have HW0 := Lib.hid hW0
  obtain ⟨M, X, c, v, h⟩ := h
  obtain ⟨p, cap, rfl, hl, hm⟩ := h.ol.form
  obtain ⟨N, hN⟩ : ∃ n, ops.length = n := ⟨_, rfl⟩
  have EN := Lib.hid hN
  rw [hN] at h hn
  have HH := Lib.hid h
  have HN := Lib.hid hn
  have HU := Lib.hid (hv.below T0.out)
  have HL0 := Lib.hid hl0
  obtain ⟨LP, hLP⟩ : ∃ x, Med.play R Bn T S O l ops = x := ⟨_, rfl⟩
  have HLP := Lib.hid hLP
  obtain ⟨z, hz⟩ : ∃ z, opE Bn LP ⟨er0, x, d⟩ = z := ⟨_, rfl⟩
  have HZ := Lib.hid hz
  unfold rdoPost
  rw [hLP, hz]
  clear h hl hm hN hn hv hl0 hB0 hW0 hLP hz
  go_enter Try.func79, Try.ntmps79
  go_wp2_with (first | rw [HB0.out] | rw [HW0.out])
  refine wp_region_held (P := Try.prog) (S := (fun w' : World => Below W0.heap.size W0 w')) rfl ?_
  change wpAnyH _ _ _ _ _ _ _ _ W0.drew
  have hz2 : Below W0.heap.size W0 W0.drew := (Below.refl W0.heap.size W0).drew
  generalize W0.drew = wz1 at hz2 ⊢
  have hq3 : Below W0.heap.size W0 wz1 := hz2
  have HB_4 : Hid (Below W0.heap.size W0 wz1) := Lib.hid (hq3)
  clear hq3
  clear hz2
  have hS5 : (fun w' : World => Below W0.heap.size W0 w') wz1 := HB_4.out
  refine takeD (i := 0) (v := .pointer (some ⟨K, 0, none⟩)) (some 6) rfl rfl (by kernel_rfl) (by kernel_rfl) (by kernel_rfl) (fun _ _ _ h => h) (Or.inl ⟨by rfl, by rintro w' -; go_simp⟩) hS5 ?_
  simp only [Act.put, List.setIfInBounds_toArray, List.set_cons_zero, List.set_cons_succ]
  refine takeD (i := 2) (v := .agg #[.bool er0, .int .i64 x, .slice A0 m cc0]) (some 8) rfl rfl (by kernel_rfl) (by kernel_rfl) (by kernel_rfl) (fun _ _ _ h => h) (yieldsIf_load_mid (by rfl) _ _ rfl B0 0 rfl [.bool er0, .int .i64 x, .slice A0 m cc0] _ (fun w' h => (op_row (RB.out.go h)).1) Try.underlying103 rfl (by kernel_rfl)) hS5 ?_
  simp only [Act.put, List.setIfInBounds_toArray, List.set_cons_zero, List.set_cons_succ]
  refine wpAnyH_ready (rs := [1]) (by kernel_rfl) (by simp) ?_
  refine AllReadyH.cons rfl (fun K6 hK6 => ?_) AllReadyH.nil
  have HK6 := Lib.hid hK6
  clear hK6
  rw [if_pos (by rfl)]
  go_simp
  refine (rct_any (Ra.ex (HH.out.fw (T0.out.trans (HB_4.out.mono T0.out.size))))).mono ?_
  rintro e x7 ⟨M2, X2, c2, rfl, hm, hx, hb⟩
  have Q2 := Lib.hid (show W0.heap.size ≤ X2 from Nat.le_trans HB_4.out.size hx.2)
  rw [HLP.out] at hm
  have hq8 : Below wz1.heap.size wz1 x7 := hb
  have HB_9 : Hid (Below W0.heap.size W0 x7) := Lib.hid (HB_4.out.trans (hq8.mono HB_4.out.size))
  clear hq8
  have HD := Lib.hid hm
  clear hb hm hx
  have hS10 : (fun w' : World => Below W0.heap.size W0 w') x7 := HB_9.out
  refine HK6.out _ _ hS10 fun _ => ?_
  try simp only [Act.put, List.setIfInBounds_toArray, List.set_cons_zero, List.set_cons_succ]
  refine wpAnyH_ready (rs := [3]) (by kernel_rfl) (by simp) ?_
  refine AllReadyH.cons rfl (fun K11 hK11 => ?_) AllReadyH.nil
  have HK11 := Lib.hid hK11
  clear hK11
  rw [if_pos (by rfl)]
  go_simp
  have D := rdo_any HD.out ⟨er0, x, d⟩ (.slice A0 m cc0) (HU.out.below HB_9.out)
  rw [HZ.out] at D
  refine D.mono ?_
  rintro e x12 ⟨rfl, -, hc⟩
  clear D
  have hb : Below W0.heap.size x7 x12 := hc.below HB_9.out.size (fun j hj => by rw [hj]; exact Q2.out)
  have HB_13 : Hid (Below W0.heap.size W0 x12) := Lib.hid (HB_9.out.trans (hb))
  clear hb hc
  have hS14 : (fun w' : World => Below W0.heap.size W0 w') x12 := HB_13.out
  refine HK11.out _ _ hS14 fun _ => ?_
  try simp only [Act.put, List.setIfInBounds_toArray, List.set_cons_zero, List.set_cons_succ]
  refine takeD (i := 4) (v := .int .i64 z) (some 5) rfl rfl (by kernel_rfl) (by kernel_rfl) (by kernel_rfl) (fun _ _ _ h => h) (Or.inl ⟨by rfl, by rintro w' -; go_simp⟩) hS14 ?_
  simp only [Act.put, List.setIfInBounds_toArray, List.set_cons_zero, List.set_cons_succ]
  refine wpAnyH_done (by kernel_rfl) ?_ _
  have TW : Hid (Below w.heap.size w x12) := Lib.hid (T0.out.trans (HB_13.out.mono T0.out.size))
  have RQ := Lib.hid (RB.out.go HB_13.out)
  have UQ := Lib.hid (HU.out.below HB_13.out)
  by_cases h0 : z = 0
  · have d0 : ((z : Int) != 0) = false := by simp [h0]
    have Z0 := Lib.hid h0
    clear h0
    have MK := Lib.hid (OwB.made x12 (Nat.le_refl _))
    have HA := Lib.hid (UQ.out.alloc (.cells #[] 5))
    have RA := Lib.hid (RQ.out.go ((Below.refl x12.heap.size x12).alloc (Nat.le_refl _) (.cells #[] 5)))
    obtain ⟨-, -, -, q2⟩ := op_row RA.out
    go_wp2_with (first | (refine wpList_plain rfl fun _ hK' => wpB_build_0 rfl (hK' _ _ ?_)) | (at_builtin; refine wp_app rfl _ _ rfl x12.heap.size _ _ [] d rfl rfl MK.out HA.out (by have := HL0.out; simp; omega) (by simp) ?_; intro u1 y1 hown1 hg1; have hbz := ((Below.refl x12.heap.size x12).alloc (Nat.le_refl _) (.cells #[] 5)).trans hg1; have HBz := Lib.hid hbz; have OWN := Lib.hid (show OwB y1 x12.heap.size u1 d from hown1); have RY := Lib.hid (RQ.out.go hbz); obtain ⟨-, -, -, q2y⟩ := op_row RY.out; have qf := RY.out.frozen 2; obtain ⟨m1, A1, cc1, rfl⟩ : ∃ m A cc, u1 = .slice A m cc := (by obtain ⟨A, cc, e⟩ := hown1.bs.form; exact ⟨_, A, cc, e⟩); clear hbz hown1 hg1))
    have hst : Row (y1.setCell ⟨B0, 2, none⟩ (.slice A1 m1 cc1)) B0 103 #[.bool er0, .int .i64 x, .slice A1 m1 cc1] := RY.out.store 2 (.slice A1 m1 cc1)
    have hbs : Below w.heap.size w (y1.setCell ⟨B0, 2, none⟩ (.slice A1 m1 cc1)) := (TW.out.trans (HBz.out.mono TW.out.size)).setCell (p := ⟨B0, 2, none⟩) (Nat.le_of_eq HB0.out) _
    have hcs : Tch (0 : Nat) [103] y1 (y1.setCell ⟨B0, 2, none⟩ (.slice A1 m1 cc1)) := (Tch.refl _ _ _).set (Nat.zero_le _) RY.out.ty (by simp) _
    have BT := Lib.hid (OWN.out.bst.tch hcs (by decide))
    generalize y1.setCell ⟨B0, 2, none⟩ (.slice A1 m1 cc1) = W5 at hst hbs hcs BT ⊢
    have CR := Lib.hid (HH.out.fw hbs)
    have QR := Lib.hid hst
    have TB := Lib.hid hbs
    have KB := Lib.hid (show B0 ≠ K from (QR.out.ty).ne CR.out.row.ty (by decide))
    clear hst hbs hcs q2 q2y qf MK HA HBz OWN RA RY RQ UQ
    refine wp_region_held (P := Try.prog) (S := (fun w' : World => Chg (fun j => j = K) W5 w')) rfl ?_
    change wpAnyH _ _ _ _ _ _ _ _ W5.drew
    have hz116 : Below W5.heap.size W5 W5.drew := (Below.refl W5.heap.size W5).drew
    generalize W5.drew = wz115 at hz116 ⊢
    have TT_117 : Hid (Below W5.heap.size W5 wz115) := Lib.hid ((Below.refl W5.heap.size W5).trans ((hz116).mono (Below.refl W5.heap.size W5).size))
    clear hz116
    have hS118 : (fun w' : World => Chg (fun j => j = K) W5 w') wz115 := (below_chg TT_117.out (fun j => j = K))
    refine takeD (i := 0) (v := .pointer (some ⟨K, 0, none⟩)) (some 18) rfl rfl (by kernel_rfl) (by kernel_rfl) (by kernel_rfl) (fun _ _ _ h => h) (Or.inl ⟨by rfl, by rintro w' -; go_simp⟩) hS118 ?_
    simp only [Act.put, List.setIfInBounds_toArray, List.set_cons_zero, List.set_cons_succ]
    refine takeD (i := 2) (v := .pointer (some ⟨K, 0, none⟩)) (some 20) rfl rfl (by kernel_rfl) (by kernel_rfl) (by kernel_rfl) (fun _ _ _ h => h) (Or.inl ⟨by rfl, by rintro w' -; go_simp⟩) hS118 ?_
    simp only [Act.put, List.setIfInBounds_toArray, List.set_cons_zero, List.set_cons_succ]
    refine takeD (i := 3) (v := .pointer (some ⟨K, 0, none⟩)) (some 21) rfl rfl (by kernel_rfl) (by kernel_rfl) (by kernel_rfl) (fun _ _ _ h => h) (Or.inl ⟨by rfl, by rintro w' -; go_simp⟩) hS118 ?_
    simp only [Act.put, List.setIfInBounds_toArray, List.set_cons_zero, List.set_cons_succ]
    refine takeD (i := 4) (v := .pointer (some ⟨K, 1, none⟩)) (some 22) rfl rfl (by kernel_rfl) (by kernel_rfl) (by kernel_rfl) (fun _ _ _ h => h) (Or.inl ⟨by rfl, by rintro w' -; go_simp⟩) hS118 ?_
    simp only [Act.put, List.setIfInBounds_toArray, List.set_cons_zero, List.set_cons_succ]
    refine takeD (i := 7) (v := .agg #[.bool er0, .int .i64 x, .slice A1 m1 cc1]) (some 25) rfl rfl (by kernel_rfl) (by kernel_rfl) (by kernel_rfl) (fun _ _ _ h => h) (yieldsIf_load_mid (by rfl) _ _ rfl B0 0 rfl [.bool er0, .int .i64 x, .slice A1 m1 cc1] _ (fun w' h => (op_row (show Row w' B0 _ _ from (Chg.block h B0 QR.out.lt KB.out).trans QR.out)).1) Try.underlying103 rfl (by kernel_rfl)) hS118 ?_
    simp only [Act.put, List.setIfInBounds_toArray, List.set_cons_zero, List.set_cons_succ]
    refine wpAnyH_ready (rs := [1, 5, 8]) (by kernel_rfl) (by simp) ?_
    refine AllReadyH.cons rfl (fun KK hK => ?_) (AllReadyH.cons rfl (fun KK hK => ?_) (AllReadyH.cons rfl (fun KK hK => ?_) AllReadyH.nil))
    · have HK119 := Lib.hid hK
      clear hK
      rw [if_pos (by rfl)]
      refine wp_build_e Try.underlying98 info_op rfl ?_
      have hq121 : Below wz115.heap.size wz115 (wz115.alloc (.cells #[] 103)) := (Below.refl _ _).alloc (Nat.le_refl _) _
      have hh122 := gr_new wz115 #[] 103 rfl
      have BG := Lib.hid TT_117.out.size
      generalize wz115.alloc (.cells #[] 103) = x120 at hq121 hh122 ⊢
      obtain ⟨b0, hb0⟩ : ∃ b, wz115.heap.size = b := ⟨_, rfl⟩
      rw [hb0] at BG hh122 ⊢
      have TT_123 : Hid (Below W5.heap.size W5 x120) := Lib.hid (TT_117.out.trans ((hq121).mono TT_117.out.size))
      have RB2 := Lib.hid hh122
      clear hq121 hh122 hb0
      have hS124 : (fun w' : World => Chg (fun j => j = K) W5 w') x120 := (below_chg TT_123.out (fun j => j = K))
      refine HK119.out _ _ hS124 fun _ => ?_
      try simp only [Act.put, List.setIfInBounds_toArray, List.set_cons_zero, List.set_cons_succ]
      refine wpAnyH_ready (rs := [5, 8]) (by kernel_rfl) (by simp) ?_
      refine AllReadyH.cons rfl (fun KK hK => ?_) (AllReadyH.cons rfl (fun KK hK => ?_) AllReadyH.nil)
      · have HK125 := Lib.hid hK
        clear hK
        rw [if_pos (by rfl)]
        have cc := (show _ = some _ from (CR.out.fw TT_123.out).cells.2)
        go_simp
        clear cc
        skip
        refine HK125.out _ _ hS124 fun _ => ?_
        try simp only [Act.put, List.setIfInBounds_toArray, List.set_cons_zero, List.set_cons_succ]
        refine wpAnyH_ready (rs := [6, 8]) (by kernel_rfl) (by simp) ?_
        refine AllReadyH.cons rfl (fun KK hK => ?_) (AllReadyH.cons rfl (fun KK hK => ?_) AllReadyH.nil)
        · have HK126 := Lib.hid hK
          clear hK
          rw [if_pos (by rfl)]
          refine wp_copy_O (Q := BsT) (A := 0) (B := b0) _ _ rfl b0 N cap p ops rfl RB2.out rfl EN.out (CR.out.fw TT_123.out).ol (by have := HN.out; omega) (Nat.le_refl _) (fun w' u l hc hq => hq.tch hc (by decide)) ?_
          intro g1 cap1 x127 ho hg
          have hcg : Tch W5.heap.size [103] x120 x127 := Tch.grown hg (fun k hk => by injection hk with hk; subst hk; exact ⟨BG.out, RB2.out.ty⟩) (by simp)
          have TT_128 : Hid (Below W5.heap.size W5 x127) := Lib.hid (TT_123.out.trans (hcg.below TT_123.out.size))
          have HO2 := Lib.hid (ho.low (Nat.zero_le _))
          have GB := Lib.hid (show ∀ k, (Value.slice (some ⟨g1, 0, none⟩) N cap1).ownBlock = some k → W5.heap.size ≤ k from fun k hk => Nat.le_trans BG.out (ho.own k hk).1)
          have HO3 := Lib.hid (ho.low BG.out)
          clear hcg ho hg
          have hS129 : (fun w' : World => Chg (fun j => j = K) W5 w') x127 := (below_chg TT_128.out (fun j => j = K))
          refine HK126.out _ _ hS129 fun _ => ?_
          try simp only [Act.put, List.setIfInBounds_toArray, List.set_cons_zero, List.set_cons_succ]
          refine wpAnyH_ready (rs := [8]) (by kernel_rfl) (by simp) ?_
          refine AllReadyH.cons rfl (fun K130 hK130 => ?_) AllReadyH.nil
          have HK130 := Lib.hid hK130
          clear hK130
          rw [if_pos (by rfl)]
          refine wp_build_op _ rfl er0 x A1 m1 cc1 rfl ?_
          have hq132 : Below x127.heap.size x127 (x127.alloc (.cells #[.bool er0, .int .i64 x, .slice A1 m1 cc1] 103)) := (Below.refl _ _).alloc (Nat.le_refl _) _
          have hh133 := gr_new x127 #[.bool er0, .int .i64 x, .slice A1 m1 cc1] 103 rfl
          generalize x127.alloc (.cells #[.bool er0, .int .i64 x, .slice A1 m1 cc1] 103) = x131 at hq132 hh133 ⊢
          obtain ⟨b1, hb1⟩ : ∃ b, x127.heap.size = b := ⟨_, rfl⟩
          rw [hb1] at hh133 ⊢
          have L_134 := Lib.hid (OlT.tch HO3.out (Tch.of_below (hq132) (0 : Nat) []) (by simp) (by simp))
          have TT_135 : Hid (Below W5.heap.size W5 x131) := Lib.hid (TT_128.out.trans ((hq132).mono TT_128.out.size))
          have RB3 := Lib.hid hh133
          clear hq132 hh133 hb1
          have hS136 : (fun w' : World => Chg (fun j => j = K) W5 w') x131 := (below_chg TT_135.out (fun j => j = K))
          refine HK130.out _ _ hS136 fun _ => ?_
          try simp only [Act.put, List.setIfInBounds_toArray, List.set_cons_zero, List.set_cons_succ]
          refine wpAnyH_ready (rs := [9]) (by kernel_rfl) (by simp) ?_
          refine AllReadyH.cons rfl (fun K137 hK137 => ?_) AllReadyH.nil
          have HK137 := Lib.hid hK137
          clear hK137
          rw [if_pos (by rfl)]
          refine wp_push_O (Q := BsT) (B := W5.heap.size) _ _ rfl _ ops N b1 (.slice A1 m1 cc1) ⟨er0, x, d⟩ rfl L_134.out EN.out rfl RB3.out (BT.out.fw TT_135.out) rfl (by have := HN.out; omega) TT_135.out.size (fun w' u l hc hq => hq.tch hc (by decide)) ?_
          intro g2 cap2 x138 ho hc
          have TT_139 : Hid (Below W5.heap.size W5 x138) := Lib.hid (TT_135.out.trans (hc.below TT_135.out.size))
          have HO4 := Lib.hid (ho.low (Nat.zero_le _))
          clear ho hc
          have hS140 : (fun w' : World => Chg (fun j => j = K) W5 w') x138 := (below_chg TT_139.out (fun j => j = K))
          refine HK137.out _ _ hS140 fun _ => ?_
          try simp only [Act.put, List.setIfInBounds_toArray, List.set_cons_zero, List.set_cons_succ]
          refine takeD (i := 10) (v := .pointer (some ⟨K, 0, none⟩)) (some 28) rfl rfl (by kernel_rfl) (by kernel_rfl) (by kernel_rfl) (fun _ _ _ h => h) (Or.inl ⟨by rfl, by rintro w' -; go_simp⟩) hS140 ?_
          simp only [Act.put, List.setIfInBounds_toArray, List.set_cons_zero, List.set_cons_succ]
          refine takeD (i := 11) (v := .pointer (some ⟨K, 1, none⟩)) (some 29) rfl rfl (by kernel_rfl) (by kernel_rfl) (by kernel_rfl) (fun _ _ _ h => h) (Or.inl ⟨by rfl, by rintro w' -; go_simp⟩) hS140 ?_
          simp only [Act.put, List.setIfInBounds_toArray, List.set_cons_zero, List.set_cons_succ]
          refine wpAnyH_ready (rs := [12]) (by kernel_rfl) (by simp) ?_
          refine AllReadyH.cons rfl (fun K141 hK141 => ?_) AllReadyH.nil
          have HK141 := Lib.hid hK141
          clear hK141
          rw [if_pos (by rfl)]
          have CZ := Lib.hid (CR.out.fw TT_139.out)
          have cc := (show _ = some _ from CZ.out.cells.2)
          have ff := CZ.out.row.frozen 1
          go_simp
          clear cc ff
          have TS : Hid (Tch B [100] x138 (x138.setCell ⟨K, 1, none⟩ (.slice (some ⟨g2, 0, none⟩) (N + 1) cap2))) := Lib.hid ((Tch.refl _ _ _).set CZ.out.low.1 CZ.out.row.ty (by simp) _)
          have RS := Lib.hid (CZ.out.row.store 1 (.slice (some ⟨g2, 0, none⟩) (N + 1) cap2))
          have LS := Lib.hid (OlT.tch HO4.out TS.out (by decide) (by decide))
          have MS := Lib.hid (Md.tch TS.out CZ.out.md (by decide) (by decide))
          have TF := Lib.hid ((Tch.of_below (TB.out.trans (TT_139.out.mono TB.out.size)) B tyR).trans (tch_subR TS.out (by decide)))
          have FN : Hid (Chg (fun j => j = K) W5 (x138.setCell ⟨K, 1, none⟩ (.slice (some ⟨g2, 0, none⟩) (N + 1) cap2))) := Lib.hid ((below_chg TT_139.out (fun j => j = K)).setCell (p := ⟨K, 1, none⟩) rfl _)
          generalize x138.setCell ⟨K, 1, none⟩ (.slice (some ⟨g2, 0, none⟩) (N + 1) cap2) = W9 at TS RS LS MS TF FN ⊢
          have hS142 : (fun w' : World => Chg (fun j => j = K) W5 w') W9 := FN.out
          refine HK141.out _ _ hS142 fun _ => ?_
          refine wpAnyH_done (by kernel_rfl) ?_ _
          go_wp2_with fail
          go_ret
          refine ⟨by rw [Z0.out]; rfl, ⟨M, X, c, _, RS.out, MS.out, ?_, HH.out.low⟩, TF.out⟩
          unfold app
          rw [if_pos Z0.out]
          have h := LS.out
          exact h
        · have HK126 := Lib.hid hK
          clear hK
          rw [if_pos (by rfl)]
          refine wp_build_op _ rfl er0 x A1 m1 cc1 rfl ?_
          have hq128 : Below x120.heap.size x120 (x120.alloc (.cells #[.bool er0, .int .i64 x, .slice A1 m1 cc1] 103)) := (Below.refl _ _).alloc (Nat.le_refl _) _
          have hh129 := gr_new x120 #[.bool er0, .int .i64 x, .slice A1 m1 cc1] 103 rfl
          generalize x120.alloc (.cells #[.bool er0, .int .i64 x, .slice A1 m1 cc1] 103) = x127 at hq128 hh129 ⊢
          obtain ⟨b1, hb1⟩ : ∃ b, x120.heap.size = b := ⟨_, rfl⟩
          rw [hb1] at hh129 ⊢
          have E_130 := Lib.hid (Row.go RB2.out (hq128))
          have TT_131 : Hid (Below W5.heap.size W5 x127) := Lib.hid (TT_123.out.trans ((hq128).mono TT_123.out.size))
          have RB3 := Lib.hid hh129
          clear hq128 hh129 hb1
          have hS132 : (fun w' : World => Chg (fun j => j = K) W5 w') x127 := (below_chg TT_131.out (fun j => j = K))
          refine HK126.out _ _ hS132 fun _ => ?_
          try simp only [Act.put, List.setIfInBounds_toArray, List.set_cons_zero, List.set_cons_succ]
          refine wpAnyH_ready (rs := [6]) (by kernel_rfl) (by simp) ?_
          refine AllReadyH.cons rfl (fun K133 hK133 => ?_) AllReadyH.nil
          have HK133 := Lib.hid hK133
          clear hK133
          rw [if_pos (by rfl)]
          refine wp_copy_O (Q := BsT) (A := 0) (B := b0) _ _ rfl b0 N cap p ops rfl E_130.out rfl EN.out (CR.out.fw TT_131.out).ol (by have := HN.out; omega) (Nat.le_refl _) (fun w' u l hc hq => hq.tch hc (by decide)) ?_
          intro g1 cap1 x134 ho hg
          have hcg : Tch W5.heap.size [103] x127 x134 := Tch.grown hg (fun k hk => by injection hk with hk; subst hk; exact ⟨BG.out, E_130.out.ty⟩) (by simp)
          have TT_135 : Hid (Below W5.heap.size W5 x134) := Lib.hid (TT_131.out.trans (hcg.below TT_131.out.size))
          have HO2 := Lib.hid (ho.low (Nat.zero_le _))
          have GB := Lib.hid (show ∀ k, (Value.slice (some ⟨g1, 0, none⟩) N cap1).ownBlock = some k → W5.heap.size ≤ k from fun k hk => Nat.le_trans BG.out (ho.own k hk).1)
          have HO3 := Lib.hid (ho.low BG.out)
          have HF2 := Lib.hid (show Row x134 b1 103 #[.bool er0, .int .i64 x, .slice A1 m1 cc1] from (hg.block b1 RB3.out.lt (fun e => by injection e with e; subst e; have h9 := RB3.out.symm.trans E_130.out; simp at h9)).trans RB3.out)
          clear hcg ho hg
          have hS136 : (fun w' : World => Chg (fun j => j = K) W5 w') x134 := (below_chg TT_135.out (fun j => j = K))
          refine HK133.out _ _ hS136 fun _ => ?_
          try simp only [Act.put, List.setIfInBounds_toArray, List.set_cons_zero, List.set_cons_succ]
          refine wpAnyH_ready (rs := [9]) (by kernel_rfl) (by simp) ?_
          refine AllReadyH.cons rfl (fun K137 hK137 => ?_) AllReadyH.nil
          have HK137 := Lib.hid hK137
          clear hK137
          rw [if_pos (by rfl)]
          refine wp_push_O (Q := BsT) (B := W5.heap.size) _ _ rfl _ ops N b1 (.slice A1 m1 cc1) ⟨er0, x, d⟩ rfl HO3.out EN.out rfl HF2.out (BT.out.fw TT_135.out) rfl (by have := HN.out; omega) TT_135.out.size (fun w' u l hc hq => hq.tch hc (by decide)) ?_
          intro g2 cap2 x138 ho hc
          have TT_139 : Hid (Below W5.heap.size W5 x138) := Lib.hid (TT_135.out.trans (hc.below TT_135.out.size))
          have HO4 := Lib.hid (ho.low (Nat.zero_le _))
          clear ho hc
          have hS140 : (fun w' : World => Chg (fun j => j = K) W5 w') x138 := (below_chg TT_139.out (fun j => j = K))
          refine HK137.out _ _ hS140 fun _ => ?_
          try simp only [Act.put, List.setIfInBounds_toArray, List.set_cons_zero, List.set_cons_succ]
          refine takeD (i := 10) (v := .pointer (some ⟨K, 0, none⟩)) (some 28) rfl rfl (by kernel_rfl) (by kernel_rfl) (by kernel_rfl) (fun _ _ _ h => h) (Or.inl ⟨by rfl, by rintro w' -; go_simp⟩) hS140 ?_
          simp only [Act.put, List.setIfInBounds_toArray, List.set_cons_zero, List.set_cons_succ]
          refine takeD (i := 11) (v := .pointer (some ⟨K, 1, none⟩)) (some 29) rfl rfl (by kernel_rfl) (by kernel_rfl) (by kernel_rfl) (fun _ _ _ h => h) (Or.inl ⟨by rfl, by rintro w' -; go_simp⟩) hS140 ?_
          simp only [Act.put, List.setIfInBounds_toArray, List.set_cons_zero, List.set_cons_succ]
          refine wpAnyH_ready (rs := [12]) (by kernel_rfl) (by simp) ?_
          refine AllReadyH.cons rfl (fun K141 hK141 => ?_) AllReadyH.nil
          have HK141 := Lib.hid hK141
          clear hK141
          rw [if_pos (by rfl)]
          have CZ := Lib.hid (CR.out.fw TT_139.out)
          have cc := (show _ = some _ from CZ.out.cells.2)
          have ff := CZ.out.row.frozen 1
          go_simp
          clear cc ff
          have TS : Hid (Tch B [100] x138 (x138.setCell ⟨K, 1, none⟩ (.slice (some ⟨g2, 0, none⟩) (N + 1) cap2))) := Lib.hid ((Tch.refl _ _ _).set CZ.out.low.1 CZ.out.row.ty (by simp) _)
          have RS := Lib.hid (CZ.out.row.store 1 (.slice (some ⟨g2, 0, none⟩) (N + 1) cap2))
          have LS := Lib.hid (OlT.tch HO4.out TS.out (by decide) (by decide))
          have MS := Lib.hid (Md.tch TS.out CZ.out.md (by decide) (by decide))
          have TF := Lib.hid ((Tch.of_below (TB.out.trans (TT_139.out.mono TB.out.size)) B tyR).trans (tch_subR TS.out (by decide)))
          have FN : Hid (Chg (fun j => j = K) W5 (x138.setCell ⟨K, 1, none⟩ (.slice (some ⟨g2, 0, none⟩) (N + 1) cap2))) := Lib.hid ((below_chg TT_139.out (fun j => j = K)).setCell (p := ⟨K, 1, none⟩) rfl _)
          generalize x138.setCell ⟨K, 1, none⟩ (.slice (some ⟨g2, 0, none⟩) (N + 1) cap2) = W9 at TS RS LS MS TF FN ⊢
          have hS142 : (fun w' : World => Chg (fun j => j = K) W5 w') W9 := FN.out
          refine HK141.out _ _ hS142 fun _ => ?_
          refine wpAnyH_done (by kernel_rfl) ?_ _
          go_wp2_with fail
          go_ret
          refine ⟨by rw [Z0.out]; rfl, ⟨M, X, c, _, RS.out, MS.out, ?_, HH.out.low⟩, TF.out⟩
          unfold app
          rw [if_pos Z0.out]
          have h := LS.out
          exact h
      · have HK125 := Lib.hid hK
        clear hK
        rw [if_pos (by rfl)]
        refine wp_build_op _ rfl er0 x A1 m1 cc1 rfl ?_
        have hq127 : Below x120.heap.size x120 (x120.alloc (.cells #[.bool er0, .int .i64 x, .slice A1 m1 cc1] 103)) := (Below.refl _ _).alloc (Nat.le_refl _) _
        have hh128 := gr_new x120 #[.bool er0, .int .i64 x, .slice A1 m1 cc1] 103 rfl
        generalize x120.alloc (.cells #[.bool er0, .int .i64 x, .slice A1 m1 cc1] 103) = x126 at hq127 hh128 ⊢
        obtain ⟨b1, hb1⟩ : ∃ b, x120.heap.size = b := ⟨_, rfl⟩
        rw [hb1] at hh128 ⊢
        have E_129 := Lib.hid (Row.go RB2.out (hq127))
        have TT_130 : Hid (Below W5.heap.size W5 x126) := Lib.hid (TT_123.out.trans ((hq127).mono TT_123.out.size))
        have RB3 := Lib.hid hh128
        clear hq127 hh128 hb1
        have hS131 : (fun w' : World => Chg (fun j => j = K) W5 w') x126 := (below_chg TT_130.out (fun j => j = K))
        refine HK125.out _ _ hS131 fun _ => ?_
        try simp only [Act.put, List.setIfInBounds_toArray, List.set_cons_zero, List.set_cons_succ]
        refine wpAnyH_ready (rs := [5]) (by kernel_rfl) (by simp) ?_
        refine AllReadyH.cons rfl (fun K132 hK132 => ?_) AllReadyH.nil
        have HK132 := Lib.hid hK132
        clear hK132
        rw [if_pos (by rfl)]
        have cc := (show _ = some _ from (CR.out.fw TT_130.out).cells.2)
        go_simp
        clear cc
        skip
        refine HK132.out _ _ hS131 fun _ => ?_
        try simp only [Act.put, List.setIfInBounds_toArray, List.set_cons_zero, List.set_cons_succ]
        refine wpAnyH_ready (rs := [6]) (by kernel_rfl) (by simp) ?_
        refine AllReadyH.cons rfl (fun K133 hK133 => ?_) AllReadyH.nil
        have HK133 := Lib.hid hK133
        clear hK133
        rw [if_pos (by rfl)]
        refine wp_copy_O (Q := BsT) (A := 0) (B := b0) _ _ rfl b0 N cap p ops rfl E_129.out rfl EN.out (CR.out.fw TT_130.out).ol (by have := HN.out; omega) (Nat.le_refl _) (fun w' u l hc hq => hq.tch hc (by decide)) ?_
        intro g1 cap1 x134 ho hg
        have hcg : Tch W5.heap.size [103] x126 x134 := Tch.grown hg (fun k hk => by injection hk with hk; subst hk; exact ⟨BG.out, E_129.out.ty⟩) (by simp)
        have TT_135 : Hid (Below W5.heap.size W5 x134) := Lib.hid (TT_130.out.trans (hcg.below TT_130.out.size))
        have HO2 := Lib.hid (ho.low (Nat.zero_le _))
        have GB := Lib.hid (show ∀ k, (Value.slice (some ⟨g1, 0, none⟩) N cap1).ownBlock = some k → W5.heap.size ≤ k from fun k hk => Nat.le_trans BG.out (ho.own k hk).1)
        have HO3 := Lib.hid (ho.low BG.out)
        have HF2 := Lib.hid (show Row x134 b1 103 #[.bool er0, .int .i64 x, .slice A1 m1 cc1] from (hg.block b1 RB3.out.lt (fun e => by injection e with e; subst e; have h9 := RB3.out.symm.trans E_129.out; simp at h9)).trans RB3.out)
        clear hcg ho hg
        have hS136 : (fun w' : World => Chg (fun j => j = K) W5 w') x134 := (below_chg TT_135.out (fun j => j = K))
        refine HK133.out _ _ hS136 fun _ => ?_
        try simp only [Act.put, List.setIfInBounds_toArray, List.set_cons_zero, List.set_cons_succ]
        refine wpAnyH_ready (rs := [9]) (by kernel_rfl) (by simp) ?_
        refine AllReadyH.cons rfl (fun K137 hK137 => ?_) AllReadyH.nil
        have HK137 := Lib.hid hK137
        clear hK137
        rw [if_pos (by rfl)]
        refine wp_push_O (Q := BsT) (B := W5.heap.size) _ _ rfl _ ops N b1 (.slice A1 m1 cc1) ⟨er0, x, d⟩ rfl HO3.out EN.out rfl HF2.out (BT.out.fw TT_135.out) rfl (by have := HN.out; omega) TT_135.out.size (fun w' u l hc hq => hq.tch hc (by decide)) ?_
        intro g2 cap2 x138 ho hc
        have TT_139 : Hid (Below W5.heap.size W5 x138) := Lib.hid (TT_135.out.trans (hc.below TT_135.out.size))
        have HO4 := Lib.hid (ho.low (Nat.zero_le _))
        clear ho hc
        have hS140 : (fun w' : World => Chg (fun j => j = K) W5 w') x138 := (below_chg TT_139.out (fun j => j = K))
        refine HK137.out _ _ hS140 fun _ => ?_
        try simp only [Act.put, List.setIfInBounds_toArray, List.set_cons_zero, List.set_cons_succ]
        refine takeD (i := 10) (v := .pointer (some ⟨K, 0, none⟩)) (some 28) rfl rfl (by kernel_rfl) (by kernel_rfl) (by kernel_rfl) (fun _ _ _ h => h) (Or.inl ⟨by rfl, by rintro w' -; go_simp⟩) hS140 ?_
        simp only [Act.put, List.setIfInBounds_toArray, List.set_cons_zero, List.set_cons_succ]
        refine takeD (i := 11) (v := .pointer (some ⟨K, 1, none⟩)) (some 29) rfl rfl (by kernel_rfl) (by kernel_rfl) (by kernel_rfl) (fun _ _ _ h => h) (Or.inl ⟨by rfl, by rintro w' -; go_simp⟩) hS140 ?_
        simp only [Act.put, List.setIfInBounds_toArray, List.set_cons_zero, List.set_cons_succ]
        refine wpAnyH_ready (rs := [12]) (by kernel_rfl) (by simp) ?_
        refine AllReadyH.cons rfl (fun K141 hK141 => ?_) AllReadyH.nil
        have HK141 := Lib.hid hK141
        clear hK141
        rw [if_pos (by rfl)]
        have CZ := Lib.hid (CR.out.fw TT_139.out)
        have cc := (show _ = some _ from CZ.out.cells.2)
        have ff := CZ.out.row.frozen 1
        go_simp
        clear cc ff
        have TS : Hid (Tch B [100] x138 (x138.setCell ⟨K, 1, none⟩ (.slice (some ⟨g2, 0, none⟩) (N + 1) cap2))) := Lib.hid ((Tch.refl _ _ _).set CZ.out.low.1 CZ.out.row.ty (by simp) _)
        have RS := Lib.hid (CZ.out.row.store 1 (.slice (some ⟨g2, 0, none⟩) (N + 1) cap2))
        have LS := Lib.hid (OlT.tch HO4.out TS.out (by decide) (by decide))
        have MS := Lib.hid (Md.tch TS.out CZ.out.md (by decide) (by decide))
        have TF := Lib.hid ((Tch.of_below (TB.out.trans (TT_139.out.mono TB.out.size)) B tyR).trans (tch_subR TS.out (by decide)))
        have FN : Hid (Chg (fun j => j = K) W5 (x138.setCell ⟨K, 1, none⟩ (.slice (some ⟨g2, 0, none⟩) (N + 1) cap2))) := Lib.hid ((below_chg TT_139.out (fun j => j = K)).setCell (p := ⟨K, 1, none⟩) rfl _)
        generalize x138.setCell ⟨K, 1, none⟩ (.slice (some ⟨g2, 0, none⟩) (N + 1) cap2) = W9 at TS RS LS MS TF FN ⊢
        have hS142 : (fun w' : World => Chg (fun j => j = K) W5 w') W9 := FN.out
        refine HK141.out _ _ hS142 fun _ => ?_
        refine wpAnyH_done (by kernel_rfl) ?_ _
        go_wp2_with fail
        go_ret
        refine ⟨by rw [Z0.out]; rfl, ⟨M, X, c, _, RS.out, MS.out, ?_, HH.out.low⟩, TF.out⟩
        unfold app
        rw [if_pos Z0.out]
        have h := LS.out
        exact h
    · have HK119 := Lib.hid hK
      clear hK
      rw [if_pos (by rfl)]
      have cc := (show _ = some _ from (CR.out.fw TT_117.out).cells.2)
      go_simp
      clear cc
      skip
      refine HK119.out _ _ hS118 fun _ => ?_
      try simp only [Act.put, List.setIfInBounds_toArray, List.set_cons_zero, List.set_cons_succ]
      refine wpAnyH_ready (rs := [1, 8]) (by kernel_rfl) (by simp) ?_
      refine AllReadyH.cons rfl (fun KK hK => ?_) (AllReadyH.cons rfl (fun KK hK => ?_) AllReadyH.nil)
      · have HK120 := Lib.hid hK
        clear hK
        rw [if_pos (by rfl)]
        refine wp_build_e Try.underlying98 info_op rfl ?_
        have hq122 : Below wz115.heap.size wz115 (wz115.alloc (.cells #[] 103)) := (Below.refl _ _).alloc (Nat.le_refl _) _
        have hh123 := gr_new wz115 #[] 103 rfl
        have BG := Lib.hid TT_117.out.size
        generalize wz115.alloc (.cells #[] 103) = x121 at hq122 hh123 ⊢
        obtain ⟨b0, hb0⟩ : ∃ b, wz115.heap.size = b := ⟨_, rfl⟩
        rw [hb0] at BG hh123 ⊢
        have TT_124 : Hid (Below W5.heap.size W5 x121) := Lib.hid (TT_117.out.trans ((hq122).mono TT_117.out.size))
        have RB2 := Lib.hid hh123
        clear hq122 hh123 hb0
        have hS125 : (fun w' : World => Chg (fun j => j = K) W5 w') x121 := (below_chg TT_124.out (fun j => j = K))
        refine HK120.out _ _ hS125 fun _ => ?_
        try simp only [Act.put, List.setIfInBounds_toArray, List.set_cons_zero, List.set_cons_succ]
        refine wpAnyH_ready (rs := [6, 8]) (by kernel_rfl) (by simp) ?_
        refine AllReadyH.cons rfl (fun KK hK => ?_) (AllReadyH.cons rfl (fun KK hK => ?_) AllReadyH.nil)
        · have HK126 := Lib.hid hK
          clear hK
          rw [if_pos (by rfl)]
          refine wp_copy_O (Q := BsT) (A := 0) (B := b0) _ _ rfl b0 N cap p ops rfl RB2.out rfl EN.out (CR.out.fw TT_124.out).ol (by have := HN.out; omega) (Nat.le_refl _) (fun w' u l hc hq => hq.tch hc (by decide)) ?_
          intro g1 cap1 x127 ho hg
          have hcg : Tch W5.heap.size [103] x121 x127 := Tch.grown hg (fun k hk => by injection hk with hk; subst hk; exact ⟨BG.out, RB2.out.ty⟩) (by simp)
          have TT_128 : Hid (Below W5.heap.size W5 x127) := Lib.hid (TT_124.out.trans (hcg.below TT_124.out.size))
          have HO2 := Lib.hid (ho.low (Nat.zero_le _))
          have GB := Lib.hid (show ∀ k, (Value.slice (some ⟨g1, 0, none⟩) N cap1).ownBlock = some k → W5.heap.size ≤ k from fun k hk => Nat.le_trans BG.out (ho.own k hk).1)
          have HO3 := Lib.hid (ho.low BG.out)
          clear hcg ho hg
          have hS129 : (fun w' : World => Chg (fun j => j = K) W5 w') x127 := (below_chg TT_128.out (fun j => j = K))
          refine HK126.out _ _ hS129 fun _ => ?_
          try simp only [Act.put, List.setIfInBounds_toArray, List.set_cons_zero, List.set_cons_succ]
          refine wpAnyH_ready (rs := [8]) (by kernel_rfl) (by simp) ?_
          refine AllReadyH.cons rfl (fun K130 hK130 => ?_) AllReadyH.nil
          have HK130 := Lib.hid hK130
          clear hK130
          rw [if_pos (by rfl)]
          refine wp_build_op _ rfl er0 x A1 m1 cc1 rfl ?_
          have hq132 : Below x127.heap.size x127 (x127.alloc (.cells #[.bool er0, .int .i64 x, .slice A1 m1 cc1] 103)) := (Below.refl _ _).alloc (Nat.le_refl _) _
          have hh133 := gr_new x127 #[.bool er0, .int .i64 x, .slice A1 m1 cc1] 103 rfl
          generalize x127.alloc (.cells #[.bool er0, .int .i64 x, .slice A1 m1 cc1] 103) = x131 at hq132 hh133 ⊢
          obtain ⟨b1, hb1⟩ : ∃ b, x127.heap.size = b := ⟨_, rfl⟩
          rw [hb1] at hh133 ⊢
          have L_134 := Lib.hid (OlT.tch HO3.out (Tch.of_below (hq132) (0 : Nat) []) (by simp) (by simp))
          have TT_135 : Hid (Below W5.heap.size W5 x131) := Lib.hid (TT_128.out.trans ((hq132).mono TT_128.out.size))
          have RB3 := Lib.hid hh133
          clear hq132 hh133 hb1
          have hS136 : (fun w' : World => Chg (fun j => j = K) W5 w') x131 := (below_chg TT_135.out (fun j => j = K))
          refine HK130.out _ _ hS136 fun _ => ?_
          try simp only [Act.put, List.setIfInBounds_toArray, List.set_cons_zero, List.set_cons_succ]
          refine wpAnyH_ready (rs := [9]) (by kernel_rfl) (by simp) ?_
          refine AllReadyH.cons rfl (fun K137 hK137 => ?_) AllReadyH.nil
          have HK137 := Lib.hid hK137
          clear hK137
          rw [if_pos (by rfl)]
          refine wp_push_O (Q := BsT) (B := W5.heap.size) _ _ rfl _ ops N b1 (.slice A1 m1 cc1) ⟨er0, x, d⟩ rfl L_134.out EN.out rfl RB3.out (BT.out.fw TT_135.out) rfl (by have := HN.out; omega) TT_135.out.size (fun w' u l hc hq => hq.tch hc (by decide)) ?_
          intro g2 cap2 x138 ho hc
          have TT_139 : Hid (Below W5.heap.size W5 x138) := Lib.hid (TT_135.out.trans (hc.below TT_135.out.size))
          have HO4 := Lib.hid (ho.low (Nat.zero_le _))
          clear ho hc
          have hS140 : (fun w' : World => Chg (fun j => j = K) W5 w') x138 := (below_chg TT_139.out (fun j => j = K))
          refine HK137.out _ _ hS140 fun _ => ?_
          try simp only [Act.put, List.setIfInBounds_toArray, List.set_cons_zero, List.set_cons_succ]
          refine takeD (i := 10) (v := .pointer (some ⟨K, 0, none⟩)) (some 28) rfl rfl (by kernel_rfl) (by kernel_rfl) (by kernel_rfl) (fun _ _ _ h => h) (Or.inl ⟨by rfl, by rintro w' -; go_simp⟩) hS140 ?_
          simp only [Act.put, List.setIfInBounds_toArray, List.set_cons_zero, List.set_cons_succ]
          refine takeD (i := 11) (v := .pointer (some ⟨K, 1, none⟩)) (some 29) rfl rfl (by kernel_rfl) (by kernel_rfl) (by kernel_rfl) (fun _ _ _ h => h) (Or.inl ⟨by rfl, by rintro w' -; go_simp⟩) hS140 ?_
          simp only [Act.put, List.setIfInBounds_toArray, List.set_cons_zero, List.set_cons_succ]
          refine wpAnyH_ready (rs := [12]) (by kernel_rfl) (by simp) ?_
          refine AllReadyH.cons rfl (fun K141 hK141 => ?_) AllReadyH.nil
          have HK141 := Lib.hid hK141
          clear hK141
          rw [if_pos (by rfl)]
          have CZ := Lib.hid (CR.out.fw TT_139.out)
          have cc := (show _ = some _ from CZ.out.cells.2)
          have ff := CZ.out.row.frozen 1
          go_simp
          clear cc ff
          have TS : Hid (Tch B [100] x138 (x138.setCell ⟨K, 1, none⟩ (.slice (some ⟨g2, 0, none⟩) (N + 1) cap2))) := Lib.hid ((Tch.refl _ _ _).set CZ.out.low.1 CZ.out.row.ty (by simp) _)
          have RS := Lib.hid (CZ.out.row.store 1 (.slice (some ⟨g2, 0, none⟩) (N + 1) cap2))
          have LS := Lib.hid (OlT.tch HO4.out TS.out (by decide) (by decide))
          have MS := Lib.hid (Md.tch TS.out CZ.out.md (by decide) (by decide))
          have TF := Lib.hid ((Tch.of_below (TB.out.trans (TT_139.out.mono TB.out.size)) B tyR).trans (tch_subR TS.out (by decide)))
          have FN : Hid (Chg (fun j => j = K) W5 (x138.setCell ⟨K, 1, none⟩ (.slice (some ⟨g2, 0, none⟩) (N + 1) cap2))) := Lib.hid ((below_chg TT_139.out (fun j => j = K)).setCell (p := ⟨K, 1, none⟩) rfl _)
          generalize x138.setCell ⟨K, 1, none⟩ (.slice (some ⟨g2, 0, none⟩) (N + 1) cap2) = W9 at TS RS LS MS TF FN ⊢
          have hS142 : (fun w' : World => Chg (fun j => j = K) W5 w') W9 := FN.out
          refine HK141.out _ _ hS142 fun _ => ?_
          refine wpAnyH_done (by kernel_rfl) ?_ _
          go_wp2_with fail
          go_ret
          refine ⟨by rw [Z0.out]; rfl, ⟨M, X, c, _, RS.out, MS.out, ?_, HH.out.low⟩, TF.out⟩
          unfold app
          rw [if_pos Z0.out]
          have h := LS.out
          exact h
        · have HK126 := Lib.hid hK
          clear hK
          rw [if_pos (by rfl)]
          refine wp_build_op _ rfl er0 x A1 m1 cc1 rfl ?_
          have hq128 : Below x121.heap.size x121 (x121.alloc (.cells #[.bool er0, .int .i64 x, .slice A1 m1 cc1] 103)) := (Below.refl _ _).alloc (Nat.le_refl _) _
          have hh129 := gr_new x121 #[.bool er0, .int .i64 x, .slice A1 m1 cc1] 103 rfl
          generalize x121.alloc (.cells #[.bool er0, .int .i64 x, .slice A1 m1 cc1] 103) = x127 at hq128 hh129 ⊢
          obtain ⟨b1, hb1⟩ : ∃ b, x121.heap.size = b := ⟨_, rfl⟩
          rw [hb1] at hh129 ⊢
          have E_130 := Lib.hid (Row.go RB2.out (hq128))
          have TT_131 : Hid (Below W5.heap.size W5 x127) := Lib.hid (TT_124.out.trans ((hq128).mono TT_124.out.size))
          have RB3 := Lib.hid hh129
          clear hq128 hh129 hb1
          have hS132 : (fun w' : World => Chg (fun j => j = K) W5 w') x127 := (below_chg TT_131.out (fun j => j = K))
          refine HK126.out _ _ hS132 fun _ => ?_
          try simp only [Act.put, List.setIfInBounds_toArray, List.set_cons_zero, List.set_cons_succ]
          refine wpAnyH_ready (rs := [6]) (by kernel_rfl) (by simp) ?_
          refine AllReadyH.cons rfl (fun K133 hK133 => ?_) AllReadyH.nil
          have HK133 := Lib.hid hK133
          clear hK133
          rw [if_pos (by rfl)]
          refine wp_copy_O (Q := BsT) (A := 0) (B := b0) _ _ rfl b0 N cap p ops rfl E_130.out rfl EN.out (CR.out.fw TT_131.out).ol (by have := HN.out; omega) (Nat.le_refl _) (fun w' u l hc hq => hq.tch hc (by decide)) ?_
          intro g1 cap1 x134 ho hg
          have hcg : Tch W5.heap.size [103] x127 x134 := Tch.grown hg (fun k hk => by injection hk with hk; subst hk; exact ⟨BG.out, E_130.out.ty⟩) (by simp)
          have TT_135 : Hid (Below W5.heap.size W5 x134) := Lib.hid (TT_131.out.trans (hcg.below TT_131.out.size))
          have HO2 := Lib.hid (ho.low (Nat.zero_le _))
          have GB := Lib.hid (show ∀ k, (Value.slice (some ⟨g1, 0, none⟩) N cap1).ownBlock = some k → W5.heap.size ≤ k from fun k hk => Nat.le_trans BG.out (ho.own k hk).1)
          have HO3 := Lib.hid (ho.low BG.out)
          have HF2 := Lib.hid (show Row x134 b1 103 #[.bool er0, .int .i64 x, .slice A1 m1 cc1] from (hg.block b1 RB3.out.lt (fun e => by injection e with e; subst e; have h9 := RB3.out.symm.trans E_130.out; simp at h9)).trans RB3.out)
          clear hcg ho hg
          have hS136 : (fun w' : World => Chg (fun j => j = K) W5 w') x134 := (below_chg TT_135.out (fun j => j = K))
          refine HK133.out _ _ hS136 fun _ => ?_
          try simp only [Act.put, List.setIfInBounds_toArray, List.set_cons_zero, List.set_cons_succ]
          refine wpAnyH_ready (rs := [9]) (by kernel_rfl) (by simp) ?_
          refine AllReadyH.cons rfl (fun K137 hK137 => ?_) AllReadyH.nil
          have HK137 := Lib.hid hK137
          clear hK137
          rw [if_pos (by rfl)]
          refine wp_push_O (Q := BsT) (B := W5.heap.size) _ _ rfl _ ops N b1 (.slice A1 m1 cc1) ⟨er0, x, d⟩ rfl HO3.out EN.out rfl HF2.out (BT.out.fw TT_135.out) rfl (by have := HN.out; omega) TT_135.out.size (fun w' u l hc hq => hq.tch hc (by decide)) ?_
          intro g2 cap2 x138 ho hc
          have TT_139 : Hid (Below W5.heap.size W5 x138) := Lib.hid (TT_135.out.trans (hc.below TT_135.out.size))
          have HO4 := Lib.hid (ho.low (Nat.zero_le _))
          clear ho hc
          have hS140 : (fun w' : World => Chg (fun j => j = K) W5 w') x138 := (below_chg TT_139.out (fun j => j = K))
          refine HK137.out _ _ hS140 fun _ => ?_
          try simp only [Act.put, List.setIfInBounds_toArray, List.set_cons_zero, List.set_cons_succ]
          refine takeD (i := 10) (v := .pointer (some ⟨K, 0, none⟩)) (some 28) rfl rfl (by kernel_rfl) (by kernel_rfl) (by kernel_rfl) (fun _ _ _ h => h) (Or.inl ⟨by rfl, by rintro w' -; go_simp⟩) hS140 ?_
          simp only [Act.put, List.setIfInBounds_toArray, List.set_cons_zero, List.set_cons_succ]
          refine takeD (i := 11) (v := .pointer (some ⟨K, 1, none⟩)) (some 29) rfl rfl (by kernel_rfl) (by kernel_rfl) (by kernel_rfl) (fun _ _ _ h => h) (Or.inl ⟨by rfl, by rintro w' -; go_simp⟩) hS140 ?_
          simp only [Act.put, List.setIfInBounds_toArray, List.set_cons_zero, List.set_cons_succ]
          refine wpAnyH_ready (rs := [12]) (by kernel_rfl) (by simp) ?_
          refine AllReadyH.cons rfl (fun K141 hK141 => ?_) AllReadyH.nil
          have HK141 := Lib.hid hK141
          clear hK141
          rw [if_pos (by rfl)]
          have CZ := Lib.hid (CR.out.fw TT_139.out)
          have cc := (show _ = some _ from CZ.out.cells.2)
          have ff := CZ.out.row.frozen 1
          go_simp
          clear cc ff
          have TS : Hid (Tch B [100] x138 (x138.setCell ⟨K, 1, none⟩ (.slice (some ⟨g2, 0, none⟩) (N + 1) cap2))) := Lib.hid ((Tch.refl _ _ _).set CZ.out.low.1 CZ.out.row.ty (by simp) _)
          have RS := Lib.hid (CZ.out.row.store 1 (.slice (some ⟨g2, 0, none⟩) (N + 1) cap2))
          have LS := Lib.hid (OlT.tch HO4.out TS.out (by decide) (by decide))
          have MS := Lib.hid (Md.tch TS.out CZ.out.md (by decide) (by decide))
          have TF := Lib.hid ((Tch.of_below (TB.out.trans (TT_139.out.mono TB.out.size)) B tyR).trans (tch_subR TS.out (by decide)))
          have FN : Hid (Chg (fun j => j = K) W5 (x138.setCell ⟨K, 1, none⟩ (.slice (some ⟨g2, 0, none⟩) (N + 1) cap2))) := Lib.hid ((below_chg TT_139.out (fun j => j = K)).setCell (p := ⟨K, 1, none⟩) rfl _)
          generalize x138.setCell ⟨K, 1, none⟩ (.slice (some ⟨g2, 0, none⟩) (N + 1) cap2) = W9 at TS RS LS MS TF FN ⊢
          have hS142 : (fun w' : World => Chg (fun j => j = K) W5 w') W9 := FN.out
          refine HK141.out _ _ hS142 fun _ => ?_
          refine wpAnyH_done (by kernel_rfl) ?_ _
          go_wp2_with fail
          go_ret
          refine ⟨by rw [Z0.out]; rfl, ⟨M, X, c, _, RS.out, MS.out, ?_, HH.out.low⟩, TF.out⟩
          unfold app
          rw [if_pos Z0.out]
          have h := LS.out
          exact h
      · have HK120 := Lib.hid hK
        clear hK
        rw [if_pos (by rfl)]
        refine wp_build_op _ rfl er0 x A1 m1 cc1 rfl ?_
        have hq122 : Below wz115.heap.size wz115 (wz115.alloc (.cells #[.bool er0, .int .i64 x, .slice A1 m1 cc1] 103)) := (Below.refl _ _).alloc (Nat.le_refl _) _
        have hh123 := gr_new wz115 #[.bool er0, .int .i64 x, .slice A1 m1 cc1] 103 rfl
        generalize wz115.alloc (.cells #[.bool er0, .int .i64 x, .slice A1 m1 cc1] 103) = x121 at hq122 hh123 ⊢
        obtain ⟨b1, hb1⟩ : ∃ b, wz115.heap.size = b := ⟨_, rfl⟩
        rw [hb1] at hh123 ⊢
        have TT_124 : Hid (Below W5.heap.size W5 x121) := Lib.hid (TT_117.out.trans ((hq122).mono TT_117.out.size))
        have RB3 := Lib.hid hh123
        clear hq122 hh123 hb1
        have hS125 : (fun w' : World => Chg (fun j => j = K) W5 w') x121 := (below_chg TT_124.out (fun j => j = K))
        refine HK120.out _ _ hS125 fun _ => ?_
        try simp only [Act.put, List.setIfInBounds_toArray, List.set_cons_zero, List.set_cons_succ]
        refine wpAnyH_ready (rs := [1]) (by kernel_rfl) (by simp) ?_
        refine AllReadyH.cons rfl (fun K126 hK126 => ?_) AllReadyH.nil
        have HK126 := Lib.hid hK126
        clear hK126
        rw [if_pos (by rfl)]
        refine wp_build_e Try.underlying98 info_op rfl ?_
        have hq128 : Below x121.heap.size x121 (x121.alloc (.cells #[] 103)) := (Below.refl _ _).alloc (Nat.le_refl _) _
        have hh129 := gr_new x121 #[] 103 rfl
        have BG := Lib.hid TT_124.out.size
        generalize x121.alloc (.cells #[] 103) = x127 at hq128 hh129 ⊢
        obtain ⟨b0, hb0⟩ : ∃ b, x121.heap.size = b := ⟨_, rfl⟩
        rw [hb0] at BG hh129 ⊢
        have F_130 := Lib.hid (Row.go RB3.out (hq128))
        have TT_131 : Hid (Below W5.heap.size W5 x127) := Lib.hid (TT_124.out.trans ((hq128).mono TT_124.out.size))
        have RB2 := Lib.hid hh129
        clear hq128 hh129 hb0
        have hS132 : (fun w' : World => Chg (fun j => j = K) W5 w') x127 := (below_chg TT_131.out (fun j => j = K))
        refine HK126.out _ _ hS132 fun _ => ?_
        try simp only [Act.put, List.setIfInBounds_toArray, List.set_cons_zero, List.set_cons_succ]
        refine wpAnyH_ready (rs := [6]) (by kernel_rfl) (by simp) ?_
        refine AllReadyH.cons rfl (fun K133 hK133 => ?_) AllReadyH.nil
        have HK133 := Lib.hid hK133
        clear hK133
        rw [if_pos (by rfl)]
        refine wp_copy_O (Q := BsT) (A := 0) (B := b0) _ _ rfl b0 N cap p ops rfl RB2.out rfl EN.out (CR.out.fw TT_131.out).ol (by have := HN.out; omega) (Nat.le_refl _) (fun w' u l hc hq => hq.tch hc (by decide)) ?_
        intro g1 cap1 x134 ho hg
        have hcg : Tch W5.heap.size [103] x127 x134 := Tch.grown hg (fun k hk => by injection hk with hk; subst hk; exact ⟨BG.out, RB2.out.ty⟩) (by simp)
        have TT_135 : Hid (Below W5.heap.size W5 x134) := Lib.hid (TT_131.out.trans (hcg.below TT_131.out.size))
        have HO2 := Lib.hid (ho.low (Nat.zero_le _))
        have GB := Lib.hid (show ∀ k, (Value.slice (some ⟨g1, 0, none⟩) N cap1).ownBlock = some k → W5.heap.size ≤ k from fun k hk => Nat.le_trans BG.out (ho.own k hk).1)
        have HO3 := Lib.hid (ho.low BG.out)
        have HF2 := Lib.hid (show Row x134 b1 103 #[.bool er0, .int .i64 x, .slice A1 m1 cc1] from (hg.block b1 F_130.out.lt (fun e => by injection e with e; subst e; have h9 := F_130.out.symm.trans RB2.out; simp at h9)).trans F_130.out)
        clear hcg ho hg
        have hS136 : (fun w' : World => Chg (fun j => j = K) W5 w') x134 := (below_chg TT_135.out (fun j => j = K))
        refine HK133.out _ _ hS136 fun _ => ?_
        try simp only [Act.put, List.setIfInBounds_toArray, List.set_cons_zero, List.set_cons_succ]
        refine wpAnyH_ready (rs := [9]) (by kernel_rfl) (by simp) ?_
        refine AllReadyH.cons rfl (fun K137 hK137 => ?_) AllReadyH.nil
        have HK137 := Lib.hid hK137
        clear hK137
        rw [if_pos (by rfl)]
        refine wp_push_O (Q := BsT) (B := W5.heap.size) _ _ rfl _ ops N b1 (.slice A1 m1 cc1) ⟨er0, x, d⟩ rfl HO3.out EN.out rfl HF2.out (BT.out.fw TT_135.out) rfl (by have := HN.out; omega) TT_135.out.size (fun w' u l hc hq => hq.tch hc (by decide)) ?_
        intro g2 cap2 x138 ho hc
        have TT_139 : Hid (Below W5.heap.size W5 x138) := Lib.hid (TT_135.out.trans (hc.below TT_135.out.size))
        have HO4 := Lib.hid (ho.low (Nat.zero_le _))
        clear ho hc
        have hS140 : (fun w' : World => Chg (fun j => j = K) W5 w') x138 := (below_chg TT_139.out (fun j => j = K))
        refine HK137.out _ _ hS140 fun _ => ?_
        try simp only [Act.put, List.setIfInBounds_toArray, List.set_cons_zero, List.set_cons_succ]
        refine takeD (i := 10) (v := .pointer (some ⟨K, 0, none⟩)) (some 28) rfl rfl (by kernel_rfl) (by kernel_rfl) (by kernel_rfl) (fun _ _ _ h => h) (Or.inl ⟨by rfl, by rintro w' -; go_simp⟩) hS140 ?_
        simp only [Act.put, List.setIfInBounds_toArray, List.set_cons_zero, List.set_cons_succ]
        refine takeD (i := 11) (v := .pointer (some ⟨K, 1, none⟩)) (some 29) rfl rfl (by kernel_rfl) (by kernel_rfl) (by kernel_rfl) (fun _ _ _ h => h) (Or.inl ⟨by rfl, by rintro w' -; go_simp⟩) hS140 ?_
        simp only [Act.put, List.setIfInBounds_toArray, List.set_cons_zero, List.set_cons_succ]
        refine wpAnyH_ready (rs := [12]) (by kernel_rfl) (by simp) ?_
        refine AllReadyH.cons rfl (fun K141 hK141 => ?_) AllReadyH.nil
        have HK141 := Lib.hid hK141
        clear hK141
        rw [if_pos (by rfl)]
        have CZ := Lib.hid (CR.out.fw TT_139.out)
        have cc := (show _ = some _ from CZ.out.cells.2)
        have ff := CZ.out.row.frozen 1
        go_simp
        clear cc ff
        have TS : Hid (Tch B [100] x138 (x138.setCell ⟨K, 1, none⟩ (.slice (some ⟨g2, 0, none⟩) (N + 1) cap2))) := Lib.hid ((Tch.refl _ _ _).set CZ.out.low.1 CZ.out.row.ty (by simp) _)
        have RS := Lib.hid (CZ.out.row.store 1 (.slice (some ⟨g2, 0, none⟩) (N + 1) cap2))
        have LS := Lib.hid (OlT.tch HO4.out TS.out (by decide) (by decide))
        have MS := Lib.hid (Md.tch TS.out CZ.out.md (by decide) (by decide))
        have TF := Lib.hid ((Tch.of_below (TB.out.trans (TT_139.out.mono TB.out.size)) B tyR).trans (tch_subR TS.out (by decide)))
        have FN : Hid (Chg (fun j => j = K) W5 (x138.setCell ⟨K, 1, none⟩ (.slice (some ⟨g2, 0, none⟩) (N + 1) cap2))) := Lib.hid ((below_chg TT_139.out (fun j => j = K)).setCell (p := ⟨K, 1, none⟩) rfl _)
        generalize x138.setCell ⟨K, 1, none⟩ (.slice (some ⟨g2, 0, none⟩) (N + 1) cap2) = W9 at TS RS LS MS TF FN ⊢
        have hS142 : (fun w' : World => Chg (fun j => j = K) W5 w') W9 := FN.out
        refine HK141.out _ _ hS142 fun _ => ?_
        refine wpAnyH_done (by kernel_rfl) ?_ _
        go_wp2_with fail
        go_ret
        refine ⟨by rw [Z0.out]; rfl, ⟨M, X, c, _, RS.out, MS.out, ?_, HH.out.low⟩, TF.out⟩
        unfold app
        rw [if_pos Z0.out]
        have h := LS.out
        exact h
    · have HK119 := Lib.hid hK
      clear hK
      rw [if_pos (by rfl)]
      refine wp_build_op _ rfl er0 x A1 m1 cc1 rfl ?_
      have hq121 : Below wz115.heap.size wz115 (wz115.alloc (.cells #[.bool er0, .int .i64 x, .slice A1 m1 cc1] 103)) := (Below.refl _ _).alloc (Nat.le_refl _) _
      have hh122 := gr_new wz115 #[.bool er0, .int .i64 x, .slice A1 m1 cc1] 103 rfl
      generalize wz115.alloc (.cells #[.bool er0, .int .i64 x, .slice A1 m1 cc1] 103) = x120 at hq121 hh122 ⊢
      obtain ⟨b1, hb1⟩ : ∃ b, wz115.heap.size = b := ⟨_, rfl⟩
      rw [hb1] at hh122 ⊢
      have TT_123 : Hid (Below W5.heap.size W5 x120) := Lib.hid (TT_117.out.trans ((hq121).mono TT_117.out.size))
      have RB3 := Lib.hid hh122
      clear hq121 hh122 hb1
      have hS124 : (fun w' : World => Chg (fun j => j = K) W5 w') x120 := (below_chg TT_123.out (fun j => j = K))
      refine HK119.out _ _ hS124 fun _ => ?_
      try simp only [Act.put, List.setIfInBounds_toArray, List.set_cons_zero, List.set_cons_succ]
      refine wpAnyH_ready (rs := [1, 5]) (by kernel_rfl) (by simp) ?_
      refine AllReadyH.cons rfl (fun KK hK => ?_) (AllReadyH.cons rfl (fun KK hK => ?_) AllReadyH.nil)
      · have HK125 := Lib.hid hK
        clear hK
        rw [if_pos (by rfl)]
        refine wp_build_e Try.underlying98 info_op rfl ?_
        have hq127 : Below x120.heap.size x120 (x120.alloc (.cells #[] 103)) := (Below.refl _ _).alloc (Nat.le_refl _) _
        have hh128 := gr_new x120 #[] 103 rfl
        have BG := Lib.hid TT_123.out.size
        generalize x120.alloc (.cells #[] 103) = x126 at hq127 hh128 ⊢
        obtain ⟨b0, hb0⟩ : ∃ b, x120.heap.size = b := ⟨_, rfl⟩
        rw [hb0] at BG hh128 ⊢
        have F_129 := Lib.hid (Row.go RB3.out (hq127))
        have TT_130 : Hid (Below W5.heap.size W5 x126) := Lib.hid (TT_123.out.trans ((hq127).mono TT_123.out.size))
        have RB2 := Lib.hid hh128
        clear hq127 hh128 hb0
        have hS131 : (fun w' : World => Chg (fun j => j = K) W5 w') x126 := (below_chg TT_130.out (fun j => j = K))
        refine HK125.out _ _ hS131 fun _ => ?_
        try simp only [Act.put, List.setIfInBounds_toArray, List.set_cons_zero, List.set_cons_succ]
        refine wpAnyH_ready (rs := [5]) (by kernel_rfl) (by simp) ?_
        refine AllReadyH.cons rfl (fun K132 hK132 => ?_) AllReadyH.nil
        have HK132 := Lib.hid hK132
        clear hK132
        rw [if_pos (by rfl)]
        have cc := (show _ = some _ from (CR.out.fw TT_130.out).cells.2)
        go_simp
        clear cc
        skip
        refine HK132.out _ _ hS131 fun _ => ?_
        try simp only [Act.put, List.setIfInBounds_toArray, List.set_cons_zero, List.set_cons_succ]
        refine wpAnyH_ready (rs := [6]) (by kernel_rfl) (by simp) ?_
        refine AllReadyH.cons rfl (fun K133 hK133 => ?_) AllReadyH.nil
        have HK133 := Lib.hid hK133
        clear hK133
        rw [if_pos (by rfl)]
        refine wp_copy_O (Q := BsT) (A := 0) (B := b0) _ _ rfl b0 N cap p ops rfl RB2.out rfl EN.out (CR.out.fw TT_130.out).ol (by have := HN.out; omega) (Nat.le_refl _) (fun w' u l hc hq => hq.tch hc (by decide)) ?_
        intro g1 cap1 x134 ho hg
        have hcg : Tch W5.heap.size [103] x126 x134 := Tch.grown hg (fun k hk => by injection hk with hk; subst hk; exact ⟨BG.out, RB2.out.ty⟩) (by simp)
        have TT_135 : Hid (Below W5.heap.size W5 x134) := Lib.hid (TT_130.out.trans (hcg.below TT_130.out.size))
        have HO2 := Lib.hid (ho.low (Nat.zero_le _))
        have GB := Lib.hid (show ∀ k, (Value.slice (some ⟨g1, 0, none⟩) N cap1).ownBlock = some k → W5.heap.size ≤ k from fun k hk => Nat.le_trans BG.out (ho.own k hk).1)
        have HO3 := Lib.hid (ho.low BG.out)
        have HF2 := Lib.hid (show Row x134 b1 103 #[.bool er0, .int .i64 x, .slice A1 m1 cc1] from (hg.block b1 F_129.out.lt (fun e => by injection e with e; subst e; have h9 := F_129.out.symm.trans RB2.out; simp at h9)).trans F_129.out)
        clear hcg ho hg
        have hS136 : (fun w' : World => Chg (fun j => j = K) W5 w') x134 := (below_chg TT_135.out (fun j => j = K))
        refine HK133.out _ _ hS136 fun _ => ?_
        try simp only [Act.put, List.setIfInBounds_toArray, List.set_cons_zero, List.set_cons_succ]
        refine wpAnyH_ready (rs := [9]) (by kernel_rfl) (by simp) ?_
        refine AllReadyH.cons rfl (fun K137 hK137 => ?_) AllReadyH.nil
        have HK137 := Lib.hid hK137
        clear hK137
        rw [if_pos (by rfl)]
        refine wp_push_O (Q := BsT) (B := W5.heap.size) _ _ rfl _ ops N b1 (.slice A1 m1 cc1) ⟨er0, x, d⟩ rfl HO3.out EN.out rfl HF2.out (BT.out.fw TT_135.out) rfl (by have := HN.out; omega) TT_135.out.size (fun w' u l hc hq => hq.tch hc (by decide)) ?_
        intro g2 cap2 x138 ho hc
        have TT_139 : Hid (Below W5.heap.size W5 x138) := Lib.hid (TT_135.out.trans (hc.below TT_135.out.size))
        have HO4 := Lib.hid (ho.low (Nat.zero_le _))
        clear ho hc
        have hS140 : (fun w' : World => Chg (fun j => j = K) W5 w') x138 := (below_chg TT_139.out (fun j => j = K))
        refine HK137.out _ _ hS140 fun _ => ?_
        try simp only [Act.put, List.setIfInBounds_toArray, List.set_cons_zero, List.set_cons_succ]
        refine takeD (i := 10) (v := .pointer (some ⟨K, 0, none⟩)) (some 28) rfl rfl (by kernel_rfl) (by kernel_rfl) (by kernel_rfl) (fun _ _ _ h => h) (Or.inl ⟨by rfl, by rintro w' -; go_simp⟩) hS140 ?_
        simp only [Act.put, List.setIfInBounds_toArray, List.set_cons_zero, List.set_cons_succ]
        refine takeD (i := 11) (v := .pointer (some ⟨K, 1, none⟩)) (some 29) rfl rfl (by kernel_rfl) (by kernel_rfl) (by kernel_rfl) (fun _ _ _ h => h) (Or.inl ⟨by rfl, by rintro w' -; go_simp⟩) hS140 ?_
        simp only [Act.put, List.setIfInBounds_toArray, List.set_cons_zero, List.set_cons_succ]
        refine wpAnyH_ready (rs := [12]) (by kernel_rfl) (by simp) ?_
        refine AllReadyH.cons rfl (fun K141 hK141 => ?_) AllReadyH.nil
        have HK141 := Lib.hid hK141
        clear hK141
        rw [if_pos (by rfl)]
        have CZ := Lib.hid (CR.out.fw TT_139.out)
        have cc := (show _ = some _ from CZ.out.cells.2)
        have ff := CZ.out.row.frozen 1
        go_simp
        clear cc ff
        have TS : Hid (Tch B [100] x138 (x138.setCell ⟨K, 1, none⟩ (.slice (some ⟨g2, 0, none⟩) (N + 1) cap2))) := Lib.hid ((Tch.refl _ _ _).set CZ.out.low.1 CZ.out.row.ty (by simp) _)
        have RS := Lib.hid (CZ.out.row.store 1 (.slice (some ⟨g2, 0, none⟩) (N + 1) cap2))
        have LS := Lib.hid (OlT.tch HO4.out TS.out (by decide) (by decide))
        have MS := Lib.hid (Md.tch TS.out CZ.out.md (by decide) (by decide))
        have TF := Lib.hid ((Tch.of_below (TB.out.trans (TT_139.out.mono TB.out.size)) B tyR).trans (tch_subR TS.out (by decide)))
        have FN : Hid (Chg (fun j => j = K) W5 (x138.setCell ⟨K, 1, none⟩ (.slice (some ⟨g2, 0, none⟩) (N + 1) cap2))) := Lib.hid ((below_chg TT_139.out (fun j => j = K)).setCell (p := ⟨K, 1, none⟩) rfl _)
        generalize x138.setCell ⟨K, 1, none⟩ (.slice (some ⟨g2, 0, none⟩) (N + 1) cap2) = W9 at TS RS LS MS TF FN ⊢
        have hS142 : (fun w' : World => Chg (fun j => j = K) W5 w') W9 := FN.out
        refine HK141.out _ _ hS142 fun _ => ?_
        refine wpAnyH_done (by kernel_rfl) ?_ _
        go_wp2_with fail
        go_ret
        refine ⟨by rw [Z0.out]; rfl, ⟨M, X, c, _, RS.out, MS.out, ?_, HH.out.low⟩, TF.out⟩
        unfold app
        rw [if_pos Z0.out]
        have h := LS.out
        exact h
      · have HK125 := Lib.hid hK
        clear hK
        rw [if_pos (by rfl)]
        have cc := (show _ = some _ from (CR.out.fw TT_123.out).cells.2)
        go_simp
        clear cc
        skip
        refine HK125.out _ _ hS124 fun _ => ?_
        try simp only [Act.put, List.setIfInBounds_toArray, List.set_cons_zero, List.set_cons_succ]
        refine wpAnyH_ready (rs := [1]) (by kernel_rfl) (by simp) ?_
        refine AllReadyH.cons rfl (fun K126 hK126 => ?_) AllReadyH.nil
        have HK126 := Lib.hid hK126
        clear hK126
        rw [if_pos (by rfl)]
        refine wp_build_e Try.underlying98 info_op rfl ?_
        have hq128 : Below x120.heap.size x120 (x120.alloc (.cells #[] 103)) := (Below.refl _ _).alloc (Nat.le_refl _) _
        have hh129 := gr_new x120 #[] 103 rfl
        have BG := Lib.hid TT_123.out.size
        generalize x120.alloc (.cells #[] 103) = x127 at hq128 hh129 ⊢
        obtain ⟨b0, hb0⟩ : ∃ b, x120.heap.size = b := ⟨_, rfl⟩
        rw [hb0] at BG hh129 ⊢
        have F_130 := Lib.hid (Row.go RB3.out (hq128))
        have TT_131 : Hid (Below W5.heap.size W5 x127) := Lib.hid (TT_123.out.trans ((hq128).mono TT_123.out.size))
        have RB2 := Lib.hid hh129
        clear hq128 hh129 hb0
        have hS132 : (fun w' : World => Chg (fun j => j = K) W5 w') x127 := (below_chg TT_131.out (fun j => j = K))
        refine HK126.out _ _ hS132 fun _ => ?_
        try simp only [Act.put, List.setIfInBounds_toArray, List.set_cons_zero, List.set_cons_succ]
        refine wpAnyH_ready (rs := [6]) (by kernel_rfl) (by simp) ?_
        refine AllReadyH.cons rfl (fun K133 hK133 => ?_) AllReadyH.nil
        have HK133 := Lib.hid hK133
        clear hK133
        rw [if_pos (by rfl)]
        refine wp_copy_O (Q := BsT) (A := 0) (B := b0) _ _ rfl b0 N cap p ops rfl RB2.out rfl EN.out (CR.out.fw TT_131.out).ol (by have := HN.out; omega) (Nat.le_refl _) (fun w' u l hc hq => hq.tch hc (by decide)) ?_
        intro g1 cap1 x134 ho hg
        have hcg : Tch W5.heap.size [103] x127 x134 := Tch.grown hg (fun k hk => by injection hk with hk; subst hk; exact ⟨BG.out, RB2.out.ty⟩) (by simp)
        have TT_135 : Hid (Below W5.heap.size W5 x134) := Lib.hid (TT_131.out.trans (hcg.below TT_131.out.size))
        have HO2 := Lib.hid (ho.low (Nat.zero_le _))
        have GB := Lib.hid (show ∀ k, (Value.slice (some ⟨g1, 0, none⟩) N cap1).ownBlock = some k → W5.heap.size ≤ k from fun k hk => Nat.le_trans BG.out (ho.own k hk).1)
        have HO3 := Lib.hid (ho.low BG.out)
        have HF2 := Lib.hid (show Row x134 b1 103 #[.bool er0, .int .i64 x, .slice A1 m1 cc1] from (hg.block b1 F_130.out.lt (fun e => by injection e with e; subst e; have h9 := F_130.out.symm.trans RB2.out; simp at h9)).trans F_130.out)
        clear hcg ho hg
        have hS136 : (fun w' : World => Chg (fun j => j = K) W5 w') x134 := (below_chg TT_135.out (fun j => j = K))
        refine HK133.out _ _ hS136 fun _ => ?_
        try simp only [Act.put, List.setIfInBounds_toArray, List.set_cons_zero, List.set_cons_succ]
        refine wpAnyH_ready (rs := [9]) (by kernel_rfl) (by simp) ?_
        refine AllReadyH.cons rfl (fun K137 hK137 => ?_) AllReadyH.nil
        have HK137 := Lib.hid hK137
        clear hK137
        rw [if_pos (by rfl)]
        refine wp_push_O (Q := BsT) (B := W5.heap.size) _ _ rfl _ ops N b1 (.slice A1 m1 cc1) ⟨er0, x, d⟩ rfl HO3.out EN.out rfl HF2.out (BT.out.fw TT_135.out) rfl (by have := HN.out; omega) TT_135.out.size (fun w' u l hc hq => hq.tch hc (by decide)) ?_
        intro g2 cap2 x138 ho hc
        have TT_139 : Hid (Below W5.heap.size W5 x138) := Lib.hid (TT_135.out.trans (hc.below TT_135.out.size))
        have HO4 := Lib.hid (ho.low (Nat.zero_le _))
        clear ho hc
        have hS140 : (fun w' : World => Chg (fun j => j = K) W5 w') x138 := (below_chg TT_139.out (fun j => j = K))
        refine HK137.out _ _ hS140 fun _ => ?_
        try simp only [Act.put, List.setIfInBounds_toArray, List.set_cons_zero, List.set_cons_succ]
        refine takeD (i := 10) (v := .pointer (some ⟨K, 0, none⟩)) (some 28) rfl rfl (by kernel_rfl) (by kernel_rfl) (by kernel_rfl) (fun _ _ _ h => h) (Or.inl ⟨by rfl, by rintro w' -; go_simp⟩) hS140 ?_
        simp only [Act.put, List.setIfInBounds_toArray, List.set_cons_zero, List.set_cons_succ]
        refine takeD (i := 11) (v := .pointer (some ⟨K, 1, none⟩)) (some 29) rfl rfl (by kernel_rfl) (by kernel_rfl) (by kernel_rfl) (fun _ _ _ h => h) (Or.inl ⟨by rfl, by rintro w' -; go_simp⟩) hS140 ?_
        simp only [Act.put, List.setIfInBounds_toArray, List.set_cons_zero, List.set_cons_succ]
        refine wpAnyH_ready (rs := [12]) (by kernel_rfl) (by simp) ?_
        refine AllReadyH.cons rfl (fun K141 hK141 => ?_) AllReadyH.nil
        have HK141 := Lib.hid hK141
        clear hK141
        rw [if_pos (by rfl)]
        have CZ := Lib.hid (CR.out.fw TT_139.out)
        have cc := (show _ = some _ from CZ.out.cells.2)
        have ff := CZ.out.row.frozen 1
        go_simp
        clear cc ff
        have TS : Hid (Tch B [100] x138 (x138.setCell ⟨K, 1, none⟩ (.slice (some ⟨g2, 0, none⟩) (N + 1) cap2))) := Lib.hid ((Tch.refl _ _ _).set CZ.out.low.1 CZ.out.row.ty (by simp) _)
        have RS := Lib.hid (CZ.out.row.store 1 (.slice (some ⟨g2, 0, none⟩) (N + 1) cap2))
        have LS := Lib.hid (OlT.tch HO4.out TS.out (by decide) (by decide))
        have MS := Lib.hid (Md.tch TS.out CZ.out.md (by decide) (by decide))
        have TF := Lib.hid ((Tch.of_below (TB.out.trans (TT_139.out.mono TB.out.size)) B tyR).trans (tch_subR TS.out (by decide)))
        have FN : Hid (Chg (fun j => j = K) W5 (x138.setCell ⟨K, 1, none⟩ (.slice (some ⟨g2, 0, none⟩) (N + 1) cap2))) := Lib.hid ((below_chg TT_139.out (fun j => j = K)).setCell (p := ⟨K, 1, none⟩) rfl _)
        generalize x138.setCell ⟨K, 1, none⟩ (.slice (some ⟨g2, 0, none⟩) (N + 1) cap2) = W9 at TS RS LS MS TF FN ⊢
        have hS142 : (fun w' : World => Chg (fun j => j = K) W5 w') W9 := FN.out
        refine HK141.out _ _ hS142 fun _ => ?_
        refine wpAnyH_done (by kernel_rfl) ?_ _
        go_wp2_with fail
        go_ret
        refine ⟨by rw [Z0.out]; rfl, ⟨M, X, c, _, RS.out, MS.out, ?_, HH.out.low⟩, TF.out⟩
        unfold app
        rw [if_pos Z0.out]
        have h := LS.out
        exact h
  · have d0 : ((z : Int) != 0) = true := by simp [h0]
    have Z0 := Lib.hid h0
    clear h0
    go_wp2_with fail
    go_ret
    refine ⟨rfl, ?_, Tch.of_below TW.out _ _⟩
    unfold app
    rw [if_neg Z0.out]
    exact Ra.ex (HH.out.fw TW.out)
end Go.Proofs.Ytdjjihppaobbcaa
namespace Go.Proofs.Ytdjjihppaobbcaa
open Go Go.RowKit Med
set_option linter.unusedVariables false
set_option linter.unusedSimpArgs false
end Go.Proofs.Ytdjjihppaobbcaa
