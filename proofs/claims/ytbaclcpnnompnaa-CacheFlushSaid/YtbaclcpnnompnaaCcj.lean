/- Caches of the reference: New, Contents, Do, Cut, Flush. WRITTEN BY gen_Ccj.py. -/
import Derived.Test.YtbaclcpnnompnaaCci
namespace Go.Proofs.Ytbaclcpnnompnaa
open Go Go.RowKit Med
set_option linter.unusedVariables false
set_option linter.unusedSimpArgs false

set_option maxHeartbeats 4000000 in
set_option maxRecDepth 100000 in
theorem rcn_any {w : World} {M X c R B T S O : Nat} {l : List Sec} (h : RMd w M X c R B T S O l) : Calls Try.prog 23 #[.pointer (some ⟨M, 0, none⟩)] w (rnPost R B T S O l [] w) := by
  have E := Lib.hid (rcl_any h)
  clear h
  go_enter Try.func23, Try.ntmps23
  go_wp2_with fail
  refine E.out.mono ?_
  rintro e w1 ⟨M1, X1, c1, rfl, hm1, hb1, hw1⟩
  have P1 := Lib.hid (And.intro hm1 (And.intro hb1 hw1))
  clear hm1 hb1 hw1 E
  go_wp2_with fail
  go_ret
  obtain ⟨hm1, hb1, hw1⟩ := P1.out
  have ba : Below w1.heap.size w1 (w1.alloc (.cells #[.pointer (some ⟨M1, 0, none⟩), .slice none 0 0] 44)) := (Below.refl _ _).alloc (Nat.le_refl _) _
  have s1 := hw1.size
  exact ⟨w1.heap.size, rfl, Ra.ex ⟨gr_new w1 _ _ rfl, hm1.fw ba, Olx.nil_ _ _, by omega⟩, hw1.trans (ba.mono s1)⟩
set_option maxHeartbeats 4000000 in
set_option maxRecDepth 100000 in
theorem rct_any {B : Nat} {w : World} {K R Bn T S O : Nat} {l : List Sec} {ops : List Med.Op} (h : Re B w K R Bn T S O l ops) : Calls Try.prog 19 #[.pointer (some ⟨K, 0, none⟩)] w (clPost 73 92 R Bn T S O (Med.play R Bn T S O l ops) w) := by
  obtain ⟨M, X, c, v, h⟩ := h
  obtain ⟨p, cap, rfl, hl, hm⟩ := h.ol.form
  have E := Lib.hid (rcl_any h.md)
  have H := Lib.hid h
  have LM := Lib.hid (show ops.length ≤ 9223372036854775807 by unfold maxLen at hm; omega)
  obtain ⟨N, hN⟩ : ∃ n, ops.length = n := ⟨_, rfl⟩
  have EN := Lib.hid hN
  obtain ⟨c0, c1⟩ := h.cells
  rw [hN] at H c1 LM
  clear h hl hm hN
  go_enter Try.func19, Try.ntmps19
  go_wp2_with fail
  refine E.out.mono ?_
  rintro e w1 ⟨M2, X2, c2, rfl, hm2, hx2, hb2⟩
  have P2 := Lib.hid hm2
  have Q2 := Lib.hid hx2
  have B2 := Lib.hid hb2
  clear hm2 hx2 hb2 c0 c1 E
  go_wp2_with fail
  go_loopw [4] (fun i wr => ∃ k : Nat, k ≤ N ∧ i = .int .i64 (k : Int) ∧ Hid (RMd wr M2 X2 c2 R Bn T S O (Med.play R Bn T S O l (ops.take k)) ∧ Chg (fun j => j = X2) w1 wr)) (fun i _ => N - (intOf i).toNat)
  case atStart => exact ⟨0, Nat.zero_le _, rfl, Lib.hid ⟨P2.out, Chg.refl _ _⟩⟩
  case round =>
    obtain ⟨k, hk, rfl, V⟩ := hrel
    have nb := LM.out
    have hbw : Below w.heap.size w wr := B2.out.trans (V.out.2.below B2.out.size (fun j hj => by rw [hj]; exact Q2.out.2))
    have hr := H.out.fw hbw
    have BW := Lib.hid hbw
    have c1 := hr.cells.2
    by_cases hlt : k < N
    · have kI : (k : Int) < (N : Int) := by omega
      obtain ⟨b, off, u, hk2, rfl, f0, f1, f2, f3⟩ := (hr.ol.ols fun _ _ q => q.1).nth hlt
      have PK := Lib.hid (play_take R Bn T S O l ops hk2)
      have RG := Lib.hid (op_rng f0 f1 f2)
      obtain ⟨lk, hlk⟩ : ∃ x, Med.play R Bn T S O l (ops.take k) = x := ⟨_, rfl⟩
      obtain ⟨P1, C1⟩ := V.out
      rw [hlk] at P1 PK
      obtain ⟨o, ho⟩ : ∃ o, ops[k] = o := ⟨_, rfl⟩
      rw [ho] at PK RG f3
      have D := Lib.hid (rdo_any P1 o u f3)
      have CC := Lib.hid C1
      clear f0 f1 f2 f3 P1 C1 V hlk ho hbw hr
      go_wp2_with (refine wpList_load_mid rfl _ _ rfl b (off + k * 3) rfl [.bool o.erase, .int .i64 o.pos, u] _ RG.out Try.underlying38 rfl (by kernel_rfl) ?_)
      refine D.out.mono ?_
      rintro e w2 ⟨rfl, hm, hc⟩
      have P3 := Lib.hid hm
      have C3 := Lib.hid (CC.out.trans hc)
      clear hm hc D
      generalize opE Bn lk o = z at *
      go_wp2_with fail
      go_roundw
      case rel => exact ⟨k + 1, by omega, by go_num, Lib.hid ⟨by rw [PK.out]; exact P3.out, C3.out⟩⟩
      case measure => simp [intOf]; omega
    · obtain rfl : k = N := by omega
      have kI : ¬ (k : Int) < (k : Int) := by omega
      have dk : decide ((k : Int) < (k : Int)) = false := decide_eq_false kI
      have tk : ops.take k = ops := List.take_of_length_le (Nat.le_of_eq EN.out)
      rw [tk] at V
      clear tk hr hbw
      go_wp2_with fail
      go_ret
      exact ⟨M2, X2, c2, rfl, V.out.1, Q2.out, BW.out⟩
def ruPost (B K R Bn T S O : Nat) (l : List Sec) (w : World) (e : Ending) (w' : World) : Prop := (∃ u, e = .returned u) ∧ Re B w' K R Bn T S O l [] ∧ Tch B tyR w w'
theorem tch_subR {B : Nat} {L : List TypeId} {w w' : World} (h : Tch B L w w') (hL : ∀ t ∈ L, t ∈ tyR) : Tch B tyR w w' := h.mono (Nat.le_refl _) hL
theorem Ra.during {B : Nat} {w w1 : World} {K M X c R Bn T S O : Nat} {v : Value} {l : List Sec} {ops : List Med.Op} (h : Ra B w K M X c R Bn T S O v l ops) (hc : Chg (fun j => j = X) w w1) :
    Tch B [92] w w1 ∧ Row w1 K 44 #[.pointer (some ⟨M, 0, none⟩), v] ∧ OlT 0 w1 v ops := by
  have t : Tch B [92] w w1 := Tch.of_one hc h.low.2 h.md.sx.ty (by simp)
  exact ⟨t, h.row.tch t (by decide), h.ol.tch t (by decide) (by decide)⟩
theorem rng_chg {w w' : World} {b off X : Nat} {cs : List Value} (h : w.rangeAt b off cs) (hc : Chg (fun j => j = X) w w') (hX : b ≠ X) : w'.rangeAt b off cs := fun j v hv => by
  have h1 := h j v hv
  exact (World.cell?_of_block (w := w) (hc.block b (World.block_lt_of_cell? w _ h1) hX)).trans h1
theorem row_at2 {w : World} {K : Nat} {t : TypeId} {a b : Value} (h : Row w K t #[a, b]) : w.cell? ⟨K, 0, none⟩ = some a ∧ w.cell? ⟨K, 1, none⟩ = some b := by
  refine ⟨?_, ?_⟩ <;> (rw [h.cell]; rfl)
set_option maxHeartbeats 4000000 in
set_option maxRecDepth 100000 in
theorem rcu_any {B : Nat} {w : World} {K R Bn T S O : Nat} {l : List Sec} {ops : List Med.Op} (h : Re B w K R Bn T S O l ops) (x : Int) : Calls Try.prog 39 #[.pointer (some ⟨K, 0, none⟩), .int .i64 x] w (ruPost B K R Bn T S O (Med.play R Bn T S O l (ops.take x.toNat)) w) := by
  obtain ⟨M, X, c, v, h⟩ := h
  obtain ⟨p, cap, rfl, hl, hm⟩ := h.ol.form
  have H := Lib.hid h
  have LM := Lib.hid (show ops.length ≤ 9223372036854775807 by unfold maxLen at hm; omega)
  obtain ⟨N, hN⟩ : ∃ n, ops.length = n := ⟨_, rfl⟩
  have EN := Lib.hid hN
  rw [hN] at H LM
  obtain ⟨n, hn⟩ : ∃ n, min N x.toNat = n := ⟨_, rfl⟩
  have HN := Lib.hid hn
  have TK := Lib.hid (show ops.take x.toNat = ops.take n by rw [← hn, ← hN]; rw [Nat.min_comm, List.take_eq_take_iff]; omega)
  rw [TK.out]
  clear h hl hm hN hn
  go_enter Try.func39, Try.ntmps39
  go_wp2_with fail
  go_loopw [4] (fun i wr => ∃ k : Nat, k ≤ n ∧ i = .int .i64 (k : Int) ∧ Hid (RMd wr M X c R Bn T S O (Med.play R Bn T S O l (ops.take k)) ∧ Chg (fun j => j = X) w wr)) (fun i _ => n - (intOf i).toNat)
  case atStart => exact ⟨0, Nat.zero_le _, rfl, Lib.hid ⟨H.out.md, Chg.refl _ _⟩⟩
  case round =>
    obtain ⟨k, hk, rfl, V⟩ := hrel
    have nb := LM.out
    have n1 := HN.out
    obtain ⟨t1, r1, o1⟩ := H.out.during V.out.2
    obtain ⟨c0, c1⟩ := row_at2 r1
    by_cases hlt : k < n
    · have kI : (k : Int) < (N : Int) := by omega
      have kx : (k : Int) < x := by omega
      obtain ⟨b, off, u, hk2, rfl, f0, f1, f2, f3⟩ := (o1.ols fun _ _ q => q.1).nth (show k < N by omega)
      have PK := Lib.hid (play_take R Bn T S O l ops hk2)
      have RG := Lib.hid (op_rng f0 f1 f2)
      obtain ⟨lk, hlk⟩ : ∃ x, Med.play R Bn T S O l (ops.take k) = x := ⟨_, rfl⟩
      obtain ⟨P1, C1⟩ := V.out
      rw [hlk] at P1 PK
      obtain ⟨o, ho⟩ : ∃ o, ops[k] = o := ⟨_, rfl⟩
      rw [ho] at PK RG f3
      have CC := Lib.hid C1
      have HU := Lib.hid f3
      have PP := Lib.hid P1
      have L0 : Hid (∀ w', Chg (fun j => j = X) wr w' → w'.cell? ⟨K, 0, none⟩ = some (.pointer (some ⟨M, 0, none⟩)) ∧ w'.cell? ⟨K, 1, none⟩ = some (.slice (some ⟨b, off, none⟩) N cap)) := Lib.hid fun w' h => row_at2 (H.out.during (V.out.2.trans h)).2.1
      have bX : b ≠ X := (o1.own b rfl).2.ne V.out.1.sx.ty (by decide)
      have L1 : Hid (∀ w', Chg (fun j => j = X) wr w' → w'.rangeAt b (off + k * 3) [.bool o.erase, .int .i64 o.pos, u]) := Lib.hid fun w' h => rng_chg RG.out h bX
      clear f0 f1 f2 f3 P1 C1 V hlk ho t1 r1 o1 n1 bX
      go_wp2_with fail
      clear c0 c1
      refine wp_region_held (P := Try.prog) (S := (fun w' : World => Chg (fun j => j = X) wr w')) rfl ?_
      change wpAnyH _ _ _ _ _ _ _ _ wr.drew
      have hz2 : Below wr.heap.size wr wr.drew := (Below.refl wr.heap.size wr).drew
      generalize wr.drew = wz1 at hz2 ⊢
      have P_3 := Lib.hid (Md.fw PP.out (hz2))
      have C_4 := Lib.hid (CC.out.trans (below_chg (hz2) _))
      have U_5 := Lib.hid (Bs.below HU.out (hz2))
      have HB_6 : Hid (Chg (fun j => j = X) wr wz1) := Lib.hid (below_chg (hz2) (fun j => j = X))
      clear hz2
      have hS7 : (fun w' : World => Chg (fun j => j = X) wr w') wz1 := HB_6.out
      refine takeD (i := 0) (v := .pointer (some ⟨K, 0, none⟩)) (some 19) rfl rfl (by kernel_rfl) (by kernel_rfl) (by kernel_rfl) (fun _ _ _ h => h) (Or.inl ⟨by rfl, by rintro w' -; go_simp⟩) hS7 ?_
      simp only [Act.put, List.setIfInBounds_toArray, List.set_cons_zero, List.set_cons_succ]
      refine takeD (i := 1) (v := .pointer (some ⟨K, 0, none⟩)) (some 20) rfl rfl (by kernel_rfl) (by kernel_rfl) (by kernel_rfl) (fun _ _ _ h => h) (Or.inl ⟨by rfl, by rintro w' -; go_simp⟩) hS7 ?_
      simp only [Act.put, List.setIfInBounds_toArray, List.set_cons_zero, List.set_cons_succ]
      refine takeD (i := 2) (v := .pointer (some ⟨K, 0, none⟩)) (some 21) rfl rfl (by kernel_rfl) (by kernel_rfl) (by kernel_rfl) (fun _ _ _ h => h) (Or.inl ⟨by rfl, by rintro w' -; go_simp⟩) hS7 ?_
      simp only [Act.put, List.setIfInBounds_toArray, List.set_cons_zero, List.set_cons_succ]
      refine takeD (i := 3) (v := .pointer (some ⟨M, 0, none⟩)) (some 22) rfl rfl (by kernel_rfl) (by kernel_rfl) (by kernel_rfl) (fun _ _ _ h => h) (Or.inl ⟨by rfl, by rintro w' h; have hc := (L0.out w' h).1; go_simp⟩) hS7 ?_
      simp only [Act.put, List.setIfInBounds_toArray, List.set_cons_zero, List.set_cons_succ]
      refine takeD (i := 4) (v := .pointer (some ⟨K, 0, none⟩)) (some 23) rfl rfl (by kernel_rfl) (by kernel_rfl) (by kernel_rfl) (fun _ _ _ h => h) (Or.inl ⟨by rfl, by rintro w' -; go_simp⟩) hS7 ?_
      simp only [Act.put, List.setIfInBounds_toArray, List.set_cons_zero, List.set_cons_succ]
      refine takeD (i := 5) (v := .pointer (some ⟨K, 0, none⟩)) (some 24) rfl rfl (by kernel_rfl) (by kernel_rfl) (by kernel_rfl) (fun _ _ _ h => h) (Or.inl ⟨by rfl, by rintro w' -; go_simp⟩) hS7 ?_
      simp only [Act.put, List.setIfInBounds_toArray, List.set_cons_zero, List.set_cons_succ]
      refine takeD (i := 6) (v := .pointer (some ⟨K, 1, none⟩)) (some 25) rfl rfl (by kernel_rfl) (by kernel_rfl) (by kernel_rfl) (fun _ _ _ h => h) (Or.inl ⟨by rfl, by rintro w' -; go_simp⟩) hS7 ?_
      simp only [Act.put, List.setIfInBounds_toArray, List.set_cons_zero, List.set_cons_succ]
      refine takeD (i := 7) (v := .slice (some ⟨b, off, none⟩) N cap) (some 26) rfl rfl (by kernel_rfl) (by kernel_rfl) (by kernel_rfl) (fun _ _ _ h => h) (Or.inl ⟨by rfl, by rintro w' h; have hc := (L0.out w' h).2; go_simp⟩) hS7 ?_
      simp only [Act.put, List.setIfInBounds_toArray, List.set_cons_zero, List.set_cons_succ]
      refine takeD (i := 8) (v := .int .i64 (k : Int)) (some 27) rfl rfl (by kernel_rfl) (by kernel_rfl) (by kernel_rfl) (fun _ _ _ h => h) (Or.inl ⟨by rfl, by rintro w' -; go_simp⟩) hS7 ?_
      simp only [Act.put, List.setIfInBounds_toArray, List.set_cons_zero, List.set_cons_succ]
      refine takeD (i := 9) (v := .pointer (some ⟨b, off + k * 3, none⟩)) (some 28) rfl rfl (by kernel_rfl) (by kernel_rfl) (by kernel_rfl) (fun _ _ _ h => h) (Or.inl ⟨by rfl, by rintro w' -; go_simp⟩) hS7 ?_
      simp only [Act.put, List.setIfInBounds_toArray, List.set_cons_zero, List.set_cons_succ]
      refine takeD (i := 10) (v := .agg #[.bool o.erase, .int .i64 o.pos, u]) (some 29) rfl rfl (by kernel_rfl) (by kernel_rfl) (by kernel_rfl) (fun _ _ _ h => h) (yieldsIf_load_mid (by rfl) _ _ rfl b (off + k * 3) rfl [.bool o.erase, .int .i64 o.pos, u] _ (fun w' h => L1.out w' h) Try.underlying38 rfl (by kernel_rfl)) hS7 ?_
      simp only [Act.put, List.setIfInBounds_toArray, List.set_cons_zero, List.set_cons_succ]
      refine wpAnyH_ready (rs := [11]) (by kernel_rfl) (by simp) ?_
      refine AllReadyH.cons rfl (fun K8 hK8 => ?_) AllReadyH.nil
      have HK8 := Lib.hid hK8
      clear hK8
      rw [if_pos (by rfl)]
      go_simp
      refine (rdo_any P_3.out o u U_5.out).mono ?_
      rintro e x9 ⟨rfl, hm, hc⟩
      have P10 := Lib.hid hm
      have C11 := Lib.hid (C_4.out.trans hc)
      have HB_12 : Hid (Chg (fun j => j = X) wr x9) := Lib.hid (HB_6.out.trans (hc))
      clear hm hc
      have hS13 : (fun w' : World => Chg (fun j => j = X) wr w') x9 := HB_12.out
      refine HK8.out _ _ hS13 fun _ => ?_
      try simp only [Act.put, List.setIfInBounds_toArray, List.set_cons_zero, List.set_cons_succ]
      refine wpAnyH_done (by kernel_rfl) ?_ _
      go_wp2_with fail
      go_roundw
      case rel => exact ⟨k + 1, by omega, by go_num, Lib.hid ⟨by rw [PK.out]; exact P10.out, C11.out⟩⟩
      case measure => simp [intOf]; omega
    · obtain rfl : k = n := by omega
      have TV := Lib.hid t1
      have RV := Lib.hid r1
      have f1 := r1.frozen 1
      have MV := Lib.hid V.out.1
      clear t1 r1 o1 V c0
      have fin : Hid (ruPost B K R Bn T S O (Med.play R Bn T S O l (ops.take k)) w (.returned (.tuple #[])) (wr.setCell ⟨K, 1, none⟩ (.slice none 0 0))) := Lib.hid (by
        have ts : Tch B [44] wr (wr.setCell ⟨K, 1, none⟩ (.slice none 0 0)) := (Tch.refl _ _ _).set H.out.low.1 RV.out.ty (by simp) _
        exact ⟨⟨_, rfl⟩, ⟨M, X, c, _, RV.out.store 1 _, Md.tch ts MV.out (by decide) (by decide), Olx.nil_ _ _, H.out.low⟩, (tch_subR TV.out (by decide)).trans (tch_subR ts (by decide))⟩)
      by_cases hN : k < N
      · have kI : (k : Int) < (N : Int) := by omega
        have kx : ¬ (k : Int) < x := by omega
        have dx : decide ((k : Int) < x) = false := decide_eq_false kx
        clear n1
        go_wp2_with fail
        go_end0
        exact ⟨⟨_, rfl⟩, fin.out.2⟩
      · have kI : ¬ (k : Int) < (N : Int) := by omega
        have dk : decide ((k : Int) < (N : Int)) = false := decide_eq_false kI
        clear n1
        go_wp2_with fail
        go_end0
        exact ⟨⟨_, rfl⟩, fin.out.2⟩
set_option maxHeartbeats 4000000 in
set_option maxRecDepth 100000 in
theorem rfl_any {B : Nat} {w : World} {K R Bn T S O : Nat} {l : List Sec} {ops : List Med.Op} (h : Re B w K R Bn T S O l ops) : Calls Try.prog 15 #[.pointer (some ⟨K, 0, none⟩)] w (ruPost B K R Bn T S O (Med.play R Bn T S O l ops) w) := by
  have E := Lib.hid (rcu_any h (ops.length : Int))
  rw [Int.toNat_natCast, List.take_length] at E
  obtain ⟨M, X, c, v, h⟩ := h
  obtain ⟨p, cap, rfl, hl, hm⟩ := h.ol.form
  obtain ⟨c0, c1⟩ := h.cells
  clear h hl hm c0
  obtain ⟨N, hN⟩ : ∃ n, ops.length = n := ⟨_, rfl⟩
  rw [hN] at E c1
  clear hN
  go_enter Try.func15, Try.ntmps15
  go_wp2_with fail
  refine E.out.mono ?_
  rintro e w1 ⟨⟨u, rfl⟩, hq⟩
  have Q := Lib.hid hq
  clear hq E
  go_wp2_with fail
  go_end0
  exact ⟨⟨_, rfl⟩, Q.out⟩
end Go.Proofs.Ytbaclcpnnompnaa
