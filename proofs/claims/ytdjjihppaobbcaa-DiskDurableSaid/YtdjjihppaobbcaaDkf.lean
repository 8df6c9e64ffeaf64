/- Layer 14: contract of the reference: Write. WRITTEN BY gen_Dkf.py. -/
import Derived.Test.YtdjjihppaobbcaaDke
namespace Go.Proofs.Ytdjjihppaobbcaa
open Go Go.RowKit Med Flt
set_option linter.unusedVariables false
set_option linter.unusedSimpArgs false
/-- A slice up to k. -/
theorem by_to (A : Option Addr) (m c k : Nat) (hk : k ≤ m) (hm : m ≤ c) : (∀ w, (Instr.slice 60 (.slice A m c) none (some (.int .i64 (k : Int))) none).run Try.prog w = .ok (.slice A k c) w) ∧ (∀ w, (Instr.sliceAt 60 (.slice A m c) none (some (.int .i64 (k : Int))) none).run Try.prog w = .ok (.slice A k c) w) := by
  have hel : Try.prog.elem 60 = 5 := by kernel_rfl
  have hu : Try.prog.underlying 60 = some (.slice (Try.prog.elem 60)) := by rw [hel]; exact Try.underlying60
  obtain ⟨i, hi, hzz⟩ := Option.map_eq_some_iff.1 info_u8
  simp only [Prod.mk.injEq] at hzz
  have key : ∀ w, (Instr.slice 60 (.slice A m c) none (some (.int .i64 (k : Int))) none).run Try.prog w = .ok (.slice A k c) w := fun w => by
    rw [run_slice_h w 60 A m c hu .i64 (k : Int) (by omega) (by omega), hel]
    simp [sizeOf, typeInfo, hi, hzz.2.1, Result.andThen, sliced]
    rcases A with _ | ⟨b, off, sp⟩
    · simp
    · simp [Addr.add]
  exact ⟨key, fun w => by rw [run_sliceAt_slice w _ _ _ _ _ hu]; exact key w⟩
theorem by_take {w : World} {A : Option Addr} {N c k : Nat} {l : List Nat} (h : Bs w (.slice A N c) l) (hk : k ≤ N) : Bs w (.slice A k c) (l.take k) := by
  obtain ⟨A', c', e, hm, hl, hn, hcell⟩ := h
  injection e with e1 e2 e3
  subst e1 e2 e3
  refine ⟨A, c, by rw [List.length_take, Nat.min_eq_left hk], by rw [List.length_take]; omega, fun x hx => hl x (List.mem_of_mem_take hx), hn, fun h => ?_⟩
  rw [List.length_take] at h
  obtain ⟨b, off, rfl, hq⟩ := hcell (by omega)
  refine ⟨b, off, rfl, fun j hj => ?_⟩
  rw [List.length_take] at hj
  rw [hq j (by omega)]
  congr 3
  rw [getD_in (by omega), getD_in (by rw [List.length_take]; omega), List.getElem_take]
theorem by_cap {w : World} {A : Option Addr} {m c : Nat} {l : List Nat} (h : Bs w (.slice A m c) l) : m = l.length ∧ m ≤ c ∧ c ≤ maxLen := by
  obtain ⟨A', c', e, hm, -⟩ := h
  injection e with e1 e2 e3
  subst e2 e3
  exact ⟨rfl, hm⟩
/-- A write of at most 64 bytes into a sector that is there is pending. -/
theorem wr_app {Bn : Nat} {l : List Sec} {ops : List Med.Op} {a : Int} {b : List Nat} (ha : 0 ≤ a ∧ a < l.length) (hb : b.length ≤ 64) : app ops (opE Bn l ⟨false, a, b⟩) ⟨false, a, b⟩ = ops ++ [⟨false, a, b⟩] := by
  have : opE Bn l ⟨false, a, b⟩ = 0 := by
    show (if 0 ≤ a ∧ a < l.length then (if 64 < b.length then 7 else 0) else (2 : Int)) = 0
    rw [if_pos ha, if_neg (by omega)]
  unfold app; rw [this, if_pos rfl]
set_option maxHeartbeats 4000000 in
set_option maxRecDepth 100000 in
theorem rwr14_any {B : Zn} {w : World} {D P R Bn T S O : Nat} {L : List F} {p : Dsk.Pw} {d : Dsk.Dk} (h : RDk B w D P R Bn T S O L d) (hp : RPw w P p) (hP : B.fr P) {n : Nat} (hf : p.fit n) (hn : n < 4611686018427387904) (hct : d.count < 4611686018427387904) (hws : d.ws < 4611686018427387904) (hol : d.ops.length ≤ 1000) (key : Nat) (a : Int) (v0 : Value) (b : List Nat) (force : Bool) (hv : ∀ c, Tch B tyQ w c → Bs c v0 b) (hb : b.length ≤ 1000) :
    Calls Try.prog 48 #[.pointer (some ⟨D, 0, none⟩), .int .u64 (key : Int), .int .i64 a, v0, .bool force] w (dkPost B D P R Bn T S O L (Dsk.writeE (faL L) p d key a b) (Dsk.beP p d) (Dsk.writeD (faL L) R Bn T S O p d key a b force) w) := by
  obtain ⟨m, A0, c0, rfl⟩ : ∃ m A c, v0 = .slice A m c := by obtain ⟨A, c, e⟩ := (hv w (Tch.refl _ _ _)).form; exact ⟨_, A, c, e⟩
  obtain ⟨mb, mc, mm⟩ := by_cap (hv w (Tch.refl _ _ _))
  have FL := Dsk.beD_flds (faL L) p d key
  have BG := rbe_any h hp hP hf hn hct key
  unfold bePost at BG
  obtain ⟨f0, hf0⟩ : ∃ f, Dsk.beF (faL L) p d key = f := ⟨_, rfl⟩
  obtain ⟨x, y, z⟩ := f0
  obtain ⟨E, hE⟩ : ∃ e, Dsk.beE (faL L) p d key = e := ⟨_, rfl⟩
  obtain ⟨p1, hp1⟩ : ∃ e, Dsk.beP p d = e := ⟨_, rfl⟩
  obtain ⟨d1, hd1⟩ : ∃ e, Dsk.beD (faL L) p d key = e := ⟨_, rfl⟩
  rw [hf0, hE, hp1, hd1] at BG
  unfold fV at BG
  rw [hd1] at FL
  replace BG := Lib.hid BG
  have HPL := Lib.hid hP
  replace FL := Lib.hid FL
  have HWS := Lib.hid hws
  have HOL := Lib.hid hol
  have HG := Lib.hid h.facts
  have HV := Lib.hid hv
  have MB := Lib.hid mb
  have MC := Lib.hid mc
  have HBL := Lib.hid hb
  obtain ⟨dF, hdF⟩ : ∃ x, Dsk.writeD (faL L) R Bn T S O p d key a b force = x := ⟨_, rfl⟩
  obtain ⟨eF, heF⟩ : ∃ x, Dsk.writeE (faL L) p d key a b = x := ⟨_, rfl⟩
  have HA : ∀ x, Dsk.has d x ↔ Dsk.has d1 x := fun x => by unfold Dsk.has; rw [FL.out.1]
  have E1 : Hid (E ≠ 0 → eF = E) := Lib.hid fun e0 => by rw [← heF]; unfold Dsk.writeE; rw [hE, if_pos e0]
  have E2 : Hid (E = 0 → ¬ Dsk.has d1 a → eF = 2) := Lib.hid fun e0 e1 => by rw [← heF]; unfold Dsk.writeE; rw [hE, if_neg (not_not_intro e0), if_pos (fun c => e1 ((HA a).1 c))]
  have E3 : Hid (E = 0 → Dsk.has d1 a → 64 < m → eF = 7) := Lib.hid fun e0 e1 e2 => by rw [← heF]; unfold Dsk.writeE; rw [hE, if_neg (not_not_intro e0), if_neg (not_not_intro ((HA a).2 e1)), if_pos (by omega)]
  have E4 : Hid (E = 0 → Dsk.has d1 a → ¬ 64 < m → eF = 0) := Lib.hid fun e0 e1 e2 => by rw [← heF]; unfold Dsk.writeE; rw [hE, if_neg (not_not_intro e0), if_neg (not_not_intro ((HA a).2 e1)), if_neg (by omega)]
  have D0 : Hid (eF ≠ 0 → dF = d1) := Lib.hid fun e0 => by rw [← hdF]; unfold Dsk.writeD; rw [heF, if_pos e0, hd1]
  have D1 : Hid (eF = 0 → ∀ a', (if y = 3 then z else a) = a' → (y = 1 ∨ ¬ Dsk.has d1 a') → dF = { d1 with ws := d1.ws + 1 }) := Lib.hid fun e0 a' e1 e2 => by
    rw [← hdF]; unfold Dsk.writeD Dsk.wrA; rw [heF, if_neg (not_not_intro e0), hf0, e1, if_pos (e2.imp id fun c e => c ((HA a').1 e)), hd1, FL.out.2.2.2.2.2.2.1]
  have D2 : Hid (eF = 0 → ∀ a' b', (if y = 3 then z else a) = a' → (if y = 2 then b.take (b.length / 2) else b) = b' → y ≠ 1 → Dsk.has d1 a' →
      dF = if force = true then { d1 with l := Med.play R Bn T S O d1.l (d1.ops ++ [⟨false, a', b'⟩]), ws := d1.ws + 1, ops := [] } else { d1 with ws := d1.ws + 1, ops := d1.ops ++ [⟨false, a', b'⟩] }) := Lib.hid fun e0 a' b' e1 e2 e3 e4 => by
    rw [← hdF]; unfold Dsk.writeD Dsk.wrote Dsk.wrA Dsk.wrBs Dsk.fl Dsk.cont
    rw [heF, if_neg (not_not_intro e0), hf0, e1, e2, if_neg (by rintro (e | e); exact e3 e; exact e ((HA a').2 e4)), hd1, FL.out.2.2.2.2.2.2.1, FL.out.2.1]
  unfold dkPost
  rw [hp1, hdF, heF]
  clear HA heF hdF h hp hP hf hn hct hws hol hv hb mb mc mm hf0 hE hp1 hd1
  go_enter Try.func48, Try.ntmps48
  go_wp2_with fail
  refine BG.out.mono ?_
  rintro e w1 ⟨rfl, hd, hpw, ht⟩
  obtain ⟨K, v, q1⟩ := hd.start hpw HPL.out ht
  have A1 := Lib.hid ((Below.refl w1.heap.size w1).alloc (Nat.le_refl _) (.cells #[.int .i64 x, .int .i64 y, .int .i64 z] 80))
  have R1 := Lib.hid (new13 w1 #[.int .i64 x, .int .i64 y, .int .i64 z] 80 rfl)
  have Q1 := Lib.hid (q1.fw A1.out)
  clear hd hpw ht BG q1
  have ND : Hid (w1.heap.size ≠ D) := Lib.hid (by
    intro e
    have h1 := (R1.out).ty
    have h2 := Row.ty Q1.out.row
    exact h1.ne h2 (by decide) e)
  by_cases e0 : E = 0
  · have d0 : ((E : Int) != 0) = false := by simp [e0]
    have E0 := Lib.hid e0
    have HS := rhas14_any Q1.out.row (by rw [FL.out.1]; exact HG.out.2) HG.out.1 a
    clear e0
    by_cases hh : Dsk.has d1 a
    · rw [decide_eq_true hh] at HS
      have HH := Lib.hid hh
      have HS := Lib.hid HS
      clear hh
      go_wp2_with fail
      refine HS.out.mono ?_
      rintro e w2 ⟨rfl, hb⟩
      have Q2 := Lib.hid (Q1.out.fw hb)
      have R2 := Lib.hid (rw13 R1.out hb)
      clear hb HS
      by_cases m64 : 64 < m
      · have EF := Lib.hid (E3.out E0.out HH.out m64)
        have DF := Lib.hid (D0.out (by rw [EF.out]; decide))
        have mI : (64 : Int) < (m : Int) := by omega
        clear m64
        go_wp2_with fail
        go_ret
        refine ⟨by rw [EF.out]; rfl, ?_⟩
        rw [DF.out]
        exact Q2.out.fin rfl rfl
      · have EF := Lib.hid (E4.out E0.out HH.out m64)
        have mI : ¬ (64 : Int) < (m : Int) := by omega
        have mI2 : (m : Int) ≤ 64 := by omega
        have mD : decide ((64 : Int) < (m : Int)) = false := decide_eq_false mI
        have M64 := Lib.hid m64
        have b13 := Q2.out.row.cells.2.2.2.2.1
        have f13 := Row.frozen Q2.out.row 13
        have fI : (d1.ws : Int) < 4611686018427387904 := by have := FL.out.2.2.2.2.2.2.1; have := HWS.out; omega
        have Q3 := Lib.hid (Q2.out.put (d' := { d1 with ws := d1.ws + 1 }) 13 (.int .i64 ((d1.ws : Int) + 1)) rfl)
        have R3 := Lib.hid (Row.oth R2.out ND.out 13 (.int .i64 ((d1.ws : Int) + 1)))
        have BV := Lib.hid (HV.out _ Q3.out.t)
        obtain ⟨r0, r1, r2⟩ := row3 R3.out
        clear m64
        by_cases y1 : y = 1
        · have t2 : (y == 2) = false := by simp [y1]
          have t3 : (y == 3) = false := by simp [y1]
          have t1 : (y == 1) = true := by simp [y1]
          have DF := Lib.hid (D1.out EF.out _ rfl (Or.inl y1))
          clear y1
          go_wp2_with fail
          go_ret
          refine ⟨by rw [EF.out]; rfl, ?_⟩
          rw [DF.out]
          exact Q3.out.fin rfl rfl
        · have t1 : (y == 1) = false := by simp [y1]
          have Y1 := Lib.hid (show y ≠ 1 from y1)
          clear y1
          by_cases y2 : y = 2
          · have t2 : (y == 2) = true := by simp [y2]
            have t3 : (y == 3) = false := by simp [y2]
            have AA : Hid ((if y = 3 then z else a) = a) := Lib.hid (if_neg (by omega))
            have AB : Hid ((if y = 2 then b.take (b.length / 2) else b) = b.take (m / 2)) := Lib.hid ((if_pos y2).trans (by rw [MB.out]))
            obtain ⟨k, hk⟩ : ∃ k, m / 2 = k := ⟨_, rfl⟩
            rw [hk] at AB
            have km : k ≤ m := by omega
            obtain ⟨st, sa⟩ := by_to A0 m c0 k km MC.out
            have BB := Lib.hid (by_take BV.out km)
            have LB : Hid ((b.take k).length ≤ 64) := Lib.hid (by rw [List.length_take]; have := MB.out; have := M64.out; omega)
            have hk1 : (m : Int) / 2 = (k : Int) := by omega
            have hk2 : Int.tdiv (m : Int) 2 = (k : Int) := by rw [Int.tdiv_eq_ediv_of_nonneg (by omega)]; omega
            clear y2 hk km
            have HS2 := rhas14_any Q3.out.row (show ({ d1 with ws := d1.ws + 1 } : Dsk.Dk).l.length = _ by show d1.l.length = _; rw [FL.out.1]; exact HG.out.2) HG.out.1 a
            by_cases hh : Dsk.has d1 a
            · rw [show decide (Dsk.has ({ d1 with ws := d1.ws + 1 } : Dsk.Dk) a) = true from decide_eq_true hh] at HS2
              have HH2 := Lib.hid hh
              have HS2 := Lib.hid HS2
              clear hh
              go_wp2_with fail
              refine HS2.out.mono ?_
              rintro e w4 ⟨rfl, hb⟩
              have Q4 := Lib.hid (Q3.out.fw hb)
              have V4 := Lib.hid (BB.out.below hb)
              have a5 := Q4.out.row.cells.1.1
              have DO := rdo12_any Q4.out.re ⟨false, a, b.take k⟩ (.slice A0 k c0) V4.out (by have := LB.out; show (b.take k).length ≤ 1000; omega) (by rw [FL.out.2.1]; exact HOL.out)
              unfold rdoPost at DO
              rw [wr_app (show 0 ≤ a ∧ a < (Med.play R Bn T S O d1.l d1.ops).length by rw [Med.play_len]; exact HH2.out) LB.out] at DO
              obtain ⟨q, hq⟩ : ∃ x, opE Bn (Med.play R Bn T S O d1.l d1.ops) ⟨false, a, b.take k⟩ = x := ⟨_, rfl⟩
              rw [hq] at DO
              replace DO := Lib.hid DO
              have DF := D2.out EF.out a (b.take k) AA.out AB.out Y1.out HH2.out
              clear hb HS2 hq
              cases force with
              | true =>
                replace DF := Lib.hid (DF.trans (if_pos rfl))
                go_wp2_with fail
                refine DO.out.mono ?_
                rintro e w5 ⟨rfl, hr, ht⟩
                have Q5 := Lib.hid (Q4.out.cac hr ht)
                have CF := Lib.hid (rfl_any Q5.out.re)
                have b5 := Q5.out.row.cells.1.1
                clear hr ht DO a5
                go_wp2_with fail
                refine CF.out.mono ?_
                rintro e w6 ⟨⟨u, rfl⟩, hr, ht⟩
                have Q6 := Lib.hid (Q5.out.cac hr ht)
                clear hr ht CF b5
                go_wp2_with fail
                go_ret
                refine ⟨by rw [EF.out]; rfl, ?_⟩
                rw [DF.out]
                obtain ⟨q1, q2, q3, q4, q5, q6, q7⟩ := Q6.out
                exact Dq.fin (d := { d1 with l := Med.play R Bn T S O d1.l (d1.ops ++ [⟨false, a, b.take k⟩]), ws := d1.ws + 1, ops := [] }) ⟨q1, q2, q3, q4, q5, q6, q7⟩ rfl rfl
              | false =>
                replace DF := Lib.hid (DF.trans (if_neg (by decide)))
                go_wp2_with fail
                refine DO.out.mono ?_
                rintro e w5 ⟨rfl, hr, ht⟩
                have Q5 := Lib.hid (Q4.out.cac hr ht)
                clear hr ht DO a5
                go_wp2_with fail
                go_ret
                refine ⟨by rw [EF.out]; rfl, ?_⟩
                rw [DF.out]
                obtain ⟨q1, q2, q3, q4, q5, q6, q7⟩ := Q5.out
                exact Dq.fin (d := { d1 with ws := d1.ws + 1, ops := d1.ops ++ [⟨false, a, b.take k⟩] }) ⟨q1, q2, q3, q4, q5, q6, q7⟩ rfl rfl
            · rw [show decide (Dsk.has ({ d1 with ws := d1.ws + 1 } : Dsk.Dk) a) = false from decide_eq_false hh] at HS2
              have DF := Lib.hid (D1.out EF.out a AA.out (Or.inr hh))
              have HS2 := Lib.hid HS2
              clear hh
              go_wp2_with fail
              refine HS2.out.mono ?_
              rintro e w4 ⟨rfl, hb⟩
              have Q4 := Lib.hid (Q3.out.fw hb)
              clear hb HS2
              go_wp2_with fail
              go_ret
              refine ⟨by rw [EF.out]; rfl, ?_⟩
              rw [DF.out]
              exact Q4.out.fin rfl rfl
          · have t2 : (y == 2) = false := by simp [y2]
            have AB : Hid ((if y = 2 then b.take (b.length / 2) else b) = b) := Lib.hid (if_neg y2)
            have BB := BV
            have LB : Hid (b.length ≤ 64) := Lib.hid (by have := MB.out; have := M64.out; omega)
            clear y2
            by_cases y3 : y = 3
            · have t3 : (y == 3) = true := by simp [y3]
              have AA : Hid ((if y = 3 then z else a) = z) := Lib.hid (if_pos y3)
              clear y3
              have HS2 := rhas14_any Q3.out.row (show ({ d1 with ws := d1.ws + 1 } : Dsk.Dk).l.length = _ by show d1.l.length = _; rw [FL.out.1]; exact HG.out.2) HG.out.1 z
              by_cases hh : Dsk.has d1 z
              · rw [show decide (Dsk.has ({ d1 with ws := d1.ws + 1 } : Dsk.Dk) z) = true from decide_eq_true hh] at HS2
                have HH2 := Lib.hid hh
                have HS2 := Lib.hid HS2
                clear hh
                go_wp2_with fail
                refine HS2.out.mono ?_
                rintro e w4 ⟨rfl, hb⟩
                have Q4 := Lib.hid (Q3.out.fw hb)
                have V4 := Lib.hid (BB.out.below hb)
                have a5 := Q4.out.row.cells.1.1
                have DO := rdo12_any Q4.out.re ⟨false, z, b⟩ (.slice A0 m c0) V4.out (by have := LB.out; show b.length ≤ 1000; omega) (by rw [FL.out.2.1]; exact HOL.out)
                unfold rdoPost at DO
                rw [wr_app (show 0 ≤ z ∧ z < (Med.play R Bn T S O d1.l d1.ops).length by rw [Med.play_len]; exact HH2.out) LB.out] at DO
                obtain ⟨q, hq⟩ : ∃ x, opE Bn (Med.play R Bn T S O d1.l d1.ops) ⟨false, z, b⟩ = x := ⟨_, rfl⟩
                rw [hq] at DO
                replace DO := Lib.hid DO
                have DF := D2.out EF.out z b AA.out AB.out Y1.out HH2.out
                clear hb HS2 hq
                cases force with
                | true =>
                  replace DF := Lib.hid (DF.trans (if_pos rfl))
                  go_wp2_with fail
                  refine DO.out.mono ?_
                  rintro e w5 ⟨rfl, hr, ht⟩
                  have Q5 := Lib.hid (Q4.out.cac hr ht)
                  have CF := Lib.hid (rfl_any Q5.out.re)
                  have b5 := Q5.out.row.cells.1.1
                  clear hr ht DO a5
                  go_wp2_with fail
                  refine CF.out.mono ?_
                  rintro e w6 ⟨⟨u, rfl⟩, hr, ht⟩
                  have Q6 := Lib.hid (Q5.out.cac hr ht)
                  clear hr ht CF b5
                  go_wp2_with fail
                  go_ret
                  refine ⟨by rw [EF.out]; rfl, ?_⟩
                  rw [DF.out]
                  obtain ⟨q1, q2, q3, q4, q5, q6, q7⟩ := Q6.out
                  exact Dq.fin (d := { d1 with l := Med.play R Bn T S O d1.l (d1.ops ++ [⟨false, z, b⟩]), ws := d1.ws + 1, ops := [] }) ⟨q1, q2, q3, q4, q5, q6, q7⟩ rfl rfl
                | false =>
                  replace DF := Lib.hid (DF.trans (if_neg (by decide)))
                  go_wp2_with fail
                  refine DO.out.mono ?_
                  rintro e w5 ⟨rfl, hr, ht⟩
                  have Q5 := Lib.hid (Q4.out.cac hr ht)
                  clear hr ht DO a5
                  go_wp2_with fail
                  go_ret
                  refine ⟨by rw [EF.out]; rfl, ?_⟩
                  rw [DF.out]
                  obtain ⟨q1, q2, q3, q4, q5, q6, q7⟩ := Q5.out
                  exact Dq.fin (d := { d1 with ws := d1.ws + 1, ops := d1.ops ++ [⟨false, z, b⟩] }) ⟨q1, q2, q3, q4, q5, q6, q7⟩ rfl rfl
              · rw [show decide (Dsk.has ({ d1 with ws := d1.ws + 1 } : Dsk.Dk) z) = false from decide_eq_false hh] at HS2
                have DF := Lib.hid (D1.out EF.out z AA.out (Or.inr hh))
                have HS2 := Lib.hid HS2
                clear hh
                go_wp2_with fail
                refine HS2.out.mono ?_
                rintro e w4 ⟨rfl, hb⟩
                have Q4 := Lib.hid (Q3.out.fw hb)
                clear hb HS2
                go_wp2_with fail
                go_ret
                refine ⟨by rw [EF.out]; rfl, ?_⟩
                rw [DF.out]
                exact Q4.out.fin rfl rfl
            · have t3 : (y == 3) = false := by simp [y3]
              have AA : Hid ((if y = 3 then z else a) = a) := Lib.hid (if_neg y3)
              clear y3
              have HS2 := rhas14_any Q3.out.row (show ({ d1 with ws := d1.ws + 1 } : Dsk.Dk).l.length = _ by show d1.l.length = _; rw [FL.out.1]; exact HG.out.2) HG.out.1 a
              by_cases hh : Dsk.has d1 a
              · rw [show decide (Dsk.has ({ d1 with ws := d1.ws + 1 } : Dsk.Dk) a) = true from decide_eq_true hh] at HS2
                have HH2 := Lib.hid hh
                have HS2 := Lib.hid HS2
                clear hh
                go_wp2_with fail
                refine HS2.out.mono ?_
                rintro e w4 ⟨rfl, hb⟩
                have Q4 := Lib.hid (Q3.out.fw hb)
                have V4 := Lib.hid (BB.out.below hb)
                have a5 := Q4.out.row.cells.1.1
                have DO := rdo12_any Q4.out.re ⟨false, a, b⟩ (.slice A0 m c0) V4.out (by have := LB.out; show b.length ≤ 1000; omega) (by rw [FL.out.2.1]; exact HOL.out)
                unfold rdoPost at DO
                rw [wr_app (show 0 ≤ a ∧ a < (Med.play R Bn T S O d1.l d1.ops).length by rw [Med.play_len]; exact HH2.out) LB.out] at DO
                obtain ⟨q, hq⟩ : ∃ x, opE Bn (Med.play R Bn T S O d1.l d1.ops) ⟨false, a, b⟩ = x := ⟨_, rfl⟩
                rw [hq] at DO
                replace DO := Lib.hid DO
                have DF := D2.out EF.out a b AA.out AB.out Y1.out HH2.out
                clear hb HS2 hq
                cases force with
                | true =>
                  replace DF := Lib.hid (DF.trans (if_pos rfl))
                  go_wp2_with fail
                  refine DO.out.mono ?_
                  rintro e w5 ⟨rfl, hr, ht⟩
                  have Q5 := Lib.hid (Q4.out.cac hr ht)
                  have CF := Lib.hid (rfl_any Q5.out.re)
                  have b5 := Q5.out.row.cells.1.1
                  clear hr ht DO a5
                  go_wp2_with fail
                  refine CF.out.mono ?_
                  rintro e w6 ⟨⟨u, rfl⟩, hr, ht⟩
                  have Q6 := Lib.hid (Q5.out.cac hr ht)
                  clear hr ht CF b5
                  go_wp2_with fail
                  go_ret
                  refine ⟨by rw [EF.out]; rfl, ?_⟩
                  rw [DF.out]
                  obtain ⟨q1, q2, q3, q4, q5, q6, q7⟩ := Q6.out
                  exact Dq.fin (d := { d1 with l := Med.play R Bn T S O d1.l (d1.ops ++ [⟨false, a, b⟩]), ws := d1.ws + 1, ops := [] }) ⟨q1, q2, q3, q4, q5, q6, q7⟩ rfl rfl
                | false =>
                  replace DF := Lib.hid (DF.trans (if_neg (by decide)))
                  go_wp2_with fail
                  refine DO.out.mono ?_
                  rintro e w5 ⟨rfl, hr, ht⟩
                  have Q5 := Lib.hid (Q4.out.cac hr ht)
                  clear hr ht DO a5
                  go_wp2_with fail
                  go_ret
                  refine ⟨by rw [EF.out]; rfl, ?_⟩
                  rw [DF.out]
                  obtain ⟨q1, q2, q3, q4, q5, q6, q7⟩ := Q5.out
                  exact Dq.fin (d := { d1 with ws := d1.ws + 1, ops := d1.ops ++ [⟨false, a, b⟩] }) ⟨q1, q2, q3, q4, q5, q6, q7⟩ rfl rfl
              · rw [show decide (Dsk.has ({ d1 with ws := d1.ws + 1 } : Dsk.Dk) a) = false from decide_eq_false hh] at HS2
                have DF := Lib.hid (D1.out EF.out a AA.out (Or.inr hh))
                have HS2 := Lib.hid HS2
                clear hh
                go_wp2_with fail
                refine HS2.out.mono ?_
                rintro e w4 ⟨rfl, hb⟩
                have Q4 := Lib.hid (Q3.out.fw hb)
                clear hb HS2
                go_wp2_with fail
                go_ret
                refine ⟨by rw [EF.out]; rfl, ?_⟩
                rw [DF.out]
                exact Q4.out.fin rfl rfl
    · rw [decide_eq_false hh] at HS
      have EF := Lib.hid (E2.out E0.out hh)
      have DF := Lib.hid (D0.out (by rw [EF.out]; decide))
      have HS := Lib.hid HS
      clear hh
      go_wp2_with fail
      refine HS.out.mono ?_
      rintro e w2 ⟨rfl, hb⟩
      have Q2 := Lib.hid (Q1.out.fw hb)
      clear hb HS
      go_wp2_with fail
      go_ret
      refine ⟨by rw [EF.out]; rfl, ?_⟩
      rw [DF.out]
      exact Q2.out.fin rfl rfl
  · have d0 : ((E : Int) != 0) = true := by simp [e0]
    have EF := Lib.hid (E1.out e0)
    have DF := Lib.hid (D0.out (by rw [EF.out]; exact e0))
    clear e0
    go_wp2_with fail
    go_ret
    refine ⟨by rw [EF.out]; rfl, ?_⟩
    rw [DF.out]
    exact Q1.out.fin rfl rfl
end Go.Proofs.Ytdjjihppaobbcaa
