/- Layer 14: contracts of the reference: Cache.Read; Erase, Read. WRITTEN BY gen_Dke.py. -/
import Derived.Test.YtdjjihppaobbcaaDkd
namespace Go.Proofs.Ytdjjihppaobbcaa
open Go Go.RowKit Med Flt
set_option linter.unusedVariables false
set_option linter.unusedSimpArgs false
theorem OwF.low {w : World} {K K' : Nat} {v : Value} {l : List Nat} (h : OwF w K v l) (hK : K' ≤ K) : OwF w K' v l := by
  refine ⟨h.1, ?_⟩
  rcases h.2 with h2 | ⟨g, c, cs, fr, h2, h3, h4⟩
  · exact Or.inl h2
  · exact Or.inr ⟨g, c, cs, fr, h2, Nat.le_trans hK h3, h4⟩
theorem OwF.set_ {w : World} {K : Nat} {v : Value} {l : List Nat} (h : OwF w K v l) {p : Addr} (hp : p.block < K) (u : Value) : OwF (w.setCell p u) K v l := by
  refine ⟨h.1.chg (o := fun j => j = p.block) (show Chg (fun j => j = p.block) w (w.setCell p u) from (Chg.refl (fun j => j = p.block) w).setCell (p := p) rfl u) fun k hk e => ?_, ?_⟩
  · rcases h.2 with ⟨rfl, _⟩ | ⟨g, c, cs, fr, rfl, h3, _⟩
    · cases hk
    · injection hk with hk
      have hk' : g = k := hk
      omega
  · rcases h.2 with h2 | ⟨g, c, cs, fr, h2, h3, h4, h5⟩
    · exact Or.inl h2
    · exact Or.inr ⟨g, c, cs, fr, h2, h3, (Below.heap_setCell w p u g (by omega)).trans h4, h5⟩
set_option maxHeartbeats 4000000 in
set_option maxRecDepth 100000 in
theorem rcr_any {B : Zn} {w : World} {K R Bn T S O : Nat} {l : List Sec} {ops : List Med.Op} (h : Re B w K R Bn T S O l ops) (a : Int) : Calls Try.prog 32 #[.pointer (some ⟨K, 0, none⟩), .int .i64 a] w (rdPost (rdE (Med.play R Bn T S O l ops) a) (rdB (Med.play R Bn T S O l ops) a) w) := by
  have CT := Lib.hid (rct_any h)
  clear h
  obtain ⟨m, hm⟩ : ∃ x, Med.play R Bn T S O l ops = x := ⟨_, rfl⟩
  rw [hm] at CT ⊢
  clear hm
  go_enter Try.func32, Try.ntmps32
  go_wp2_with fail
  refine CT.out.mono ?_
  rintro e w1 ⟨M, X, c, rfl, hm, hx, hb⟩
  have RD := Lib.hid (rrd_any hm a)
  have HB := Lib.hid hb
  clear hm hx hb CT
  generalize rdE m a = E at *
  generalize rdB m a = s at *
  go_wp2_with fail
  refine RD.out.mono ?_
  rintro e w2 ⟨u, rfl, hu, hb⟩
  have HU := Lib.hid hu
  have HB2 := Lib.hid (HB.out.trans (hb.mono HB.out.size))
  obtain ⟨A, cc, rfl⟩ : ∃ A cc, u = .slice A (bOf s).length cc := by obtain ⟨A, cc, e⟩ := hu.1.form; exact ⟨A, cc, e⟩
  obtain ⟨k, hk⟩ : ∃ k, (bOf s).length = k := ⟨_, rfl⟩
  rw [hk] at HU ⊢
  clear hu hb RD hk
  go_wp2_with fail
  refine bodyPost_ret (results_tmp2 rfl _ _ _) rfl ?_
  exact ⟨_, rfl, HU.out.low HB.out.size, HB2.out⟩
set_option maxHeartbeats 4000000 in
set_option maxRecDepth 100000 in
theorem rer14_any {B : Zn} {w : World} {D P R Bn T S O : Nat} {L : List F} {p : Dsk.Pw} {d : Dsk.Dk} (h : RDk B w D P R Bn T S O L d) (hp : RPw w P p) (hP : B.fr P) {n : Nat} (hf : p.fit n) (hn : n < 4611686018427387904) (hct : d.count < 4611686018427387904) (hes : d.es < 4611686018427387904) (hol : d.ops.length ≤ 1000) (key : Nat) (a : Int) :
    Calls Try.prog 49 #[.pointer (some ⟨D, 0, none⟩), .int .u64 (key : Int), .int .i64 a] w (dkPost B D P R Bn T S O L (Dsk.eraseE (faL L) Bn p d key a) (Dsk.beP p d) (Dsk.eraseD (faL L) Bn p d key a) w) := by
  have FL := Dsk.beD_flds (faL L) p d key
  have BG := rbe_any h hp hP hf hn hct key
  unfold bePost at BG
  obtain ⟨f0, hf0⟩ : ∃ f, Dsk.beF (faL L) p d key = f := ⟨_, rfl⟩
  obtain ⟨x, y, z⟩ := f0
  obtain ⟨E, hE⟩ : ∃ e, Dsk.beE (faL L) p d key = e := ⟨_, rfl⟩
  obtain ⟨p1, hp1⟩ : ∃ e, Dsk.beP p d = e := ⟨_, rfl⟩
  obtain ⟨d1, hd1⟩ : ∃ e, Dsk.beD (faL L) p d key = e := ⟨_, rfl⟩
  rw [hf0, hE, hp1, hd1] at BG
  unfold fV at BG
  rw [hd1] at FL
  replace BG := Lib.hid BG
  have HPL := Lib.hid hP
  replace FL := Lib.hid FL
  have HES := Lib.hid hes
  have HOL := Lib.hid hol
  obtain ⟨dF, hdF⟩ : ∃ x, Dsk.eraseD (faL L) Bn p d key a = x := ⟨_, rfl⟩
  obtain ⟨eF, heF⟩ : ∃ x, Dsk.eraseE (faL L) Bn p d key a = x := ⟨_, rfl⟩
  obtain ⟨q, hq⟩ : ∃ x, erE Bn a = x := ⟨_, rfl⟩
  have EF0 : Hid (E = 0 → eF = q) := Lib.hid fun e0 => by rw [← heF]; unfold Dsk.eraseE; rw [hE, if_neg (not_not_intro e0), hq]
  have EF1 : Hid (E ≠ 0 → eF = E) := Lib.hid fun e0 => by rw [← heF]; unfold Dsk.eraseE; rw [hE, if_pos e0]
  have DF0 : Hid (eF = 0 → dF = { d1 with es := d1.es + 1, ops := d1.ops ++ [⟨true, a, []⟩] }) := Lib.hid fun e0 => by
    rw [← hdF]; unfold Dsk.eraseD; rw [heF, hd1, if_pos e0, FL.out.2.2.2.2.2.2.2.1, FL.out.2.1]
  have DF1 : Hid (eF ≠ 0 → dF = d1) := Lib.hid fun e0 => by rw [← hdF]; unfold Dsk.eraseD; rw [heF, hd1, if_neg e0]
  have HQ := Lib.hid hq
  unfold dkPost
  rw [hp1, hdF, heF]
  clear hq heF hdF h hp hP hf hn hct hes hol hf0 hE hp1 hd1
  go_enter Try.func49, Try.ntmps49
  go_wp2_with fail
  refine BG.out.mono ?_
  rintro e w1 ⟨rfl, hd, hpw, ht⟩
  obtain ⟨K, v, q1⟩ := hd.start hpw HPL.out ht
  have A1 := Lib.hid ((Below.refl w1.heap.size w1).alloc (Nat.le_refl _) (.cells #[.int .i64 x, .int .i64 y, .int .i64 z] 80))
  have R1 := Lib.hid (new13 w1 #[.int .i64 x, .int .i64 y, .int .i64 z] 80 rfl)
  have Q1 := Lib.hid (q1.fw A1.out)
  clear hd hpw ht BG q1
  by_cases e0 : E = 0
  · have d0 : ((E : Int) != 0) = false := by simp [e0]
    have EF := Lib.hid (EF0.out e0)
    have DO := rdo12_any Q1.out.re ⟨true, a, []⟩ (.slice none 0 0) (Bs.nil_ _) (Nat.zero_le _) (by rw [FL.out.2.1]; exact HOL.out)
    unfold rdoPost at DO
    rw [show opE Bn (Med.play R Bn T S O d1.l d1.ops) ⟨true, a, []⟩ = q from HQ.out] at DO
    replace DO := Lib.hid DO
    have a5 := Q1.out.row.cells.1.1
    clear e0
    go_wp2_with fail
    refine DO.out.mono ?_
    rintro e w2 ⟨rfl, hr, ht⟩
    have Q2 := Lib.hid (Q1.out.cac hr ht)
    clear hr ht DO a5
    by_cases q0 : q = 0
    · have dq : ((q : Int) == 0) = true := by simp [q0]
      have Q0 := Lib.hid q0
      have b14 := Q2.out.row.cells.2.2.2.2.2.1
      have f14 := Row.frozen Q2.out.row 14
      have fI : (d1.es : Int) < 4611686018427387904 := by have := FL.out.2.2.2.2.2.2.2.1; have := HES.out; omega
      have Q3 := Lib.hid (Q2.out.put (d' := { d1 with es := d1.es + 1 }) 14 (.int .i64 ((d1.es : Int) + 1)) rfl)
      clear q0
      go_wp2_with fail
      go_ret
      refine ⟨by rw [EF.out]; rfl, ?_⟩
      rw [DF0.out (EF.out.trans Q0.out)]
      obtain ⟨q1, q2, q3, q4, q5, q6, q7⟩ := Q3.out
      rw [show app d1.ops q ⟨true, a, []⟩ = d1.ops ++ [⟨true, a, []⟩] from if_pos Q0.out] at q2
      exact Dq.fin (d := { d1 with es := d1.es + 1, ops := d1.ops ++ [⟨true, a, []⟩] }) ⟨q1, q2, q3, q4, q5, q6, q7⟩ rfl rfl
    · have dq : ((q : Int) == 0) = false := by simp [q0]
      have Q0 := Lib.hid q0
      clear q0
      go_wp2_with fail
      go_ret
      refine ⟨by rw [EF.out]; rfl, ?_⟩
      rw [DF1.out (by rw [EF.out]; exact Q0.out)]
      have Q3 := Q2.out
      rw [show app d1.ops q ⟨true, a, []⟩ = d1.ops from if_neg Q0.out] at Q3
      exact Q3.fin rfl rfl
  · have d0 : ((E : Int) != 0) = true := by simp [e0]
    have EF := Lib.hid (EF1.out e0)
    have DF := Lib.hid (DF1.out (by rw [EF.out]; exact e0))
    clear e0
    go_wp2_with fail
    go_ret
    refine ⟨by rw [EF.out]; rfl, ?_⟩
    rw [DF.out]
    exact Q1.out.fin rfl rfl
/-- What Read leaves. -/
def rdkPost (B : Zn) (D P R Bn T S O : Nat) (L : List F) (E : Int) (s : ByteArray) (p : Dsk.Pw) (d : Dsk.Dk) (w : World) (e : Ending) (w' : World) : Prop :=
  ∃ u, e = .returned (.tuple #[u, .int .i64 E]) ∧ OwF w' w.heap.size u (bOf s) ∧ RDk B w' D P R Bn T S O L d ∧ RPw w' P p ∧ Tch B tyQ w w'
theorem OwF.nil14 (w : World) (K : Nat) : OwF w K (.slice none 0 0) (bOf ByteArray.empty) := OwF.nil_ w K
set_option maxHeartbeats 4000000 in
set_option maxRecDepth 100000 in
theorem rrd14_any {B : Zn} {w : World} {D P R Bn T S O : Nat} {L : List F} {p : Dsk.Pw} {d : Dsk.Dk} (h : RDk B w D P R Bn T S O L d) (hp : RPw w P p) (hP : B.fr P) {n : Nat} (hf : p.fit n) (hn : n < 4611686018427387904) (hct : d.count < 4611686018427387904) (hrs : d.rs < 4611686018427387904) (key : Nat) (a : Int) :
    Calls Try.prog 47 #[.pointer (some ⟨D, 0, none⟩), .int .u64 (key : Int), .int .i64 a] w (rdkPost B D P R Bn T S O L (Dsk.readE (faL L) R Bn T S O p d key a) (Dsk.readB (faL L) R Bn T S O p d key a) (Dsk.beP p d) (Dsk.readD (faL L) R Bn T S O p d key a) w) := by
  have FL := Dsk.beD_flds (faL L) p d key
  have BG := rbe_any h hp hP hf hn hct key
  unfold bePost at BG
  obtain ⟨f0, hf0⟩ : ∃ f, Dsk.beF (faL L) p d key = f := ⟨_, rfl⟩
  obtain ⟨x, y, z⟩ := f0
  obtain ⟨E, hE⟩ : ∃ e, Dsk.beE (faL L) p d key = e := ⟨_, rfl⟩
  obtain ⟨p1, hp1⟩ : ∃ e, Dsk.beP p d = e := ⟨_, rfl⟩
  obtain ⟨d1, hd1⟩ : ∃ e, Dsk.beD (faL L) p d key = e := ⟨_, rfl⟩
  rw [hf0, hE, hp1, hd1] at BG
  unfold fV at BG
  rw [hd1] at FL
  replace BG := Lib.hid BG
  have HPL := Lib.hid hP
  replace FL := Lib.hid FL
  have HRS := Lib.hid hrs
  have HG := Lib.hid h.facts
  obtain ⟨dF, hdF⟩ : ∃ x, Dsk.readD (faL L) R Bn T S O p d key a = x := ⟨_, rfl⟩
  obtain ⟨eF, heF⟩ : ∃ x, Dsk.readE (faL L) R Bn T S O p d key a = x := ⟨_, rfl⟩
  obtain ⟨sF, hsF⟩ : ∃ x, Dsk.readB (faL L) R Bn T S O p d key a = x := ⟨_, rfl⟩
  have CO : Dsk.cont R Bn T S O d = Med.play R Bn T S O d1.l d1.ops := by unfold Dsk.cont; rw [FL.out.1, FL.out.2.1]
  have HA : ∀ x, Dsk.has d x ↔ Dsk.has d1 x := fun x => by unfold Dsk.has; rw [FL.out.1]
  have E1 : Hid (E ≠ 0 → eF = E) := Lib.hid fun e0 => by rw [← heF]; unfold Dsk.readE; rw [hE, if_pos e0]
  have E2 : Hid (E = 0 → ¬ Dsk.has d1 a → eF = 2) := Lib.hid fun e0 e1 => by rw [← heF]; unfold Dsk.readE; rw [hE, if_neg (not_not_intro e0), if_pos (fun c => e1 ((HA a).1 c))]
  have E3 : Hid (E = 0 → Dsk.has d1 a → y = 4 → eF = 15) := Lib.hid fun e0 e1 e2 => by rw [← heF]; unfold Dsk.readE; rw [hE, if_neg (not_not_intro e0), if_neg (not_not_intro ((HA a).2 e1)), hf0, if_pos e2]
  have E4 : Hid (E = 0 → Dsk.has d1 a → y ≠ 4 → ∀ a', (if y = 5 then z else a) = a' → eF = if rdE (Med.play R Bn T S O d1.l d1.ops) a' = 0 then 0 else 15) := Lib.hid fun e0 e1 e2 a' e3 => by
    rw [← heF]; unfold Dsk.readE Dsk.rdA; rw [hE, if_neg (not_not_intro e0), if_neg (not_not_intro ((HA a).2 e1)), hf0, if_neg e2, CO, e3]
  have S0 : Hid (eF ≠ 0 → sF = ByteArray.empty ∧ dF = d1) := Lib.hid fun e0 => ⟨by rw [← hsF]; unfold Dsk.readB; rw [heF, if_neg e0], by rw [← hdF]; unfold Dsk.readD; rw [heF, if_neg e0, hd1]⟩
  have S1 : Hid (eF = 0 → ∀ a', (if y = 5 then z else a) = a' → sF = rdB (Med.play R Bn T S O d1.l d1.ops) a' ∧ dF = { d1 with rs := d1.rs + 1 }) := Lib.hid fun e0 a' e3 => ⟨by rw [← hsF]; unfold Dsk.readB Dsk.rdA; rw [heF, if_pos e0, hf0, CO, e3], by rw [← hdF]; unfold Dsk.readD; rw [heF, if_pos e0, hd1, FL.out.2.2.2.2.2.1]⟩
  unfold rdkPost
  rw [hp1, hdF, heF, hsF]
  clear CO HA heF hdF hsF h hp hP hf hn hct hrs hf0 hE hp1 hd1
  go_enter Try.func47, Try.ntmps47
  go_wp2_with fail
  refine BG.out.mono ?_
  rintro e w1 ⟨rfl, hd, hpw, ht⟩
  obtain ⟨K, v, q1⟩ := hd.start hpw HPL.out ht
  have A1 := Lib.hid ((Below.refl w1.heap.size w1).alloc (Nat.le_refl _) (.cells #[.int .i64 x, .int .i64 y, .int .i64 z] 80))
  have R1 := Lib.hid (new13 w1 #[.int .i64 x, .int .i64 y, .int .i64 z] 80 rfl)
  have Q1 := Lib.hid (q1.fw A1.out)
  clear hd hpw ht BG q1
  have fin0 : Hid (∀ c, eF ≠ 0 → Dq B w D P R Bn T S O K v d1.l d1.ops L p1 d1 c → (∃ u, (Ending.returned (.tuple #[.slice none 0 0, .int .i64 eF]) : Ending) = .returned (.tuple #[u, .int .i64 eF]) ∧ OwF c w.heap.size u (bOf sF) ∧ RDk B c D P R Bn T S O L dF ∧ RPw c P p1 ∧ Tch B tyQ w c)) := Lib.hid fun c e0 q => by
    obtain ⟨s0, s1⟩ := S0.out e0
    rw [s0, s1]
    exact ⟨_, rfl, OwF.nil14 _ _, q.fin rfl rfl⟩
  by_cases e0 : E = 0
  · have d0 : ((E : Int) != 0) = false := by simp [e0]
    have E0 := Lib.hid e0
    have HS := rhas14_any Q1.out.row (by rw [FL.out.1]; exact HG.out.2) HG.out.1 a
    clear e0
    by_cases hh : Dsk.has d1 a
    · rw [decide_eq_true hh] at HS
      have HH := Lib.hid hh
      have HS := Lib.hid HS
      clear hh
      go_wp2_with fail
      refine HS.out.mono ?_
      rintro e w2 ⟨rfl, hb⟩
      have Q2 := Lib.hid (Q1.out.fw hb)
      have R2 := Lib.hid (rw13 R1.out hb)
      obtain ⟨r0, r1, r2⟩ := row3 R2.out
      clear hb HS
      by_cases y4 : y = 4
      · have dy : (y == 4) = true := by simp [y4]
        have EF := Lib.hid (E3.out E0.out HH.out y4)
        clear y4
        go_wp2_with fail
        refine bodyPost_ret (results_tmp2 rfl _ _ _) rfl ?_
        have := fin0.out _ (by rw [EF.out]; decide) Q2.out
        rw [EF.out] at this ⊢
        exact this
      · have dy : (y == 4) = false := by simp [y4]
        have Y4 := Lib.hid y4
        clear y4
        by_cases y5 : y = 5
        · have dz : (y == 5) = true := by simp [y5]
          have AA : Hid ((if y = 5 then z else a) = z) := Lib.hid (if_pos y5)
          clear y5
          have EF4 := E4.out E0.out HH.out Y4.out z AA.out
          have a5 := Q2.out.row.cells.1.1
          have CR := rcr_any Q2.out.re z
          unfold rdPost at CR
          obtain ⟨q, hq⟩ : ∃ x, rdE (Med.play R Bn T S O d1.l d1.ops) z = x := ⟨_, rfl⟩
          obtain ⟨s, hs⟩ : ∃ x, rdB (Med.play R Bn T S O d1.l d1.ops) z = x := ⟨_, rfl⟩
          rw [hq] at EF4 CR
          rw [hs] at CR
          have HSS := Lib.hid hs
          have EF4 := Lib.hid EF4
          have CR := Lib.hid CR
          clear hq hs
          go_wp2_with fail
          refine CR.out.mono ?_
          rintro e w3 ⟨u, rfl, hu, hb⟩
          have Q3 := Lib.hid (Q2.out.fw hb)
          have HU := Lib.hid hu
          obtain ⟨A, cc, rfl⟩ : ∃ A cc, u = .slice A (bOf s).length cc := by obtain ⟨A, cc, e⟩ := hu.1.form; exact ⟨A, cc, e⟩
          obtain ⟨k, hk⟩ : ∃ k, (bOf s).length = k := ⟨_, rfl⟩
          rw [hk] at HU ⊢
          clear hu hb CR hk a5
          by_cases q0 : q = 0
          · have dq : ((q : Int) != 0) = false := by simp [q0]
            have EF := Lib.hid (EF4.out.trans (if_pos q0))
            have b12 := Q3.out.row.cells.2.2.2.1
            have f12 := Row.frozen Q3.out.row 12
            have fI : (d1.rs : Int) < 4611686018427387904 := by have := FL.out.2.2.2.2.2.1; have := HRS.out; omega
            have Q4 := Lib.hid (Q3.out.put (d' := { d1 with rs := d1.rs + 1 }) 12 (.int .i64 ((d1.rs : Int) + 1)) rfl)
            have T4 := Lib.hid (OwF.set_ HU.out (p := ⟨D, 12, none⟩) (by have := (Row.ty Q2.out.row).lt; exact this) (.int .i64 ((d1.rs : Int) + 1)))
            clear q0
            go_wp2_with fail
            refine bodyPost_ret (results_tmp2 rfl _ _ _) rfl ?_
            obtain ⟨s0, s1⟩ := S1.out EF.out z AA.out
            rw [s0, s1, HSS.out, EF.out]
            exact ⟨_, rfl, T4.out.low (Nat.le_trans Q2.out.t.size (Nat.le_refl _)), Q4.out.fin rfl rfl⟩
          · have dq : ((q : Int) != 0) = true := by simp [q0]
            have EF := Lib.hid (EF4.out.trans (if_neg q0))
            clear q0
            go_wp2_with fail
            refine bodyPost_ret (results_tmp2 rfl _ _ _) rfl ?_
            have := fin0.out _ (by rw [EF.out]; decide) Q3.out
            rw [EF.out] at this ⊢
            exact this
        · have dz : (y == 5) = false := by simp [y5]
          have AA : Hid ((if y = 5 then z else a) = a) := Lib.hid (if_neg y5)
          clear y5
          have EF4 := E4.out E0.out HH.out Y4.out a AA.out
          have a5 := Q2.out.row.cells.1.1
          have CR := rcr_any Q2.out.re a
          unfold rdPost at CR
          obtain ⟨q, hq⟩ : ∃ x, rdE (Med.play R Bn T S O d1.l d1.ops) a = x := ⟨_, rfl⟩
          obtain ⟨s, hs⟩ : ∃ x, rdB (Med.play R Bn T S O d1.l d1.ops) a = x := ⟨_, rfl⟩
          rw [hq] at EF4 CR
          rw [hs] at CR
          have HSS := Lib.hid hs
          have EF4 := Lib.hid EF4
          have CR := Lib.hid CR
          clear hq hs
          go_wp2_with fail
          refine CR.out.mono ?_
          rintro e w3 ⟨u, rfl, hu, hb⟩
          have Q3 := Lib.hid (Q2.out.fw hb)
          have HU := Lib.hid hu
          obtain ⟨A, cc, rfl⟩ : ∃ A cc, u = .slice A (bOf s).length cc := by obtain ⟨A, cc, e⟩ := hu.1.form; exact ⟨A, cc, e⟩
          obtain ⟨k, hk⟩ : ∃ k, (bOf s).length = k := ⟨_, rfl⟩
          rw [hk] at HU ⊢
          clear hu hb CR hk a5
          by_cases q0 : q = 0
          · have dq : ((q : Int) != 0) = false := by simp [q0]
            have EF := Lib.hid (EF4.out.trans (if_pos q0))
            have b12 := Q3.out.row.cells.2.2.2.1
            have f12 := Row.frozen Q3.out.row 12
            have fI : (d1.rs : Int) < 4611686018427387904 := by have := FL.out.2.2.2.2.2.1; have := HRS.out; omega
            have Q4 := Lib.hid (Q3.out.put (d' := { d1 with rs := d1.rs + 1 }) 12 (.int .i64 ((d1.rs : Int) + 1)) rfl)
            have T4 := Lib.hid (OwF.set_ HU.out (p := ⟨D, 12, none⟩) (by have := (Row.ty Q2.out.row).lt; exact this) (.int .i64 ((d1.rs : Int) + 1)))
            clear q0
            go_wp2_with fail
            refine bodyPost_ret (results_tmp2 rfl _ _ _) rfl ?_
            obtain ⟨s0, s1⟩ := S1.out EF.out a AA.out
            rw [s0, s1, HSS.out, EF.out]
            exact ⟨_, rfl, T4.out.low (Nat.le_trans Q2.out.t.size (Nat.le_refl _)), Q4.out.fin rfl rfl⟩
          · have dq : ((q : Int) != 0) = true := by simp [q0]
            have EF := Lib.hid (EF4.out.trans (if_neg q0))
            clear q0
            go_wp2_with fail
            refine bodyPost_ret (results_tmp2 rfl _ _ _) rfl ?_
            have := fin0.out _ (by rw [EF.out]; decide) Q3.out
            rw [EF.out] at this ⊢
            exact this
    · rw [decide_eq_false hh] at HS
      have EF := Lib.hid (E2.out E0.out hh)
      have HS := Lib.hid HS
      clear hh
      go_wp2_with fail
      refine HS.out.mono ?_
      rintro e w2 ⟨rfl, hb⟩
      have Q2 := Lib.hid (Q1.out.fw hb)
      clear hb HS
      go_wp2_with fail
      refine bodyPost_ret (results_tmp2 rfl _ _ _) rfl ?_
      have := fin0.out _ (by rw [EF.out]; decide) Q2.out
      rw [EF.out] at this ⊢
      exact this
  · have d0 : ((E : Int) != 0) = true := by simp [e0]
    have EF := Lib.hid (E1.out e0)
    have NE := Lib.hid e0
    clear e0
    go_wp2_with fail
    refine bodyPost_ret (results_tmp2 rfl _ _ _) rfl ?_
    have := fin0.out _ (by rw [EF.out]; exact NE.out) Q1.out
    rw [EF.out] at this ⊢
    exact this
end Go.Proofs.Ytdjjihppaobbcaa
