/- Layer 14: the law's do and want. WRITTEN BY gen_Dpm.py. -/
import Derived.Test.YtdjjihppaobbcaaDpl
namespace Go.Proofs.Ytdjjihppaobbcaa
open Go Go.RowKit Med Flt
set_option linter.unusedVariables false
set_option linter.unusedSimpArgs false
theorem strOf_emp : strOf [] = ByteArray.empty := rfl
theorem PDk.pwr {B : Zn} {w w' : World} {D P R Bn T S O : Nat} {L : List F} {d : Dsk.Dk} (h : PDk B w D P R Bn T S O L d) (hP : B.fr P) (hy : Ty w P 82) (hc : Chg (fun j => j = P) w w') : PDk B w' D P R Bn T S O L d := by
  have t : Tch B [82] w w' := Tch.of_one hc hP hy (by simp)
  obtain ⟨⟨K, v, a, b, c⟩, g, e⟩ := h
  exact ⟨⟨K, v, Row.tch t a (by decide), b.tq t (by unfold NoCap; decide) (by decide) (by decide) (by decide) (by decide), c.tch t (by decide)⟩, g, e⟩
theorem RDk.pwr {B : Zn} {w w' : World} {D P R Bn T S O : Nat} {L : List F} {d : Dsk.Dk} (h : RDk B w D P R Bn T S O L d) (hP : B.fr P) (hy : Ty w P 118) (hc : Chg (fun j => j = P) w w') : RDk B w' D P R Bn T S O L d := by
  have t : Tch B [118] w w' := Tch.of_one hc hP hy (by simp)
  obtain ⟨⟨K, v, a, b, c⟩, e⟩ := h
  exact ⟨⟨K, v, Row.tch t a (by decide), b.tq t (by decide) (by decide) (by decide) (by decide) (by decide), c.tch t (by decide)⟩, e⟩
set_option maxHeartbeats 4000000 in
set_option maxRecDepth 100000 in
theorem do14_any {B : Zn} {w : World} {D D0 D1 P R Bn T S O : Nat} {L : List F} {p : Dsk.Pw} {d : Dsk.Dk} (h : PDk B w D P R Bn T S O L d) (hp : PPw w P p) (hP : B.fr P) (hT : B.top w) {m : Nat} (hf : p.fit m) (hm : m < 1000) (hw : Dsk.Few d m) (a : Ac) (hD : (if a.disk % 2 = 0 then D0 else D1) = D) (hk : a.disk < 256) (hv : ∀ c, Tch B tyB w c → Bs c a.u a.bytes) (hb : a.bytes.length ≤ 1000) :
    Calls Try.prog 25 #[.agg #[.pointer (some ⟨P, 0, none⟩), .pointer (some ⟨D0, 0, none⟩), .pointer (some ⟨D1, 0, none⟩)], .agg (acs a).toArray] w (doPost B D P R Bn T S O L p d a.act w) := by
  obtain ⟨f1, f2, f3, f4, f5, f6⟩ := hw
  obtain ⟨kd0, kd, ky, ps, A, n, c, bs, fo⟩ := a
  unfold acs
  unfold Ac.act
  unfold Ac.u at hv
  simp only at hD hk hv hb ⊢
  obtain ⟨b0, hb0⟩ : ∃ b, w.heap.size = b := ⟨_, rfl⟩
  obtain ⟨W0, hW0⟩ : ∃ q, w.alloc (.cells #[.pointer (some ⟨P, 0, none⟩), .pointer (some ⟨D0, 0, none⟩), .pointer (some ⟨D1, 0, none⟩)] 49) = q := ⟨_, rfl⟩
  obtain ⟨b1, hb1⟩ : ∃ b, W0.heap.size = b := ⟨_, rfl⟩
  obtain ⟨W1, hW1⟩ : ∃ q, W0.alloc (.cells #[.int .u8 (kd0 : Int), .int .u8 (kd : Int), .int .u64 (ky : Int), .int .i64 ps, .slice A n c, .bool fo] 62) = q := ⟨_, rfl⟩
  have B0 : Below w.heap.size w W0 := by subst hW0; exact (Below.refl _ _).alloc (Nat.le_refl _) _
  have B1 : Below W0.heap.size W0 W1 := by subst hW1; exact (Below.refl _ _).alloc (Nat.le_refl _) _
  have B2 : Below w.heap.size w W1 := B0.trans (B1.mono B0.size)
  have R0 : Row W1 b0 49 #[.pointer (some ⟨P, 0, none⟩), .pointer (some ⟨D0, 0, none⟩), .pointer (some ⟨D1, 0, none⟩)] := Row.go (by subst hW0; exact gr_new w _ _ hb0) B1
  have R1 : Row W1 b1 62 #[.int .u8 (kd0 : Int), .int .u8 (kd : Int), .int .u64 (ky : Int), .int .i64 ps, .slice A n c, .bool fo] := by subst hW1; exact gr_new W0 _ _ hb1
  have DD : Hid (W1.cell? ⟨b0, 1 + kd0 % 2, none⟩ = some (.pointer (some ⟨D, 0, none⟩))) := Lib.hid (by
    rw [R0.cell]
    rcases Nat.mod_two_eq_zero_or_one kd0 with e | e <;> rw [e] at hD ⊢
    · rw [if_pos rfl] at hD; subst hD; rfl
    · rw [if_neg (by decide)] at hD; subst hD; rfl)
  have q0 : W1.cell? ⟨b1, 0, none⟩ = some (.int .u8 (kd0 : Int)) := by rw [R1.cell]; rfl
  have q1 : W1.cell? ⟨b1, 1, none⟩ = some (.int .u8 (kd : Int)) := by rw [R1.cell]; rfl
  have q2 : W1.cell? ⟨b1, 2, none⟩ = some (.int .u64 (ky : Int)) := by rw [R1.cell]; rfl
  have q3 : W1.cell? ⟨b1, 3, none⟩ = some (.int .i64 ps) := by rw [R1.cell]; rfl
  have q4 : W1.cell? ⟨b1, 4, none⟩ = some (.slice A n c) := by rw [R1.cell]; rfl
  have q5 : W1.cell? ⟨b1, 5, none⟩ = some (.bool fo) := by rw [R1.cell]; rfl
  have qp : W1.cell? ⟨b0, 0, none⟩ = some (.pointer (some ⟨P, 0, none⟩)) := by rw [R0.cell]; rfl
  have DK := Lib.hid (h.fw B2)
  have PW := Lib.hid (hp.fw B2)
  have HP := Lib.hid hP
  have HT := Lib.hid (hT.up B2.size)
  have HF := Lib.hid hf
  have HM := Lib.hid (show m < 4611686018427387904 by omega)
  have F1 := Lib.hid (show d.count < 4611686018427387904 by omega)
  have F2 := Lib.hid (show d.rs < 4611686018427387904 by omega)
  have F3 := Lib.hid (show d.ws < 4611686018427387904 by omega)
  have F4 := Lib.hid (show d.es < 4611686018427387904 by omega)
  have F5 := Lib.hid (show d.fs < 4611686018427387904 by omega)
  have F6 := Lib.hid (show d.ops.length ≤ 1000 by omega)
  have HV : Hid (∀ c', Tch B tyB W1 c' → Bs c' (.slice A n c) bs) := Lib.hid fun c' hc => hv c' ((Tch.of_below B2 _ _).trans hc)
  have HBL := Lib.hid hb
  have T0 := Lib.hid (Tch.of_below B2 B tyD)
  obtain ⟨s, hs⟩ : ∃ s, kd0 % 2 = s := ⟨_, rfl⟩
  have s2 : s < 2 := by omega
  have c0 := DD.out
  rw [hs] at c0 ⊢
  have hsI : ((kd0 : Int)).tmod 2 = (s : Int) := by rw [Int.tmod_eq_emod_of_nonneg (by omega)]; omega
  have hsJ : (kd0 : Int) % 2 = (s : Int) := by omega
  have HB0 := Lib.hid hb0
  have HW0 := Lib.hid hW0
  have HB1 := Lib.hid hb1
  have HW1 := Lib.hid hW1
  clear hb0 hW0 hb1 hW1 B0 B1 B2 R0 R1 h hp hP hT hf hm f1 f2 f3 f4 f5 f6 hv hb hD DD hs hk
  by_cases k0 : kd = 0
  · have e0 : ((kd : Int) == 0) = true := by simp [k0]
    have l4 : kd < 4 := by omega
    unfold doPost Dsk.actB Dsk.actE Dsk.actD Dsk.actP
    have k1 : ¬ kd = 1 := by omega
    have k2 : ¬ kd = 2 := by omega
    have k3 : ¬ kd = 3 := by omega
    have k4 : ¬ kd = 4 := by omega
    have k5 : ¬ kd = 5 := by omega
    have k6 : ¬ kd = 6 := by omega
    have k7 : ¬ kd = 7 := by omega
    have k8 : ¬ kd = 8 := by omega
    simp only [if_pos k0, if_neg k1, if_neg k2, if_neg k3, if_neg k4, if_neg k5, if_neg k6, if_neg k7, if_neg k8, if_pos l4]
    clear l4 k0 k1 k2 k3 k4 k5 k6 k7 k8
    have C := prd14_any DK.out PW.out HP.out HF.out HM.out F1.out F2.out ky ps
    unfold prdkPost at C
    generalize Dsk.readE (faL L) R Bn T S O p d ky ps = se at C ⊢
    generalize Dsk.readB (faL L) R Bn T S O p d ky ps = sb at C ⊢
    replace C := Lib.hid C
    go_enter Try.func25, Try.ntmps25
    go_wp2_with (first | rw [HB0.out] | rw [HW0.out] | rw [HB1.out] | rw [HW1.out])
    refine C.out.mono ?_
    rintro e w2 ⟨u, rfl, hu, hd, hp, ht⟩
    obtain ⟨A2, c2, rfl⟩ := hu.1.form
    have cv := cvb A2 _ c2 _ hu.1
    rw [strOf_bOf] at cv
    have Q := Lib.hid (And.intro hd (And.intro hp (T0.out.trans ht)))
    clear hu hd hp ht C
    obtain ⟨z, hz⟩ : ∃ k, (bOf sb).length = k := ⟨_, rfl⟩
    rw [hz] at cv ⊢
    clear hz
    go_wp2_with fail
    refine bodyPost_ret (results_tmp2 rfl _ _ _) rfl ?_
    exact ⟨rfl, Q.out.1, Q.out.2.1, Q.out.2.2⟩
  by_cases k1 : kd = 1
  · have e1 : ((kd : Int) == 1) = true := by simp [k1]
    have e0 : ((kd : Int) == 0) = false := by simp; omega
    have l4 : kd < 4 := by omega
    unfold doPost Dsk.actB Dsk.actE Dsk.actD Dsk.actP
    have k2 : ¬ kd = 2 := by omega
    have k3 : ¬ kd = 3 := by omega
    have k4 : ¬ kd = 4 := by omega
    have k5 : ¬ kd = 5 := by omega
    have k6 : ¬ kd = 6 := by omega
    have k7 : ¬ kd = 7 := by omega
    have k8 : ¬ kd = 8 := by omega
    simp only [if_pos k1, if_neg k0, if_neg k2, if_neg k3, if_neg k4, if_neg k5, if_neg k6, if_neg k7, if_neg k8, if_pos l4]
    clear l4 k0 k1 k2 k3 k4 k5 k6 k7 k8
    have C := pwr14_any DK.out PW.out HP.out HT.out HF.out HM.out F1.out F3.out F6.out ky ps _ bs fo HV.out HBL.out
    unfold pdPost at C
    generalize Dsk.writeE (faL L) p d ky ps bs = se at C ⊢
    replace C := Lib.hid C
    go_enter Try.func25, Try.ntmps25
    go_wp2_with (first | rw [HB0.out] | rw [HW0.out] | rw [HB1.out] | rw [HW1.out])
    refine C.out.mono ?_
    rintro e w2 ⟨rfl, hd, hp, ht⟩
    have Q := Lib.hid (And.intro hd (And.intro hp (T0.out.trans ht)))
    clear hd hp ht C
    go_wp2_with fail
    refine bodyPost_ret (results_tmp2 rfl _ _ _) rfl ?_
    exact ⟨rfl, Q.out.1, Q.out.2.1, Q.out.2.2⟩
  by_cases k2 : kd = 2
  · have e2 : ((kd : Int) == 2) = true := by simp [k2]
    have e0 : ((kd : Int) == 0) = false := by simp; omega
    have e1 : ((kd : Int) == 1) = false := by simp; omega
    have l4 : kd < 4 := by omega
    unfold doPost Dsk.actB Dsk.actE Dsk.actD Dsk.actP
    have k3 : ¬ kd = 3 := by omega
    have k4 : ¬ kd = 4 := by omega
    have k5 : ¬ kd = 5 := by omega
    have k6 : ¬ kd = 6 := by omega
    have k7 : ¬ kd = 7 := by omega
    have k8 : ¬ kd = 8 := by omega
    simp only [if_pos k2, if_neg k0, if_neg k1, if_neg k3, if_neg k4, if_neg k5, if_neg k6, if_neg k7, if_neg k8, if_pos l4]
    clear l4 k0 k1 k2 k3 k4 k5 k6 k7 k8
    have C := per14_any DK.out PW.out HP.out HT.out HF.out HM.out F1.out F4.out F6.out ky ps
    unfold pdPost at C
    generalize Dsk.eraseE (faL L) Bn p d ky ps = se at C ⊢
    replace C := Lib.hid C
    go_enter Try.func25, Try.ntmps25
    go_wp2_with (first | rw [HB0.out] | rw [HW0.out] | rw [HB1.out] | rw [HW1.out])
    refine C.out.mono ?_
    rintro e w2 ⟨rfl, hd, hp, ht⟩
    have Q := Lib.hid (And.intro hd (And.intro hp (T0.out.trans ht)))
    clear hd hp ht C
    go_wp2_with fail
    refine bodyPost_ret (results_tmp2 rfl _ _ _) rfl ?_
    exact ⟨rfl, Q.out.1, Q.out.2.1, Q.out.2.2⟩
  by_cases k3 : kd = 3
  · have e3 : ((kd : Int) == 3) = true := by simp [k3]
    have e0 : ((kd : Int) == 0) = false := by simp; omega
    have e1 : ((kd : Int) == 1) = false := by simp; omega
    have e2 : ((kd : Int) == 2) = false := by simp; omega
    have l4 : kd < 4 := by omega
    unfold doPost Dsk.actB Dsk.actE Dsk.actD Dsk.actP
    have k4 : ¬ kd = 4 := by omega
    have k5 : ¬ kd = 5 := by omega
    have k6 : ¬ kd = 6 := by omega
    have k7 : ¬ kd = 7 := by omega
    have k8 : ¬ kd = 8 := by omega
    simp only [if_pos k3, if_neg k0, if_neg k1, if_neg k2, if_neg k4, if_neg k5, if_neg k6, if_neg k7, if_neg k8, if_pos l4]
    clear l4 k0 k1 k2 k3 k4 k5 k6 k7 k8
    have C := pfl14_any DK.out PW.out HP.out HF.out HM.out F1.out F5.out ky
    unfold pdPost at C
    generalize Dsk.beE (faL L) p d ky = se at C ⊢
    replace C := Lib.hid C
    go_enter Try.func25, Try.ntmps25
    go_wp2_with (first | rw [HB0.out] | rw [HW0.out] | rw [HB1.out] | rw [HW1.out])
    refine C.out.mono ?_
    rintro e w2 ⟨rfl, hd, hp, ht⟩
    have Q := Lib.hid (And.intro hd (And.intro hp (T0.out.trans ht)))
    clear hd hp ht C
    go_wp2_with fail
    refine bodyPost_ret (results_tmp2 rfl _ _ _) rfl ?_
    exact ⟨rfl, Q.out.1, Q.out.2.1, Q.out.2.2⟩
  by_cases k4 : kd = 4
  · have e4 : ((kd : Int) == 4) = true := by simp [k4]
    have e0 : ((kd : Int) == 0) = false := by simp; omega
    have e1 : ((kd : Int) == 1) = false := by simp; omega
    have e2 : ((kd : Int) == 2) = false := by simp; omega
    have e3 : ((kd : Int) == 3) = false := by simp; omega
    have l4 : ¬ kd < 4 := by omega
    unfold doPost Dsk.actB Dsk.actE Dsk.actD Dsk.actP
    have k5 : ¬ kd = 5 := by omega
    have k6 : ¬ kd = 6 := by omega
    have k7 : ¬ kd = 7 := by omega
    have k8 : ¬ kd = 8 := by omega
    simp only [if_pos k4, if_neg k0, if_neg k1, if_neg k2, if_neg k3, if_neg k5, if_neg k6, if_neg k7, if_neg k8, if_neg l4]
    clear l4 k0 k1 k2 k3 k4 k5 k6 k7 k8
    have C := pacq_any DK.out PW.out HP.out ky
    unfold pdPost at C
    generalize Dsk.acqE p d = se at C ⊢
    replace C := Lib.hid C
    go_enter Try.func25, Try.ntmps25
    go_wp2_with (first | rw [HB0.out] | rw [HW0.out] | rw [HB1.out] | rw [HW1.out])
    refine C.out.mono ?_
    rintro e w2 ⟨rfl, hd, hp, ht⟩
    have Q := Lib.hid (And.intro hd (And.intro hp (T0.out.trans ht)))
    clear hd hp ht C
    go_wp2_with fail
    refine bodyPost_ret (results_tmp2 rfl _ _ _) rfl ?_
    exact ⟨rfl, Q.out.1, Q.out.2.1, Q.out.2.2⟩
  by_cases k5 : kd = 5
  · have e5 : ((kd : Int) == 5) = true := by simp [k5]
    have e0 : ((kd : Int) == 0) = false := by simp; omega
    have e1 : ((kd : Int) == 1) = false := by simp; omega
    have e2 : ((kd : Int) == 2) = false := by simp; omega
    have e3 : ((kd : Int) == 3) = false := by simp; omega
    have e4 : ((kd : Int) == 4) = false := by simp; omega
    have l4 : ¬ kd < 4 := by omega
    unfold doPost Dsk.actB Dsk.actE Dsk.actD Dsk.actP
    have k6 : ¬ kd = 6 := by omega
    have k7 : ¬ kd = 7 := by omega
    have k8 : ¬ kd = 8 := by omega
    simp only [if_pos k5, if_neg k0, if_neg k1, if_neg k2, if_neg k3, if_neg k4, if_neg k6, if_neg k7, if_neg k8, if_neg l4]
    clear l4 k0 k1 k2 k3 k4 k5 k6 k7 k8
    go_enter Try.func25, Try.ntmps25
    go_wp2_with (first | rw [HB0.out] | rw [HW0.out] | rw [HB1.out] | rw [HW1.out])
    refine (pkill_any DK.out PW.out HP.out).mono ?_
    rintro e w2 ⟨⟨u, rfl⟩, hd, hp, ht⟩
    have Q := Lib.hid (And.intro hd (And.intro hp (T0.out.trans ht)))
    clear hd hp ht
    go_wp2_with fail
    refine bodyPost_ret (results_tmp2 rfl _ _ _) rfl ?_
    exact ⟨rfl, Q.out.1, Q.out.2.1, Q.out.2.2⟩
  by_cases k6 : kd = 6
  · have e6 : ((kd : Int) == 6) = true := by simp [k6]
    have e0 : ((kd : Int) == 0) = false := by simp; omega
    have e1 : ((kd : Int) == 1) = false := by simp; omega
    have e2 : ((kd : Int) == 2) = false := by simp; omega
    have e3 : ((kd : Int) == 3) = false := by simp; omega
    have e4 : ((kd : Int) == 4) = false := by simp; omega
    have e5 : ((kd : Int) == 5) = false := by simp; omega
    have l4 : ¬ kd < 4 := by omega
    unfold doPost Dsk.actB Dsk.actE Dsk.actD Dsk.actP
    have k7 : ¬ kd = 7 := by omega
    have k8 : ¬ kd = 8 := by omega
    simp only [if_pos k6, if_neg k0, if_neg k1, if_neg k2, if_neg k3, if_neg k4, if_neg k5, if_neg k7, if_neg k8, if_neg l4]
    clear l4 k0 k1 k2 k3 k4 k5 k6 k7 k8
    have C := prs14_any DK.out PW.out HP.out HT.out ps
    unfold pdPost at C
    generalize Dsk.resE p d = se at C ⊢
    replace C := Lib.hid C
    go_enter Try.func25, Try.ntmps25
    go_wp2_with (first | rw [HB0.out] | rw [HW0.out] | rw [HB1.out] | rw [HW1.out])
    refine C.out.mono ?_
    rintro e w2 ⟨rfl, hd, hp, ht⟩
    have Q := Lib.hid (And.intro hd (And.intro hp (T0.out.trans ht)))
    clear hd hp ht C
    go_wp2_with fail
    refine bodyPost_ret (results_tmp2 rfl _ _ _) rfl ?_
    exact ⟨rfl, Q.out.1, Q.out.2.1, Q.out.2.2⟩
  by_cases k7 : kd = 7
  · have e7 : ((kd : Int) == 7) = true := by simp [k7]
    have e0 : ((kd : Int) == 0) = false := by simp; omega
    have e1 : ((kd : Int) == 1) = false := by simp; omega
    have e2 : ((kd : Int) == 2) = false := by simp; omega
    have e3 : ((kd : Int) == 3) = false := by simp; omega
    have e4 : ((kd : Int) == 4) = false := by simp; omega
    have e5 : ((kd : Int) == 5) = false := by simp; omega
    have e6 : ((kd : Int) == 6) = false := by simp; omega
    have l4 : ¬ kd < 4 := by omega
    unfold doPost Dsk.actB Dsk.actE Dsk.actD Dsk.actP
    have k8 : ¬ kd = 8 := by omega
    simp only [if_pos k7, if_neg k0, if_neg k1, if_neg k2, if_neg k3, if_neg k4, if_neg k5, if_neg k6, if_neg k8, if_neg l4]
    clear l4 k0 k1 k2 k3 k4 k5 k6 k7 k8
    go_enter Try.func25, Try.ntmps25
    go_wp2_with (first | rw [HB0.out] | rw [HW0.out] | rw [HB1.out] | rw [HW1.out])
    refine (parm_any PW.out ps).mono ?_
    rintro e w2 ⟨⟨u, rfl⟩, hp, hc⟩
    have t2 : Tch B tyD W1 w2 := Tch.of_one hc HP.out PW.out.ty (by decide)
    have Q := Lib.hid (And.intro (PDk.pwr DK.out HP.out PW.out.ty hc) (And.intro hp (T0.out.trans t2)))
    clear hp hc t2
    go_wp2_with fail
    refine bodyPost_ret (results_tmp2 rfl _ _ _) rfl ?_
    exact ⟨rfl, Q.out.1, Q.out.2.1, Q.out.2.2⟩
  by_cases k8 : kd = 8
  · have e8 : ((kd : Int) == 8) = true := by simp [k8]
    have e0 : ((kd : Int) == 0) = false := by simp; omega
    have e1 : ((kd : Int) == 1) = false := by simp; omega
    have e2 : ((kd : Int) == 2) = false := by simp; omega
    have e3 : ((kd : Int) == 3) = false := by simp; omega
    have e4 : ((kd : Int) == 4) = false := by simp; omega
    have e5 : ((kd : Int) == 5) = false := by simp; omega
    have e6 : ((kd : Int) == 6) = false := by simp; omega
    have e7 : ((kd : Int) == 7) = false := by simp; omega
    have l4 : ¬ kd < 4 := by omega
    unfold doPost Dsk.actB Dsk.actE Dsk.actD Dsk.actP
    simp only [if_pos k8, if_neg k0, if_neg k1, if_neg k2, if_neg k3, if_neg k4, if_neg k5, if_neg k6, if_neg k7, if_neg l4]
    clear l4 k0 k1 k2 k3 k4 k5 k6 k7 k8
    go_enter Try.func25, Try.ntmps25
    go_wp2_with (first | rw [HB0.out] | rw [HW0.out] | rw [HB1.out] | rw [HW1.out])
    refine (pon14_any PW.out).mono ?_
    rintro e w2 ⟨⟨u, rfl⟩, hp, hc⟩
    have t2 : Tch B tyD W1 w2 := Tch.of_one hc HP.out PW.out.ty (by decide)
    have Q := Lib.hid (And.intro (PDk.pwr DK.out HP.out PW.out.ty hc) (And.intro hp (T0.out.trans t2)))
    clear hp hc t2
    go_wp2_with fail
    refine bodyPost_ret (results_tmp2 rfl _ _ _) rfl ?_
    exact ⟨rfl, Q.out.1, Q.out.2.1, Q.out.2.2⟩
  have k9 : ¬ kd < 4 := by omega
  unfold doPost Dsk.actB Dsk.actE Dsk.actD Dsk.actP
  simp only [if_neg k0, if_neg k1, if_neg k2, if_neg k3, if_neg k4, if_neg k5, if_neg k6, if_neg k7, if_neg k8, if_neg k9]
  have e0 : ((kd : Int) == 0) = false := by simp; omega
  have e1 : ((kd : Int) == 1) = false := by simp; omega
  have e2 : ((kd : Int) == 2) = false := by simp; omega
  have e3 : ((kd : Int) == 3) = false := by simp; omega
  have e4 : ((kd : Int) == 4) = false := by simp; omega
  have e5 : ((kd : Int) == 5) = false := by simp; omega
  have e6 : ((kd : Int) == 6) = false := by simp; omega
  have e7 : ((kd : Int) == 7) = false := by simp; omega
  have e8 : ((kd : Int) == 8) = false := by simp; omega
  clear k0 k1 k2 k3 k4 k5 k6 k7 k8 k9
  go_enter Try.func25, Try.ntmps25
  go_wp2_with (first | rw [HB0.out] | rw [HW0.out] | rw [HB1.out] | rw [HW1.out])
  refine bodyPost_ret (results_tmp2 rfl _ _ _) rfl ?_
  exact ⟨rfl, DK.out, PW.out, T0.out⟩
set_option maxHeartbeats 4000000 in
set_option maxRecDepth 100000 in
theorem want14_any {B : Zn} {w : World} {D D0 D1 P R Bn T S O : Nat} {L : List F} {p : Dsk.Pw} {d : Dsk.Dk} (h : RDk B w D P R Bn T S O L d) (hp : RPw w P p) (hP : B.fr P) (hT : B.top w) {m : Nat} (hf : p.fit m) (hm : m < 1000) (hw : Dsk.Few d m) (a : Ac) (hD : (if a.disk % 2 = 0 then D0 else D1) = D) (hk : a.disk < 256) (hv : ∀ c, Tch B tyQ w c → Bs c a.u a.bytes) (hb : a.bytes.length ≤ 1000) (q : Option Addr) (hq : 7 ≤ a.kind → q = some ⟨P, 0, none⟩) :
    Calls Try.prog 26 #[.pointer q, .agg #[.pointer (some ⟨D0, 0, none⟩), .pointer (some ⟨D1, 0, none⟩)], .agg (acs a).toArray] w (waPost B D P R Bn T S O L p d a.act w) := by
  obtain ⟨f1, f2, f3, f4, f5, f6⟩ := hw
  obtain ⟨kd0, kd, ky, ps, A, n, c, bs, fo⟩ := a
  unfold acs
  unfold Ac.act
  unfold Ac.u at hv
  simp only at hD hk hv hb hq ⊢
  obtain ⟨b0, hb0⟩ : ∃ b, w.heap.size = b := ⟨_, rfl⟩
  obtain ⟨W0, hW0⟩ : ∃ q, w.alloc (.cells #[.pointer (some ⟨D0, 0, none⟩), .pointer (some ⟨D1, 0, none⟩)] 54) = q := ⟨_, rfl⟩
  obtain ⟨b1, hb1⟩ : ∃ b, W0.heap.size = b := ⟨_, rfl⟩
  obtain ⟨W1, hW1⟩ : ∃ q, W0.alloc (.cells #[.int .u8 (kd0 : Int), .int .u8 (kd : Int), .int .u64 (ky : Int), .int .i64 ps, .slice A n c, .bool fo] 62) = q := ⟨_, rfl⟩
  have B0 : Below w.heap.size w W0 := by subst hW0; exact (Below.refl _ _).alloc (Nat.le_refl _) _
  have B1 : Below W0.heap.size W0 W1 := by subst hW1; exact (Below.refl _ _).alloc (Nat.le_refl _) _
  have B2 : Below w.heap.size w W1 := B0.trans (B1.mono B0.size)
  have R0 : Row W1 b0 54 #[.pointer (some ⟨D0, 0, none⟩), .pointer (some ⟨D1, 0, none⟩)] := Row.go (by subst hW0; exact gr_new w _ _ hb0) B1
  have R1 : Row W1 b1 62 #[.int .u8 (kd0 : Int), .int .u8 (kd : Int), .int .u64 (ky : Int), .int .i64 ps, .slice A n c, .bool fo] := by subst hW1; exact gr_new W0 _ _ hb1
  have DD : Hid (W1.cell? ⟨b0, kd0 % 2, none⟩ = some (.pointer (some ⟨D, 0, none⟩))) := Lib.hid (by
    rw [R0.cell]
    rcases Nat.mod_two_eq_zero_or_one kd0 with e | e <;> rw [e] at hD ⊢
    · rw [if_pos rfl] at hD; subst hD; rfl
    · rw [if_neg (by decide)] at hD; subst hD; rfl)
  have q0 : W1.cell? ⟨b1, 0, none⟩ = some (.int .u8 (kd0 : Int)) := by rw [R1.cell]; rfl
  have q1 : W1.cell? ⟨b1, 1, none⟩ = some (.int .u8 (kd : Int)) := by rw [R1.cell]; rfl
  have q2 : W1.cell? ⟨b1, 2, none⟩ = some (.int .u64 (ky : Int)) := by rw [R1.cell]; rfl
  have q3 : W1.cell? ⟨b1, 3, none⟩ = some (.int .i64 ps) := by rw [R1.cell]; rfl
  have q4 : W1.cell? ⟨b1, 4, none⟩ = some (.slice A n c) := by rw [R1.cell]; rfl
  have q5 : W1.cell? ⟨b1, 5, none⟩ = some (.bool fo) := by rw [R1.cell]; rfl
  have HQ := Lib.hid hq
  clear hq
  have qp := True.intro
  have DK := Lib.hid (h.fw B2)
  have PW := Lib.hid (hp.fw B2)
  have HP := Lib.hid hP
  have HT := Lib.hid (hT.up B2.size)
  have HF := Lib.hid hf
  have HM := Lib.hid (show m < 4611686018427387904 by omega)
  have F1 := Lib.hid (show d.count < 4611686018427387904 by omega)
  have F2 := Lib.hid (show d.rs < 4611686018427387904 by omega)
  have F3 := Lib.hid (show d.ws < 4611686018427387904 by omega)
  have F4 := Lib.hid (show d.es < 4611686018427387904 by omega)
  have F5 := Lib.hid (show d.fs < 4611686018427387904 by omega)
  have F6 := Lib.hid (show d.ops.length ≤ 1000 by omega)
  have HV : Hid (∀ c', Tch B tyQ W1 c' → Bs c' (.slice A n c) bs) := Lib.hid fun c' hc => hv c' ((Tch.of_below B2 _ _).trans hc)
  have HBL := Lib.hid hb
  have T0 := Lib.hid (Tch.of_below B2 B tyQ)
  obtain ⟨s, hs⟩ : ∃ s, kd0 % 2 = s := ⟨_, rfl⟩
  have s2 : s < 2 := by omega
  have c0 := DD.out
  rw [hs] at c0 ⊢
  have hsI : ((kd0 : Int)).tmod 2 = (s : Int) := by rw [Int.tmod_eq_emod_of_nonneg (by omega)]; omega
  have hsJ : (kd0 : Int) % 2 = (s : Int) := by omega
  have HB0 := Lib.hid hb0
  have HW0 := Lib.hid hW0
  have HB1 := Lib.hid hb1
  have HW1 := Lib.hid hW1
  clear hb0 hW0 hb1 hW1 B0 B1 B2 R0 R1 h hp hP hT hf hm f1 f2 f3 f4 f5 f6 hv hb hD DD hs hk
  by_cases k0 : kd = 0
  · have e0 : ((kd : Int) == 0) = true := by simp [k0]
    have l4 : kd < 4 := by omega
    unfold waPost Dsk.actB Dsk.actE Dsk.actD Dsk.actP
    have k1 : ¬ kd = 1 := by omega
    have k2 : ¬ kd = 2 := by omega
    have k3 : ¬ kd = 3 := by omega
    have k4 : ¬ kd = 4 := by omega
    have k5 : ¬ kd = 5 := by omega
    have k6 : ¬ kd = 6 := by omega
    have k7 : ¬ kd = 7 := by omega
    have k8 : ¬ kd = 8 := by omega
    simp only [if_pos k0, if_neg k1, if_neg k2, if_neg k3, if_neg k4, if_neg k5, if_neg k6, if_neg k7, if_neg k8, if_pos l4]
    clear l4 k0 k1 k2 k3 k4 k5 k6 k7 k8
    have C := rrd14_any DK.out PW.out HP.out HF.out HM.out F1.out F2.out ky ps
    unfold rdkPost at C
    generalize Dsk.readE (faL L) R Bn T S O p d ky ps = se at C ⊢
    generalize Dsk.readB (faL L) R Bn T S O p d ky ps = sb at C ⊢
    replace C := Lib.hid C
    go_enter Try.func26, Try.ntmps26
    go_wp2_with (first | rw [HB0.out] | rw [HW0.out] | rw [HB1.out] | rw [HW1.out])
    refine C.out.mono ?_
    rintro e w2 ⟨u, rfl, hu, hd, hp, ht⟩
    obtain ⟨A2, c2, rfl⟩ := hu.1.form
    have cv := cvb A2 _ c2 _ hu.1
    rw [strOf_bOf] at cv
    have Q := Lib.hid (And.intro hd (And.intro hp (T0.out.trans ht)))
    clear hu hd hp ht C
    obtain ⟨z, hz⟩ : ∃ k, (bOf sb).length = k := ⟨_, rfl⟩
    rw [hz] at cv ⊢
    clear hz
    go_wp2_with fail
    refine bodyPost_ret (results_tmp2 rfl _ _ _) rfl ?_
    exact ⟨rfl, Q.out.1, Q.out.2.1, Q.out.2.2⟩
  by_cases k1 : kd = 1
  · have e1 : ((kd : Int) == 1) = true := by simp [k1]
    have e0 : ((kd : Int) == 0) = false := by simp; omega
    have l4 : kd < 4 := by omega
    unfold waPost Dsk.actB Dsk.actE Dsk.actD Dsk.actP
    have k2 : ¬ kd = 2 := by omega
    have k3 : ¬ kd = 3 := by omega
    have k4 : ¬ kd = 4 := by omega
    have k5 : ¬ kd = 5 := by omega
    have k6 : ¬ kd = 6 := by omega
    have k7 : ¬ kd = 7 := by omega
    have k8 : ¬ kd = 8 := by omega
    simp only [if_pos k1, if_neg k0, if_neg k2, if_neg k3, if_neg k4, if_neg k5, if_neg k6, if_neg k7, if_neg k8, if_pos l4]
    clear l4 k0 k1 k2 k3 k4 k5 k6 k7 k8
    have C := rwr14_any DK.out PW.out HP.out HF.out HM.out F1.out F3.out F6.out ky ps _ bs fo HV.out HBL.out
    unfold dkPost at C
    generalize Dsk.writeE (faL L) p d ky ps bs = se at C ⊢
    replace C := Lib.hid C
    go_enter Try.func26, Try.ntmps26
    go_wp2_with (first | rw [HB0.out] | rw [HW0.out] | rw [HB1.out] | rw [HW1.out])
    refine C.out.mono ?_
    rintro e w2 ⟨rfl, hd, hp, ht⟩
    have Q := Lib.hid (And.intro hd (And.intro hp (T0.out.trans ht)))
    clear hd hp ht C
    go_wp2_with fail
    refine bodyPost_ret (results_tmp2 rfl _ _ _) rfl ?_
    exact ⟨rfl, Q.out.1, Q.out.2.1, Q.out.2.2⟩
  by_cases k2 : kd = 2
  · have e2 : ((kd : Int) == 2) = true := by simp [k2]
    have e0 : ((kd : Int) == 0) = false := by simp; omega
    have e1 : ((kd : Int) == 1) = false := by simp; omega
    have l4 : kd < 4 := by omega
    unfold waPost Dsk.actB Dsk.actE Dsk.actD Dsk.actP
    have k3 : ¬ kd = 3 := by omega
    have k4 : ¬ kd = 4 := by omega
    have k5 : ¬ kd = 5 := by omega
    have k6 : ¬ kd = 6 := by omega
    have k7 : ¬ kd = 7 := by omega
    have k8 : ¬ kd = 8 := by omega
    simp only [if_pos k2, if_neg k0, if_neg k1, if_neg k3, if_neg k4, if_neg k5, if_neg k6, if_neg k7, if_neg k8, if_pos l4]
    clear l4 k0 k1 k2 k3 k4 k5 k6 k7 k8
    have C := rer14_any DK.out PW.out HP.out HF.out HM.out F1.out F4.out F6.out ky ps
    unfold dkPost at C
    generalize Dsk.eraseE (faL L) Bn p d ky ps = se at C ⊢
    replace C := Lib.hid C
    go_enter Try.func26, Try.ntmps26
    go_wp2_with (first | rw [HB0.out] | rw [HW0.out] | rw [HB1.out] | rw [HW1.out])
    refine C.out.mono ?_
    rintro e w2 ⟨rfl, hd, hp, ht⟩
    have Q := Lib.hid (And.intro hd (And.intro hp (T0.out.trans ht)))
    clear hd hp ht C
    go_wp2_with fail
    refine bodyPost_ret (results_tmp2 rfl _ _ _) rfl ?_
    exact ⟨rfl, Q.out.1, Q.out.2.1, Q.out.2.2⟩
  by_cases k3 : kd = 3
  · have e3 : ((kd : Int) == 3) = true := by simp [k3]
    have e0 : ((kd : Int) == 0) = false := by simp; omega
    have e1 : ((kd : Int) == 1) = false := by simp; omega
    have e2 : ((kd : Int) == 2) = false := by simp; omega
    have l4 : kd < 4 := by omega
    unfold waPost Dsk.actB Dsk.actE Dsk.actD Dsk.actP
    have k4 : ¬ kd = 4 := by omega
    have k5 : ¬ kd = 5 := by omega
    have k6 : ¬ kd = 6 := by omega
    have k7 : ¬ kd = 7 := by omega
    have k8 : ¬ kd = 8 := by omega
    simp only [if_pos k3, if_neg k0, if_neg k1, if_neg k2, if_neg k4, if_neg k5, if_neg k6, if_neg k7, if_neg k8, if_pos l4]
    clear l4 k0 k1 k2 k3 k4 k5 k6 k7 k8
    have C := rfl14_any DK.out PW.out HP.out HF.out HM.out F1.out F5.out ky
    unfold dkPost at C
    generalize Dsk.beE (faL L) p d ky = se at C ⊢
    replace C := Lib.hid C
    go_enter Try.func26, Try.ntmps26
    go_wp2_with (first | rw [HB0.out] | rw [HW0.out] | rw [HB1.out] | rw [HW1.out])
    refine C.out.mono ?_
    rintro e w2 ⟨rfl, hd, hp, ht⟩
    have Q := Lib.hid (And.intro hd (And.intro hp (T0.out.trans ht)))
    clear hd hp ht C
    go_wp2_with fail
    refine bodyPost_ret (results_tmp2 rfl _ _ _) rfl ?_
    exact ⟨rfl, Q.out.1, Q.out.2.1, Q.out.2.2⟩
  by_cases k4 : kd = 4
  · have e4 : ((kd : Int) == 4) = true := by simp [k4]
    have e0 : ((kd : Int) == 0) = false := by simp; omega
    have e1 : ((kd : Int) == 1) = false := by simp; omega
    have e2 : ((kd : Int) == 2) = false := by simp; omega
    have e3 : ((kd : Int) == 3) = false := by simp; omega
    have l4 : ¬ kd < 4 := by omega
    unfold waPost Dsk.actB Dsk.actE Dsk.actD Dsk.actP
    have k5 : ¬ kd = 5 := by omega
    have k6 : ¬ kd = 6 := by omega
    have k7 : ¬ kd = 7 := by omega
    have k8 : ¬ kd = 8 := by omega
    simp only [if_pos k4, if_neg k0, if_neg k1, if_neg k2, if_neg k3, if_neg k5, if_neg k6, if_neg k7, if_neg k8, if_neg l4]
    clear l4 k0 k1 k2 k3 k4 k5 k6 k7 k8
    have C := raq_any DK.out PW.out HP.out ky
    unfold dkPost at C
    generalize Dsk.acqE p d = se at C ⊢
    replace C := Lib.hid C
    go_enter Try.func26, Try.ntmps26
    go_wp2_with (first | rw [HB0.out] | rw [HW0.out] | rw [HB1.out] | rw [HW1.out])
    refine C.out.mono ?_
    rintro e w2 ⟨rfl, hd, hp, ht⟩
    have Q := Lib.hid (And.intro hd (And.intro hp (T0.out.trans ht)))
    clear hd hp ht C
    go_wp2_with fail
    refine bodyPost_ret (results_tmp2 rfl _ _ _) rfl ?_
    exact ⟨rfl, Q.out.1, Q.out.2.1, Q.out.2.2⟩
  by_cases k5 : kd = 5
  · have e5 : ((kd : Int) == 5) = true := by simp [k5]
    have e0 : ((kd : Int) == 0) = false := by simp; omega
    have e1 : ((kd : Int) == 1) = false := by simp; omega
    have e2 : ((kd : Int) == 2) = false := by simp; omega
    have e3 : ((kd : Int) == 3) = false := by simp; omega
    have e4 : ((kd : Int) == 4) = false := by simp; omega
    have l4 : ¬ kd < 4 := by omega
    unfold waPost Dsk.actB Dsk.actE Dsk.actD Dsk.actP
    have k6 : ¬ kd = 6 := by omega
    have k7 : ¬ kd = 7 := by omega
    have k8 : ¬ kd = 8 := by omega
    simp only [if_pos k5, if_neg k0, if_neg k1, if_neg k2, if_neg k3, if_neg k4, if_neg k6, if_neg k7, if_neg k8, if_neg l4]
    clear l4 k0 k1 k2 k3 k4 k5 k6 k7 k8
    obtain ⟨K, v, q0'⟩ := DK.out.start PW.out HP.out (Tch.refl B tyQ _)
    have a9 := q0'.row.cells.1.2.2.2.2
    have f9 := Row.frozen q0'.row 9
    have Q9 := Lib.hid (q0'.put (d' := { d with dead := true }) 9 (.bool true) rfl)
    clear q0'
    go_enter Try.func26, Try.ntmps26
    go_wp2_with (first | rw [HB0.out] | rw [HW0.out] | rw [HB1.out] | rw [HW1.out])
    refine bodyPost_ret (results_tmp2 rfl _ _ _) rfl ?_
    obtain ⟨x1, x2, x3⟩ := Q9.out.fin rfl rfl
    exact ⟨rfl, x1, x2, T0.out.trans x3⟩
  by_cases k6 : kd = 6
  · have e6 : ((kd : Int) == 6) = true := by simp [k6]
    have e0 : ((kd : Int) == 0) = false := by simp; omega
    have e1 : ((kd : Int) == 1) = false := by simp; omega
    have e2 : ((kd : Int) == 2) = false := by simp; omega
    have e3 : ((kd : Int) == 3) = false := by simp; omega
    have e4 : ((kd : Int) == 4) = false := by simp; omega
    have e5 : ((kd : Int) == 5) = false := by simp; omega
    have l4 : ¬ kd < 4 := by omega
    unfold waPost Dsk.actB Dsk.actE Dsk.actD Dsk.actP
    have k7 : ¬ kd = 7 := by omega
    have k8 : ¬ kd = 8 := by omega
    simp only [if_pos k6, if_neg k0, if_neg k1, if_neg k2, if_neg k3, if_neg k4, if_neg k5, if_neg k7, if_neg k8, if_neg l4]
    clear l4 k0 k1 k2 k3 k4 k5 k6 k7 k8
    have C := rrs_any DK.out PW.out HP.out ps
    unfold dkPost at C
    generalize Dsk.resE p d = se at C ⊢
    replace C := Lib.hid C
    go_enter Try.func26, Try.ntmps26
    go_wp2_with (first | rw [HB0.out] | rw [HW0.out] | rw [HB1.out] | rw [HW1.out])
    refine C.out.mono ?_
    rintro e w2 ⟨rfl, hd, hp, ht⟩
    have Q := Lib.hid (And.intro hd (And.intro hp (T0.out.trans ht)))
    clear hd hp ht C
    go_wp2_with fail
    refine bodyPost_ret (results_tmp2 rfl _ _ _) rfl ?_
    exact ⟨rfl, Q.out.1, Q.out.2.1, Q.out.2.2⟩
  by_cases k7 : kd = 7
  · have e7 : ((kd : Int) == 7) = true := by simp [k7]
    have e0 : ((kd : Int) == 0) = false := by simp; omega
    have e1 : ((kd : Int) == 1) = false := by simp; omega
    have e2 : ((kd : Int) == 2) = false := by simp; omega
    have e3 : ((kd : Int) == 3) = false := by simp; omega
    have e4 : ((kd : Int) == 4) = false := by simp; omega
    have e5 : ((kd : Int) == 5) = false := by simp; omega
    have e6 : ((kd : Int) == 6) = false := by simp; omega
    have l4 : ¬ kd < 4 := by omega
    unfold waPost Dsk.actB Dsk.actE Dsk.actD Dsk.actP
    have k8 : ¬ kd = 8 := by omega
    have k77 : 7 ≤ kd := by omega
    obtain rfl := HQ.out k77
    clear k77
    simp only [if_pos k7, if_neg k0, if_neg k1, if_neg k2, if_neg k3, if_neg k4, if_neg k5, if_neg k6, if_neg k8, if_neg l4]
    clear l4 k0 k1 k2 k3 k4 k5 k6 k7 k8
    go_enter Try.func26, Try.ntmps26
    go_wp2_with (first | rw [HB0.out] | rw [HW0.out] | rw [HB1.out] | rw [HW1.out])
    refine (rarm_any PW.out ps).mono ?_
    rintro e w2 ⟨⟨u, rfl⟩, hp, hc⟩
    have t2 : Tch B tyQ W1 w2 := Tch.of_one hc HP.out PW.out.ty (by decide)
    have Q := Lib.hid (And.intro (RDk.pwr DK.out HP.out PW.out.ty hc) (And.intro hp (T0.out.trans t2)))
    clear hp hc t2
    go_wp2_with fail
    refine bodyPost_ret (results_tmp2 rfl _ _ _) rfl ?_
    exact ⟨rfl, Q.out.1, Q.out.2.1, Q.out.2.2⟩
  by_cases k8 : kd = 8
  · have e8 : ((kd : Int) == 8) = true := by simp [k8]
    have e0 : ((kd : Int) == 0) = false := by simp; omega
    have e1 : ((kd : Int) == 1) = false := by simp; omega
    have e2 : ((kd : Int) == 2) = false := by simp; omega
    have e3 : ((kd : Int) == 3) = false := by simp; omega
    have e4 : ((kd : Int) == 4) = false := by simp; omega
    have e5 : ((kd : Int) == 5) = false := by simp; omega
    have e6 : ((kd : Int) == 6) = false := by simp; omega
    have e7 : ((kd : Int) == 7) = false := by simp; omega
    have l4 : ¬ kd < 4 := by omega
    unfold waPost Dsk.actB Dsk.actE Dsk.actD Dsk.actP
    have k77 : 7 ≤ kd := by omega
    obtain rfl := HQ.out k77
    clear k77
    simp only [if_pos k8, if_neg k0, if_neg k1, if_neg k2, if_neg k3, if_neg k4, if_neg k5, if_neg k6, if_neg k7, if_neg l4]
    clear l4 k0 k1 k2 k3 k4 k5 k6 k7 k8
    go_enter Try.func26, Try.ntmps26
    go_wp2_with (first | rw [HB0.out] | rw [HW0.out] | rw [HB1.out] | rw [HW1.out])
    refine (ron14_any PW.out).mono ?_
    rintro e w2 ⟨⟨u, rfl⟩, hp, hc⟩
    have t2 : Tch B tyQ W1 w2 := Tch.of_one hc HP.out PW.out.ty (by decide)
    have Q := Lib.hid (And.intro (RDk.pwr DK.out HP.out PW.out.ty hc) (And.intro hp (T0.out.trans t2)))
    clear hp hc t2
    go_wp2_with fail
    refine bodyPost_ret (results_tmp2 rfl _ _ _) rfl ?_
    exact ⟨rfl, Q.out.1, Q.out.2.1, Q.out.2.2⟩
  have k9 : ¬ kd < 4 := by omega
  unfold waPost Dsk.actB Dsk.actE Dsk.actD Dsk.actP
  simp only [if_neg k0, if_neg k1, if_neg k2, if_neg k3, if_neg k4, if_neg k5, if_neg k6, if_neg k7, if_neg k8, if_neg k9]
  have e0 : ((kd : Int) == 0) = false := by simp; omega
  have e1 : ((kd : Int) == 1) = false := by simp; omega
  have e2 : ((kd : Int) == 2) = false := by simp; omega
  have e3 : ((kd : Int) == 3) = false := by simp; omega
  have e4 : ((kd : Int) == 4) = false := by simp; omega
  have e5 : ((kd : Int) == 5) = false := by simp; omega
  have e6 : ((kd : Int) == 6) = false := by simp; omega
  have e7 : ((kd : Int) == 7) = false := by simp; omega
  have e8 : ((kd : Int) == 8) = false := by simp; omega
  clear k0 k1 k2 k3 k4 k5 k6 k7 k8 k9
  go_enter Try.func26, Try.ntmps26
  go_wp2_with (first | rw [HB0.out] | rw [HW0.out] | rw [HB1.out] | rw [HW1.out])
  refine bodyPost_ret (results_tmp2 rfl _ _ _) rfl ?_
  exact ⟨rfl, DK.out, PW.out, T0.out⟩
end Go.Proofs.Ytdjjihppaobbcaa

