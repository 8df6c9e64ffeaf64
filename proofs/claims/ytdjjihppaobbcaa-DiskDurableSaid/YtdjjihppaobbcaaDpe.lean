/- Layer 14: contract of the program: operate, with any work. -/
import Derived.Test.YtdjjihppaobbcaaDpd
namespace Go.Proofs.Ytdjjihppaobbcaa
open Go Go.RowKit Med Flt
set_option linter.unusedVariables false
set_option linter.unusedSimpArgs false
/-- The numbers of operations that succeeded. -/
def Dsk.stat (j : Nat) (d : Dsk.Dk) : Nat := if j = 0 then d.rs else if j = 1 then d.ws else if j = 2 then d.es else d.fs
def Dsk.bump (j : Nat) (d : Dsk.Dk) : Dsk.Dk := if j = 0 then { d with rs := d.rs + 1 } else if j = 1 then { d with ws := d.ws + 1 } else if j = 2 then { d with es := d.es + 1 } else { d with fs := d.fs + 1 }
theorem Dsk.bump_flds (j : Nat) (d : Dsk.Dk) : (Dsk.bump j d).l = d.l ∧ (Dsk.bump j d).ops = d.ops ∧ (Dsk.bump j d).count = d.count := by
  unfold Dsk.bump; (repeat' split) <;> exact ⟨rfl, rfl, rfl⟩
theorem PRow.stat {w : World} {D R Bn T S O K P : Nat} {v : Value} {d : Dsk.Dk} (h : PRow w D R Bn T S O K P v d) {j : Nat} (hj : j < 4) : w.cell? ⟨D, 1 + j, none⟩ = some (.int .i64 (Dsk.stat j d : Int)) := by
  obtain ⟨_, a, b, c, e⟩ := h.nums
  match j, hj with
  | 0, _ => exact a
  | 1, _ => exact b
  | 2, _ => exact c
  | 3, _ => exact e
theorem pdc_bump (R Bn T S O K P : Nat) (v : Value) (d : Dsk.Dk) {j : Nat} (hj : j < 4) : (pdc R Bn T S O K P v d).setIfInBounds (1 + j) (.int .i64 ((Dsk.stat j d : Int) + 1)) = pdc R Bn T S O K P v (Dsk.bump j d) := by
  match j, hj with
  | 0, _ => rfl
  | 1, _ => rfl
  | 2, _ => rfl
  | 3, _ => rfl
/-- What an operation leaves: its error is E if it did not begin, else x, the result of its work, which left the disk d1. -/
def opnPost (B : Zn) (D P R Bn T S O : Nat) (L : List F) (p : Dsk.Pw) (d : Dsk.Dk) (key : Nat) (j : Nat) (x : Int) (d1 : Dsk.Dk) (X : World → Prop) (w0 w : World) (e : Ending) (w' : World) : Prop :=
  e = .returned (.int .i64 (if Dsk.beE (faL L) p d key ≠ 0 then Dsk.beE (faL L) p d key else x)) ∧
  PDk B w' D P R Bn T S O L (if Dsk.beE (faL L) p d key ≠ 0 then Dsk.beD (faL L) p d key else if x = 0 then Dsk.bump j d1 else d1) ∧
  PPw w' P (Dsk.beP p d) ∧ Tch B tyD w0 w' ∧ (Dsk.beE (faL L) p d key = 0 → X w') ∧ (Dsk.beE (faL L) p d key ≠ 0 → Tch B tyB w w')
/-- What a work leaves. -/
def wkPost (B : Zn) (D P R Bn T S O : Nat) (L : List F) (p : Dsk.Pw) (x : Int) (d1 : Dsk.Dk) (X : World → Prop) (w0 : World) (e : Ending) (w' : World) : Prop :=
  e = .returned (.int .i64 x) ∧ PDk B w' D P R Bn T S O L d1 ∧ PPw w' P p ∧ Tch B tyD w0 w' ∧ X w'
theorem below_drew (w : World) : Below w.heap.size w w.drew := (Below.refl _ _).drew
set_option maxHeartbeats 4000000 in
set_option maxRecDepth 100000 in
theorem pop_any {B : Zn} {w0 w : World} {D P R Bn T S O : Nat} {L : List F} {p : Dsk.Pw} {d : Dsk.Dk} (hb0 : Below w0.heap.size w0 w) (h : PDk B w0 D P R Bn T S O L d) (hp : PPw w0 P p) (hP : B.fr P) {n : Nat} (hf : p.fit n) (hn : n < 4611686018427387904) (hct : d.count < 4611686018427387904) (key : Nat)
    (j : Nat) (hj : j < 4) (k : Nat) (caps : List Value) (eg : ∀ args w, (callFunc k args).run Try.prog w = .ok (.enter k args) w) (x : Int) (d1 : Dsk.Dk) (hs : Dsk.stat j d1 < 4611686018427387904) (X : World → Prop) (hX : ∀ c c', X c → Tch B [93] c c' → X c')
    (hW : Dsk.beE (faL L) p d key = 0 → ∀ c K v, Ce B w0 K R Bn T S O d.l d.ops → PqL tyB B w0 D P R Bn T S O K v d.l d.ops L (Dsk.rest L (d.count + 1)) (Dsk.beP p d) (Dsk.beD (faL L) p d key) c → Tch B tyB w c → Calls Try.prog k (fV (faL L d.count) :: caps).toArray c (wkPost B D P R Bn T S O L (Dsk.beP p d) x d1 X w0)) :
    Calls Try.prog 57 #[.pointer (some ⟨D, 0, none⟩), .int .u64 (key : Int), .int .i64 (j : Int), .func (.func k) #[] caps.toArray] w (opnPost B D P R Bn T S O L p d key j x d1 X w0 w) := by
  obtain ⟨K, v, q00⟩ := h.start hp hP (Tch.refl B tyB _)
  have CE0 := Lib.hid q00.ce
  have HB0 := Lib.hid hb0
  have TB := Lib.hid (Tch.of_below hb0 B tyB)
  have q0 : PqL tyB B w D P R Bn T S O K v d.l d.ops L (Dsk.rest L d.count) p d w := { q00.fw hb0 with t := Tch.refl _ _ _ }
  have Q0 := Lib.hid q0
  have RF := Lib.hid (prfs_any q0)
  have HF := Lib.hid hf
  have HN := Lib.hid hn
  have HC := Lib.hid hct
  have HX := Lib.hid hX
  have HW := Lib.hid hW
  have HS := Lib.hid hs
  have HJ := Lib.hid hj
  have EG := Lib.hid eg
  clear h hp hP hf hn hct hX hW hs hj eg q0 q00 hb0
  unfold opnPost
  by_cases hd : d.dead = true
  · have BE : Dsk.beE (faL L) p d key = 14 := by unfold Dsk.beE; rw [if_pos hd]
    have BP : Dsk.beP p d = p := by unfold Dsk.beP; rw [if_neg fun c => absurd (hd.symm.trans c.1) (by decide)]
    have BD : Dsk.beD (faL L) p d key = d := Dsk.beD_no _ fun c => absurd (hd.symm.trans c.1) (by decide)
    rw [BE, BP, BD, if_pos (by decide), if_pos (by decide)]
    rw [if_pos hd] at RF
    clear BE BP BD hd HW
    go_enter Try.func57, Try.ntmps57
    go_wp2_with fail
    refine RF.out.mono ?_
    rintro e w1 ⟨rfl, hb⟩
    have Q1 := Lib.hid (Q0.out.fw hb)
    clear hb RF
    go_wp2_with fail
    go_ret
    obtain ⟨a, b, c⟩ := Q1.out.fin rfl rfl rfl
    exact ⟨rfl, a, b, (TB.out.trans c).mono (fun _ h => h) (by decide), fun e => absurd e (by decide), fun _ => c⟩
  rw [if_neg hd] at RF
  have hd0 : d.dead = false := (Bool.not_eq_true _).mp hd
  have HD0 := Lib.hid hd0
  clear hd hd0
  by_cases hr : ¬ Dsk.rdy p d
  · have BE : Dsk.beE (faL L) p d key = 13 := by unfold Dsk.beE; rw [if_neg (by rw [HD0.out]; decide), if_pos hr]
    have BP : Dsk.beP p d = p := by unfold Dsk.beP; rw [if_neg fun c => hr c.2]
    have BD : Dsk.beD (faL L) p d key = d := Dsk.beD_no _ fun c => hr c.2.1
    rw [BE, BP, BD, if_pos (by decide), if_pos (by decide)]
    rw [if_pos hr] at RF
    clear BE BP BD hr HW
    go_enter Try.func57, Try.ntmps57
    go_wp2_with fail
    refine RF.out.mono ?_
    rintro e w1 ⟨rfl, hb⟩
    have Q1 := Lib.hid (Q0.out.fw hb)
    clear hb RF
    go_wp2_with fail
    go_ret
    obtain ⟨a, b, c⟩ := Q1.out.fin rfl rfl rfl
    exact ⟨rfl, a, b, (TB.out.trans c).mono (fun _ h => h) (by decide), fun e => absurd e (by decide), fun _ => c⟩
  rw [if_neg hr] at RF
  have HR := Lib.hid (Decidable.not_not.1 hr)
  clear hr
  have BP : Dsk.beP p d = p.call := by unfold Dsk.beP; rw [if_pos ⟨HD0.out, HR.out⟩]
  rw [BP]
  rw [BP] at HW
  clear BP
  by_cases hok : p.ok = false
  · have BE : Dsk.beE (faL L) p d key = 13 := by unfold Dsk.beE; rw [if_neg (by rw [HD0.out]; decide), if_neg (not_not_intro HR.out), if_pos hok]
    have BD : Dsk.beD (faL L) p d key = d := Dsk.beD_no _ fun c => absurd (hok.symm.trans c.2.2.1) (by decide)
    rw [BE, BD, if_pos (by decide), if_pos (by decide)]
    have HK := Lib.hid hok
    clear BE BD hok HW
    go_enter Try.func57, Try.ntmps57
    go_wp2_with fail
    refine RF.out.mono ?_
    rintro e w1 ⟨rfl, hb⟩
    have Q1 := Lib.hid (Q0.out.fw hb)
    have CL := Lib.hid (pcall14_any Q1.out.pw HF.out HN.out)
    unfold pqPost at CL
    rw [HK.out] at CL
    have a12 := Q1.out.row.oths.2.2.1
    clear hb RF
    go_wp2_with fail
    refine CL.out.mono ?_
    rintro e w2 ⟨rfl, hp2, hc2⟩
    have Q2 := Lib.hid (Q1.out.pow (by decide) hp2 hc2)
    clear hp2 hc2 CL a12
    go_wp2_with fail
    go_ret
    obtain ⟨a, b, c⟩ := Q2.out.fin rfl rfl rfl
    exact ⟨rfl, a, b, (TB.out.trans c).mono (fun _ h => h) (by decide), fun e => absurd e (by decide), fun _ => c⟩
  have HK := Lib.hid (show p.ok = true by simpa using hok)
  clear hok
  by_cases hkey : key ≠ d.key
  · have BE : Dsk.beE (faL L) p d key = 17 := by unfold Dsk.beE; rw [if_neg (by rw [HD0.out]; decide), if_neg (not_not_intro HR.out), if_neg (by rw [HK.out]; decide), if_pos hkey]
    have BD : Dsk.beD (faL L) p d key = d := Dsk.beD_no _ fun c => hkey c.2.2.2
    rw [BE, BD, if_pos (by decide), if_pos (by decide)]
    have dk : ((key : Int) != (d.key : Int)) = true := by simp; omega
    clear BE BD hkey HW
    go_enter Try.func57, Try.ntmps57
    go_wp2_with fail
    refine RF.out.mono ?_
    rintro e w1 ⟨rfl, hb⟩
    have Q1 := Lib.hid (Q0.out.fw hb)
    have CL := Lib.hid (pcall14_any Q1.out.pw HF.out HN.out)
    unfold pqPost at CL
    rw [HK.out] at CL
    have a12 := Q1.out.row.oths.2.2.1
    clear hb RF
    go_wp2_with fail
    refine CL.out.mono ?_
    rintro e w2 ⟨rfl, hp2, hc2⟩
    have Q2 := Lib.hid (Q1.out.pow (by decide) hp2 hc2)
    have a14 := Q2.out.row.oths.2.2.2.2.1
    clear hp2 hc2 CL a12
    go_wp2_with fail
    go_ret
    obtain ⟨a, b, c⟩ := Q2.out.fin rfl rfl rfl
    exact ⟨rfl, a, b, (TB.out.trans c).mono (fun _ h => h) (by decide), fun e => absurd e (by decide), fun _ => c⟩
  have KD := Lib.hid (Decidable.not_not.1 hkey)
  clear hkey
  have CN : Hid (Dsk.cnt p d key) := Lib.hid ⟨HD0.out, HR.out, HK.out, KD.out⟩
  obtain ⟨f0, hff⟩ : ∃ f, faL L d.count = f := ⟨_, rfl⟩
  obtain ⟨f1, y, f2⟩ := f0
  have FF := Lib.hid hff
  have BE : Dsk.beE (faL L) p d key = if y = 7 then (14 : Int) else if y = 6 then 16 else 0 := by
    unfold Dsk.beE
    rw [if_neg (by rw [HD0.out]; decide), if_neg (not_not_intro HR.out), if_neg (by rw [HK.out]; decide), if_neg (not_not_intro KD.out), hff]
  have BD : Dsk.beD (faL L) p d key = { d with count := d.count + 1, dead := decide (y = 7) } := by
    unfold Dsk.beD; rw [if_pos CN.out, hff]
  rw [BE, BD]
  rw [BE, BD, hff] at HW
  clear BE BD hff
  have dk : ((key : Int) != (d.key : Int)) = false := by have := KD.out; simp; omega
  have HD9 : Hid (({ d with count := d.count + 1, dead := false } : Dsk.Dk) = { d with count := d.count + 1 }) := Lib.hid (by rw [← HD0.out])
  by_cases y7 : y = 7
  · rw [if_pos y7, if_pos (by decide), if_pos (by decide), decide_eq_true y7]
    have d7 : (y == 7) = true := by simp [y7]
    clear y7 HW
    go_enter Try.func57, Try.ntmps57
    go_wp2_with fail
    refine RF.out.mono ?_
    rintro e w1 ⟨rfl, hb⟩
    have Q1 := Lib.hid (Q0.out.fw hb)
    have CL := Lib.hid (pcall14_any Q1.out.pw HF.out HN.out)
    unfold pqPost at CL
    rw [HK.out] at CL
    have a12 := Q1.out.row.oths.2.2.1
    clear hb RF
    go_wp2_with fail
    refine CL.out.mono ?_
    rintro e w2 ⟨rfl, hp2, hc2⟩
    have Q2 := Lib.hid (Q1.out.pow (by decide) hp2 hc2)
    have a14 := Q2.out.row.oths.2.2.2.2.1
    have CT := Lib.hid (pcount_any Q2.out (by decide) HC.out)
    unfold ctPost fV at CT
    rw [FF.out] at CT
    clear hp2 hc2 CL a12
    go_wp2_with fail
    refine CT.out.mono ?_
    rintro e w3 ⟨rfl, v3, hq3⟩
    have Q3 := Lib.hid hq3
    obtain ⟨b5, e5⟩ : ∃ b, w3.heap.size = b := ⟨_, rfl⟩
    obtain ⟨W4, hW4⟩ : ∃ q, w3.alloc (.cells #[.int .i64 f1, .int .i64 y, .int .i64 f2] 80) = q := ⟨_, rfl⟩
    have B4 : Below w3.heap.size w3 W4 := by subst hW4; exact (Below.refl _ _).alloc (Nat.le_refl _) _
    have R4 : Hid (Row W4 b5 80 #[.int .i64 f1, .int .i64 y, .int .i64 f2]) := Lib.hid (by subst hW4; exact new13 w3 _ _ e5)
    have Q4 := Lib.hid (hq3.fw B4)
    have E5 := Lib.hid e5
    have HW4 := Lib.hid hW4
    obtain ⟨r0, r1, r2⟩ := row3 R4.out
    have RR := Lib.hid (row_rg R4.out)
    clear hq3 CT a14 e5 hW4 B4
    have a15 := Q4.out.row.oths.2.2.2.2.2
    have f15 := Row.frozen Q4.out.row 15
    have Q5 := Lib.hid (Q4.out.put (d' := { d with count := d.count + 1, dead := true }) 15 (.bool true) (by decide) rfl)
    go_wp2_with (first | rw [HW4.out, E5.out] | rw [EG.out] | (refine wpList_load_mid rfl _ _ rfl b5 0 rfl [.int .i64 f1, .int .i64 y, .int .i64 f2] _ RR.out Try.underlying80 rfl (by kernel_rfl) ?_))
    go_ret
    obtain ⟨a, b, c⟩ := Q5.out.fin rfl rfl rfl
    exact ⟨rfl, a, b, (TB.out.trans c).mono (fun _ h => h) (by decide), fun e => absurd e (by decide), fun _ => c⟩
  rw [if_neg y7, decide_eq_false y7]
  rw [if_neg y7, decide_eq_false y7] at HW
  have d7 : (y == 7) = false := by simp [y7]
  clear y7
  by_cases y6 : y = 6
  · rw [if_pos y6, if_pos (by decide), if_pos (by decide)]
    have d6 : (y == 6) = true := by simp [y6]
    clear y6 HW
    go_enter Try.func57, Try.ntmps57
    go_wp2_with fail
    refine RF.out.mono ?_
    rintro e w1 ⟨rfl, hb⟩
    have Q1 := Lib.hid (Q0.out.fw hb)
    have CL := Lib.hid (pcall14_any Q1.out.pw HF.out HN.out)
    unfold pqPost at CL
    rw [HK.out] at CL
    have a12 := Q1.out.row.oths.2.2.1
    clear hb RF
    go_wp2_with fail
    refine CL.out.mono ?_
    rintro e w2 ⟨rfl, hp2, hc2⟩
    have Q2 := Lib.hid (Q1.out.pow (by decide) hp2 hc2)
    have a14 := Q2.out.row.oths.2.2.2.2.1
    have CT := Lib.hid (pcount_any Q2.out (by decide) HC.out)
    unfold ctPost fV at CT
    rw [FF.out] at CT
    clear hp2 hc2 CL a12
    go_wp2_with fail
    refine CT.out.mono ?_
    rintro e w3 ⟨rfl, v3, hq3⟩
    have Q3 := Lib.hid hq3
    obtain ⟨b5, e5⟩ : ∃ b, w3.heap.size = b := ⟨_, rfl⟩
    obtain ⟨W4, hW4⟩ : ∃ q, w3.alloc (.cells #[.int .i64 f1, .int .i64 y, .int .i64 f2] 80) = q := ⟨_, rfl⟩
    have B4 : Below w3.heap.size w3 W4 := by subst hW4; exact (Below.refl _ _).alloc (Nat.le_refl _) _
    have R4 : Hid (Row W4 b5 80 #[.int .i64 f1, .int .i64 y, .int .i64 f2]) := Lib.hid (by subst hW4; exact new13 w3 _ _ e5)
    have Q4 := Lib.hid (hq3.fw B4)
    have E5 := Lib.hid e5
    have HW4 := Lib.hid hW4
    obtain ⟨r0, r1, r2⟩ := row3 R4.out
    have RR := Lib.hid (row_rg R4.out)
    clear hq3 CT a14 e5 hW4 B4
    go_wp2_with (first | rw [HW4.out, E5.out] | rw [EG.out] | (refine wpList_load_mid rfl _ _ rfl b5 0 rfl [.int .i64 f1, .int .i64 y, .int .i64 f2] _ RR.out Try.underlying80 rfl (by kernel_rfl) ?_))
    go_ret
    obtain ⟨a, b, c⟩ := Q4.out.fin rfl rfl rfl
    rw [HD9.out]
    exact ⟨rfl, a, b, (TB.out.trans c).mono (fun _ h => h) (by decide), fun e => absurd e (by decide), fun _ => c⟩
  rw [if_neg y6, if_neg (by decide), if_neg (by decide)]
  rw [if_neg y6, HD9.out] at HW
  have d6 : (y == 6) = false := by simp [y6]
  clear y6
  by_cases hx : x = 0
  · rw [if_pos hx]
    subst hx
    go_enter Try.func57, Try.ntmps57
    go_wp2_with fail
    refine RF.out.mono ?_
    rintro e w1 ⟨rfl, hb⟩
    have Q1 := Lib.hid (Q0.out.fw hb)
    have CL := Lib.hid (pcall14_any Q1.out.pw HF.out HN.out)
    unfold pqPost at CL
    rw [HK.out] at CL
    have a12 := Q1.out.row.oths.2.2.1
    clear hb RF
    go_wp2_with fail
    refine CL.out.mono ?_
    rintro e w2 ⟨rfl, hp2, hc2⟩
    have Q2 := Lib.hid (Q1.out.pow (by decide) hp2 hc2)
    have a14 := Q2.out.row.oths.2.2.2.2.1
    have CT := Lib.hid (pcount_any Q2.out (by decide) HC.out)
    unfold ctPost fV at CT
    rw [FF.out] at CT
    clear hp2 hc2 CL a12
    go_wp2_with fail
    refine CT.out.mono ?_
    rintro e w3 ⟨rfl, v3, hq3⟩
    have Q3 := Lib.hid hq3
    obtain ⟨b5, e5⟩ : ∃ b, w3.heap.size = b := ⟨_, rfl⟩
    obtain ⟨W4, hW4⟩ : ∃ q, w3.alloc (.cells #[.int .i64 f1, .int .i64 y, .int .i64 f2] 80) = q := ⟨_, rfl⟩
    have B4 : Below w3.heap.size w3 W4 := by subst hW4; exact (Below.refl _ _).alloc (Nat.le_refl _) _
    have R4 : Hid (Row W4 b5 80 #[.int .i64 f1, .int .i64 y, .int .i64 f2]) := Lib.hid (by subst hW4; exact new13 w3 _ _ e5)
    have Q4 := Lib.hid (hq3.fw B4)
    have E5 := Lib.hid e5
    have HW4 := Lib.hid hW4
    obtain ⟨r0, r1, r2⟩ := row3 R4.out
    have RR := Lib.hid (row_rg R4.out)
    clear hq3 CT a14 e5 hW4 B4
    have WK := Lib.hid (HW.out (by first | trivial | rfl) W4 _ _ CE0.out { Q4.out with t := TB.out.trans Q4.out.t } Q4.out.t)
    have LW := Lib.hid Q4.out.low
    have LP := Lib.hid Q4.out.pl
    have T4 := Lib.hid Q4.out.t
    unfold wkPost fV at WK
    clear HW
    go_wp2_with (first | rw [HW4.out, E5.out] | rw [EG.out] | (refine wpList_load_mid rfl _ _ rfl b5 0 rfl [.int .i64 f1, .int .i64 y, .int .i64 f2] _ RR.out Try.underlying80 rfl (by kernel_rfl) ?_))
    refine WK.out.mono ?_
    rintro e w5 ⟨rfl, hk5, hp5, ht5, hx5⟩
    obtain ⟨K6, v6, q6⟩ := hk5.start hp5 LP.out ht5
    have Q6 := Lib.hid q6
    have X6 := Lib.hid hx5
    clear WK hk5 hp5 ht5 hx5 q6
    have Q7 := Lib.hid (Q6.out.fw (below_drew w5))
    have s7 := Q7.out.row.stat HJ.out
    have f7 := Row.frozen Q7.out.row (1 + j)
    have Q8 := Lib.hid (Q7.out.put (d' := Dsk.bump j d1) (1 + j) (.int .i64 ((Dsk.stat j d1 : Int) + 1)) (by decide) (pdc_bump _ _ _ _ _ _ _ _ _ HJ.out))
    obtain ⟨sn, hsn⟩ : ∃ q, Dsk.stat j d1 = q := ⟨_, rfl⟩
    rw [hsn] at HS s7 Q8
    have sI : (sn : Int) ≤ 4611686018427387904 := by have := HS.out; omega
    have jI : (j : Int) < 4 := by have := HJ.out; omega
    clear hsn
    go_wp2_with fail
    refine wp_region_still_tail 11 (by kernel_rfl) (by kernel_rfl) ?_
    simp only [List.take_succ_cons, List.take_zero, List.drop_succ_cons, List.drop_zero]
    repeat still_step
    refine wpStill_nil ?_
    change wpList _ _ _ _ _ w5.drew
    go_wp2_with fail
    go_ret
    obtain ⟨b1, b2, b3⟩ := Dsk.bump_flds j d1
    obtain ⟨a, b, c⟩ := Q8.out.fin b1 b2 (by rw [b3])
    exact ⟨rfl, a, b, c, fun _ => HX.out _ _ (HX.out _ _ X6.out (Tch.of_below (below_drew w5) B _)) ((Tch.refl B _ _).set Q7.out.low (Row.ty Q7.out.row) (by simp) _), fun e => absurd rfl e⟩
  · rw [if_neg hx]
    have dx : (x == 0) = false := by simp [hx]
    clear hx
    go_enter Try.func57, Try.ntmps57
    go_wp2_with fail
    refine RF.out.mono ?_
    rintro e w1 ⟨rfl, hb⟩
    have Q1 := Lib.hid (Q0.out.fw hb)
    have CL := Lib.hid (pcall14_any Q1.out.pw HF.out HN.out)
    unfold pqPost at CL
    rw [HK.out] at CL
    have a12 := Q1.out.row.oths.2.2.1
    clear hb RF
    go_wp2_with fail
    refine CL.out.mono ?_
    rintro e w2 ⟨rfl, hp2, hc2⟩
    have Q2 := Lib.hid (Q1.out.pow (by decide) hp2 hc2)
    have a14 := Q2.out.row.oths.2.2.2.2.1
    have CT := Lib.hid (pcount_any Q2.out (by decide) HC.out)
    unfold ctPost fV at CT
    rw [FF.out] at CT
    clear hp2 hc2 CL a12
    go_wp2_with fail
    refine CT.out.mono ?_
    rintro e w3 ⟨rfl, v3, hq3⟩
    have Q3 := Lib.hid hq3
    obtain ⟨b5, e5⟩ : ∃ b, w3.heap.size = b := ⟨_, rfl⟩
    obtain ⟨W4, hW4⟩ : ∃ q, w3.alloc (.cells #[.int .i64 f1, .int .i64 y, .int .i64 f2] 80) = q := ⟨_, rfl⟩
    have B4 : Below w3.heap.size w3 W4 := by subst hW4; exact (Below.refl _ _).alloc (Nat.le_refl _) _
    have R4 : Hid (Row W4 b5 80 #[.int .i64 f1, .int .i64 y, .int .i64 f2]) := Lib.hid (by subst hW4; exact new13 w3 _ _ e5)
    have Q4 := Lib.hid (hq3.fw B4)
    have E5 := Lib.hid e5
    have HW4 := Lib.hid hW4
    obtain ⟨r0, r1, r2⟩ := row3 R4.out
    have RR := Lib.hid (row_rg R4.out)
    clear hq3 CT a14 e5 hW4 B4
    have WK := Lib.hid (HW.out (by first | trivial | rfl) W4 _ _ CE0.out { Q4.out with t := TB.out.trans Q4.out.t } Q4.out.t)
    have LW := Lib.hid Q4.out.low
    have LP := Lib.hid Q4.out.pl
    have T4 := Lib.hid Q4.out.t
    unfold wkPost fV at WK
    clear HW
    go_wp2_with (first | rw [HW4.out, E5.out] | rw [EG.out] | (refine wpList_load_mid rfl _ _ rfl b5 0 rfl [.int .i64 f1, .int .i64 y, .int .i64 f2] _ RR.out Try.underlying80 rfl (by kernel_rfl) ?_))
    refine WK.out.mono ?_
    rintro e w5 ⟨rfl, hk5, hp5, ht5, hx5⟩
    have HXX := Lib.hid hx5
    have A5 := Lib.hid hk5
    have P5 := Lib.hid hp5
    have T5 := Lib.hid ht5
    clear WK hk5 hp5 ht5 hx5
    go_wp2_with fail
    go_ret
    exact ⟨rfl, A5.out, P5.out, T5.out, fun _ => HXX.out, fun e => absurd rfl e⟩
end Go.Proofs.Ytdjjihppaobbcaa
