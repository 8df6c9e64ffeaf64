/- Layer 14: contract of the program: Write. WRITTEN BY gen_Dph.py. -/
import Derived.Test.YtdjjihppaobbcaaDpg
namespace Go.Proofs.Ytdjjihppaobbcaa
open Go Go.RowKit Med Flt
set_option linter.unusedVariables false
set_option linter.unusedSimpArgs false
/-- What writing returns and leaves once the operation has begun with the fault f. -/
def Dsk.wr1E (d : Dsk.Dk) (a : Int) (b : List Nat) : Int := if ¬ Dsk.has d a then 2 else if 64 < b.length then 7 else 0
def Dsk.wr1A (f : F) (a : Int) : Int := if f.kind = 3 then f.to else a
def Dsk.wr1B (f : F) (b : List Nat) : List Nat := if f.kind = 2 then b.take (b.length / 2) else b
def Dsk.wr1D (R B T S O : Nat) (d : Dsk.Dk) (f : F) (a : Int) (b : List Nat) (force : Bool) : Dsk.Dk :=
  if Dsk.wr1E d a b ≠ 0 ∨ f.kind = 1 ∨ ¬ Dsk.has d (Dsk.wr1A f a) then d
  else if force = true then Dsk.fl R B T S O { d with ops := d.ops ++ [⟨false, Dsk.wr1A f a, Dsk.wr1B f b⟩] } else { d with ops := d.ops ++ [⟨false, Dsk.wr1A f a, Dsk.wr1B f b⟩] }
theorem opE_no {Bn : Nat} {l : List Sec} {a : Int} {b : List Nat} (h : ¬ (0 ≤ a ∧ a < l.length)) : opE Bn l ⟨false, a, b⟩ = 2 := by
  show (if 0 ≤ a ∧ a < l.length then (if 64 < b.length then 7 else 0) else (2 : Int)) = 2
  rw [if_neg h]
theorem opE_yes {Bn : Nat} {l : List Sec} {a : Int} {b : List Nat} (h : 0 ≤ a ∧ a < l.length) (hb : b.length ≤ 64) : opE Bn l ⟨false, a, b⟩ = 0 := by
  show (if 0 ≤ a ∧ a < l.length then (if 64 < b.length then 7 else 0) else (2 : Int)) = 0
  rw [if_pos h, if_neg (by omega)]
set_option maxHeartbeats 4000000 in
set_option maxRecDepth 100000 in
theorem pwr1_any {B : Zn} {w0 c : World} {D P R Bn T S O K : Nat} {v : Value} {L : List F} {p : Dsk.Pw} {d : Dsk.Dk} (q0 : PqL tyB B w0 D P R Bn T S O K v d.l d.ops L (Dsk.rest L d.count) p d c) (hT : B.top c) (hol : d.ops.length ≤ 1000) (i1 i2 i3 i4 : Nat) (a : Int) (v0 : Value) (b : List Nat) (force : Bool)
    (h1 : DBox c i1 D) (h2 : Row c i2 3 #[.int .i64 a]) (h3 : Row c i3 60 #[v0]) (h4 : Row c i4 4 #[.bool force]) (hv : Bs c v0 b) (hb : b.length ≤ 1000) (f : F) :
    Calls Try.prog 66 #[fV f, .pointer (some ⟨i1, 0, none⟩), .pointer (some ⟨i2, 0, none⟩), .pointer (some ⟨i3, 0, none⟩), .pointer (some ⟨i4, 0, none⟩)] c (wkPost B D P R Bn T S O L p (Dsk.wr1E d a b) (Dsk.wr1D R Bn T S O d f a b force) (fun _ => True) w0) := by
  replace q0 := q0.mono (Lt := tyD) (by decide)
  obtain ⟨hg, hl⟩ := q0.ce.facts
  obtain ⟨m, A0, cc, rfl⟩ : ∃ m A c, v0 = .slice A m c := by obtain ⟨A, c, e⟩ := hv.form; exact ⟨_, A, c, e⟩
  obtain ⟨mb, mc, mm⟩ := by_cap hv
  have FIN := Lib.hid fun c' v' (q : Pq B w0 D P R Bn T S O K v' d.l d.ops L (Dsk.rest L d.count) p d c') => q.fin rfl rfl rfl
  have FIA := Lib.hid fun c' v' o (q : Pq B w0 D P R Bn T S O K v' d.l (d.ops ++ [o]) L (Dsk.rest L d.count) p d c') =>
    (show PqL tyD B w0 D P R Bn T S O K v' d.l (d.ops ++ [o]) L (Dsk.rest L d.count) p { d with ops := d.ops ++ [o] } c' from ⟨q.row, q.ce, q.ft, q.vl, q.pw, q.low, q.pl, q.t⟩).fin rfl rfl rfl
  have FIF := Lib.hid fun c' v' o (q : Pq B w0 D P R Bn T S O K v' (Med.play R Bn T S O d.l (d.ops ++ [o])) [] L (Dsk.rest L d.count) p d c') =>
    (show PqL tyD B w0 D P R Bn T S O K v' (Med.play R Bn T S O d.l (d.ops ++ [o])) [] L (Dsk.rest L d.count) p (Dsk.fl R Bn T S O { d with ops := d.ops ++ [o] }) c' from ⟨q.row, q.ce, q.ft, q.vl, q.pw, q.low, q.pl, q.t⟩).fin rfl rfl rfl
  obtain ⟨x, y, z⟩ := f
  unfold fV
  obtain ⟨b4, e4⟩ : ∃ b, c.heap.size = b := ⟨_, rfl⟩
  obtain ⟨W0, hW0⟩ : ∃ q, c.alloc (.cells #[.int .i64 x, .int .i64 y, .int .i64 z] 80) = q := ⟨_, rfl⟩
  have B0 : Below c.heap.size c W0 := by subst hW0; exact (Below.refl _ _).alloc (Nat.le_refl _) _
  have R4 : Hid (Row W0 b4 80 #[.int .i64 x, .int .i64 y, .int .i64 z]) := Lib.hid (by subst hW0; exact new13 c _ _ e4)
  have Q0 := Lib.hid (q0.fw B0)
  have R1 := Lib.hid (h1.go B0)
  have R2 := Lib.hid (h2.go B0)
  have R3 := Lib.hid (h3.go B0)
  have RF := Lib.hid (h4.go B0)
  have V0 := Lib.hid (hv.below B0)
  have HT := Lib.hid (hT.up B0.size)
  have x1 : W0.cell? ⟨i1, 0, none⟩ = some (.pointer (some ⟨D, 0, none⟩)) := by rw [R1.out.cell]; rfl
  have x2 : W0.cell? ⟨i2, 0, none⟩ = some (.int .i64 a) := by rw [R2.out.cell]; rfl
  have HA := Lib.hid (pdhas_any Q0.out.row hl hg a)
  have HL := Lib.hid hl
  have HG := Lib.hid hg
  have MB := Lib.hid mb
  have MC := Lib.hid mc
  have HB := Lib.hid hb
  have HOL := Lib.hid hol
  have E4 := Lib.hid e4
  have HW0 := Lib.hid hW0
  have mI : (m : Int) ≤ 1000 := by omega
  clear h1 h2 h3 h4 hv hb hT hol q0 e4 hW0 B0 hg hl mb mc mm
  by_cases h1 : ¬ Dsk.has d a
  · have E1 : Dsk.wr1E d a b = 2 := by unfold Dsk.wr1E; rw [if_pos h1]
    have E2 : Dsk.wr1D R Bn T S O d ⟨x, y, z⟩ a b force = d := by unfold Dsk.wr1D; rw [E1, if_pos (Or.inl (by decide))]
    rw [E1, E2]
    rw [show decide (0 ≤ a ∧ a < d.l.length) = false from decide_eq_false h1] at HA
    clear E1 E2 h1
    go_enter Try.func66, Try.ntmps66
    go_wp2_with (first | rw [HW0.out, E4.out])
    refine HA.out.mono ?_
    rintro e w1 ⟨rfl, hb⟩
    have Q1 := Lib.hid (Q0.out.fw hb)
    have V1 := Lib.hid (V0.out.below hb)
    have T1 := Lib.hid (HT.out.up hb.size)
    obtain ⟨r0, r1, r2⟩ := row3 (R4.out.go hb)
    have y1 : w1.cell? ⟨i1, 0, none⟩ = some (.pointer (some ⟨D, 0, none⟩)) := by rw [(R1.out.go hb).cell]; rfl
    have y2 : w1.cell? ⟨i2, 0, none⟩ = some (.int .i64 a) := by rw [(R2.out.go hb).cell]; rfl
    have y3 : w1.cell? ⟨i3, 0, none⟩ = some (.slice A0 m cc) := by rw [(R3.out.go hb).cell]; rfl
    have F1 := Lib.hid (RF.out.go hb)
    have D1 := Lib.hid (R1.out.go hb)
    clear hb x1 x2
    go_wp2_with fail
    go_ret
    obtain ⟨q1, q2, q3⟩ := FIN.out _ _ Q1.out
    exact ⟨rfl, q1, q2, q3, trivial⟩
  
  rw [show decide (0 ≤ a ∧ a < d.l.length) = true from decide_eq_true (Decidable.not_not.1 h1)] at HA
  have HAS := Lib.hid (Decidable.not_not.1 h1)
  clear h1
  by_cases h2 : 64 < m
  · have E1 : Dsk.wr1E d a b = 7 := by unfold Dsk.wr1E; rw [if_neg (not_not_intro HAS.out), if_pos (by have := MB.out; omega)]
    have E2 : Dsk.wr1D R Bn T S O d ⟨x, y, z⟩ a b force = d := by unfold Dsk.wr1D; rw [E1, if_pos (Or.inl (by decide))]
    rw [E1, E2]
    have d2 : decide ((m : Int) > 64) = true := decide_eq_true (by omega)
    clear E1 E2 h2
    go_enter Try.func66, Try.ntmps66
    go_wp2_with (first | rw [HW0.out, E4.out])
    refine HA.out.mono ?_
    rintro e w1 ⟨rfl, hb⟩
    have Q1 := Lib.hid (Q0.out.fw hb)
    have V1 := Lib.hid (V0.out.below hb)
    have T1 := Lib.hid (HT.out.up hb.size)
    obtain ⟨r0, r1, r2⟩ := row3 (R4.out.go hb)
    have y1 : w1.cell? ⟨i1, 0, none⟩ = some (.pointer (some ⟨D, 0, none⟩)) := by rw [(R1.out.go hb).cell]; rfl
    have y2 : w1.cell? ⟨i2, 0, none⟩ = some (.int .i64 a) := by rw [(R2.out.go hb).cell]; rfl
    have y3 : w1.cell? ⟨i3, 0, none⟩ = some (.slice A0 m cc) := by rw [(R3.out.go hb).cell]; rfl
    have F1 := Lib.hid (RF.out.go hb)
    have D1 := Lib.hid (R1.out.go hb)
    clear hb x1 x2
    go_wp2_with fail
    go_ret
    obtain ⟨q1, q2, q3⟩ := FIN.out _ _ Q1.out
    exact ⟨rfl, q1, q2, q3, trivial⟩
  
  have E1 : Dsk.wr1E d a b = 0 := by unfold Dsk.wr1E; rw [if_neg (not_not_intro HAS.out), if_neg (by have := MB.out; omega)]
  have EW : Hid (Dsk.wr1D R Bn T S O d ⟨x, y, z⟩ a b force = if y = 1 ∨ ¬ Dsk.has d (Dsk.wr1A ⟨x, y, z⟩ a) then d else if force = true then Dsk.fl R Bn T S O { d with ops := d.ops ++ [⟨false, Dsk.wr1A ⟨x, y, z⟩ a, Dsk.wr1B ⟨x, y, z⟩ b⟩] } else { d with ops := d.ops ++ [⟨false, Dsk.wr1A ⟨x, y, z⟩ a, Dsk.wr1B ⟨x, y, z⟩ b⟩] }) := Lib.hid (by
    unfold Dsk.wr1D
    rw [E1]
    simp only [ne_eq, not_true_eq_false, false_or])
  rw [E1]
  have d2 : decide ((m : Int) > 64) = false := decide_eq_false (by omega)
  have M64 := Lib.hid (show m ≤ 64 by omega)
  clear E1 h2
  by_cases y1 : y = 1
  · have E2 : Dsk.wr1D R Bn T S O d ⟨x, y, z⟩ a b force = d := by rw [EW.out, if_pos (Or.inl y1)]
    rw [E2]
    have e1 : (y == 1) = true := by simp [y1]
    clear E2 y1 EW
    go_enter Try.func66, Try.ntmps66
    go_wp2_with (first | rw [HW0.out, E4.out])
    refine HA.out.mono ?_
    rintro e w1 ⟨rfl, hb⟩
    have Q1 := Lib.hid (Q0.out.fw hb)
    have V1 := Lib.hid (V0.out.below hb)
    have T1 := Lib.hid (HT.out.up hb.size)
    obtain ⟨r0, r1, r2⟩ := row3 (R4.out.go hb)
    have y1 : w1.cell? ⟨i1, 0, none⟩ = some (.pointer (some ⟨D, 0, none⟩)) := by rw [(R1.out.go hb).cell]; rfl
    have y2 : w1.cell? ⟨i2, 0, none⟩ = some (.int .i64 a) := by rw [(R2.out.go hb).cell]; rfl
    have y3 : w1.cell? ⟨i3, 0, none⟩ = some (.slice A0 m cc) := by rw [(R3.out.go hb).cell]; rfl
    have F1 := Lib.hid (RF.out.go hb)
    have D1 := Lib.hid (R1.out.go hb)
    clear hb x1 x2
    go_wp2_with fail
    go_quiet (fail)
    go_wp2_with fail
    go_ret
    obtain ⟨q1, q2, q3⟩ := FIN.out _ _ (Q1.out.fw (below_dn _ _))
    exact ⟨rfl, q1, q2, q3, trivial⟩
  
  have e1 : (y == 1) = false := by simp [y1]
  have N1 := Lib.hid y1
  clear y1
  by_cases y2 : y = 2
  · have e2 : (y == 2) = true := by simp [y2]
    have EA : Hid (Dsk.wr1A ⟨x, y, z⟩ a = a) := Lib.hid (by unfold Dsk.wr1A; rw [if_neg (by show ¬ y = 3; omega)])
    have EB : Hid (Dsk.wr1B ⟨x, y, z⟩ b = b.take (m / 2)) := Lib.hid (by unfold Dsk.wr1B; rw [if_pos y2, MB.out])
    obtain ⟨k, hk⟩ : ∃ k, m / 2 = k := ⟨_, rfl⟩
    rw [hk] at EB
    have km : k ≤ m := by omega
    obtain ⟨st, sa⟩ := by_to A0 m cc k km MC.out
    have hk1 : (m : Int) / 2 = (k : Int) := by omega
    have LB := Lib.hid (show (b.take k).length ≤ 64 by rw [List.length_take]; have := M64.out; omega)
    have KM := Lib.hid km
    have LK := Lib.hid (show (b.take k).length = k by rw [List.length_take]; have := MB.out; omega)
    clear hk km y2
    by_cases ht2 : 0 ≤ a ∧ a < d.l.length
    · have HT2 := Lib.hid ht2
      have EV : Hid (Dsk.wr1D R Bn T S O d ⟨x, y, z⟩ a b force = if force = true then Dsk.fl R Bn T S O { d with ops := d.ops ++ [⟨false, a, b.take k⟩] } else { d with ops := d.ops ++ [⟨false, a, b.take k⟩] }) := Lib.hid (by
        rw [EW.out, if_neg (by rintro (e | e); exact N1.out e; rw [EA.out] at e; exact e ht2), EA.out, EB.out])
      clear ht2 EW
      cases force with
      | true =>
        rw [EV.out, if_pos rfl]
        go_enter Try.func66, Try.ntmps66
        go_wp2_with (first | rw [HW0.out, E4.out])
        refine HA.out.mono ?_
        rintro e w1 ⟨rfl, hb⟩
        have Q1 := Lib.hid (Q0.out.fw hb)
        have V1 := Lib.hid (V0.out.below hb)
        have T1 := Lib.hid (HT.out.up hb.size)
        obtain ⟨r0, r1, r2⟩ := row3 (R4.out.go hb)
        have y1 : w1.cell? ⟨i1, 0, none⟩ = some (.pointer (some ⟨D, 0, none⟩)) := by rw [(R1.out.go hb).cell]; rfl
        have y2 : w1.cell? ⟨i2, 0, none⟩ = some (.int .i64 a) := by rw [(R2.out.go hb).cell]; rfl
        have y3 : w1.cell? ⟨i3, 0, none⟩ = some (.slice A0 m cc) := by rw [(R3.out.go hb).cell]; rfl
        have F1 := Lib.hid (RF.out.go hb)
        have D1 := Lib.hid (R1.out.go hb)
        clear hb x1 x2
        go_wp2_with fail
        go_quiet (fail)
        generalize hw2 : w1.drewN _ = w2
        have hd2 : Below w1.heap.size w1 w2 := by rw [← hw2]; exact below_dn _ _
        have Q2 := Lib.hid (Q1.out.fw hd2)
        have V2 := Lib.hid (by_take (V1.out.below hd2) KM.out)
        have T2 := Lib.hid (T1.out.up hd2.size)
        have F2 := Lib.hid (F1.out.go hd2)
        have D2 := Lib.hid (D1.out.go hd2)
        have g1 : w2.cell? ⟨i1, 0, none⟩ = some (.pointer (some ⟨D, 0, none⟩)) := by rw [D2.out.cell]; rfl
        have g3 : w2.cell? ⟨i3, 0, none⟩ = some (.slice A0 m cc) := by rw [← hw2]; exact y3
        have s0 : w2.cell? ⟨b4, 0, none⟩ = some (.int .i64 x) := by rw [← hw2]; exact r0
        have s1 : w2.cell? ⟨b4, 1, none⟩ = some (.int .i64 y) := by rw [← hw2]; exact r1
        have s2 : w2.cell? ⟨b4, 2, none⟩ = some (.int .i64 z) := by rw [← hw2]; exact r2
        clear hd2 hw2
        have WT := cwr_any Q2.out.ce (a) (.slice A0 k cc) (b.take k) V2.out (by have := LB.out; omega) HOL.out T2.out
        unfold adPost at WT
        have z10 := Q2.out.row.oths.1
        have y4 := F2.out
        replace y4 : w2.cell? ⟨i4, 0, none⟩ = some (.bool true) := by rw [y4.cell]; rfl
        rw [show opE Bn (Med.play R Bn T S O d.l d.ops) ⟨false, a, b.take k⟩ = 0 from opE_yes (by rw [Med.play_len]; exact HT2.out) LB.out] at WT
        replace WT := Lib.hid WT
        go_wp2_with fail
        refine WT.out.mono ?_
        rintro e w3 ⟨rfl, hr, ht⟩
        have Q3 := Lib.hid (Q2.out.cac hr ht)
        have D3 := Lib.hid (Row.tch ht D2.out (by decide))
        have u1 : w3.cell? ⟨i1, 0, none⟩ = some (.pointer (some ⟨D, 0, none⟩)) := by rw [D3.out.cell]; rfl
        have u4 : w3.cell? ⟨i4, 0, none⟩ = some (.bool true) := by rw [(Row.tch ht F2.out (by decide)).cell]; rfl
        clear hr ht WT z10 y4
        have FL := Lib.hid (cfl_any Q3.out.ce)
        have z10 := Q3.out.row.oths.1
        go_wp2_with fail
        refine FL.out.mono ?_
        rintro e w4 ⟨⟨u, rfl⟩, hr, ht⟩
        have Q4 := Lib.hid (Q3.out.cac hr ht)
        clear hr ht FL z10
        go_wp2_with fail
        go_ret
        have q := Q4.out
        rw [show app d.ops 0 ⟨false, a, b.take k⟩ = d.ops ++ [⟨false, a, b.take k⟩] from if_pos rfl] at q
        obtain ⟨q1, q2, q3⟩ := FIF.out _ _ _ q
        exact ⟨rfl, q1, q2, q3, trivial⟩
      | false =>
        rw [EV.out, if_neg (by decide)]
        go_enter Try.func66, Try.ntmps66
        go_wp2_with (first | rw [HW0.out, E4.out])
        refine HA.out.mono ?_
        rintro e w1 ⟨rfl, hb⟩
        have Q1 := Lib.hid (Q0.out.fw hb)
        have V1 := Lib.hid (V0.out.below hb)
        have T1 := Lib.hid (HT.out.up hb.size)
        obtain ⟨r0, r1, r2⟩ := row3 (R4.out.go hb)
        have y1 : w1.cell? ⟨i1, 0, none⟩ = some (.pointer (some ⟨D, 0, none⟩)) := by rw [(R1.out.go hb).cell]; rfl
        have y2 : w1.cell? ⟨i2, 0, none⟩ = some (.int .i64 a) := by rw [(R2.out.go hb).cell]; rfl
        have y3 : w1.cell? ⟨i3, 0, none⟩ = some (.slice A0 m cc) := by rw [(R3.out.go hb).cell]; rfl
        have F1 := Lib.hid (RF.out.go hb)
        have D1 := Lib.hid (R1.out.go hb)
        clear hb x1 x2
        go_wp2_with fail
        go_quiet (fail)
        generalize hw2 : w1.drewN _ = w2
        have hd2 : Below w1.heap.size w1 w2 := by rw [← hw2]; exact below_dn _ _
        have Q2 := Lib.hid (Q1.out.fw hd2)
        have V2 := Lib.hid (by_take (V1.out.below hd2) KM.out)
        have T2 := Lib.hid (T1.out.up hd2.size)
        have F2 := Lib.hid (F1.out.go hd2)
        have D2 := Lib.hid (D1.out.go hd2)
        have g1 : w2.cell? ⟨i1, 0, none⟩ = some (.pointer (some ⟨D, 0, none⟩)) := by rw [D2.out.cell]; rfl
        have g3 : w2.cell? ⟨i3, 0, none⟩ = some (.slice A0 m cc) := by rw [← hw2]; exact y3
        have s0 : w2.cell? ⟨b4, 0, none⟩ = some (.int .i64 x) := by rw [← hw2]; exact r0
        have s1 : w2.cell? ⟨b4, 1, none⟩ = some (.int .i64 y) := by rw [← hw2]; exact r1
        have s2 : w2.cell? ⟨b4, 2, none⟩ = some (.int .i64 z) := by rw [← hw2]; exact r2
        clear hd2 hw2
        have WT := cwr_any Q2.out.ce (a) (.slice A0 k cc) (b.take k) V2.out (by have := LB.out; omega) HOL.out T2.out
        unfold adPost at WT
        have z10 := Q2.out.row.oths.1
        have y4 := F2.out
        replace y4 : w2.cell? ⟨i4, 0, none⟩ = some (.bool false) := by rw [y4.cell]; rfl
        rw [show opE Bn (Med.play R Bn T S O d.l d.ops) ⟨false, a, b.take k⟩ = 0 from opE_yes (by rw [Med.play_len]; exact HT2.out) LB.out] at WT
        replace WT := Lib.hid WT
        go_wp2_with fail
        refine WT.out.mono ?_
        rintro e w3 ⟨rfl, hr, ht⟩
        have Q3 := Lib.hid (Q2.out.cac hr ht)
        have D3 := Lib.hid (Row.tch ht D2.out (by decide))
        have u1 : w3.cell? ⟨i1, 0, none⟩ = some (.pointer (some ⟨D, 0, none⟩)) := by rw [D3.out.cell]; rfl
        have u4 : w3.cell? ⟨i4, 0, none⟩ = some (.bool false) := by rw [(Row.tch ht F2.out (by decide)).cell]; rfl
        clear hr ht WT z10 y4
        go_wp2_with fail
        go_ret
        have q := Q3.out
        rw [show app d.ops 0 ⟨false, a, b.take k⟩ = d.ops ++ [⟨false, a, b.take k⟩] from if_pos rfl] at q
        obtain ⟨q1, q2, q3⟩ := FIA.out _ _ _ q
        exact ⟨rfl, q1, q2, q3, trivial⟩
    · have HT2 := Lib.hid ht2
      have EV : Hid (Dsk.wr1D R Bn T S O d ⟨x, y, z⟩ a b force = d) := Lib.hid (by
        rw [EW.out, if_pos (Or.inr (by rw [EA.out]; exact ht2))])
      clear ht2 EW
      rw [EV.out]
      go_enter Try.func66, Try.ntmps66
      go_wp2_with (first | rw [HW0.out, E4.out])
      refine HA.out.mono ?_
      rintro e w1 ⟨rfl, hb⟩
      have Q1 := Lib.hid (Q0.out.fw hb)
      have V1 := Lib.hid (V0.out.below hb)
      have T1 := Lib.hid (HT.out.up hb.size)
      obtain ⟨r0, r1, r2⟩ := row3 (R4.out.go hb)
      have y1 : w1.cell? ⟨i1, 0, none⟩ = some (.pointer (some ⟨D, 0, none⟩)) := by rw [(R1.out.go hb).cell]; rfl
      have y2 : w1.cell? ⟨i2, 0, none⟩ = some (.int .i64 a) := by rw [(R2.out.go hb).cell]; rfl
      have y3 : w1.cell? ⟨i3, 0, none⟩ = some (.slice A0 m cc) := by rw [(R3.out.go hb).cell]; rfl
      have F1 := Lib.hid (RF.out.go hb)
      have D1 := Lib.hid (R1.out.go hb)
      clear hb x1 x2
      go_wp2_with fail
      go_quiet (fail)
      generalize hw2 : w1.drewN _ = w2
      have hd2 : Below w1.heap.size w1 w2 := by rw [← hw2]; exact below_dn _ _
      have Q2 := Lib.hid (Q1.out.fw hd2)
      have V2 := Lib.hid (by_take (V1.out.below hd2) KM.out)
      have T2 := Lib.hid (T1.out.up hd2.size)
      have F2 := Lib.hid (F1.out.go hd2)
      have D2 := Lib.hid (D1.out.go hd2)
      have g1 : w2.cell? ⟨i1, 0, none⟩ = some (.pointer (some ⟨D, 0, none⟩)) := by rw [D2.out.cell]; rfl
      have g3 : w2.cell? ⟨i3, 0, none⟩ = some (.slice A0 m cc) := by rw [← hw2]; exact y3
      have s0 : w2.cell? ⟨b4, 0, none⟩ = some (.int .i64 x) := by rw [← hw2]; exact r0
      have s1 : w2.cell? ⟨b4, 1, none⟩ = some (.int .i64 y) := by rw [← hw2]; exact r1
      have s2 : w2.cell? ⟨b4, 2, none⟩ = some (.int .i64 z) := by rw [← hw2]; exact r2
      clear hd2 hw2
      have WT := cwr_any Q2.out.ce (a) (.slice A0 k cc) (b.take k) V2.out (by have := LB.out; omega) HOL.out T2.out
      unfold adPost at WT
      have z10 := Q2.out.row.oths.1
      have y4 := F2.out
      replace y4 : w2.cell? ⟨i4, 0, none⟩ = some (.bool force) := by rw [y4.cell]; rfl
      rw [show opE Bn (Med.play R Bn T S O d.l d.ops) ⟨false, a, b.take k⟩ = 2 from opE_no (by rw [Med.play_len]; exact HT2.out)] at WT
      replace WT := Lib.hid WT
      go_wp2_with fail
      refine WT.out.mono ?_
      rintro e w3 ⟨rfl, hr, ht⟩
      have Q3 := Lib.hid (Q2.out.cac hr ht)
      have D3 := Lib.hid (Row.tch ht D2.out (by decide))
      have u1 : w3.cell? ⟨i1, 0, none⟩ = some (.pointer (some ⟨D, 0, none⟩)) := by rw [D3.out.cell]; rfl
      have u4 : w3.cell? ⟨i4, 0, none⟩ = some (.bool force) := by rw [(Row.tch ht F2.out (by decide)).cell]; rfl
      clear hr ht WT z10 y4
      go_wp2_with fail
      go_ret
      have q := Q3.out
      rw [show app d.ops 2 ⟨false, a, b.take k⟩ = d.ops from if_neg (by decide)] at q
      obtain ⟨q1, q2, q3⟩ := FIN.out _ _ q
      exact ⟨rfl, q1, q2, q3, trivial⟩
  
  have e2 : (y == 2) = false := by simp [y2]
  have EB : Hid (Dsk.wr1B ⟨x, y, z⟩ b = b) := Lib.hid (by unfold Dsk.wr1B; rw [if_neg y2])
  have LB := Lib.hid (show b.length ≤ 64 by have := MB.out; have := M64.out; omega)
  clear y2
  by_cases y3 : y = 3
  · have e3 : (y == 3) = true := by simp [y3]
    have EA : Hid (Dsk.wr1A ⟨x, y, z⟩ a = z) := Lib.hid (by unfold Dsk.wr1A; rw [if_pos y3])
    clear y3
    by_cases ht2 : 0 ≤ z ∧ z < d.l.length
    · have HT2 := Lib.hid ht2
      have EV : Hid (Dsk.wr1D R Bn T S O d ⟨x, y, z⟩ a b force = if force = true then Dsk.fl R Bn T S O { d with ops := d.ops ++ [⟨false, z, b⟩] } else { d with ops := d.ops ++ [⟨false, z, b⟩] }) := Lib.hid (by
        rw [EW.out, if_neg (by rintro (e | e); exact N1.out e; rw [EA.out] at e; exact e ht2), EA.out, EB.out])
      clear ht2 EW
      cases force with
      | true =>
        rw [EV.out, if_pos rfl]
        go_enter Try.func66, Try.ntmps66
        go_wp2_with (first | rw [HW0.out, E4.out])
        refine HA.out.mono ?_
        rintro e w1 ⟨rfl, hb⟩
        have Q1 := Lib.hid (Q0.out.fw hb)
        have V1 := Lib.hid (V0.out.below hb)
        have T1 := Lib.hid (HT.out.up hb.size)
        obtain ⟨r0, r1, r2⟩ := row3 (R4.out.go hb)
        have y1 : w1.cell? ⟨i1, 0, none⟩ = some (.pointer (some ⟨D, 0, none⟩)) := by rw [(R1.out.go hb).cell]; rfl
        have y2 : w1.cell? ⟨i2, 0, none⟩ = some (.int .i64 a) := by rw [(R2.out.go hb).cell]; rfl
        have y3 : w1.cell? ⟨i3, 0, none⟩ = some (.slice A0 m cc) := by rw [(R3.out.go hb).cell]; rfl
        have F1 := Lib.hid (RF.out.go hb)
        have D1 := Lib.hid (R1.out.go hb)
        clear hb x1 x2
        go_wp2_with fail
        go_quiet (fail)
        generalize hw2 : w1.drewN _ = w2
        have hd2 : Below w1.heap.size w1 w2 := by rw [← hw2]; exact below_dn _ _
        have Q2 := Lib.hid (Q1.out.fw hd2)
        have V2 := Lib.hid (V1.out.below hd2)
        have T2 := Lib.hid (T1.out.up hd2.size)
        have F2 := Lib.hid (F1.out.go hd2)
        have D2 := Lib.hid (D1.out.go hd2)
        have g1 : w2.cell? ⟨i1, 0, none⟩ = some (.pointer (some ⟨D, 0, none⟩)) := by rw [D2.out.cell]; rfl
        have g3 : w2.cell? ⟨i3, 0, none⟩ = some (.slice A0 m cc) := by rw [← hw2]; exact y3
        have s0 : w2.cell? ⟨b4, 0, none⟩ = some (.int .i64 x) := by rw [← hw2]; exact r0
        have s1 : w2.cell? ⟨b4, 1, none⟩ = some (.int .i64 y) := by rw [← hw2]; exact r1
        have s2 : w2.cell? ⟨b4, 2, none⟩ = some (.int .i64 z) := by rw [← hw2]; exact r2
        clear hd2 hw2
        have WT := cwr_any Q2.out.ce (z) (.slice A0 m cc) (b) V2.out (by have := LB.out; omega) HOL.out T2.out
        unfold adPost at WT
        have z10 := Q2.out.row.oths.1
        have y4 := F2.out
        replace y4 : w2.cell? ⟨i4, 0, none⟩ = some (.bool true) := by rw [y4.cell]; rfl
        rw [show opE Bn (Med.play R Bn T S O d.l d.ops) ⟨false, z, b⟩ = 0 from opE_yes (by rw [Med.play_len]; exact HT2.out) LB.out] at WT
        replace WT := Lib.hid WT
        go_wp2_with fail
        refine WT.out.mono ?_
        rintro e w3 ⟨rfl, hr, ht⟩
        have Q3 := Lib.hid (Q2.out.cac hr ht)
        have D3 := Lib.hid (Row.tch ht D2.out (by decide))
        have u1 : w3.cell? ⟨i1, 0, none⟩ = some (.pointer (some ⟨D, 0, none⟩)) := by rw [D3.out.cell]; rfl
        have u4 : w3.cell? ⟨i4, 0, none⟩ = some (.bool true) := by rw [(Row.tch ht F2.out (by decide)).cell]; rfl
        clear hr ht WT z10 y4
        have FL := Lib.hid (cfl_any Q3.out.ce)
        have z10 := Q3.out.row.oths.1
        go_wp2_with fail
        refine FL.out.mono ?_
        rintro e w4 ⟨⟨u, rfl⟩, hr, ht⟩
        have Q4 := Lib.hid (Q3.out.cac hr ht)
        clear hr ht FL z10
        go_wp2_with fail
        go_ret
        have q := Q4.out
        rw [show app d.ops 0 ⟨false, z, b⟩ = d.ops ++ [⟨false, z, b⟩] from if_pos rfl] at q
        obtain ⟨q1, q2, q3⟩ := FIF.out _ _ _ q
        exact ⟨rfl, q1, q2, q3, trivial⟩
      | false =>
        rw [EV.out, if_neg (by decide)]
        go_enter Try.func66, Try.ntmps66
        go_wp2_with (first | rw [HW0.out, E4.out])
        refine HA.out.mono ?_
        rintro e w1 ⟨rfl, hb⟩
        have Q1 := Lib.hid (Q0.out.fw hb)
        have V1 := Lib.hid (V0.out.below hb)
        have T1 := Lib.hid (HT.out.up hb.size)
        obtain ⟨r0, r1, r2⟩ := row3 (R4.out.go hb)
        have y1 : w1.cell? ⟨i1, 0, none⟩ = some (.pointer (some ⟨D, 0, none⟩)) := by rw [(R1.out.go hb).cell]; rfl
        have y2 : w1.cell? ⟨i2, 0, none⟩ = some (.int .i64 a) := by rw [(R2.out.go hb).cell]; rfl
        have y3 : w1.cell? ⟨i3, 0, none⟩ = some (.slice A0 m cc) := by rw [(R3.out.go hb).cell]; rfl
        have F1 := Lib.hid (RF.out.go hb)
        have D1 := Lib.hid (R1.out.go hb)
        clear hb x1 x2
        go_wp2_with fail
        go_quiet (fail)
        generalize hw2 : w1.drewN _ = w2
        have hd2 : Below w1.heap.size w1 w2 := by rw [← hw2]; exact below_dn _ _
        have Q2 := Lib.hid (Q1.out.fw hd2)
        have V2 := Lib.hid (V1.out.below hd2)
        have T2 := Lib.hid (T1.out.up hd2.size)
        have F2 := Lib.hid (F1.out.go hd2)
        have D2 := Lib.hid (D1.out.go hd2)
        have g1 : w2.cell? ⟨i1, 0, none⟩ = some (.pointer (some ⟨D, 0, none⟩)) := by rw [D2.out.cell]; rfl
        have g3 : w2.cell? ⟨i3, 0, none⟩ = some (.slice A0 m cc) := by rw [← hw2]; exact y3
        have s0 : w2.cell? ⟨b4, 0, none⟩ = some (.int .i64 x) := by rw [← hw2]; exact r0
        have s1 : w2.cell? ⟨b4, 1, none⟩ = some (.int .i64 y) := by rw [← hw2]; exact r1
        have s2 : w2.cell? ⟨b4, 2, none⟩ = some (.int .i64 z) := by rw [← hw2]; exact r2
        clear hd2 hw2
        have WT := cwr_any Q2.out.ce (z) (.slice A0 m cc) (b) V2.out (by have := LB.out; omega) HOL.out T2.out
        unfold adPost at WT
        have z10 := Q2.out.row.oths.1
        have y4 := F2.out
        replace y4 : w2.cell? ⟨i4, 0, none⟩ = some (.bool false) := by rw [y4.cell]; rfl
        rw [show opE Bn (Med.play R Bn T S O d.l d.ops) ⟨false, z, b⟩ = 0 from opE_yes (by rw [Med.play_len]; exact HT2.out) LB.out] at WT
        replace WT := Lib.hid WT
        go_wp2_with fail
        refine WT.out.mono ?_
        rintro e w3 ⟨rfl, hr, ht⟩
        have Q3 := Lib.hid (Q2.out.cac hr ht)
        have D3 := Lib.hid (Row.tch ht D2.out (by decide))
        have u1 : w3.cell? ⟨i1, 0, none⟩ = some (.pointer (some ⟨D, 0, none⟩)) := by rw [D3.out.cell]; rfl
        have u4 : w3.cell? ⟨i4, 0, none⟩ = some (.bool false) := by rw [(Row.tch ht F2.out (by decide)).cell]; rfl
        clear hr ht WT z10 y4
        go_wp2_with fail
        go_ret
        have q := Q3.out
        rw [show app d.ops 0 ⟨false, z, b⟩ = d.ops ++ [⟨false, z, b⟩] from if_pos rfl] at q
        obtain ⟨q1, q2, q3⟩ := FIA.out _ _ _ q
        exact ⟨rfl, q1, q2, q3, trivial⟩
    · have HT2 := Lib.hid ht2
      have EV : Hid (Dsk.wr1D R Bn T S O d ⟨x, y, z⟩ a b force = d) := Lib.hid (by
        rw [EW.out, if_pos (Or.inr (by rw [EA.out]; exact ht2))])
      clear ht2 EW
      rw [EV.out]
      go_enter Try.func66, Try.ntmps66
      go_wp2_with (first | rw [HW0.out, E4.out])
      refine HA.out.mono ?_
      rintro e w1 ⟨rfl, hb⟩
      have Q1 := Lib.hid (Q0.out.fw hb)
      have V1 := Lib.hid (V0.out.below hb)
      have T1 := Lib.hid (HT.out.up hb.size)
      obtain ⟨r0, r1, r2⟩ := row3 (R4.out.go hb)
      have y1 : w1.cell? ⟨i1, 0, none⟩ = some (.pointer (some ⟨D, 0, none⟩)) := by rw [(R1.out.go hb).cell]; rfl
      have y2 : w1.cell? ⟨i2, 0, none⟩ = some (.int .i64 a) := by rw [(R2.out.go hb).cell]; rfl
      have y3 : w1.cell? ⟨i3, 0, none⟩ = some (.slice A0 m cc) := by rw [(R3.out.go hb).cell]; rfl
      have F1 := Lib.hid (RF.out.go hb)
      have D1 := Lib.hid (R1.out.go hb)
      clear hb x1 x2
      go_wp2_with fail
      go_quiet (fail)
      generalize hw2 : w1.drewN _ = w2
      have hd2 : Below w1.heap.size w1 w2 := by rw [← hw2]; exact below_dn _ _
      have Q2 := Lib.hid (Q1.out.fw hd2)
      have V2 := Lib.hid (V1.out.below hd2)
      have T2 := Lib.hid (T1.out.up hd2.size)
      have F2 := Lib.hid (F1.out.go hd2)
      have D2 := Lib.hid (D1.out.go hd2)
      have g1 : w2.cell? ⟨i1, 0, none⟩ = some (.pointer (some ⟨D, 0, none⟩)) := by rw [D2.out.cell]; rfl
      have g3 : w2.cell? ⟨i3, 0, none⟩ = some (.slice A0 m cc) := by rw [← hw2]; exact y3
      have s0 : w2.cell? ⟨b4, 0, none⟩ = some (.int .i64 x) := by rw [← hw2]; exact r0
      have s1 : w2.cell? ⟨b4, 1, none⟩ = some (.int .i64 y) := by rw [← hw2]; exact r1
      have s2 : w2.cell? ⟨b4, 2, none⟩ = some (.int .i64 z) := by rw [← hw2]; exact r2
      clear hd2 hw2
      have WT := cwr_any Q2.out.ce (z) (.slice A0 m cc) (b) V2.out (by have := LB.out; omega) HOL.out T2.out
      unfold adPost at WT
      have z10 := Q2.out.row.oths.1
      have y4 := F2.out
      replace y4 : w2.cell? ⟨i4, 0, none⟩ = some (.bool force) := by rw [y4.cell]; rfl
      rw [show opE Bn (Med.play R Bn T S O d.l d.ops) ⟨false, z, b⟩ = 2 from opE_no (by rw [Med.play_len]; exact HT2.out)] at WT
      replace WT := Lib.hid WT
      go_wp2_with fail
      refine WT.out.mono ?_
      rintro e w3 ⟨rfl, hr, ht⟩
      have Q3 := Lib.hid (Q2.out.cac hr ht)
      have D3 := Lib.hid (Row.tch ht D2.out (by decide))
      have u1 : w3.cell? ⟨i1, 0, none⟩ = some (.pointer (some ⟨D, 0, none⟩)) := by rw [D3.out.cell]; rfl
      have u4 : w3.cell? ⟨i4, 0, none⟩ = some (.bool force) := by rw [(Row.tch ht F2.out (by decide)).cell]; rfl
      clear hr ht WT z10 y4
      go_wp2_with fail
      go_ret
      have q := Q3.out
      rw [show app d.ops 2 ⟨false, z, b⟩ = d.ops from if_neg (by decide)] at q
      obtain ⟨q1, q2, q3⟩ := FIN.out _ _ q
      exact ⟨rfl, q1, q2, q3, trivial⟩
  
  have e3 : (y == 3) = false := by simp [y3]
  have EA : Hid (Dsk.wr1A ⟨x, y, z⟩ a = a) := Lib.hid (by unfold Dsk.wr1A; rw [if_neg y3])
  clear y3
  by_cases ht2 : 0 ≤ a ∧ a < d.l.length
  · have HT2 := Lib.hid ht2
    have EV : Hid (Dsk.wr1D R Bn T S O d ⟨x, y, z⟩ a b force = if force = true then Dsk.fl R Bn T S O { d with ops := d.ops ++ [⟨false, a, b⟩] } else { d with ops := d.ops ++ [⟨false, a, b⟩] }) := Lib.hid (by
      rw [EW.out, if_neg (by rintro (e | e); exact N1.out e; rw [EA.out] at e; exact e ht2), EA.out, EB.out])
    clear ht2 EW
    cases force with
    | true =>
      rw [EV.out, if_pos rfl]
      go_enter Try.func66, Try.ntmps66
      go_wp2_with (first | rw [HW0.out, E4.out])
      refine HA.out.mono ?_
      rintro e w1 ⟨rfl, hb⟩
      have Q1 := Lib.hid (Q0.out.fw hb)
      have V1 := Lib.hid (V0.out.below hb)
      have T1 := Lib.hid (HT.out.up hb.size)
      obtain ⟨r0, r1, r2⟩ := row3 (R4.out.go hb)
      have y1 : w1.cell? ⟨i1, 0, none⟩ = some (.pointer (some ⟨D, 0, none⟩)) := by rw [(R1.out.go hb).cell]; rfl
      have y2 : w1.cell? ⟨i2, 0, none⟩ = some (.int .i64 a) := by rw [(R2.out.go hb).cell]; rfl
      have y3 : w1.cell? ⟨i3, 0, none⟩ = some (.slice A0 m cc) := by rw [(R3.out.go hb).cell]; rfl
      have F1 := Lib.hid (RF.out.go hb)
      have D1 := Lib.hid (R1.out.go hb)
      clear hb x1 x2
      go_wp2_with fail
      go_quiet (fail)
      generalize hw2 : w1.drewN _ = w2
      have hd2 : Below w1.heap.size w1 w2 := by rw [← hw2]; exact below_dn _ _
      have Q2 := Lib.hid (Q1.out.fw hd2)
      have V2 := Lib.hid (V1.out.below hd2)
      have T2 := Lib.hid (T1.out.up hd2.size)
      have F2 := Lib.hid (F1.out.go hd2)
      have D2 := Lib.hid (D1.out.go hd2)
      have g1 : w2.cell? ⟨i1, 0, none⟩ = some (.pointer (some ⟨D, 0, none⟩)) := by rw [D2.out.cell]; rfl
      have g3 : w2.cell? ⟨i3, 0, none⟩ = some (.slice A0 m cc) := by rw [← hw2]; exact y3
      have s0 : w2.cell? ⟨b4, 0, none⟩ = some (.int .i64 x) := by rw [← hw2]; exact r0
      have s1 : w2.cell? ⟨b4, 1, none⟩ = some (.int .i64 y) := by rw [← hw2]; exact r1
      have s2 : w2.cell? ⟨b4, 2, none⟩ = some (.int .i64 z) := by rw [← hw2]; exact r2
      clear hd2 hw2
      have WT := cwr_any Q2.out.ce (a) (.slice A0 m cc) (b) V2.out (by have := LB.out; omega) HOL.out T2.out
      unfold adPost at WT
      have z10 := Q2.out.row.oths.1
      have y4 := F2.out
      replace y4 : w2.cell? ⟨i4, 0, none⟩ = some (.bool true) := by rw [y4.cell]; rfl
      rw [show opE Bn (Med.play R Bn T S O d.l d.ops) ⟨false, a, b⟩ = 0 from opE_yes (by rw [Med.play_len]; exact HT2.out) LB.out] at WT
      replace WT := Lib.hid WT
      go_wp2_with fail
      refine WT.out.mono ?_
      rintro e w3 ⟨rfl, hr, ht⟩
      have Q3 := Lib.hid (Q2.out.cac hr ht)
      have D3 := Lib.hid (Row.tch ht D2.out (by decide))
      have u1 : w3.cell? ⟨i1, 0, none⟩ = some (.pointer (some ⟨D, 0, none⟩)) := by rw [D3.out.cell]; rfl
      have u4 : w3.cell? ⟨i4, 0, none⟩ = some (.bool true) := by rw [(Row.tch ht F2.out (by decide)).cell]; rfl
      clear hr ht WT z10 y4
      have FL := Lib.hid (cfl_any Q3.out.ce)
      have z10 := Q3.out.row.oths.1
      go_wp2_with fail
      refine FL.out.mono ?_
      rintro e w4 ⟨⟨u, rfl⟩, hr, ht⟩
      have Q4 := Lib.hid (Q3.out.cac hr ht)
      clear hr ht FL z10
      go_wp2_with fail
      go_ret
      have q := Q4.out
      rw [show app d.ops 0 ⟨false, a, b⟩ = d.ops ++ [⟨false, a, b⟩] from if_pos rfl] at q
      obtain ⟨q1, q2, q3⟩ := FIF.out _ _ _ q
      exact ⟨rfl, q1, q2, q3, trivial⟩
    | false =>
      rw [EV.out, if_neg (by decide)]
      go_enter Try.func66, Try.ntmps66
      go_wp2_with (first | rw [HW0.out, E4.out])
      refine HA.out.mono ?_
      rintro e w1 ⟨rfl, hb⟩
      have Q1 := Lib.hid (Q0.out.fw hb)
      have V1 := Lib.hid (V0.out.below hb)
      have T1 := Lib.hid (HT.out.up hb.size)
      obtain ⟨r0, r1, r2⟩ := row3 (R4.out.go hb)
      have y1 : w1.cell? ⟨i1, 0, none⟩ = some (.pointer (some ⟨D, 0, none⟩)) := by rw [(R1.out.go hb).cell]; rfl
      have y2 : w1.cell? ⟨i2, 0, none⟩ = some (.int .i64 a) := by rw [(R2.out.go hb).cell]; rfl
      have y3 : w1.cell? ⟨i3, 0, none⟩ = some (.slice A0 m cc) := by rw [(R3.out.go hb).cell]; rfl
      have F1 := Lib.hid (RF.out.go hb)
      have D1 := Lib.hid (R1.out.go hb)
      clear hb x1 x2
      go_wp2_with fail
      go_quiet (fail)
      generalize hw2 : w1.drewN _ = w2
      have hd2 : Below w1.heap.size w1 w2 := by rw [← hw2]; exact below_dn _ _
      have Q2 := Lib.hid (Q1.out.fw hd2)
      have V2 := Lib.hid (V1.out.below hd2)
      have T2 := Lib.hid (T1.out.up hd2.size)
      have F2 := Lib.hid (F1.out.go hd2)
      have D2 := Lib.hid (D1.out.go hd2)
      have g1 : w2.cell? ⟨i1, 0, none⟩ = some (.pointer (some ⟨D, 0, none⟩)) := by rw [D2.out.cell]; rfl
      have g3 : w2.cell? ⟨i3, 0, none⟩ = some (.slice A0 m cc) := by rw [← hw2]; exact y3
      have s0 : w2.cell? ⟨b4, 0, none⟩ = some (.int .i64 x) := by rw [← hw2]; exact r0
      have s1 : w2.cell? ⟨b4, 1, none⟩ = some (.int .i64 y) := by rw [← hw2]; exact r1
      have s2 : w2.cell? ⟨b4, 2, none⟩ = some (.int .i64 z) := by rw [← hw2]; exact r2
      clear hd2 hw2
      have WT := cwr_any Q2.out.ce (a) (.slice A0 m cc) (b) V2.out (by have := LB.out; omega) HOL.out T2.out
      unfold adPost at WT
      have z10 := Q2.out.row.oths.1
      have y4 := F2.out
      replace y4 : w2.cell? ⟨i4, 0, none⟩ = some (.bool false) := by rw [y4.cell]; rfl
      rw [show opE Bn (Med.play R Bn T S O d.l d.ops) ⟨false, a, b⟩ = 0 from opE_yes (by rw [Med.play_len]; exact HT2.out) LB.out] at WT
      replace WT := Lib.hid WT
      go_wp2_with fail
      refine WT.out.mono ?_
      rintro e w3 ⟨rfl, hr, ht⟩
      have Q3 := Lib.hid (Q2.out.cac hr ht)
      have D3 := Lib.hid (Row.tch ht D2.out (by decide))
      have u1 : w3.cell? ⟨i1, 0, none⟩ = some (.pointer (some ⟨D, 0, none⟩)) := by rw [D3.out.cell]; rfl
      have u4 : w3.cell? ⟨i4, 0, none⟩ = some (.bool false) := by rw [(Row.tch ht F2.out (by decide)).cell]; rfl
      clear hr ht WT z10 y4
      go_wp2_with fail
      go_ret
      have q := Q3.out
      rw [show app d.ops 0 ⟨false, a, b⟩ = d.ops ++ [⟨false, a, b⟩] from if_pos rfl] at q
      obtain ⟨q1, q2, q3⟩ := FIA.out _ _ _ q
      exact ⟨rfl, q1, q2, q3, trivial⟩
  · have HT2 := Lib.hid ht2
    have EV : Hid (Dsk.wr1D R Bn T S O d ⟨x, y, z⟩ a b force = d) := Lib.hid (by
      rw [EW.out, if_pos (Or.inr (by rw [EA.out]; exact ht2))])
    clear ht2 EW
    rw [EV.out]
    go_enter Try.func66, Try.ntmps66
    go_wp2_with (first | rw [HW0.out, E4.out])
    refine HA.out.mono ?_
    rintro e w1 ⟨rfl, hb⟩
    have Q1 := Lib.hid (Q0.out.fw hb)
    have V1 := Lib.hid (V0.out.below hb)
    have T1 := Lib.hid (HT.out.up hb.size)
    obtain ⟨r0, r1, r2⟩ := row3 (R4.out.go hb)
    have y1 : w1.cell? ⟨i1, 0, none⟩ = some (.pointer (some ⟨D, 0, none⟩)) := by rw [(R1.out.go hb).cell]; rfl
    have y2 : w1.cell? ⟨i2, 0, none⟩ = some (.int .i64 a) := by rw [(R2.out.go hb).cell]; rfl
    have y3 : w1.cell? ⟨i3, 0, none⟩ = some (.slice A0 m cc) := by rw [(R3.out.go hb).cell]; rfl
    have F1 := Lib.hid (RF.out.go hb)
    have D1 := Lib.hid (R1.out.go hb)
    clear hb x1 x2
    go_wp2_with fail
    go_quiet (fail)
    generalize hw2 : w1.drewN _ = w2
    have hd2 : Below w1.heap.size w1 w2 := by rw [← hw2]; exact below_dn _ _
    have Q2 := Lib.hid (Q1.out.fw hd2)
    have V2 := Lib.hid (V1.out.below hd2)
    have T2 := Lib.hid (T1.out.up hd2.size)
    have F2 := Lib.hid (F1.out.go hd2)
    have D2 := Lib.hid (D1.out.go hd2)
    have g1 : w2.cell? ⟨i1, 0, none⟩ = some (.pointer (some ⟨D, 0, none⟩)) := by rw [D2.out.cell]; rfl
    have g3 : w2.cell? ⟨i3, 0, none⟩ = some (.slice A0 m cc) := by rw [← hw2]; exact y3
    have s0 : w2.cell? ⟨b4, 0, none⟩ = some (.int .i64 x) := by rw [← hw2]; exact r0
    have s1 : w2.cell? ⟨b4, 1, none⟩ = some (.int .i64 y) := by rw [← hw2]; exact r1
    have s2 : w2.cell? ⟨b4, 2, none⟩ = some (.int .i64 z) := by rw [← hw2]; exact r2
    clear hd2 hw2
    have WT := cwr_any Q2.out.ce (a) (.slice A0 m cc) (b) V2.out (by have := LB.out; omega) HOL.out T2.out
    unfold adPost at WT
    have z10 := Q2.out.row.oths.1
    have y4 := F2.out
    replace y4 : w2.cell? ⟨i4, 0, none⟩ = some (.bool force) := by rw [y4.cell]; rfl
    rw [show opE Bn (Med.play R Bn T S O d.l d.ops) ⟨false, a, b⟩ = 2 from opE_no (by rw [Med.play_len]; exact HT2.out)] at WT
    replace WT := Lib.hid WT
    go_wp2_with fail
    refine WT.out.mono ?_
    rintro e w3 ⟨rfl, hr, ht⟩
    have Q3 := Lib.hid (Q2.out.cac hr ht)
    have D3 := Lib.hid (Row.tch ht D2.out (by decide))
    have u1 : w3.cell? ⟨i1, 0, none⟩ = some (.pointer (some ⟨D, 0, none⟩)) := by rw [D3.out.cell]; rfl
    have u4 : w3.cell? ⟨i4, 0, none⟩ = some (.bool force) := by rw [(Row.tch ht F2.out (by decide)).cell]; rfl
    clear hr ht WT z10 y4
    go_wp2_with fail
    go_ret
    have q := Q3.out
    rw [show app d.ops 2 ⟨false, a, b⟩ = d.ops from if_neg (by decide)] at q
    obtain ⟨q1, q2, q3⟩ := FIN.out _ _ q
    exact ⟨rfl, q1, q2, q3, trivial⟩
end Go.Proofs.Ytdjjihppaobbcaa

