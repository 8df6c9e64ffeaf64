/- Layer 14: contract of the program: Read. -/
import Derived.Test.YtdjjihppaobbcaaDpf
namespace Go.Proofs.Ytdjjihppaobbcaa
open Go Go.RowKit Med Flt
set_option linter.unusedVariables false
set_option linter.unusedSimpArgs false
theorem OwF.tch {B : Zn} {Ls : List TypeId} {w w' : World} {K : Nat} {v : Value} {l : List Nat} (h : OwF w K v l) (hc : Tch B Ls w w') (hL : 5 ∉ Ls) : OwF w' K v l := by
  refine ⟨?_, ?_⟩
  · refine h.1.chg (Chg.mono hc fun k h => h) fun k hk ⟨_, t, ht, hy⟩ => ?_
    rcases h.2 with ⟨rfl, _⟩ | ⟨g, c, cs, fr, rfl, _, h4, _⟩
    · cases hk
    · injection hk with hk
      subst hk
      exact Ty.ne (s := 5) ⟨_, _, h4⟩ hy (fun e => hL (e ▸ ht)) rfl
  · rcases h.2 with h2 | ⟨g, c, cs, fr, h2, h3, h4, h5⟩
    · exact Or.inl h2
    · exact Or.inr ⟨g, c, cs, fr, h2, h3, (Tch.block hc (t := 5) ⟨_, _, h4⟩ hL).trans h4, h5⟩
theorem OwF.fw14 {w w' : World} {K : Nat} {v : Value} {l : List Nat} (h : OwF w K v l) (hb : Below w.heap.size w w') : OwF w' K v l := h.tch (Tch.of_below hb (0 : Nat) []) (by simp)
/-- What reading returns once the operation has begun with the fault f. -/
def Dsk.rd1E (R B T S O : Nat) (d : Dsk.Dk) (f : F) (a : Int) : Int :=
  if ¬ Dsk.has d a then 2 else if f.kind = 4 then 15 else if rdE (Dsk.cont R B T S O d) (if f.kind = 5 then f.to else a) = 0 then 0 else 15
def Dsk.rd1B (R B T S O : Nat) (d : Dsk.Dk) (f : F) (a : Int) : ByteArray :=
  if Dsk.rd1E R B T S O d f a = 0 then rdB (Dsk.cont R B T S O d) (if f.kind = 5 then f.to else a) else ByteArray.empty
theorem rdB_no {l : List Sec} {a : Int} (h : rdE l a ≠ 0) : rdB l a = ByteArray.empty := by unfold rdB; rw [if_neg h]
section
variable {B : Zn} {w c c' : World} {D P R Bn T S O K : Nat} {v : Value} {L M : List F} {p : Dsk.Pw} {d : Dsk.Dk}
/-- A new block of slices of bytes is stored to. -/
theorem PqL.byt (q : PqL tyB B w D P R Bn T S O K v d.l d.ops L M p d c) (hc : Ce B w K R Bn T S O d.l d.ops) {m : Nat} (hm : Ty c m 60) (hn : w.heap.size ≤ m) (u : Value) : PqL tyB B w D P R Bn T S O K v d.l d.ops L M p d (c.setCell ⟨m, 0, none⟩ u) := by
  have t : Tch ⟨fun _ => True⟩ [60] c (c.setCell ⟨m, 0, none⟩ u) := (Tch.refl _ _ _).set trivial hm (by simp) _
  have t2 := q.t.setNew (p := ⟨m, 0, none⟩) hn u
  exact ⟨Row.tch t q.row (by decide), hc.tq t2 (by unfold NoCap; decide) (by decide) (by decide) (by decide) (by decide), q.ft.tch t (by decide), q.vl, q.pw.tch t (by decide), q.low, q.pl, t2⟩
end
set_option maxHeartbeats 4000000 in
set_option maxRecDepth 100000 in
theorem prd1_any {B : Zn} {w0 c : World} {D P R Bn T S O K : Nat} {v : Value} {L : List F} {p : Dsk.Pw} {d : Dsk.Dk} (hc : Ce B w0 K R Bn T S O d.l d.ops) (q0 : PqL tyB B w0 D P R Bn T S O K v d.l d.ops L (Dsk.rest L d.count) p d c) (b k m : Nat) (a : Int) (hb : DBox c b D) (hk : Row c k 3 #[.int .i64 a]) (hm : Row c m 60 #[.slice none 0 0]) (hmw : w0.heap.size ≤ m) (f : F) :
    Calls Try.prog 58 #[fV f, .pointer (some ⟨b, 0, none⟩), .pointer (some ⟨k, 0, none⟩), .pointer (some ⟨m, 0, none⟩)] c (wkPost B D P R Bn T S O L p (Dsk.rd1E R Bn T S O d f a) d (fun c' => ∃ u, Row c' m 60 #[u] ∧ OwF c' w0.heap.size u (bOf (Dsk.rd1B R Bn T S O d f a))) w0) := by
  obtain ⟨hg, hl⟩ := hc.facts
  have FIN := Lib.hid fun c' v' (q : PqL tyB B w0 D P R Bn T S O K v' d.l d.ops L (Dsk.rest L d.count) p d c') => q.fin rfl rfl rfl
  have SZ0 := Lib.hid (Tch.size q0.t)
  obtain ⟨x, y, z⟩ := f
  unfold fV
  obtain ⟨b4, e4⟩ : ∃ b, c.heap.size = b := ⟨_, rfl⟩
  obtain ⟨W0, hW0⟩ : ∃ q, c.alloc (.cells #[.int .i64 x, .int .i64 y, .int .i64 z] 80) = q := ⟨_, rfl⟩
  have B0 : Below c.heap.size c W0 := by subst hW0; exact (Below.refl _ _).alloc (Nat.le_refl _) _
  have R4 : Hid (Row W0 b4 80 #[.int .i64 x, .int .i64 y, .int .i64 z]) := Lib.hid (by subst hW0; exact new13 c _ _ e4)
  have Q0 := Lib.hid (q0.fw B0)
  have RB := Lib.hid (hb.go B0)
  have RK := Lib.hid (hk.go B0)
  have RM := Lib.hid (hm.go B0)
  have b0 : W0.cell? ⟨b, 0, none⟩ = some (.pointer (some ⟨D, 0, none⟩)) := by rw [RB.out.cell]; rfl
  have k0 : W0.cell? ⟨k, 0, none⟩ = some (.int .i64 a) := by rw [RK.out.cell]; rfl
  have HA := Lib.hid (pdhas_any Q0.out.row hl hg a)
  have HL := Lib.hid hl
  have HG := Lib.hid hg
  have HC := Lib.hid hc
  have MW := Lib.hid hmw
  have E4 := Lib.hid e4
  have HW0 := Lib.hid hW0
  have SZ : Hid (w0.heap.size ≤ W0.heap.size) := Lib.hid (by have := SZ0.out; have := B0.size; omega)
  clear hc hb hk hm hmw q0 e4 hW0 B0 hg hl SZ0
  by_cases h1 : Dsk.has d a
  · have E1 : Hid (Dsk.rd1E R Bn T S O d ⟨x, y, z⟩ a = if y = 4 then 15 else if rdE (Dsk.cont R Bn T S O d) (if y = 5 then z else a) = 0 then 0 else 15) := Lib.hid (by unfold Dsk.rd1E; rw [if_neg (not_not_intro h1)])
    rw [show decide (0 ≤ a ∧ a < d.l.length) = true from decide_eq_true h1] at HA
    have HAS := Lib.hid h1
    clear h1
    by_cases y4 : y = 4
    · have E2 : Hid (Dsk.rd1E R Bn T S O d ⟨x, y, z⟩ a = 15) := Lib.hid (by rw [E1.out, if_pos y4])
      have E3 : Hid (Dsk.rd1B R Bn T S O d ⟨x, y, z⟩ a = ByteArray.empty) := Lib.hid (by unfold Dsk.rd1B; rw [E2.out, if_neg (by decide)])
      have d4 : (y == 4) = true := by simp [y4]
      rw [E2.out, E3.out]
      clear y4
      go_enter Try.func58, Try.ntmps58
      go_wp2_with (first | rw [HW0.out, E4.out])
      refine HA.out.mono ?_
      rintro e w1 ⟨rfl, hb⟩
      have Q1 := Lib.hid (Q0.out.fw hb)
      have M1 := Lib.hid (RM.out.go hb)
      obtain ⟨r0, r1, r2⟩ := row3 (R4.out.go hb)
      have k1 : w1.cell? ⟨k, 0, none⟩ = some (.int .i64 a) := by rw [(RK.out.go hb).cell]; rfl
      clear hb b0 k0
      go_wp2_with fail
      go_ret
      obtain ⟨q1, q2, q3⟩ := FIN.out _ _ Q1.out
      exact ⟨rfl, q1, q2, q3.mono (fun _ h => h) (by decide), _, M1.out, OwF.nil14 _ _⟩
    · have d4 : (y == 4) = false := by simp [y4]
      by_cases y5 : y = 5
      · have d5 : (y == 5) = true := by simp [y5]
        by_cases hz : 0 ≤ z ∧ z < d.l.length
        · have HZT : Hid (decide (0 ≤ z ∧ z < d.l.length) = true) := Lib.hid (decide_eq_true hz)
          obtain ⟨er, her⟩ : ∃ q, rdE (Dsk.cont R Bn T S O d) z = q := ⟨_, rfl⟩
          obtain ⟨sb, hsb⟩ : ∃ q, rdB (Dsk.cont R Bn T S O d) z = q := ⟨_, rfl⟩
          have ER : er = 0 ∨ er = 15 := by
            rw [← her]; unfold rdE
            rw [if_pos (by rw [Dsk.cont_len]; exact hz)]
            split <;> simp
          have E2 : Hid (Dsk.rd1E R Bn T S O d ⟨x, y, z⟩ a = er) := Lib.hid (by
            rw [E1.out, if_neg y4, if_pos y5, her]
            rcases ER with e | e <;> rw [e] <;> rfl)
          have E3 : Hid (Dsk.rd1B R Bn T S O d ⟨x, y, z⟩ a = sb) := Lib.hid (by
            unfold Dsk.rd1B
            rw [E2.out]
            by_cases e0 : er = 0
            · rw [if_pos e0]
              show rdB (Dsk.cont R Bn T S O d) (if y = 5 then z else a) = sb
              rw [if_pos y5, hsb]
            · rw [if_neg e0, ← hsb, rdB_no (by rw [her]; exact e0)])
          rw [E2.out, E3.out]
          have HE := Lib.hid her
          have HS := Lib.hid hsb
          clear her hsb y4 y5 hz ER
          go_enter Try.func58, Try.ntmps58
          go_wp2_with (first | rw [HW0.out, E4.out])
          refine HA.out.mono ?_
          rintro e w1 ⟨rfl, hb⟩
          have Q1 := Lib.hid (Q0.out.fw hb)
          have M1 := Lib.hid (RM.out.go hb)
          have B1 := Lib.hid (RB.out.go hb)
          have SZ1 := Lib.hid (Nat.le_trans SZ.out hb.size)
          have HB1 := Lib.hid hb
          obtain ⟨r0, r1, r2⟩ := row3 (R4.out.go hb)
          have k1 : w1.cell? ⟨k, 0, none⟩ = some (.int .i64 a) := by rw [(RK.out.go hb).cell]; rfl
          have b1 : w1.cell? ⟨b, 0, none⟩ = some (.pointer (some ⟨D, 0, none⟩)) := by rw [B1.out.cell]; rfl
          have HZ := Lib.hid (pdhas_any Q1.out.row HL.out HG.out z)
          rw [HZT.out] at HZ
          clear hb b0 k0
          go_wp2_with fail
          refine HZ.out.mono ?_
          rintro e w2 ⟨rfl, hb⟩
          have Q2 := Lib.hid (Q1.out.fw hb)
          have M2 := Lib.hid (M1.out.go hb)
          have SZ2 := Lib.hid (Nat.le_trans SZ1.out hb.size)
          obtain ⟨s0, s1, s2⟩ := row3 (Row.go (Row.go R4.out HB1.out) hb)
          have b2 : w2.cell? ⟨b, 0, none⟩ = some (.pointer (some ⟨D, 0, none⟩)) := by rw [(B1.out.go hb).cell]; rfl
          clear hb b1 k1 r0 r1 r2
          have a10 := Q2.out.row.oths.1
          have RD := Lib.hid (crd_any Q2.out.ce z)
          unfold rdPost at RD
          rw [show Med.play R Bn T S O d.l d.ops = Dsk.cont R Bn T S O d from rfl] at RD
          rw [HS.out] at RD
          rw [HE.out] at RD
          go_wp2_with fail
          refine RD.out.mono ?_
          rintro e w5 ⟨u, rfl, hu, hb⟩
          have Q5 := Lib.hid (Q2.out.fw hb)
          have M5 := Lib.hid (M2.out.go hb)
          have HU := Lib.hid (hu.low SZ2.out)
          obtain ⟨A, cc, rfl⟩ := hu.1.form
          have c5 : w5.cell? ⟨m, 0, none⟩ = some (.slice none 0 0) := by rw [M5.out.cell]; rfl
          have f5 := M5.out.frozen 0
          obtain ⟨kk, hkk⟩ : ∃ k, (bOf sb).length = k := ⟨_, rfl⟩
          rw [hkk] at HU ⊢
          have Q6 := Lib.hid (Q5.out.byt HC.out M5.out.ty MW.out (.slice A kk cc))
          have M6 := Lib.hid (M5.out.store 0 (.slice A kk cc))
          have U6 := Lib.hid (HU.out.tch (w' := w5.setCell ⟨m, 0, none⟩ (.slice A kk cc)) ((Tch.refl ⟨fun _ => True⟩ [60] _).set trivial M5.out.ty (by simp) _) (by decide))
          clear hu hb RD hkk
          go_wp2_with fail
          go_ret
          obtain ⟨q1, q2, q3⟩ := FIN.out _ _ Q6.out
          exact ⟨rfl, q1, q2, q3.mono (fun _ h => h) (by decide), _, M6.out, U6.out⟩
        · have HZT : Hid (decide (0 ≤ z ∧ z < d.l.length) = false) := Lib.hid (decide_eq_false hz)
          have E2 : Hid (Dsk.rd1E R Bn T S O d ⟨x, y, z⟩ a = 15) := Lib.hid (by
            rw [E1.out, if_neg y4, if_pos y5, if_neg]
            unfold rdE
            rw [if_neg (by rw [Dsk.cont_len]; exact hz)]
            decide)
          have E3 : Hid (Dsk.rd1B R Bn T S O d ⟨x, y, z⟩ a = ByteArray.empty) := Lib.hid (by unfold Dsk.rd1B; rw [E2.out, if_neg (by decide)])
          rw [E2.out, E3.out]
          clear y4 y5 hz
          go_enter Try.func58, Try.ntmps58
          go_wp2_with (first | rw [HW0.out, E4.out])
          refine HA.out.mono ?_
          rintro e w1 ⟨rfl, hb⟩
          have Q1 := Lib.hid (Q0.out.fw hb)
          have M1 := Lib.hid (RM.out.go hb)
          have B1 := Lib.hid (RB.out.go hb)
          have SZ1 := Lib.hid (Nat.le_trans SZ.out hb.size)
          obtain ⟨r0, r1, r2⟩ := row3 (R4.out.go hb)
          have k1 : w1.cell? ⟨k, 0, none⟩ = some (.int .i64 a) := by rw [(RK.out.go hb).cell]; rfl
          have b1 : w1.cell? ⟨b, 0, none⟩ = some (.pointer (some ⟨D, 0, none⟩)) := by rw [B1.out.cell]; rfl
          have HZ := Lib.hid (pdhas_any Q1.out.row HL.out HG.out z)
          rw [HZT.out] at HZ
          clear hb b0 k0
          go_wp2_with fail
          refine HZ.out.mono ?_
          rintro e w2 ⟨rfl, hb⟩
          have Q2 := Lib.hid (Q1.out.fw hb)
          have M2 := Lib.hid (M1.out.go hb)
          clear hb
          go_wp2_with fail
          go_ret
          obtain ⟨q1, q2, q3⟩ := FIN.out _ _ Q2.out
          exact ⟨rfl, q1, q2, q3.mono (fun _ h => h) (by decide), _, M2.out, OwF.nil14 _ _⟩
      · have d5 : (y == 5) = false := by simp [y5]
        obtain ⟨er, her⟩ : ∃ q, rdE (Dsk.cont R Bn T S O d) a = q := ⟨_, rfl⟩
        obtain ⟨sb, hsb⟩ : ∃ q, rdB (Dsk.cont R Bn T S O d) a = q := ⟨_, rfl⟩
        have ER : er = 0 ∨ er = 15 := by
          rw [← her]; unfold rdE
          rw [if_pos (by rw [Dsk.cont_len]; exact HAS.out)]
          split <;> simp
        have E2 : Hid (Dsk.rd1E R Bn T S O d ⟨x, y, z⟩ a = er) := Lib.hid (by
          rw [E1.out, if_neg y4, if_neg y5, her]
          rcases ER with e | e <;> rw [e] <;> rfl)
        have E3 : Hid (Dsk.rd1B R Bn T S O d ⟨x, y, z⟩ a = sb) := Lib.hid (by
          unfold Dsk.rd1B
          rw [E2.out]
          by_cases e0 : er = 0
          · rw [if_pos e0]
            show rdB (Dsk.cont R Bn T S O d) (if y = 5 then z else a) = sb
            rw [if_neg y5, hsb]
          · rw [if_neg e0, ← hsb, rdB_no (by rw [her]; exact e0)])
        rw [E2.out, E3.out]
        have HE := Lib.hid her
        have HS := Lib.hid hsb
        clear her hsb y4 y5 ER
        go_enter Try.func58, Try.ntmps58
        go_wp2_with (first | rw [HW0.out, E4.out])
        refine HA.out.mono ?_
        rintro e w1 ⟨rfl, hb⟩
        have Q1 := Lib.hid (Q0.out.fw hb)
        have M1 := Lib.hid (RM.out.go hb)
        have B1 := Lib.hid (RB.out.go hb)
        have SZ1 := Lib.hid (Nat.le_trans SZ.out hb.size)
        obtain ⟨r0, r1, r2⟩ := row3 (R4.out.go hb)
        have k1 : w1.cell? ⟨k, 0, none⟩ = some (.int .i64 a) := by rw [(RK.out.go hb).cell]; rfl
        have b1 : w1.cell? ⟨b, 0, none⟩ = some (.pointer (some ⟨D, 0, none⟩)) := by rw [B1.out.cell]; rfl
        clear hb b0 k0
        have a10 := Q1.out.row.oths.1
        have RD := Lib.hid (crd_any Q1.out.ce a)
        unfold rdPost at RD
        rw [show Med.play R Bn T S O d.l d.ops = Dsk.cont R Bn T S O d from rfl] at RD
        rw [HS.out] at RD
        rw [HE.out] at RD
        go_wp2_with fail
        refine RD.out.mono ?_
        rintro e w5 ⟨u, rfl, hu, hb⟩
        have Q5 := Lib.hid (Q1.out.fw hb)
        have M5 := Lib.hid (M1.out.go hb)
        have HU := Lib.hid (hu.low SZ1.out)
        obtain ⟨A, cc, rfl⟩ := hu.1.form
        have c5 : w5.cell? ⟨m, 0, none⟩ = some (.slice none 0 0) := by rw [M5.out.cell]; rfl
        have f5 := M5.out.frozen 0
        obtain ⟨kk, hkk⟩ : ∃ k, (bOf sb).length = k := ⟨_, rfl⟩
        rw [hkk] at HU ⊢
        have Q6 := Lib.hid (Q5.out.byt HC.out M5.out.ty MW.out (.slice A kk cc))
        have M6 := Lib.hid (M5.out.store 0 (.slice A kk cc))
        have U6 := Lib.hid (HU.out.tch (w' := w5.setCell ⟨m, 0, none⟩ (.slice A kk cc)) ((Tch.refl ⟨fun _ => True⟩ [60] _).set trivial M5.out.ty (by simp) _) (by decide))
        clear hu hb RD hkk
        go_wp2_with fail
        go_ret
        obtain ⟨q1, q2, q3⟩ := FIN.out _ _ Q6.out
        exact ⟨rfl, q1, q2, q3.mono (fun _ h => h) (by decide), _, M6.out, U6.out⟩
  · have E1 : Hid (Dsk.rd1E R Bn T S O d ⟨x, y, z⟩ a = 2) := Lib.hid (by unfold Dsk.rd1E; rw [if_pos h1])
    have E2 : Hid (Dsk.rd1B R Bn T S O d ⟨x, y, z⟩ a = ByteArray.empty) := Lib.hid (by unfold Dsk.rd1B; rw [E1.out, if_neg (by decide)])
    rw [show decide (0 ≤ a ∧ a < d.l.length) = false from decide_eq_false h1] at HA
    rw [E1.out, E2.out]
    clear h1
    go_enter Try.func58, Try.ntmps58
    go_wp2_with (first | rw [HW0.out, E4.out])
    refine HA.out.mono ?_
    rintro e w1 ⟨rfl, hb⟩
    have Q1 := Lib.hid (Q0.out.fw hb)
    have M1 := Lib.hid (RM.out.go hb)
    clear hb
    go_wp2_with fail
    go_ret
    obtain ⟨q1, q2, q3⟩ := FIN.out _ _ Q1.out
    exact ⟨rfl, q1, q2, q3.mono (fun _ h => h) (by decide), _, M1.out, OwF.nil14 _ _⟩
/-- What Read leaves. -/
def prdkPost (B : Zn) (D P R Bn T S O : Nat) (L : List F) (E : Int) (s : ByteArray) (p : Dsk.Pw) (d : Dsk.Dk) (w : World) (e : Ending) (w' : World) : Prop :=
  ∃ u, e = .returned (.tuple #[u, .int .i64 E]) ∧ OwF w' w.heap.size u (bOf s) ∧ PDk B w' D P R Bn T S O L d ∧ PPw w' P p ∧ Tch B tyD w w'
theorem Dsk.beF_cnt {fa : Nat → F} {p : Dsk.Pw} {d : Dsk.Dk} {key : Nat} (h : Dsk.beE fa p d key = 0) : Dsk.beF fa p d key = fa d.count := by
  unfold Dsk.beF; rw [if_pos (Dsk.beE_cnt fa h)]
theorem Dsk.read_cnt {fa : Nat → F} (R B T S O : Nat) {p : Dsk.Pw} {d : Dsk.Dk} {key : Nat} (a : Int) (h : Dsk.beE fa p d key = 0) :
    Dsk.readE fa R B T S O p d key a = Dsk.rd1E R B T S O (Dsk.beD fa p d key) (fa d.count) a ∧ Dsk.readB fa R B T S O p d key a = Dsk.rd1B R B T S O (Dsk.beD fa p d key) (fa d.count) a ∧
    Dsk.readD fa R B T S O p d key a = if Dsk.rd1E R B T S O (Dsk.beD fa p d key) (fa d.count) a = 0 then Dsk.bump 0 (Dsk.beD fa p d key) else Dsk.beD fa p d key := by
  have FL := Dsk.beD_flds fa p d key
  have c1 : Dsk.cont R B T S O (Dsk.beD fa p d key) = Dsk.cont R B T S O d := by unfold Dsk.cont; rw [FL.1, FL.2.1]
  have c2 : Dsk.has (Dsk.beD fa p d key) a ↔ Dsk.has d a := by unfold Dsk.has; rw [FL.1]
  have e : Dsk.readE fa R B T S O p d key a = Dsk.rd1E R B T S O (Dsk.beD fa p d key) (fa d.count) a := by
    unfold Dsk.readE Dsk.rd1E Dsk.rdA
    rw [if_neg (not_not_intro h), Dsk.beF_cnt h, c1]
    simp only [c2]
  refine ⟨e, ?_, ?_⟩
  · unfold Dsk.readB Dsk.rd1B Dsk.rdA
    rw [e, Dsk.beF_cnt h, c1]
  · unfold Dsk.readD
    rw [e]
    split
    · unfold Dsk.bump; rw [if_pos rfl, FL.2.2.2.2.2.1]
    · rfl
set_option maxHeartbeats 4000000 in
set_option maxRecDepth 100000 in
theorem prd14_any {B : Zn} {w : World} {D P R Bn T S O : Nat} {L : List F} {p : Dsk.Pw} {d : Dsk.Dk} (h : PDk B w D P R Bn T S O L d) (hp : PPw w P p) (hP : B.fr P) {n : Nat} (hf : p.fit n) (hn : n < 4611686018427387904) (hct : d.count < 4611686018427387904) (hrs : d.rs < 4611686018427387904) (key : Nat) (a : Int) :
    Calls Try.prog 31 #[.pointer (some ⟨D, 0, none⟩), .int .u64 (key : Int), .int .i64 a] w (prdkPost B D P R Bn T S O L (Dsk.readE (faL L) R Bn T S O p d key a) (Dsk.readB (faL L) R Bn T S O p d key a) (Dsk.beP p d) (Dsk.readD (faL L) R Bn T S O p d key a) w) := by
  have FL := Dsk.beD_flds (faL L) p d key
  obtain ⟨b0, hb0⟩ : ∃ b, w.heap.size = b := ⟨_, rfl⟩
  obtain ⟨W0, hW0⟩ : ∃ q, w.alloc (.cells #[.pointer (some ⟨D, 0, none⟩)] 30) = q := ⟨_, rfl⟩
  obtain ⟨b1, hb1⟩ : ∃ b, W0.heap.size = b := ⟨_, rfl⟩
  obtain ⟨W1, hW1⟩ : ∃ q, W0.alloc (.cells #[.int .i64 a] 3) = q := ⟨_, rfl⟩
  obtain ⟨b2, hb2⟩ : ∃ b, W1.heap.size = b := ⟨_, rfl⟩
  obtain ⟨W2, hW2⟩ : ∃ q, W1.alloc (.cells #[.slice none 0 0] 60) = q := ⟨_, rfl⟩
  have B0 : Below w.heap.size w W0 := by subst hW0; exact (Below.refl _ _).alloc (Nat.le_refl _) _
  have B1 : Below W0.heap.size W0 W1 := by subst hW1; exact (Below.refl _ _).alloc (Nat.le_refl _) _
  have B2 : Below W1.heap.size W1 W2 := by subst hW2; exact (Below.refl _ _).alloc (Nat.le_refl _) _
  have B3 : Below w.heap.size w W2 := (B0.trans (B1.mono B0.size)).trans (B2.mono (Nat.le_trans B0.size B1.size))
  have R0 : DBox W2 b0 D := Row.go (Row.go (by subst hW0; exact gr_new w _ _ hb0) B1) B2
  have R1 : Row W2 b1 3 #[.int .i64 a] := Row.go (by subst hW1; exact gr_new W0 _ _ hb1) B2
  have R2 : Row W2 b2 60 #[.slice none 0 0] := by subst hW2; exact gr_new W1 _ _ hb2
  have c0 : W2.cell? ⟨b0, 0, none⟩ = some (.pointer (some ⟨D, 0, none⟩)) := by rw [R0.cell]; rfl
  have MW : w.heap.size ≤ b2 := by have := B0.size; have := B1.size; omega
  have OP := Lib.hid (pop_any B3 h hp hP hf hn hct key 0 (by decide) 58 [.pointer (some ⟨b0, 0, none⟩), .pointer (some ⟨b1, 0, none⟩), .pointer (some ⟨b2, 0, none⟩)] (fun _ _ => by kernel_rfl) (Dsk.rd1E R Bn T S O (Dsk.beD (faL L) p d key) (faL L d.count) a) (Dsk.beD (faL L) p d key) (by show (Dsk.beD (faL L) p d key).rs < _; rw [FL.2.2.2.2.2.1]; exact hrs)
    (fun c' => ∃ u, Row c' b2 60 #[u] ∧ OwF c' w.heap.size u (bOf (Dsk.rd1B R Bn T S O (Dsk.beD (faL L) p d key) (faL L d.count) a))) (fun _ _ ⟨u, hu, ho⟩ ht => ⟨u, hu.tch ht (by decide), ho.tch ht (by decide)⟩)
    (fun h0 c K v hc q h3 => prd1_any (by rw [FL.1, FL.2.1]; exact hc) (by rw [FL.1, FL.2.1, Dsk.beD_count h0]; exact q) b0 b1 b2 a (R0.tch h3 (by decide)) (R1.tch h3 (by decide)) (R2.tch h3 (by decide)) MW _))
  have FIN : Hid (∀ e w', opnPost B D P R Bn T S O L p d key 0 (Dsk.rd1E R Bn T S O (Dsk.beD (faL L) p d key) (faL L d.count) a) (Dsk.beD (faL L) p d key) (fun c' => ∃ u, Row c' b2 60 #[u] ∧ OwF c' w.heap.size u (bOf (Dsk.rd1B R Bn T S O (Dsk.beD (faL L) p d key) (faL L d.count) a))) w W2 e w' →
      e = .returned (.int .i64 (Dsk.readE (faL L) R Bn T S O p d key a)) ∧ (∃ u, Row w' b2 60 #[u] ∧ OwF w' w.heap.size u (bOf (Dsk.readB (faL L) R Bn T S O p d key a))) ∧
      PDk B w' D P R Bn T S O L (Dsk.readD (faL L) R Bn T S O p d key a) ∧ PPw w' P (Dsk.beP p d) ∧ Tch B tyD w w') := Lib.hid (by
    rintro e w' ⟨q1, q2, q3, q4, q5, q6⟩
    by_cases h0 : Dsk.beE (faL L) p d key = 0
    · obtain ⟨e1, e2, e3⟩ := Dsk.read_cnt R Bn T S O a h0
      rw [if_neg (not_not_intro h0)] at q1 q2
      exact ⟨by rw [q1, e1], by rw [e2]; exact q5 h0, by rw [e3]; exact q2, q3, q4⟩
    · rw [if_pos h0] at q1 q2
      have e1 : Dsk.readE (faL L) R Bn T S O p d key a = Dsk.beE (faL L) p d key := by unfold Dsk.readE; rw [if_pos h0]
      have e2 : Dsk.readB (faL L) R Bn T S O p d key a = ByteArray.empty := by unfold Dsk.readB; rw [e1, if_neg h0]
      have e3 : Dsk.readD (faL L) R Bn T S O p d key a = Dsk.beD (faL L) p d key := by unfold Dsk.readD; rw [e1, if_neg h0]
      exact ⟨by rw [q1, e1], ⟨_, R2.tch (q6 h0) (by decide), by rw [e2]; exact OwF.nil14 _ _⟩, by rw [e3]; exact q2, q3, q4⟩)
  have HB0 := Lib.hid hb0
  have HW0 := Lib.hid hW0
  have HB1 := Lib.hid hb1
  have HW1 := Lib.hid hW1
  have HB2 := Lib.hid hb2
  have HW2 := Lib.hid hW2
  clear h hp hP hf hn hct hrs FL hb0 hW0 hb1 hW1 hb2 hW2 B0 B1 B2 B3 R0 R1 R2 MW
  go_enter Try.func31, Try.ntmps31
  go_wp2_with (first | rw [HB0.out] | rw [HW0.out] | rw [HB1.out] | rw [HW1.out] | rw [HB2.out] | rw [HW2.out])
  refine OP.out.mono ?_
  intro e w1 hq
  have Q := Lib.hid (FIN.out _ _ hq)
  obtain ⟨rfl, ⟨u, hu, ho⟩, -⟩ := id Q.out
  have u2 : w1.cell? ⟨b2, 0, none⟩ = some u := by rw [hu.cell]; rfl
  have HO := Lib.hid ho
  obtain ⟨A, cc, rfl⟩ := ho.1.form
  clear hq OP hu ho FIN
  generalize Dsk.readE (faL L) R Bn T S O p d key a = E at *
  obtain ⟨kk, hkk⟩ : ∃ k, (bOf (Dsk.readB (faL L) R Bn T S O p d key a)).length = k := ⟨_, rfl⟩
  rw [hkk] at HO u2
  clear hkk
  go_wp2_with fail
  refine bodyPost_ret (results_tmp2 rfl _ _ _) rfl ?_
  obtain ⟨q1, q2, q3, q4, q5⟩ := Q.out
  exact ⟨_, rfl, HO.out, q3, q4, q5⟩
end Go.Proofs.Ytdjjihppaobbcaa
