/- Layer 14: contract of the reference: begin. WRITTEN BY gen_Dkc.py. -/
import Derived.Test.YtdjjihppaobbcaaDkb
namespace Go.Proofs.Ytdjjihppaobbcaa
open Go Go.RowKit Med Flt
set_option linter.unusedVariables false
set_option linter.unusedSimpArgs false
/-- The fault of a number. -/
abbrev faL (L : List F) : Nat → F := fun n => fF (fnd (n : Int) L)
def bePost (B : Zn) (D P R Bn T S O : Nat) (L : List F) (p : Dsk.Pw) (d : Dsk.Dk) (key : Nat) (w : World) (e : Ending) (w' : World) : Prop :=
  e = .returned (.tuple #[fV (Dsk.beF (faL L) p d key), .int .i64 (Dsk.beE (faL L) p d key)]) ∧ RDk B w' D P R Bn T S O L (Dsk.beD (faL L) p d key) ∧ RPw w' P (Dsk.beP p d) ∧ Tch B tyQ w w'
abbrev OO (w : World) (D P : Nat) : Nat → Prop := fun k => w.heap.size ≤ k ∨ k = D ∨ k = P
/-- What is known on the way. -/
structure Bw (w : World) (D P R Bn T S O K : Nat) (v : Value) (b : Nat) (x y z : Int) (p : Dsk.Pw) (d : Dsk.Dk) (c : World) : Prop where
  r : Row c b 80 #[.int .i64 x, .int .i64 y, .int .i64 z]
  dr : DRow c D R Bn T S O K P v d
  pr : RPw c P p
  g : Chg (OO w D P) w c
  new : w.heap.size ≤ b
  old : D < w.heap.size ∧ P < w.heap.size
  dp : D ≠ P
theorem si13q : (Try.prog.info? 80).map (·.size) = some 3 := by kernel_rfl
theorem thr13 {w : World} {g : Nat} {t : TypeId} {x y z : Value} (h : Row w g t #[x, y, z]) : w.there g 0 3 := by
  intro j hj
  rw [Nat.zero_add]
  refine ⟨?_, h.frozen j⟩
  rw [h.cell]
  match j, hj with
  | 0, _ => rfl
  | 1, _ => rfl
  | 2, _ => rfl
theorem row_rg {w : World} {b : Nat} {t : TypeId} {x y z : Int} (h : Row w b t #[.int .i64 x, .int .i64 y, .int .i64 z]) : w.rangeAt b 0 [.int .i64 x, .int .i64 y, .int .i64 z] := by
  intro j v hv
  rw [Nat.zero_add, h.cell]
  simpa using hv
section
variable {w c c' : World} {D P R Bn T S O K b : Nat} {v : Value} {x y z : Int} {p p' : Dsk.Pw} {d d' : Dsk.Dk}
theorem Bw.fw (h : Bw w D P R Bn T S O K v b x y z p d c) (hb : Below c.heap.size c c') : Bw w D P R Bn T S O K v b x y z p d c' :=
  ⟨rw13 h.r hb, Row.go h.dr hb, h.pr.fw hb, h.g.trans (below_chg hb _), h.new, h.old, h.dp⟩
theorem Row.oth {g k : Nat} {t : TypeId} {cs : Array Value} (h : Row c g t cs) (hk : g ≠ k) (i : Nat) (u : Value) : Row (c.setCell ⟨k, i, none⟩ u) g t cs := (Below.heap_setCell c ⟨k, i, none⟩ u g hk).trans h
theorem Bw.pow (h : Bw w D P R Bn T S O K v b x y z p d c) (hp : RPw c' P p') (hc : Chg (fun j => j = P) c c') : Bw w D P R Bn T S O K v b x y z p' d c' :=
  ⟨(hc.block b h.r.lt fun e => by have := h.new; have := h.old; omega).trans h.r, (hc.block D (Row.lt h.dr) h.dp).trans h.dr, hp, h.g.trans (hc.mono fun k e => Or.inr (Or.inr e)), h.new, h.old, h.dp⟩
/-- The result is stored. -/
theorem Bw.res (h : Bw w D P R Bn T S O K v b x y z p d c) (x' y' z' : Int) : Bw w D P R Bn T S O K v b x' y' z' p d (((c.setCell ⟨b, 0, none⟩ (.int .i64 x')).setCell ⟨b, 1, none⟩ (.int .i64 y')).setCell ⟨b, 2, none⟩ (.int .i64 z')) := by
  have n1 : D ≠ b := by have := h.new; have := h.old; omega
  have n2 : P ≠ b := by have := h.new; have := h.old; omega
  refine ⟨row_set3 h.r, Row.oth (Row.oth (Row.oth h.dr n1 _ _) n1 _ _) n1 _ _, Row.oth (t := 118) (cs := pwc p) (Row.oth (t := 118) (cs := pwc p) (Row.oth (t := 118) (cs := pwc p) h.pr n2 _ _) n2 _ _) n2 _ _, ?_, h.new, h.old, h.dp⟩
  exact ((h.g.setCell (p := ⟨b, 0, none⟩) (Or.inl h.new) _).setCell (p := ⟨b, 1, none⟩) (Or.inl h.new) _).setCell (p := ⟨b, 2, none⟩) (Or.inl h.new) _
/-- A field of the disk is stored. -/
theorem Bw.dsk (h : Bw w D P R Bn T S O K v b x y z p d c) (i : Nat) (u : Value) (e : (dkc R Bn T S O K P v d).setIfInBounds i u = dkc R Bn T S O K P v d') : Bw w D P R Bn T S O K v b x y z p d' (c.setCell ⟨D, i, none⟩ u) :=
  ⟨Row.oth h.r (by have := h.new; have := h.old; omega) _ _, by have := Row.store h.dr i u; rw [e] at this; exact this, Row.oth (t := 118) (cs := pwc p) h.pr (fun e => h.dp e.symm) _ _, h.g.setCell (p := ⟨D, i, none⟩) (Or.inr (Or.inl rfl)) _, h.new, h.old, h.dp⟩
theorem Bw.cells (h : Bw w D P R Bn T S O K v b x y z p d c) : (c.cell? ⟨b, 0, none⟩ = some (.int .i64 x) ∧ c.cell? ⟨b, 1, none⟩ = some (.int .i64 y) ∧ c.cell? ⟨b, 2, none⟩ = some (.int .i64 z)) ∧ c.frozen? ⟨b, 0, none⟩ = false ∧ c.frozen? ⟨b, 1, none⟩ = false ∧ c.frozen? ⟨b, 2, none⟩ = false :=
  ⟨row3 h.r, h.r.frozen 0, h.r.frozen 1, h.r.frozen 2⟩
end
theorem Owf.oo {w c : World} {D P : Nat} {v : Value} {L : List F} (h : Owf 0 w v L) (hD : Ty w D 69) (hP : Ty w P 118) (hg : Chg (OO w D P) w c) : Owf 0 c v L := by
  have t : Tch ⟨fun _ => True⟩ [69, 118] w c := by
    refine ⟨hg.os, hg.tape, hg.output, hg.size, fun k hk hn => hg.block k hk fun h => hn ⟨trivial, ?_⟩⟩
    rcases h with h | rfl | rfl
    · omega
    · exact ⟨_, by simp, hD⟩
    · exact ⟨_, by simp, hP⟩
  exact h.tch t (by decide)
set_option maxHeartbeats 4000000 in
set_option maxRecDepth 100000 in
theorem rbe_any {B : Zn} {w : World} {D P R Bn T S O : Nat} {L : List F} {p : Dsk.Pw} {d : Dsk.Dk} (h : RDk B w D P R Bn T S O L d) (hp : RPw w P p) (hP : B.fr P) {n : Nat} (hf : p.fit n) (hn : n < 4611686018427387904) (hct : d.count < 4611686018427387904) (key : Nat) :
    Calls Try.prog 77 #[.pointer (some ⟨D, 0, none⟩), .int .u64 (key : Int)] w (bePost B D P R Bn T S O L p d key w) := by
  obtain ⟨⟨K, v, hr, hre, ho⟩, hlow⟩ := h
  have UPD := Lib.hid fun c d' (b : Nat) (x y z : Int) p' (q : Bw w D P R Bn T S O K v b x y z p' d' c) (h1 : d'.l = d.l) (h2 : d'.ops = d.ops) => RDk.upd hr hre ho hlow hp.ty q.g q.dr h1 h2
  have TQ := Lib.hid fun c (hg : Chg (OO w D P) w c) => Chg.tyQ hr hlow hp.ty hP hg
  have DP : D ≠ P := (Row.ty hr).ne hp.ty (by decide)
  have OLD : D < w.heap.size ∧ P < w.heap.size := ⟨(Row.ty hr).lt, hp.ty.lt⟩
  have HF := Lib.hid hf
  have HN := Lib.hid hn
  have HC := Lib.hid hct
  have HO := Lib.hid ho
  have OA := Lib.hid fun c (g : Chg (OO w D P) w c) => ho.oo (Row.ty hr) hp.ty g
  obtain ⟨b4, e4⟩ : ∃ b, w.heap.size = b := ⟨_, rfl⟩
  obtain ⟨w0, hw0⟩ : ∃ x, w.alloc (.cells #[.int .i64 0, .int .i64 0, .int .i64 0] 80) = x := ⟨_, rfl⟩
  have B0 : Below w.heap.size w w0 := by subst hw0; exact (Below.refl _ _).alloc (Nat.le_refl _) _
  have Q0 : Hid (Bw w D P R Bn T S O K v b4 0 0 0 p d w0) := Lib.hid ⟨by subst hw0; exact new13 w _ _ e4, Row.go hr B0, hp.fw B0, below_chg B0 _, by omega, OLD, DP⟩
  have E4 := Lib.hid e4
  have HW0 := Lib.hid hw0
  clear hr hre ho hlow hp hP hf hn hct DP OLD e4 hw0 B0
  have fin : Hid (∀ c (f : F) (E : Int) p' d', Bw w D P R Bn T S O K v b4 f.pos f.kind f.to p' d' c → Dsk.beF (faL L) p d key = f → Dsk.beE (faL L) p d key = E → Dsk.beP p d = p' → Dsk.beD (faL L) p d key = d' → d'.l = d.l → d'.ops = d.ops → bePost B D P R Bn T S O L p d key w (.returned (.tuple #[fV f, .int .i64 E])) c) := Lib.hid (by
    intro c f E p' d' q h1 h2 h3 h4 h5 h6
    exact ⟨by rw [h1, h2], by rw [h4]; exact UPD.out c d' _ _ _ _ p' q h5 h6, by rw [h3]; exact q.pr, TQ.out c q.g⟩)
  clear UPD TQ
  obtain ⟨m, A, cc, rfl⟩ : ∃ m A cc, v = .slice A m cc := by obtain ⟨A, cc, e⟩ := HO.out.form; exact ⟨_, A, cc, e⟩
  obtain ⟨⟨aa, ab, ac⟩, ad, ae, af⟩ := Q0.out.cells
  obtain ⟨⟨a5, a6, a7, a8, a9⟩, a10, a11, -⟩ := Q0.out.dr.cells
  by_cases hdead : d.dead = true
  · have QF := Lib.hid (Q0.out.res 0 0 0)
    have FN := Lib.hid (fin.out _ ⟨0, 0, 0⟩ 14 p d QF.out (by unfold Dsk.beF; rw [if_neg fun c => absurd (hdead.symm.trans c.1) (by decide)]) (by unfold Dsk.beE; rw [if_pos hdead]) (by unfold Dsk.beP; rw [if_neg fun c => absurd (hdead.symm.trans c.1) (by decide)]) (by unfold Dsk.beD; rw [if_neg fun c => absurd (hdead.symm.trans c.1) (by decide)]) rfl rfl)
    rw [hdead] at a9
    clear hdead fin
    go_enter Try.func77, Try.ntmps77
    go_wp2_with (first | rw [E4.out] | rw [HW0.out])
    refine bodyPost_ret (results_c1t1 (g := b4) (t := 80) (fr := (0, 0)) rfl _ _ _ _ rfl QF.out.r Try.underlying80 rfl (by kernel_rfl)) rfl ?_
    exact FN.out
  have hd0 : d.dead = false := (Bool.not_eq_true _).mp hdead
  rw [hd0] at a9
  have HD0 := Lib.hid hd0
  have RD := Lib.hid (rrdy_any Q0.out.dr Q0.out.pr)
  clear hdead hd0
  by_cases hrdy : Dsk.rdy p d
  · rw [decide_eq_true hrdy] at RD
    have HR := Lib.hid hrdy
    clear hrdy
    go_enter Try.func77, Try.ntmps77
    go_wp2_with (first | rw [E4.out] | rw [HW0.out])
    refine RD.out.mono ?_
    rintro e w1 ⟨rfl, hb⟩
    have Q1 := Lib.hid (Q0.out.fw hb)
    have CL := Lib.hid (rcall_any Q1.out.pr HF.out HN.out)
    clear hb RD
    have b7 : w1.cell? ⟨D, 7, none⟩ = some (.pointer (some ⟨P, 0, none⟩)) := Q1.out.dr.cells.1.2.2.1
    unfold pcPost at CL
    go_wp2_with fail
    by_cases hok : p.ok = true
    · rw [hok] at CL
      have HK := Lib.hid hok
      clear hok
      refine CL.out.mono ?_
      rintro e w2 ⟨rfl, hp2, hc2⟩
      have Q2 := Lib.hid (Q1.out.pow hp2 hc2)
      clear hp2 hc2 CL b7
      have b8 : w2.cell? ⟨D, 8, none⟩ = some (.int .u64 (d.key : Int)) := Q2.out.dr.cells.1.2.2.2.1
      by_cases hkey : key = d.key
      · have KD := Lib.hid hkey
        have CN : Hid (Dsk.cnt p d key) := Lib.hid ⟨HD0.out, HR.out, HK.out, hkey⟩
        have dk : ((key : Int) != (d.key : Int)) = false := by simp [hkey]
        obtain ⟨f0, hff⟩ : ∃ f, faL L d.count = f := ⟨_, rfl⟩
        obtain ⟨x, y, z⟩ := f0
        have RA := fun w h => rat_any (.slice A m cc) L (d.count : Int) w h
        obtain ⟨sm, hsm⟩ : ∃ b, (fnd (d.count : Int) L).isSome = b := ⟨_, rfl⟩
        unfold atPost fV at RA
        rw [show fF (fnd (d.count : Int) L) = ⟨x, y, z⟩ from hff, hsm] at RA
        have RA := Lib.hid RA
        have FN := Lib.hid fun c E d' (q : Bw w D P R Bn T S O K (.slice A m cc) b4 x y z p.call d' c) (hE : (if y = 7 then (14 : Int) else if y = 6 then 16 else 0) = E) (hD : ({ d with count := d.count + 1, dead := decide (y = 7) } : Dsk.Dk) = d') (h5 : d'.l = d.l) (h6 : d'.ops = d.ops) =>
          fin.out c ⟨x, y, z⟩ E p.call d' q (by unfold Dsk.beF; rw [if_pos CN.out, hff]) (by
            unfold Dsk.beE
            rw [if_neg (by rw [HD0.out]; decide), if_neg (not_not_intro HR.out), if_neg (by rw [HK.out]; decide), if_neg (not_not_intro KD.out), hff]
            exact hE) (by unfold Dsk.beP; rw [if_pos ⟨HD0.out, HR.out⟩]) (by unfold Dsk.beD; rw [if_pos CN.out, hff]; exact hD) h5 h6
        have FT := Lib.hid (OA.out w2 Q2.out.g).fts
        have C6 := Lib.hid Q2.out.dr.cells.1.2.1
        have C11 := Lib.hid Q2.out.dr.cells.2.2.1
        have LE := Lib.hid Q2.out.new
        have SZ := Lib.hid Q2.out.r.lt
        clear hkey hff hsm fin CN KD
        obtain ⟨cn, hcn⟩ : ∃ c, d.count = c := ⟨_, rfl⟩
        have EC := Lib.hid hcn
        rw [hcn] at C11 HC RA
        clear hcn
        go_wp2_with fail
        refine wp_region_held (P := Try.prog) (S := (fun w' : World => Below w2.heap.size w2 w')) rfl ?_
        change wpAnyH _ _ _ _ _ _ _ _ w2.drew
        have hz2 : Below w2.heap.size w2 w2.drew := (Below.refl w2.heap.size w2).drew
        generalize w2.drew = wz1 at hz2 ⊢
        have hq3 : Below w2.heap.size w2 wz1 := hz2
        have HB_4 : Hid (Below w2.heap.size w2 wz1) := Lib.hid (hq3)
        clear hq3
        clear hz2
        have hS5 : (fun w' : World => Below w2.heap.size w2 w') wz1 := HB_4.out
        refine takeD (i := 0) (v := .pointer (some ⟨D, 0, none⟩)) (some 33) rfl rfl (by kernel_rfl) (by kernel_rfl) (by kernel_rfl) (fun _ _ _ h => h) (Or.inl ⟨by rfl, by rintro w' -; go_simp⟩) hS5 ?_
        simp only [Act.put, List.setIfInBounds_toArray, List.set_cons_zero, List.set_cons_succ]
        refine takeD (i := 1) (v := .pointer (some ⟨D, 0, none⟩)) (some 34) rfl rfl (by kernel_rfl) (by kernel_rfl) (by kernel_rfl) (fun _ _ _ h => h) (Or.inl ⟨by rfl, by rintro w' -; go_simp⟩) hS5 ?_
        simp only [Act.put, List.setIfInBounds_toArray, List.set_cons_zero, List.set_cons_succ]
        refine takeD (i := 2) (v := .pointer (some ⟨D, 6, none⟩)) (some 35) rfl rfl (by kernel_rfl) (by kernel_rfl) (by kernel_rfl) (fun _ _ _ h => h) (Or.inl ⟨by rfl, by rintro w' -; go_simp⟩) hS5 ?_
        simp only [Act.put, List.setIfInBounds_toArray, List.set_cons_zero, List.set_cons_succ]
        refine takeD (i := 3) (v := .slice A m cc) (some 36) rfl rfl (by kernel_rfl) (by kernel_rfl) (by kernel_rfl) (fun _ _ _ h => h) (Or.inl ⟨by rfl, by rintro w' h; have hc := ce13 C6.out h; go_simp⟩) hS5 ?_
        simp only [Act.put, List.setIfInBounds_toArray, List.set_cons_zero, List.set_cons_succ]
        refine takeD (i := 4) (v := .pointer (some ⟨D, 0, none⟩)) (some 37) rfl rfl (by kernel_rfl) (by kernel_rfl) (by kernel_rfl) (fun _ _ _ h => h) (Or.inl ⟨by rfl, by rintro w' -; go_simp⟩) hS5 ?_
        simp only [Act.put, List.setIfInBounds_toArray, List.set_cons_zero, List.set_cons_succ]
        refine takeD (i := 5) (v := .pointer (some ⟨D, 0, none⟩)) (some 38) rfl rfl (by kernel_rfl) (by kernel_rfl) (by kernel_rfl) (fun _ _ _ h => h) (Or.inl ⟨by rfl, by rintro w' -; go_simp⟩) hS5 ?_
        simp only [Act.put, List.setIfInBounds_toArray, List.set_cons_zero, List.set_cons_succ]
        refine takeD (i := 6) (v := .pointer (some ⟨D, 11, none⟩)) (some 39) rfl rfl (by kernel_rfl) (by kernel_rfl) (by kernel_rfl) (fun _ _ _ h => h) (Or.inl ⟨by rfl, by rintro w' -; go_simp⟩) hS5 ?_
        simp only [Act.put, List.setIfInBounds_toArray, List.set_cons_zero, List.set_cons_succ]
        refine takeD (i := 7) (v := .int .i64 (cn : Int)) (some 40) rfl rfl (by kernel_rfl) (by kernel_rfl) (by kernel_rfl) (fun _ _ _ h => h) (Or.inl ⟨by rfl, by rintro w' h; have hc := ce13 C11.out h; go_simp⟩) hS5 ?_
        simp only [Act.put, List.setIfInBounds_toArray, List.set_cons_zero, List.set_cons_succ]
        refine wpAnyH_ready (rs := [8, 12]) (by kernel_rfl) (by simp) ?_
        refine AllReadyH.cons rfl (fun KK hK => ?_) (AllReadyH.cons rfl (fun KK hK => ?_) AllReadyH.nil)
        · have HK6 := Lib.hid hK
          clear hK
          rw [if_pos (by rfl)]
          go_simp
          refine (RA.out _ (FT.out.fw HB_4.out)).mono ?_
          rintro e x7 ⟨rfl, hb⟩
          have HB_8 : Hid (Below w2.heap.size w2 x7) := Lib.hid (HB_4.out.trans (hb.mono HB_4.out.size))
          clear hb
          have hS9 : (fun w' : World => Below w2.heap.size w2 w') x7 := HB_8.out
          refine HK6.out _ _ hS9 fun _ => ?_
          try simp only [Act.put, List.setIfInBounds_toArray, List.set_cons_zero, List.set_cons_succ]
          refine takeD (i := 9) (v := .tuple #[.agg #[.int .i64 x, .int .i64 y, .int .i64 z], .bool sm]) (some 32) rfl rfl (by kernel_rfl) (by kernel_rfl) (by kernel_rfl) (fun _ _ _ h => h) (Or.inl ⟨by rfl, by rintro w' -; go_simp⟩) hS9 ?_
          simp only [Act.put, List.setIfInBounds_toArray, List.set_cons_zero, List.set_cons_succ]
          refine takeD (i := 10) (v := .agg #[.int .i64 x, .int .i64 y, .int .i64 z]) (some 42) rfl rfl (by kernel_rfl) (by kernel_rfl) (by kernel_rfl) (fun _ _ _ h => h) (Or.inl ⟨by rfl, by rintro w' -; go_simp⟩) hS9 ?_
          simp only [Act.put, List.setIfInBounds_toArray, List.set_cons_zero, List.set_cons_succ]
          refine takeD (i := 11) (v := .bool sm) (some 43) rfl rfl (by kernel_rfl) (by kernel_rfl) (by kernel_rfl) (fun _ _ _ h => h) (Or.inl ⟨by rfl, by rintro w' -; go_simp⟩) hS9 ?_
          simp only [Act.put, List.setIfInBounds_toArray, List.set_cons_zero, List.set_cons_succ]
          refine wpAnyH_ready (rs := [12]) (by kernel_rfl) (by simp) ?_
          refine AllReadyH.cons rfl (fun K10 hK10 => ?_) AllReadyH.nil
          have HK10 := Lib.hid hK10
          clear hK10
          rw [if_pos (by rfl)]
          go_simp
          obtain ⟨nb, hnb⟩ : ∃ nb, x7.heap.size = nb := ⟨_, rfl⟩
          obtain ⟨wa, hwa⟩ : ∃ wa, x7.alloc (.cells #[.int .i64 0, .int .i64 0, .int .i64 0] 80) = wa := ⟨_, rfl⟩
          have hra : Row wa nb 80 #[.int .i64 0, .int .i64 0, .int .i64 0] := by rw [← hwa]; exact new13 _ _ _ hnb
          have hba : Below w2.heap.size x7 wa := by rw [← hwa]; exact (Below.refl _ _).alloc HB_8.out.size _
          have NB := Lib.hid (show w2.heap.size ≤ nb by rw [← hnb]; exact HB_8.out.size)
          rw [hnb, hwa]
          have RNA := Lib.hid hra
          have HB_11 : Hid (Below w2.heap.size w2 wa) := Lib.hid (HB_8.out.trans (hba))
          clear hra hba hnb hwa
          have hS12 : (fun w' : World => Below w2.heap.size w2 w') wa := HB_11.out
          refine HK10.out _ _ hS12 fun _ => ?_
          try simp only [Act.put, List.setIfInBounds_toArray, List.set_cons_zero, List.set_cons_succ]
          refine wpAnyH_ready (rs := [13]) (by kernel_rfl) (by simp) ?_
          refine AllReadyH.cons rfl (fun K13 hK13 => ?_) AllReadyH.nil
          have HK13 := Lib.hid hK13
          clear hK13
          rw [if_pos (by rfl)]
          refine wp_store_mid _ _ _ rfl nb 0 #[.int .i64 x, .int .i64 y, .int .i64 z] rfl rfl (thr13 RNA.out) si13q (by simp [Value.oneCell']) ?_
          have hrb := row_set3 RNA.out (x' := .int .i64 x) (y' := .int .i64 y) (z' := .int .i64 z)
          have hbb : Below w2.heap.size wa (((wa.setCell ⟨nb, 0, none⟩ (.int .i64 x)).setCell ⟨nb, 1, none⟩ (.int .i64 y)).setCell ⟨nb, 2, none⟩ (.int .i64 z)) := (((Below.refl _ _).setCell (p := ⟨nb, 0, none⟩) NB.out _).setCell (p := ⟨nb, 1, none⟩) NB.out _).setCell (p := ⟨nb, 2, none⟩) NB.out _
          generalize hww : wa.setCells nb 0 #[.int .i64 x, .int .i64 y, .int .i64 z].toList = W9
          rw [show ((wa.setCell ⟨nb, 0, none⟩ (.int .i64 x)).setCell ⟨nb, 1, none⟩ (.int .i64 y)).setCell ⟨nb, 2, none⟩ (.int .i64 z) = W9 from hww] at hrb hbb
          have RN9 := Lib.hid hrb
          clear hww hrb
          have HB_14 : Hid (Below w2.heap.size w2 W9) := Lib.hid (HB_11.out.trans (hbb))
          clear hbb
          have hS15 : (fun w' : World => Below w2.heap.size w2 w') W9 := HB_14.out
          refine HK13.out _ _ hS15 fun _ => ?_
          refine takeD (i := 14) (v := .bool sm) (some 7) rfl rfl (by kernel_rfl) (by kernel_rfl) (by kernel_rfl) (fun _ _ _ h => h) (Or.inl ⟨by rfl, by rintro w' -; go_simp⟩) hS15 ?_
          simp only [Act.put, List.setIfInBounds_toArray, List.set_cons_zero, List.set_cons_succ]
          refine wpAnyH_done (by kernel_rfl) ?_ _
          have Q3 := Lib.hid (Q2.out.fw HB_14.out)
          have ND : Hid (nb ≠ D) := Lib.hid (by have := NB.out; have := LE.out; have := SZ.out; have := Q3.out.old; have := Q3.out.g.size; have := Q2.out.g.size; omega)
          have q11 : W9.cell? ⟨D, 11, none⟩ = some (.int .i64 (d.count : Int)) := Q3.out.dr.cells.2.2.1
          have qf : W9.frozen? ⟨D, 11, none⟩ = false := Row.frozen Q3.out.dr 11
          have Q4 := Lib.hid (Q3.out.dsk (d' := { d with count := d.count + 1 }) 11 (.int .i64 ((d.count : Int) + 1)) rfl)
          have R4 := Lib.hid (Row.oth RN9.out ND.out 11 (.int .i64 ((d.count : Int) + 1)))
          have HD9 : Hid (({ d with count := d.count + 1, dead := false } : Dsk.Dk) = { d with count := d.count + 1 }) := Lib.hid (by rw [← HD0.out])
          have cI : (d.count : Int) < 4611686018427387904 := by have := HC.out; have := EC.out; omega
          obtain ⟨r0, r1, r2⟩ := row3 R4.out
          by_cases y7 : y = 7
          · have d7 : (y == 7) = true := by simp [y7]
            have Q5 := Lib.hid (Q4.out.dsk (d' := { d with count := d.count + 1, dead := true }) 9 (.bool true) rfl)
            have R5 := Lib.hid (Row.oth R4.out ND.out 9 (.bool true))
            have q9 := Row.frozen Q4.out.dr 9
            have q99 := Q4.out.dr.cells.1.2.2.2.2
            obtain ⟨s0, s1, s2⟩ := row3 R5.out
            obtain ⟨⟨xa, xb, xc⟩, xd, xe, xf⟩ := Q5.out.cells
            have RR := Lib.hid (row_rg R5.out)
            have QF := Lib.hid (Q5.out.res x y z)
            have FQ := Lib.hid (FN.out _ 14 _ QF.out (by rw [if_pos y7]) (by rw [decide_eq_true y7]) rfl rfl)
            clear y7
            go_wp2_with (refine wpList_load_mid rfl _ _ rfl nb 0 rfl [.int .i64 x, .int .i64 y, .int .i64 z] _ RR.out Try.underlying80 rfl (by kernel_rfl) ?_)
            refine bodyPost_ret (results_c1t1 (g := b4) (t := 80) (fr := (0, 0)) rfl _ _ _ _ rfl QF.out.r Try.underlying80 rfl (by kernel_rfl)) rfl ?_
            exact FQ.out
          · by_cases y6 : y = 6
            · have d7 : (y == 7) = false := by simp [y7]
              have d6 : (y == 6) = true := by simp [y6]
              obtain ⟨⟨xa, xb, xc⟩, xd, xe, xf⟩ := Q4.out.cells
              have RR := Lib.hid (row_rg R4.out)
              have QF := Lib.hid (Q4.out.res x y z)
              have FQ := Lib.hid (FN.out _ 16 _ QF.out (by rw [if_neg y7, if_pos y6]) (by rw [decide_eq_false y7, HD9.out]) rfl rfl)
              clear y7 y6
              go_wp2_with (refine wpList_load_mid rfl _ _ rfl nb 0 rfl [.int .i64 x, .int .i64 y, .int .i64 z] _ RR.out Try.underlying80 rfl (by kernel_rfl) ?_)
              refine bodyPost_ret (results_c1t1 (g := b4) (t := 80) (fr := (0, 0)) rfl _ _ _ _ rfl QF.out.r Try.underlying80 rfl (by kernel_rfl)) rfl ?_
              exact FQ.out
            · have d7 : (y == 7) = false := by simp [y7]
              have d6 : (y == 6) = false := by simp [y6]
              obtain ⟨⟨xa, xb, xc⟩, xd, xe, xf⟩ := Q4.out.cells
              have RR := Lib.hid (row_rg R4.out)
              have QF := Lib.hid (Q4.out.res x y z)
              have FQ := Lib.hid (FN.out _ 0 _ QF.out (by rw [if_neg y7, if_neg y6]) (by rw [decide_eq_false y7, HD9.out]) rfl rfl)
              clear y7 y6
              go_wp2_with (refine wpList_load_mid rfl _ _ rfl nb 0 rfl [.int .i64 x, .int .i64 y, .int .i64 z] _ RR.out Try.underlying80 rfl (by kernel_rfl) ?_)
              refine bodyPost_ret (results_c1t1 (g := b4) (t := 80) (fr := (0, 0)) rfl _ _ _ _ rfl QF.out.r Try.underlying80 rfl (by kernel_rfl)) rfl ?_
              exact FQ.out
        · have HK6 := Lib.hid hK
          clear hK
          rw [if_pos (by rfl)]
          go_simp
          obtain ⟨nb, hnb⟩ : ∃ nb, wz1.heap.size = nb := ⟨_, rfl⟩
          obtain ⟨wa, hwa⟩ : ∃ wa, wz1.alloc (.cells #[.int .i64 0, .int .i64 0, .int .i64 0] 80) = wa := ⟨_, rfl⟩
          have hra : Row wa nb 80 #[.int .i64 0, .int .i64 0, .int .i64 0] := by rw [← hwa]; exact new13 _ _ _ hnb
          have hba : Below w2.heap.size wz1 wa := by rw [← hwa]; exact (Below.refl _ _).alloc HB_4.out.size _
          have NB := Lib.hid (show w2.heap.size ≤ nb by rw [← hnb]; exact HB_4.out.size)
          rw [hnb, hwa]
          have RNA := Lib.hid hra
          have HB_7 : Hid (Below w2.heap.size w2 wa) := Lib.hid (HB_4.out.trans (hba))
          clear hra hba hnb hwa
          have hS8 : (fun w' : World => Below w2.heap.size w2 w') wa := HB_7.out
          refine HK6.out _ _ hS8 fun _ => ?_
          try simp only [Act.put, List.setIfInBounds_toArray, List.set_cons_zero, List.set_cons_succ]
          refine wpAnyH_ready (rs := [8]) (by kernel_rfl) (by simp) ?_
          refine AllReadyH.cons rfl (fun K9 hK9 => ?_) AllReadyH.nil
          have HK9 := Lib.hid hK9
          clear hK9
          rw [if_pos (by rfl)]
          go_simp
          refine (RA.out _ (FT.out.fw HB_7.out)).mono ?_
          rintro e x10 ⟨rfl, hb⟩
          have RNB := Lib.hid (rw13 RNA.out hb)
          have HB_11 : Hid (Below w2.heap.size w2 x10) := Lib.hid (HB_7.out.trans (hb.mono HB_7.out.size))
          clear hb
          have hS12 : (fun w' : World => Below w2.heap.size w2 w') x10 := HB_11.out
          refine HK9.out _ _ hS12 fun _ => ?_
          try simp only [Act.put, List.setIfInBounds_toArray, List.set_cons_zero, List.set_cons_succ]
          refine takeD (i := 9) (v := .tuple #[.agg #[.int .i64 x, .int .i64 y, .int .i64 z], .bool sm]) (some 32) rfl rfl (by kernel_rfl) (by kernel_rfl) (by kernel_rfl) (fun _ _ _ h => h) (Or.inl ⟨by rfl, by rintro w' -; go_simp⟩) hS12 ?_
          simp only [Act.put, List.setIfInBounds_toArray, List.set_cons_zero, List.set_cons_succ]
          refine takeD (i := 10) (v := .agg #[.int .i64 x, .int .i64 y, .int .i64 z]) (some 42) rfl rfl (by kernel_rfl) (by kernel_rfl) (by kernel_rfl) (fun _ _ _ h => h) (Or.inl ⟨by rfl, by rintro w' -; go_simp⟩) hS12 ?_
          simp only [Act.put, List.setIfInBounds_toArray, List.set_cons_zero, List.set_cons_succ]
          refine takeD (i := 11) (v := .bool sm) (some 43) rfl rfl (by kernel_rfl) (by kernel_rfl) (by kernel_rfl) (fun _ _ _ h => h) (Or.inl ⟨by rfl, by rintro w' -; go_simp⟩) hS12 ?_
          simp only [Act.put, List.setIfInBounds_toArray, List.set_cons_zero, List.set_cons_succ]
          refine wpAnyH_ready (rs := [13]) (by kernel_rfl) (by simp) ?_
          refine AllReadyH.cons rfl (fun K13 hK13 => ?_) AllReadyH.nil
          have HK13 := Lib.hid hK13
          clear hK13
          rw [if_pos (by rfl)]
          refine wp_store_mid _ _ _ rfl nb 0 #[.int .i64 x, .int .i64 y, .int .i64 z] rfl rfl (thr13 RNB.out) si13q (by simp [Value.oneCell']) ?_
          have hrb := row_set3 RNB.out (x' := .int .i64 x) (y' := .int .i64 y) (z' := .int .i64 z)
          have hbb : Below w2.heap.size x10 (((x10.setCell ⟨nb, 0, none⟩ (.int .i64 x)).setCell ⟨nb, 1, none⟩ (.int .i64 y)).setCell ⟨nb, 2, none⟩ (.int .i64 z)) := (((Below.refl _ _).setCell (p := ⟨nb, 0, none⟩) NB.out _).setCell (p := ⟨nb, 1, none⟩) NB.out _).setCell (p := ⟨nb, 2, none⟩) NB.out _
          generalize hww : x10.setCells nb 0 #[.int .i64 x, .int .i64 y, .int .i64 z].toList = W9
          rw [show ((x10.setCell ⟨nb, 0, none⟩ (.int .i64 x)).setCell ⟨nb, 1, none⟩ (.int .i64 y)).setCell ⟨nb, 2, none⟩ (.int .i64 z) = W9 from hww] at hrb hbb
          have RN9 := Lib.hid hrb
          clear hww hrb
          have HB_14 : Hid (Below w2.heap.size w2 W9) := Lib.hid (HB_11.out.trans (hbb))
          clear hbb
          have hS15 : (fun w' : World => Below w2.heap.size w2 w') W9 := HB_14.out
          refine HK13.out _ _ hS15 fun _ => ?_
          refine takeD (i := 14) (v := .bool sm) (some 7) rfl rfl (by kernel_rfl) (by kernel_rfl) (by kernel_rfl) (fun _ _ _ h => h) (Or.inl ⟨by rfl, by rintro w' -; go_simp⟩) hS15 ?_
          simp only [Act.put, List.setIfInBounds_toArray, List.set_cons_zero, List.set_cons_succ]
          refine wpAnyH_done (by kernel_rfl) ?_ _
          have Q3 := Lib.hid (Q2.out.fw HB_14.out)
          have ND : Hid (nb ≠ D) := Lib.hid (by have := NB.out; have := LE.out; have := SZ.out; have := Q3.out.old; have := Q3.out.g.size; have := Q2.out.g.size; omega)
          have q11 : W9.cell? ⟨D, 11, none⟩ = some (.int .i64 (d.count : Int)) := Q3.out.dr.cells.2.2.1
          have qf : W9.frozen? ⟨D, 11, none⟩ = false := Row.frozen Q3.out.dr 11
          have Q4 := Lib.hid (Q3.out.dsk (d' := { d with count := d.count + 1 }) 11 (.int .i64 ((d.count : Int) + 1)) rfl)
          have R4 := Lib.hid (Row.oth RN9.out ND.out 11 (.int .i64 ((d.count : Int) + 1)))
          have HD9 : Hid (({ d with count := d.count + 1, dead := false } : Dsk.Dk) = { d with count := d.count + 1 }) := Lib.hid (by rw [← HD0.out])
          have cI : (d.count : Int) < 4611686018427387904 := by have := HC.out; have := EC.out; omega
          obtain ⟨r0, r1, r2⟩ := row3 R4.out
          by_cases y7 : y = 7
          · have d7 : (y == 7) = true := by simp [y7]
            have Q5 := Lib.hid (Q4.out.dsk (d' := { d with count := d.count + 1, dead := true }) 9 (.bool true) rfl)
            have R5 := Lib.hid (Row.oth R4.out ND.out 9 (.bool true))
            have q9 := Row.frozen Q4.out.dr 9
            have q99 := Q4.out.dr.cells.1.2.2.2.2
            obtain ⟨s0, s1, s2⟩ := row3 R5.out
            obtain ⟨⟨xa, xb, xc⟩, xd, xe, xf⟩ := Q5.out.cells
            have RR := Lib.hid (row_rg R5.out)
            have QF := Lib.hid (Q5.out.res x y z)
            have FQ := Lib.hid (FN.out _ 14 _ QF.out (by rw [if_pos y7]) (by rw [decide_eq_true y7]) rfl rfl)
            clear y7
            go_wp2_with (refine wpList_load_mid rfl _ _ rfl nb 0 rfl [.int .i64 x, .int .i64 y, .int .i64 z] _ RR.out Try.underlying80 rfl (by kernel_rfl) ?_)
            refine bodyPost_ret (results_c1t1 (g := b4) (t := 80) (fr := (0, 0)) rfl _ _ _ _ rfl QF.out.r Try.underlying80 rfl (by kernel_rfl)) rfl ?_
            exact FQ.out
          · by_cases y6 : y = 6
            · have d7 : (y == 7) = false := by simp [y7]
              have d6 : (y == 6) = true := by simp [y6]
              obtain ⟨⟨xa, xb, xc⟩, xd, xe, xf⟩ := Q4.out.cells
              have RR := Lib.hid (row_rg R4.out)
              have QF := Lib.hid (Q4.out.res x y z)
              have FQ := Lib.hid (FN.out _ 16 _ QF.out (by rw [if_neg y7, if_pos y6]) (by rw [decide_eq_false y7, HD9.out]) rfl rfl)
              clear y7 y6
              go_wp2_with (refine wpList_load_mid rfl _ _ rfl nb 0 rfl [.int .i64 x, .int .i64 y, .int .i64 z] _ RR.out Try.underlying80 rfl (by kernel_rfl) ?_)
              refine bodyPost_ret (results_c1t1 (g := b4) (t := 80) (fr := (0, 0)) rfl _ _ _ _ rfl QF.out.r Try.underlying80 rfl (by kernel_rfl)) rfl ?_
              exact FQ.out
            · have d7 : (y == 7) = false := by simp [y7]
              have d6 : (y == 6) = false := by simp [y6]
              obtain ⟨⟨xa, xb, xc⟩, xd, xe, xf⟩ := Q4.out.cells
              have RR := Lib.hid (row_rg R4.out)
              have QF := Lib.hid (Q4.out.res x y z)
              have FQ := Lib.hid (FN.out _ 0 _ QF.out (by rw [if_neg y7, if_neg y6]) (by rw [decide_eq_false y7, HD9.out]) rfl rfl)
              clear y7 y6
              go_wp2_with (refine wpList_load_mid rfl _ _ rfl nb 0 rfl [.int .i64 x, .int .i64 y, .int .i64 z] _ RR.out Try.underlying80 rfl (by kernel_rfl) ?_)
              refine bodyPost_ret (results_c1t1 (g := b4) (t := 80) (fr := (0, 0)) rfl _ _ _ _ rfl QF.out.r Try.underlying80 rfl (by kernel_rfl)) rfl ?_
              exact FQ.out
      · have dk : ((key : Int) != (d.key : Int)) = true := by simp; omega
        have QF := Lib.hid (Q2.out.res 0 0 0)
        have FN := Lib.hid (fin.out _ ⟨0, 0, 0⟩ 17 p.call d QF.out (by unfold Dsk.beF; rw [if_neg fun c => hkey c.2.2.2]) (by unfold Dsk.beE; rw [if_neg (by rw [HD0.out]; decide), if_neg (not_not_intro HR.out), if_neg (by rw [HK.out]; decide), if_pos hkey]) (by unfold Dsk.beP; rw [if_pos ⟨HD0.out, HR.out⟩]) (by unfold Dsk.beD; rw [if_neg fun c => hkey c.2.2.2]) rfl rfl)
        obtain ⟨⟨xa, xb, xc⟩, xd, xe, xf⟩ := Q2.out.cells
        clear hkey fin
        go_wp2_with fail
        refine bodyPost_ret (results_c1t1 (g := b4) (t := 80) (fr := (0, 0)) rfl _ _ _ _ rfl QF.out.r Try.underlying80 rfl (by kernel_rfl)) rfl ?_
        exact FN.out
    · rw [(Bool.not_eq_true _).mp hok] at CL
      have hok' : p.ok = false := (Bool.not_eq_true _).mp hok
      refine CL.out.mono ?_
      rintro e w2 ⟨rfl, hp2, hc2⟩
      have Q2 := Lib.hid (Q1.out.pow hp2 hc2)
      have QF := Lib.hid (Q2.out.res 0 0 0)
      have FN := Lib.hid (fin.out _ ⟨0, 0, 0⟩ 13 p.call d QF.out (by unfold Dsk.beF; rw [if_neg fun c => hok c.2.2.1]) (by unfold Dsk.beE; rw [if_neg (by rw [HD0.out]; decide), if_neg (not_not_intro HR.out), if_pos hok']) (by unfold Dsk.beP; rw [if_pos ⟨HD0.out, HR.out⟩]) (by unfold Dsk.beD; rw [if_neg fun c => hok c.2.2.1]) rfl rfl)
      obtain ⟨⟨xa, xb, xc⟩, xd, xe, xf⟩ := Q2.out.cells
      clear hp2 hc2 CL b7 hok hok' fin
      go_wp2_with fail
      refine bodyPost_ret (results_c1t1 (g := b4) (t := 80) (fr := (0, 0)) rfl _ _ _ _ rfl QF.out.r Try.underlying80 rfl (by kernel_rfl)) rfl ?_
      exact FN.out
  · rw [decide_eq_false hrdy] at RD
    have FF := Lib.hid (fun c q => fin.out c ⟨0, 0, 0⟩ 13 p d q (by unfold Dsk.beF; rw [if_neg fun c => hrdy c.2.1]) (by unfold Dsk.beE; rw [if_neg (by rw [HD0.out]; decide), if_pos hrdy]) (by unfold Dsk.beP; rw [if_neg fun c => hrdy c.2]) (by unfold Dsk.beD; rw [if_neg fun c => hrdy c.2.1]) rfl rfl)
    clear hrdy fin
    go_enter Try.func77, Try.ntmps77
    go_wp2_with (first | rw [E4.out] | rw [HW0.out])
    refine RD.out.mono ?_
    rintro e w1 ⟨rfl, hb⟩
    have Q1 := Lib.hid (Q0.out.fw hb)
    have FN := Lib.hid (FF.out _ (Q1.out.res 0 0 0))
    have QF := Lib.hid (Q1.out.res 0 0 0)
    obtain ⟨⟨xa, xb, xc⟩, xd, xe, xf⟩ := Q1.out.cells
    clear hb RD FF
    go_wp2_with fail
    refine bodyPost_ret (results_c1t1 (g := b4) (t := 80) (fr := (0, 0)) rfl _ _ _ _ rfl QF.out.r Try.underlying80 rfl (by kernel_rfl)) rfl ?_
    exact FN.out
end Go.Proofs.Ytdjjihppaobbcaa
