/- Layer 14: contracts of the program: has, count. -/
import Derived.Test.YtdjjihppaobbcaaDpc
namespace Go.Proofs.Ytdjjihppaobbcaa
open Go Go.RowKit Med Flt
set_option linter.unusedVariables false
set_option linter.unusedSimpArgs false
/-- All faults but the first. -/
theorem ft_tail0 (A : Option Addr) (n c : Nat) (hc : n + 1 ≤ c) : ∃ B d, (∀ w, (Instr.slice 24 (.slice A (n + 1) c) (some (.int .i64 1)) none none).run Try.prog w = .ok (.slice B n d) w) ∧ (∀ w, (Instr.sliceAt 24 (.slice A (n + 1) c) (some (.int .i64 1)) none none).run Try.prog w = .ok (.slice B n d) w) ∧
    (∀ w f M, FtT w (.slice A (n + 1) c) (f :: M) → FtT w (.slice B n d) M) ∧ (∀ g, (Value.slice B n d).ownBlock = some g → (Value.slice A (n + 1) c).ownBlock = some g) := by
  have hel : Try.prog.elem 24 = 80 := by kernel_rfl
  have hu : Try.prog.underlying 24 = some (.slice (Try.prog.elem 24)) := by rw [hel]; exact Try.underlying24
  obtain ⟨i, hi, hz, hs, hb⟩ := parts13 info_ft
  have key : ∀ w, (Instr.slice 24 (.slice A (n + 1) c) (some (.int .i64 1)) none none).run Try.prog w = .ok (.slice (if c = 1 then A else A.map (fun a => Addr.add a (1 * 3))) n (c - 1)) w := fun w => by
    rw [run_slice_l w 24 A (n + 1) c hu .i64 1 (by omega) (by omega), hel]
    simp [sizeOf, typeInfo, hi, hs, Result.andThen, sliced]
  have own : ∀ g, (Value.slice (if c = 1 then A else A.map (fun a => Addr.add a (1 * 3))) n (c - 1)).ownBlock = some g → (Value.slice A (n + 1) c).ownBlock = some g := by
    intro g hg
    cases A with
    | none => split at hg <;> cases hg
    | some a =>
      by_cases h1 : c = 1
      · rw [if_pos h1] at hg; exact hg
      · rw [if_neg h1] at hg
        have : (Addr.add a (1 * 3)).block = a.block := by unfold Addr.add; split <;> rfl
        change some (Addr.add a (1 * 3)).block = some g at hg
        rw [this] at hg
        exact hg
  refine ⟨_, c - 1, key, fun w => by rw [run_sliceAt_slice w _ _ _ _ _ hu]; exact key w, ?_, own⟩
  rintro w f M ⟨⟨A', c', e, hm, hf, hq⟩, ht⟩
  injection e with e1 e2 e3
  subst e1 e3
  have eM : M.length = n := by simp at e2; omega
  subst eM
  refine ⟨⟨_, c - 1, rfl, by omega, fun x hx => hf x (List.mem_cons_of_mem _ hx), fun h0 => ?_⟩, fun g hg => ht g (own g hg)⟩
  obtain ⟨b, off, rfl, hk⟩ := hq (by simp)
  refine ⟨b, off + 3, ?_, fun k hk2 => ?_⟩
  · rw [if_neg (by omega)]
    show some (Addr.add ⟨b, off, none⟩ (1 * 3)) = _
    rw [Go.WideShapes.add_plain, Nat.one_mul]
  · have := hk (k + 1) (by simp; omega)
    rw [show off + (k + 1) * 3 = off + 3 + k * 3 by omega] at this
    exact this
theorem ft_tail (A : Option Addr) (m n c : Nat) (hm : n + 1 = m) (hc : m ≤ c) : ∃ B d, (∀ w, (Instr.slice 24 (.slice A m c) (some (.int .i64 1)) none none).run Try.prog w = .ok (.slice B n d) w) ∧ (∀ w, (Instr.sliceAt 24 (.slice A m c) (some (.int .i64 1)) none none).run Try.prog w = .ok (.slice B n d) w) ∧
    (∀ w f M, FtT w (.slice A m c) (f :: M) → FtT w (.slice B n d) M) ∧ (∀ g, (Value.slice B n d).ownBlock = some g → (Value.slice A m c).ownBlock = some g) := by
  subst hm; exact ft_tail0 A n c hc
theorem Tch.setNew {B : Zn} {L : List TypeId} {w w' : World} (h : Tch B L w w') {p : Addr} (hp : w.heap.size ≤ p.block) (u : Value) : Tch B L w (w'.setCell p u) :=
  have h' : Chg (fun k => B.fr k ∧ ∃ t ∈ L, Ty w k t) w w' := h
  ⟨h'.os, h'.tape, h'.output, Nat.le_trans h'.size ((Below.refl 0 w').setCell (Nat.zero_le _) u).size, fun k hk hn => (Below.heap_setCell w' p u k fun e => by omega).trans (h'.block k hk hn)⟩
section
variable {Ls : List TypeId} {B : Zn} {w c c' : World} {D P R Bn T S O K : Nat} {v v' : Value} {l l' : List Sec} {ops ops' : List Med.Op} {L M M' : List F} {p p' : Dsk.Pw} {d d' : Dsk.Dk}
/-- A block of faults that is no part of the disk is stored to. -/
theorem PqL.oth (h : PqL Ls B w D P R Bn T S O K v l ops L M p d c) {b : Nat} (hb : Ty c b 80) (hn : w.heap.size ≤ b) (hv : ∀ g, v.ownBlock = some g → g ≠ b) (i : Nat) (u : Value) : PqL Ls B w D P R Bn T S O K v l ops L M p d (c.setCell ⟨b, i, none⟩ u) := by
  have t : Tch ⟨fun _ => True⟩ [80] c (c.setCell ⟨b, i, none⟩ u) := (Tch.refl _ _ _).set trivial hb (by simp) _
  refine ⟨Row.tch t h.row (by decide), h.ce.tq t (by unfold NoCap; decide) (by decide) (by decide) (by decide) (by decide), ?_, h.vl, h.pw.tch t (by decide), h.low, h.pl, h.t.setNew hn u⟩
  obtain ⟨⟨A, cc, rfl, hm, hf, hq⟩, ht⟩ := h.ft
  refine ⟨⟨A, cc, rfl, hm, hf, fun h0 => ?_⟩, fun g hg => ?_⟩
  · obtain ⟨b', off, rfl, hk⟩ := hq h0
    have e : (c.setCell ⟨b, i, none⟩ u).heap[b']? = c.heap[b']? := Below.heap_setCell c ⟨b, i, none⟩ u b' (hv b' rfl)
    refine ⟨b', off, rfl, fun k hkl j x hj => ?_⟩
    have := hk k hkl j x hj
    unfold World.cell? at this ⊢
    rw [e]; exact this
  · obtain ⟨cs, fr, e⟩ := ht g hg
    exact ⟨cs, fr, (Below.heap_setCell c ⟨b, i, none⟩ u g (hv g hg)).trans e⟩
theorem PqL.oth3 (h : PqL Ls B w D P R Bn T S O K v l ops L M p d c) {b : Nat} {cs : Array Value} (hb : Row c b 80 cs) (hn : w.heap.size ≤ b) (hv : ∀ g, v.ownBlock = some g → g ≠ b) (x y z : Value) :
    PqL Ls B w D P R Bn T S O K v l ops L M p d (((c.setCell ⟨b, 0, none⟩ x).setCell ⟨b, 1, none⟩ y).setCell ⟨b, 2, none⟩ z) :=
  ((h.oth hb.ty hn hv 0 x).oth (hb.store 0 x).ty hn hv 1 y).oth ((hb.store 0 x).store 1 y).ty hn hv 2 z
theorem PqL.own (h : PqL Ls B w D P R Bn T S O K v l ops L M p d c) : ∀ g, v.ownBlock = some g → g < c.heap.size := fun g hg => (h.ft.2 g hg).lt
end
set_option maxHeartbeats 2000000 in
set_option maxRecDepth 100000 in
theorem pdhas_any {w : World} {D P R Bn T S O K : Nat} {v : Value} {d : Dsk.Dk} (h : PRow w D R Bn T S O K P v d) {l : List Sec} (hl : l.length = R + Bn * (T * S)) (hg : Geo.GV (R : Int) Bn T S O) (a : Int) :
    Calls Try.prog 59 #[.pointer (some ⟨D, 0, none⟩), .int .i64 a] w (mPost (.bool (decide (0 ≤ a ∧ a < l.length))) w) := by
  obtain ⟨c0, c1, c2, c3, c4⟩ := h.geo5
  have HS : Hid (decide (0 ≤ a ∧ a < l.length) = (decide (0 ≤ a) && decide (a < ((R + Bn * (T * S) : Nat) : Int)))) := Lib.hid (by
    rw [Bool.eq_iff_iff, decide_eq_true_eq, Bool.and_eq_true, decide_eq_true_eq, decide_eq_true_eq, ← hl])
  obtain ⟨q, hq⟩ : ∃ q, decide (0 ≤ a ∧ a < l.length) = q := ⟨_, rfl⟩
  rw [hq] at HS ⊢
  have SZ := fun w => psize_any (R : Int) Bn T S O w
  obtain ⟨z, hz⟩ : ∃ z, Geo.size (R : Int) Bn T S O = z := ⟨_, rfl⟩
  have EZ : z = ((R + Bn * (T * S) : Nat) : Int) := by rw [← hz]; exact Geo.size_nat hg
  rw [hz] at SZ
  rw [← EZ] at HS
  have SZ := Lib.hid SZ
  clear h hl hg hq hz EZ
  by_cases a0 : 0 ≤ a
  · have d0 : decide (0 ≤ a) = true := decide_eq_true a0
    go_enter Try.func59, Try.ntmps59
    go_wp2_with fail
    refine (SZ.out _).mono ?_
    rintro e w1 ⟨rfl, hb⟩
    have H := Lib.hid (show q = decide (a < z) by rw [HS.out, d0]; rfl)
    have HB := Lib.hid hb
    clear hb
    go_wp2_with fail
    go_ret
    exact ⟨by rw [H.out]; rfl, HB.out⟩
  · have d0 : decide (0 ≤ a) = false := decide_eq_false a0
    have H := Lib.hid (show q = false by rw [HS.out, d0]; rfl)
    go_enter Try.func59, Try.ntmps59
    go_wp2_with fail
    go_ret
    exact ⟨by rw [H.out]; rfl, Below.refl _ _⟩
/-- An operation is counted. -/
def ctPost (Ls : List TypeId) (B : Zn) (w : World) (D P R Bn T S O K : Nat) (l : List Sec) (ops : List Med.Op) (L : List F) (p : Dsk.Pw) (d : Dsk.Dk) (e : Ending) (c' : World) : Prop :=
  e = .returned (fV (faL L d.count)) ∧ ∃ v, PqL Ls B w D P R Bn T S O K v l ops L (Dsk.rest L (d.count + 1)) p { d with count := d.count + 1 } c'
set_option maxHeartbeats 4000000 in
set_option maxRecDepth 100000 in
theorem pcount_any {Ls : List TypeId} {B : Zn} {w c : World} {D P R Bn T S O K : Nat} {v : Value} {l : List Sec} {ops : List Med.Op} {L : List F} {p : Dsk.Pw} {d : Dsk.Dk} (h : PqL Ls B w D P R Bn T S O K v l ops L (Dsk.rest L d.count) p d c) (hm : 93 ∈ Ls) (hct : d.count < 4611686018427387904) :
    Calls Try.prog 86 #[.pointer (some ⟨D, 0, none⟩)] c (ctPost Ls B w D P R Bn T S O K l ops L p d) := by
  obtain ⟨A, cc, rfl⟩ := h.ft.form
  obtain ⟨M, hM⟩ : ∃ M, Dsk.rest L d.count = M := ⟨_, rfl⟩
  rw [hM] at h
  have NXM : Hid ((∀ f N, M = f :: N → f.pos ≠ (d.count : Int)) → fF (fnd (d.count : Int) L) = ⟨0, 0, 0⟩ ∧ Dsk.rest L (d.count + 1) = M) := Lib.hid fun hn => by
    have := Dsk.rest_miss h.vl (by rw [hM]; exact hn)
    rw [hM] at this; exact this
  have NXH := Lib.hid fun f N (hf : M = f :: N) (hp : f.pos = (d.count : Int)) => Dsk.rest_hit h.vl (hM.trans hf) hp
  obtain ⟨b4, e4⟩ : ∃ b, c.heap.size = b := ⟨_, rfl⟩
  obtain ⟨w0, hw0⟩ : ∃ x, c.alloc (.cells #[.int .i64 0, .int .i64 0, .int .i64 0] 80) = x := ⟨_, rfl⟩
  have B0 : Below c.heap.size c w0 := by subst hw0; exact (Below.refl _ _).alloc (Nat.le_refl _) _
  have R0 : Row w0 b4 80 #[.int .i64 0, .int .i64 0, .int .i64 0] := by subst hw0; exact new13 c _ _ e4
  have Q0 := h.fw B0
  have Q1 := Lib.hid (Q0.put (d' := { d with count := d.count + 1 }) 0 (.int .i64 ((d.count : Int) + 1)) hm rfl)
  have ND : D ≠ b4 := by have := Row.lt h.row; omega
  have R1 := Lib.hid (R0.oth (fun e => ND e.symm) 0 (.int .i64 ((d.count : Int) + 1)))
  have OW : Hid (∀ g, (Value.slice A M.length cc).ownBlock = some g → g < b4) := Lib.hid fun g hg => by have := h.own g hg; omega
  have NW : Hid (w.heap.size ≤ b4) := Lib.hid (by have := Tch.size h.t; omega)
  have NDH := Lib.hid ND
  obtain ⟨a0, -, -, -, -⟩ := Q0.row.nums
  have f0 := Row.frozen Q0.row 0
  have E4 := Lib.hid e4
  have HMM := Lib.hid hm
  have HW0 := Lib.hid hw0
  have q11 := Q1.out.row.oths.2.1
  have FT := Lib.hid Q1.out.ft
  have CAP : M.length ≤ cc := by obtain ⟨⟨A', c', e, hm, _⟩, _⟩ := FT.out; injection e with e1 e2 e3; omega
  replace CAP := Lib.hid CAP
  have cI : (d.count : Int) ≤ 4611686018427387904 := by omega
  clear h Q0 B0 R0 hM hm e4 hw0 ND hct
  rcases M with _ | ⟨f, N⟩
  · obtain ⟨n1, n2⟩ := NXM.out fun f N hf => by cases hf
    have N1 := Lib.hid n1
    have N2 := Lib.hid n2
    have QF := Lib.hid (Q1.out.oth3 R1.out NW.out (fun g hg => by have := OW.out g hg; omega) (.int .i64 0) (.int .i64 0) (.int .i64 0))
    have RF := Lib.hid (row_set3 R1.out (x' := .int .i64 0) (y' := .int .i64 0) (z' := .int .i64 0))
    have g0 := R1.out.frozen 0
    have g1 := R1.out.frozen 1
    have g2 := R1.out.frozen 2
    clear n1 n2 NXM NXH
    simp only [List.length_nil] at q11
    obtain ⟨r0, r1, r2⟩ := row3 R1.out
    go_enter Try.func86, Try.ntmps86
    go_wp2_with (first | rw [E4.out] | rw [HW0.out])
    refine bodyPost_ret (results_cell_row (g := b4) (t := 80) (fr := (0, 0)) rfl _ _ _ _ rfl RF.out Try.underlying80 rfl (by kernel_rfl)) rfl ?_
    have q := QF.out
    rw [← N2.out] at q
    exact ⟨by rw [show faL L d.count = ⟨0, 0, 0⟩ from N1.out]; rfl, _, q⟩
  · obtain ⟨x, y, z⟩ := f
    obtain ⟨n, hn⟩ : ∃ n, N.length = n := ⟨_, rfl⟩
    have EN := Lib.hid hn
    simp only [List.length_cons] at q11 OW FT Q1 CAP
    rw [hn] at q11 OW FT Q1 CAP
    clear hn
    obtain ⟨m, hm⟩ : ∃ m, n + 1 = m := ⟨_, rfl⟩
    have EM := Lib.hid hm
    rw [hm] at q11 OW FT Q1 CAP
    have m0 : 0 < m := by omega
    clear hm
    obtain ⟨bb, off, hk0, rfl, hr⟩ := Fts.nth FT.out.1 (k := 0) m0
    simp only [Nat.zero_mul, Nat.add_zero, List.getElem_cons_zero] at hr
    obtain ⟨h0, h1, h2⟩ := fcs_at hr
    have RG := Lib.hid hr
    have c0 : (w0.setCell ⟨D, 0, none⟩ (.int .i64 ((d.count : Int) + 1))).cell? ⟨bb, off, none⟩ = some (.int .i64 x) := h0
    have nI : ((m : Int) == 0) = false := by simp; omega
    clear hr h0 h1 h2 hk0
    have g0 := R1.out.frozen 0
    have g1 := R1.out.frozen 1
    have g2 := R1.out.frozen 2
    obtain ⟨r0, r1, r2⟩ := row3 R1.out
    by_cases hx : x = (d.count : Int)
    · obtain ⟨n1, n2⟩ := NXH.out ⟨x, y, z⟩ N rfl hx
      have N1 := Lib.hid n1
      have N2 := Lib.hid n2
      subst hx
      obtain ⟨TA, td, s1, s2, TF, TO⟩ := ft_tail (some ⟨bb, off, none⟩) m n cc EM.out CAP.out
      replace TF := Lib.hid TF
      replace TO := Lib.hid TO
      clear n1 n2 NXM NXH
      generalize hW1 : w0.setCell ⟨D, 0, none⟩ (.int .i64 ((d.count : Int) + 1)) = W1 at *
      obtain ⟨b5, e5⟩ : ∃ b, W1.heap.size = b := ⟨_, rfl⟩
      obtain ⟨W2, hW2⟩ : ∃ q, W1.alloc (.cells #[.int .i64 (d.count : Int), .int .i64 y, .int .i64 z] 80) = q := ⟨_, rfl⟩
      have B2 : Below W1.heap.size W1 W2 := by subst hW2; exact (Below.refl _ _).alloc (Nat.le_refl _) _
      have RF2 : Row W2 b5 80 #[.int .i64 (d.count : Int), .int .i64 y, .int .i64 z] := by subst hW2; exact new13 W1 _ _ e5
      have Q2 := Q1.out.fw B2
      have R2 := R1.out.go B2
      have ND5 : D ≠ b5 := by have := Row.lt Q1.out.row; omega
      have Q3 := Lib.hid (Q2.flt HMM.out (TF.out W2 ⟨(d.count : Int), y, z⟩ N (FT.out.fw B2)))
      have R3 := Lib.hid (R2.oth (fun e => NDH.out e.symm) 11 (.slice TA n td))
      have F3 := Lib.hid (RF2.oth (fun e => ND5 e.symm) 11 (.slice TA n td))
      have p11 := Q2.row.oths.2.1
      have pf11 := Row.frozen Q2.row 11
      obtain ⟨y0, y1, y2⟩ := row3 F3.out
      have h0 := R3.out.frozen 0
      have h1 := R3.out.frozen 1
      have h2 := R3.out.frozen 2
      have RR := Lib.hid (row_rg F3.out)
      have QF := Lib.hid (Q3.out.oth3 R3.out NW.out (fun g hg => by have := OW.out g (TO.out g hg); omega) (.int .i64 (d.count : Int)) (.int .i64 y) (.int .i64 z))
      have RF := Lib.hid (row_set3 R3.out (x' := .int .i64 (d.count : Int)) (y' := .int .i64 y) (z' := .int .i64 z))
      have E5 := Lib.hid e5
      have HW1 := Lib.hid hW1
      have HW2 := Lib.hid hW2
      clear hW1 e5 hW2 B2 RF2 Q2 R2 ND5 r0 r1 r2 g0 g1 g2
      obtain ⟨k0, k1, k2⟩ := row3 R3.out
      go_enter Try.func86, Try.ntmps86
      go_wp2_with (first | rw [E4.out] | rw [HW0.out] | rw [HW1.out] | rw [HW2.out, E5.out] | (refine wpList_load_mid rfl _ _ rfl bb off rfl [.int .i64 (d.count : Int), .int .i64 y, .int .i64 z] _ RG.out Try.underlying80 rfl (by kernel_rfl) ?_) | (refine wpList_load_mid rfl _ _ rfl b5 0 rfl [.int .i64 (d.count : Int), .int .i64 y, .int .i64 z] _ RR.out Try.underlying80 rfl (by kernel_rfl) ?_))
      refine bodyPost_ret (results_cell_row (g := b4) (t := 80) (fr := (0, 0)) rfl _ _ _ _ rfl RF.out Try.underlying80 rfl (by kernel_rfl)) rfl ?_
      have q := QF.out
      rw [← N2.out] at q
      exact ⟨by rw [show faL L d.count = ⟨(d.count : Int), y, z⟩ from N1.out]; rfl, _, q⟩
    · obtain ⟨n1, n2⟩ := NXM.out fun f N hf => by injection hf with hf _; subst hf; exact hx
      have N1 := Lib.hid n1
      have N2 := Lib.hid n2
      have dx : (x != (d.count : Int)) = true := by simp [hx]
      have QF := Lib.hid (Q1.out.oth3 R1.out NW.out (fun g hg => by have := OW.out g hg; omega) (.int .i64 0) (.int .i64 0) (.int .i64 0))
      have RF := Lib.hid (row_set3 R1.out (x' := .int .i64 0) (y' := .int .i64 0) (z' := .int .i64 0))
      clear n1 n2 NXM NXH hx
      go_enter Try.func86, Try.ntmps86
      go_wp2_with (first | rw [E4.out] | rw [HW0.out])
      refine bodyPost_ret (results_cell_row (g := b4) (t := 80) (fr := (0, 0)) rfl _ _ _ _ rfl RF.out Try.underlying80 rfl (by kernel_rfl)) rfl ?_
      have q := QF.out
      rw [← N2.out] at q
      exact ⟨by rw [show faL L d.count = ⟨0, 0, 0⟩ from N1.out]; rfl, _, q⟩
end Go.Proofs.Ytdjjihppaobbcaa
