/- Joined: Dpn Dpo. -/
import Derived.Test.YtdjjihppaobbcaaDpm
import Derived.Test.YtdjjihppaobbcaaGK
import Derived.Lib.SlBytesConst
namespace Go.Proofs.Ytdjjihppaobbcaa
open Go Go.RowKit Med Flt
set_option linter.unusedVariables false
set_option linter.unusedSimpArgs false
instance : DecidableEq Dsk.Pw := fun a b => by
  obtain ⟨a1, a2, a3, a4⟩ := a
  obtain ⟨b1, b2, b3, b4⟩ := b
  exact decidable_of_iff (a1 = b1 ∧ a2 = b2 ∧ a3 = b3 ∧ a4 = b4) (by simp)
namespace Dsk
def exF : List F := [⟨1, 1, 0⟩]
def exP : Pw := Pw.new
def ex0 : Dk := Dk.new (List.replicate 3 Med.blank) exP
def ex1 : Dk := writeD (faL exF) 2 1 1 1 0 exP ex0 0 0 [120] false
def ex2 : Dk := writeD (faL exF) 2 1 1 1 0 exP ex1 0 0 [121] false
def ex3 : Dk := readD (faL exF) 2 1 1 1 0 exP ex2 0 0
def exQ : Pw := exP.arm 1
def ex4 : Dk := readD (faL exF) 2 1 1 1 0 exQ ex3 0 0
def exR : Pw := beP exQ ex3
def exS : Pw := beP exR ex4
theorem ex_w1 : writeE (faL exF) exP ex0 0 0 [120] = 0 := by decide +kernel
theorem ex_w2 : writeE (faL exF) exP ex1 0 0 [121] = 0 := by decide +kernel
theorem ex_r : readE (faL exF) 2 1 1 1 0 exP ex2 0 0 = 0 ∧ readB (faL exF) 2 1 1 1 0 exP ex2 0 0 = strOf [120] := by decide +kernel
theorem ex_r3 : readE (faL exF) 2 1 1 1 0 exQ ex3 0 0 = 0 := by decide +kernel
theorem ex_r4 : readE (faL exF) 2 1 1 1 0 exR ex4 0 0 = 13 ∧ exS.off = true := by decide +kernel
theorem ex_p1 : beP exP ex0 = exP ∧ beP exP ex1 = exP ∧ beP exP ex2 = exP := by unfold beP; decide +kernel
theorem ex_s : strOf [120] = ⟨#[120]⟩ := by decide +kernel
theorem ex_n : (ex0.count ≤ 9 ∧ ex0.ws ≤ 9 ∧ ex0.ops.length ≤ 9) ∧ (ex1.count ≤ 9 ∧ ex1.ws ≤ 9 ∧ ex1.ops.length ≤ 9) ∧ (ex2.count ≤ 9 ∧ ex2.rs ≤ 9) ∧ (ex3.count ≤ 9 ∧ ex3.rs ≤ 9) ∧ ex4.count ≤ 9 ∧ ex4.rs ≤ 9 := by decide +kernel
theorem ex_v : vld exF = true := by decide
theorem ex_f : exP.fit 5 ∧ exQ.fit 5 ∧ exR.fit 5 := by unfold Pw.fit; decide +kernel
end Dsk
theorem exF_lit (w : World) : Fts (w.alloc (.cells #[.int .i64 1, .int .i64 1, .int .i64 0] 80)) (.slice (some ⟨w.heap.size, 0, none⟩) 1 1) Dsk.exF := by
  have hr := new13 w #[.int .i64 1, .int .i64 1, .int .i64 0] 80 rfl
  refine ⟨_, 1, rfl, ⟨Nat.le_refl _, by decide⟩, ?_, fun _ => ⟨w.heap.size, 0, rfl, fun k hk => ?_⟩⟩
  · intro f hf
    simp only [Dsk.exF, List.mem_cons, List.not_mem_nil, or_false] at hf
    subst hf; decide
  · obtain rfl : k = 0 := by simp [Dsk.exF] at hk; exact hk
    exact row_rg hr
theorem bst_lit (w : World) (fr : Nat × Nat) (x : Nat) (hx : x < 256) : BsT (w.alloc (.cells #[.int .u8 (x : Int)] 5 fr)) (.slice (some ⟨w.heap.size, 0, none⟩) 1 1) [x] := by
  refine ⟨bs_lit w 5 fr x hx, fun g hg => ?_⟩
  injection hg with hg
  subst hg
  exact ⟨_, _, heap_alloc_new w _⟩
set_option maxHeartbeats 4000000 in
set_option maxRecDepth 100000 in
theorem awake14 (w : World) : Calls Try.prog 8 #[] w (gPost (.bool true) w) := by
  have kc := fun (w : World) (C : Array Value) (n c : Nat) => Lib.run_convert_bytes_const (P := Try.prog) w 60 5 C n c Try.underlying60 Try.underlying5
  go_enter Try.func8, Try.ntmps8
  go_wp2_with fail
  refine (pnp_any w).mono ?_
  rintro e w1 ⟨P, rfl, hP, hp, hb⟩
  have B1 := Lib.hid hb
  have P1 := Lib.hid hp
  have PL := Lib.hid hP
  obtain ⟨b2, hb2⟩ : ∃ b, w1.heap.size = b := ⟨_, rfl⟩
  obtain ⟨W2, hW2⟩ : ∃ q, w1.alloc (.cells #[.int .i64 2, .int .i64 1, .int .i64 1, .int .i64 1, .int .i64 0] 23) = q := ⟨_, rfl⟩
  have A2 : Below w1.heap.size w1 W2 := by subst hW2; exact (Below.refl _ _).alloc (Nat.le_refl _) _
  have G2 : Row W2 b2 23 #[.int .i64 2, .int .i64 1, .int .i64 1, .int .i64 1, .int .i64 0] := by subst hW2; exact gr_new w1 _ _ hb2
  have B2 := Lib.hid (hb.trans (A2.mono hb.size))
  have P2 := Lib.hid (hp.fw A2)
  have HB2 := Lib.hid hb2
  have HW2 := Lib.hid hW2
  obtain ⟨b3, hb3⟩ : ∃ b, W2.heap.size = b := ⟨_, rfl⟩
  obtain ⟨W3, hW3⟩ : ∃ q, W2.alloc (.cells #[.int .i64 1, .int .i64 1, .int .i64 0] 80) = q := ⟨_, rfl⟩
  have A3 : Below W2.heap.size W2 W3 := by subst hW3; exact (Below.refl _ _).alloc (Nat.le_refl _) _
  have B3 := Lib.hid (B2.out.trans (A3.mono B2.out.size))
  have P3 := Lib.hid (P2.out.fw A3)
  have L3 : Hid (Fts W3 (.slice (some ⟨b3, 0, none⟩) 1 1) Dsk.exF) := Lib.hid (by subst hb3 hW3; exact exF_lit W2)
  have HB3 := Lib.hid hb3
  have HW3 := Lib.hid hW3
  have NW : Hid (Calls Try.prog 12 #[.agg #[.int .i64 2, .int .i64 1, .int .i64 1, .int .i64 1, .int .i64 0], .slice (some ⟨b3, 0, none⟩) 1 1, .pointer (some ⟨P, 0, none⟩)] W3 (pdNew P 2 1 1 1 0 Dsk.exF Dsk.exP W3)) := Lib.hid (pdnew_ok (R := 2) (Bn := 1) (T := 1) (S := 1) (O := 0) (by decide) L3.out Dsk.ex_v (by decide) P3.out)
  obtain ⟨g0, g1, g2, g3, g4⟩ := geo_cells14 G2
  clear hb hp hP hb2 hW2 hb3 hW3 A2 A3 G2
  go_wp2_with (first | rw [HW2.out, HB2.out] | rw [HW3.out, HB3.out] | (refine wpList_plain rfl fun _ hK' => wp_build_f _ rfl 1 1 0 rfl (hK' _ _ ?_)))
  refine NW.out.mono ?_
  rintro e w4 ⟨D, rfl, hd, hb⟩
  obtain ⟨B, hB⟩ : ∃ B : Zn, B = (w.heap.size : Zn) := ⟨_, rfl⟩
  have D4 : Hid (PDk B w4 D P 2 1 1 1 0 Dsk.exF Dsk.ex0) := Lib.hid (hd.zone fun k hk => by rw [hB]; exact Nat.le_trans B3.out.size hk)
  have P4 : Hid (PPw w4 P Dsk.exP) := Lib.hid (P3.out.fw hb)
  have B4 := Lib.hid (B3.out.trans (hb.mono B3.out.size))
  have BP : Hid (B.fr P) := Lib.hid (by rw [hB]; exact PL.out)
  have BT : Hid (∀ c : World, w.heap.size ≤ c.heap.size → B.top c) := Lib.hid fun c hc k hk => by rw [hB]; exact Nat.le_trans hc hk
  have BB : Hid (∀ {c c' : World} {L : List TypeId}, w.heap.size ≤ c.heap.size → Tch B L c c' → Below w.heap.size c c') := Lib.hid fun hs ht => Tch.below_ ht hs fun k hk => by rw [hB] at hk; exact hk
  clear hd hb hB NW
  go_wp2_with fail
  have C4 := Lib.hid (bst_lit w4 (1, 2) 120 (by decide))
  have A4 := Lib.hid ((Below.refl w4.heap.size w4).alloc (Nat.le_refl _) (.cells #[.int .u8 120] 5 (1, 2)))
  have S5 := Lib.hid (Nat.le_trans B4.out.size A4.out.size)
  have W1 := pwr14_any (D4.out.fw A4.out) (P4.out.fw A4.out) BP.out (BT.out _ S5.out) Dsk.ex_f.1 (by decide) (Nat.lt_of_le_of_lt Dsk.ex_n.1.1 (by decide)) (Nat.lt_of_le_of_lt Dsk.ex_n.1.2.1 (by decide)) (Nat.le_trans Dsk.ex_n.1.2.2 (by decide)) 0 0 _ [120] false (fun c hc => (C4.out.tch hc (by decide)).1) (by decide)
  unfold pdPost at W1
  rw [Dsk.ex_w1, Dsk.ex_p1.1] at W1
  replace W1 := Lib.hid W1
  refine W1.out.mono ?_
  rintro e w5 ⟨rfl, hd, hp, ht⟩
  have D5 : Hid (PDk B w5 D P 2 1 1 1 0 Dsk.exF Dsk.ex1) := Lib.hid hd
  have P5 := Lib.hid hp
  have B5 := Lib.hid ((B4.out.trans (A4.out.mono B4.out.size)).trans (BB.out S5.out ht))
  clear hd hp ht W1 C4 A4 S5
  go_wp2_with fail
  have C5 := Lib.hid (bst_lit w5 (1, 2) 121 (by decide))
  have A5 := Lib.hid ((Below.refl w5.heap.size w5).alloc (Nat.le_refl _) (.cells #[.int .u8 121] 5 (1, 2)))
  have S6 := Lib.hid (Nat.le_trans B5.out.size A5.out.size)
  have W1 := pwr14_any (D5.out.fw A5.out) (P5.out.fw A5.out) BP.out (BT.out _ S6.out) Dsk.ex_f.1 (by decide) (Nat.lt_of_le_of_lt Dsk.ex_n.2.1.1 (by decide)) (Nat.lt_of_le_of_lt Dsk.ex_n.2.1.2.1 (by decide)) (Nat.le_trans Dsk.ex_n.2.1.2.2 (by decide)) 0 0 _ [121] false (fun c hc => (C5.out.tch hc (by decide)).1) (by decide)
  unfold pdPost at W1
  rw [Dsk.ex_w2, Dsk.ex_p1.2.1] at W1
  replace W1 := Lib.hid W1
  refine W1.out.mono ?_
  rintro e w6 ⟨rfl, hd, hp, ht⟩
  have D6 : Hid (PDk B w6 D P 2 1 1 1 0 Dsk.exF Dsk.ex2) := Lib.hid hd
  have P6 := Lib.hid hp
  have B6 := Lib.hid ((B5.out.trans (A5.out.mono B5.out.size)).trans (BB.out S6.out ht))
  clear hd hp ht W1 C5 A5 S6 kc
  have RD := prd14_any D6.out P6.out BP.out Dsk.ex_f.1 (by decide) (Nat.lt_of_le_of_lt Dsk.ex_n.2.2.1.1 (by decide)) (Nat.lt_of_le_of_lt Dsk.ex_n.2.2.1.2 (by decide)) 0 0
  unfold prdkPost at RD
  rw [Dsk.ex_r.1, Dsk.ex_r.2, Dsk.ex_p1.2.2] at RD
  replace RD := Lib.hid RD
  go_wp2_with fail
  refine RD.out.mono ?_
  rintro e w7 ⟨u, rfl, hu, hd, hp, ht⟩
  have D7 : Hid (PDk B w7 D P 2 1 1 1 0 Dsk.exF Dsk.ex3) := Lib.hid hd
  have B7 := Lib.hid (B6.out.trans (BB.out B6.out.size ht))
  rw [bOf_strOf (l := [120]) (by decide)] at hu
  have U7 := Lib.hid hu
  have AR := Lib.hid (parm_any hp 1)
  have P7 := Lib.hid hp
  clear hu hd hp ht RD
  go_wp2_with fail
  refine AR.out.mono ?_
  rintro e w8 ⟨⟨u2, rfl⟩, hp, hc⟩
  have t8 : Tch B [82] w7 w8 := Tch.of_one hc BP.out P7.out.ty (by simp)
  have D8 : Hid (PDk B w8 D P 2 1 1 1 0 Dsk.exF Dsk.ex3) := Lib.hid (D7.out.pwr BP.out P7.out.ty hc)
  have B8 := Lib.hid (B7.out.trans (BB.out B7.out.size t8))
  have U8 := Lib.hid (U7.out.tch t8 (by decide))
  have P8 : Hid (PPw w8 P Dsk.exQ) := Lib.hid hp
  clear hp hc t8 AR U7
  have RD := prd14_any D8.out P8.out BP.out Dsk.ex_f.2.1 (by decide) (Nat.lt_of_le_of_lt Dsk.ex_n.2.2.2.1.1 (by decide)) (Nat.lt_of_le_of_lt Dsk.ex_n.2.2.2.1.2 (by decide)) 0 0
  unfold prdkPost at RD
  rw [Dsk.ex_r3] at RD
  replace RD := Lib.hid RD
  go_wp2_with fail
  refine RD.out.mono ?_
  rintro e w9 ⟨v9, rfl, hu, hd, hp, ht⟩
  have D9 : Hid (PDk B w9 D P 2 1 1 1 0 Dsk.exF Dsk.ex4) := Lib.hid hd
  have P9 : Hid (PPw w9 P Dsk.exR) := Lib.hid hp
  have B9 := Lib.hid (B8.out.trans (BB.out B8.out.size ht))
  have U9 := Lib.hid (U8.out.tch ht (by decide))
  clear hu hd hp ht RD U8
  have RD := prd14_any D9.out P9.out BP.out Dsk.ex_f.2.2 (by decide) (Nat.lt_of_le_of_lt Dsk.ex_n.2.2.2.2.1 (by decide)) (Nat.lt_of_le_of_lt Dsk.ex_n.2.2.2.2.2 (by decide)) 0 0
  unfold prdkPost at RD
  rw [Dsk.ex_r4.1] at RD
  replace RD := Lib.hid RD
  go_wp2_with fail
  refine RD.out.mono ?_
  rintro e w10 ⟨v10, rfl, hu, hd, hp, ht⟩
  have OF := poff_any (p := Dsk.exS) hp
  rw [Dsk.ex_r4.2] at OF
  replace OF := Lib.hid OF
  have B10 := Lib.hid (B9.out.trans (BB.out B9.out.size ht))
  have U10 := U9.out.tch ht (by decide)
  obtain ⟨A1, a1, rfl⟩ := U10.1.form
  have cv := cvb A1 1 a1 [120] U10.1
  rw [Dsk.ex_s] at cv
  clear hu hd hp ht RD U10 U9
  go_wp2_with fail
  refine OF.out.mono ?_
  rintro e w' ⟨rfl, rfl⟩
  clear OF
  go_wp2_with fail
  go_ret
  exact ⟨rfl, B10.out⟩
end Go.Proofs.Ytdjjihppaobbcaa
namespace Go.Proofs.Ytdjjihppaobbcaa
open Go Go.RowKit Med Flt
set_option linter.unusedVariables false
set_option linter.unusedSimpArgs false
/-- The cells of a case. -/
abbrev csc (r b t s o : Int) (v0 v1 va : Value) : Array Value := #[.int .i64 r, .int .i64 b, .int .i64 t, .int .i64 s, .int .i64 o, v0, v1, va]
abbrev CBox (w : World) (g : Nat) (r b t s o : Int) (v0 v1 va : Value) : Prop := Row w g 45 (csc r b t s o v0 v1 va)
theorem CBox.cells {w : World} {g : Nat} {r b t s o : Int} {v0 v1 va : Value} (h : CBox w g r b t s o v0 v1 va) : (w.cell? ⟨g, 0, none⟩ = some (.int .i64 r) ∧ w.cell? ⟨g, 1, none⟩ = some (.int .i64 b) ∧ w.cell? ⟨g, 2, none⟩ = some (.int .i64 t) ∧ w.cell? ⟨g, 3, none⟩ = some (.int .i64 s) ∧ w.cell? ⟨g, 4, none⟩ = some (.int .i64 o)) ∧
    w.cell? ⟨g, 5, none⟩ = some v0 ∧ w.cell? ⟨g, 6, none⟩ = some v1 ∧ w.cell? ⟨g, 7, none⟩ = some va := by
  refine ⟨⟨?_, ?_, ?_, ?_, ?_⟩, ?_, ?_, ?_⟩ <;> (rw [Row.cell h]; rfl)
theorem CBox.all {w : World} {g : Nat} {r b t s o : Int} {v0 v1 va : Value} (h : CBox w g r b t s o v0 v1 va) : w.rangeAt g 0 [.int .i64 r, .int .i64 b, .int .i64 t, .int .i64 s, .int .i64 o, v0, v1, va] := by
  intro j v hv
  rw [Nat.zero_add, Row.cell h]
  simpa using hv
/-- A list of acts whose bytes are read from the world w. -/
def Acl (w : World) (v : Value) (L : List Ac) : Prop := St.Rd 6 acs w v L ∧ ∀ a ∈ L, AcOk w a
theorem Acl.fw {w w' : World} {v : Value} {L : List Ac} (h : Acl w v L) (hb : Below w.heap.size w w') : Acl w' v L := ⟨h.1.fw hb, fun a ha => (h.2 a ha).fw hb⟩
theorem Acl.form {w : World} {v : Value} {L : List Ac} (h : Acl w v L) : ∃ A c, v = .slice A L.length c := h.1.form
theorem Acl.len {w : World} {v : Value} {L : List Ac} (h : Acl w v L) : L.length ≤ 9223372036854775807 := h.1.len
theorem Acl.nth {w : World} {A : Option Addr} {n c : Nat} {L : List Ac} (h : Acl w (.slice A n c) L) {i : Nat} (hi : i < n) : ∃ (b off : Nat) (h2 : i < L.length), A = some ⟨b, off, none⟩ ∧ w.rangeAt b (off + i * 6) (acs L[i]) ∧ AcOk w L[i] := by
  obtain ⟨b, off, h2, h3, h4⟩ := h.1.nth hi
  exact ⟨b, off, h2, h3, h4, h.2 _ (List.getElem_mem h2)⟩
theorem acs_at {w : World} {b o : Nat} {a : Ac} (h : w.rangeAt b o (acs a)) : w.cell? ⟨b, o, none⟩ = some (.int .u8 (a.disk : Int)) ∧ w.cell? ⟨b, o + 1, none⟩ = some (.int .u8 (a.kind : Int)) ∧ w.cell? ⟨b, o + 2, none⟩ = some (.int .u64 (a.key : Int)) ∧ w.cell? ⟨b, o + 3, none⟩ = some (.int .i64 a.pos) ∧ w.cell? ⟨b, o + 4, none⟩ = some (.slice a.ua a.un a.uc) ∧ w.cell? ⟨b, o + 5, none⟩ = some (.bool a.force) :=
  ⟨h 0 _ rfl, h 1 _ rfl, h 2 _ rfl, h 3 _ rfl, h 4 _ rfl, h 5 _ rfl⟩
/-- What fair asks. -/
def Fair14 (r b t s o : Int) (L0 L1 : List F) (L : List Ac) : Prop := Geo.GV r b t s o ∧ Geo.size r b t s o ≤ 120 ∧ L.length ≤ 60 ∧ L0.length ≤ 20 ∧ L1.length ≤ 20 ∧ (∀ k (h : k < L.length), L[k].bytes.length ≤ 100) ∧ vld L0 = true ∧ vld L1 = true
theorem Fair14.nat {r b t s o : Int} {L0 L1 : List F} {L : List Ac} (h : Fair14 r b t s o L0 L1 L) : ∃ R B T S O : Nat, r = R ∧ b = B ∧ t = T ∧ s = S ∧ o = O := by
  obtain ⟨⟨h1, h2, h3, h4, h5⟩, -⟩ := h
  exact ⟨r.toNat, b.toNat, t.toNat, s.toNat, o.toNat, by omega, by omega, by omega, by omega, by omega⟩
def fr14 (r b t s o : Int) (L0 L1 : List F) (L : List Ac) (w : World) (e : Ending) (w' : World) : Prop := ∃ bb : Bool, e = .returned (.bool bb) ∧ (bb = true → Fair14 r b t s o L0 L1 L) ∧ Below w.heap.size w w'
set_option maxHeartbeats 4000000 in
set_option maxRecDepth 100000 in
theorem fair14_any (r b t s o : Int) (v0 v1 va : Value) (L0 L1 : List F) (L : List Ac) (w : World) (h0 : Fts w v0 L0) (h1 : Fts w v1 L1) (h : Acl w va L) : Calls Try.prog 20 #[.agg (csc r b t s o v0 v1 va)] w (fr14 r b t s o L0 L1 L w) := by
  have HL := Lib.hid h.len
  obtain ⟨A0, c0_, rfl⟩ := h0.form
  obtain ⟨A1, c1_, rfl⟩ := h1.form
  obtain ⟨Aa, ca, rfl⟩ := h.form
  have HO := Lib.hid h
  have H0 := Lib.hid h0
  have H1 := Lib.hid h1
  clear h h0 h1
  obtain ⟨n, hn⟩ : ∃ n, L.length = n := ⟨_, rfl⟩
  obtain ⟨n0, hn0⟩ : ∃ n, L0.length = n := ⟨_, rfl⟩
  obtain ⟨n1, hn1⟩ : ∃ n, L1.length = n := ⟨_, rfl⟩
  have EN := Lib.hid hn
  have EN0 := Lib.hid hn0
  have EN1 := Lib.hid hn1
  rw [hn] at HO HL ⊢
  rw [hn0] at H0 ⊢
  rw [hn1] at H1 ⊢
  clear hn hn0 hn1
  unfold csc
  obtain ⟨B0, hB0⟩ : ∃ B, w.heap.size = B := ⟨_, rfl⟩
  obtain ⟨W0, hW0⟩ : ∃ W, w.alloc (.cells #[.int .i64 r, .int .i64 b, .int .i64 t, .int .i64 s, .int .i64 o, .slice A0 n0 c0_, .slice A1 n1 c1_, .slice Aa n ca] 45) = W := ⟨_, rfl⟩
  have BW : Hid (Below w.heap.size w W0) := Lib.hid (by subst hW0; exact (Below.refl _ _).alloc (Nat.le_refl _) _)
  have R0 : Hid (CBox W0 B0 r b t s o (.slice A0 n0 c0_) (.slice A1 n1 c1_) (.slice Aa n ca)) := Lib.hid (by subst hW0; exact gr_new w _ _ hB0)
  obtain ⟨⟨c0, c1, c2, c3, c4⟩, -, -, -⟩ := CBox.cells R0.out
  have HB0 := Lib.hid hB0
  have HW0 := Lib.hid hW0
  clear hB0 hW0
  have SZ := Lib.hid fun w => rsize_any r b t s o w
  have RV := Lib.hid (rvalid_any r b t s o W0)
  by_cases hv : Geo.GV r b t s o
  · rw [decide_eq_true hv] at RV
    have GVH := Lib.hid hv
    clear hv
    go_enter Try.func20, Try.ntmps20
    go_wp2_with (first | rw [HB0.out] | rw [HW0.out])
    refine RV.out.mono ?_
    rintro e w1 ⟨rfl, hb⟩
    obtain ⟨⟨c0, c1, c2, c3, c4⟩, -, -, -⟩ := CBox.cells (Row.go R0.out hb)
    have R1 := Lib.hid (Row.go R0.out hb)
    have B1 := Lib.hid (BW.out.trans (hb.mono BW.out.size))
    clear hb RV
    go_wp2_with fail
    have SZ1 := Lib.hid (SZ.out w1)
    obtain ⟨z, hz⟩ : ∃ z, Geo.size r b t s o = z := ⟨_, rfl⟩
    have EZ := Lib.hid hz
    rw [hz] at SZ1
    clear hz
    refine SZ1.out.mono ?_
    rintro e w2 ⟨rfl, hb⟩
    obtain ⟨-, c5, c6, c7⟩ := CBox.cells (Row.go R1.out hb)
    have R2 := Lib.hid (Row.go R1.out hb)
    have B2 := Lib.hid (B1.out.trans (hb.mono B1.out.size))
    clear hb SZ SZ1
    by_cases h1 : (120 : Int) < z
    · have d1 : decide ((120 : Int) < z) = true := decide_eq_true h1
      go_wp2_with fail
      go_ret
      exact ⟨false, rfl, fun h => (by cases h), B2.out⟩
    have d1 : decide ((120 : Int) < z) = false := decide_eq_false h1
    have Z1 := Lib.hid h1
    by_cases h2 : 60 < n
    · have d2 : decide ((60 : Int) < (n : Int)) = true := decide_eq_true (by omega)
      have h2I : (60 : Int) < (n : Int) := by omega
      go_wp2_with fail
      go_ret
      exact ⟨false, rfl, fun h => (by cases h), B2.out⟩
    have d2 : decide ((60 : Int) < (n : Int)) = false := decide_eq_false (by omega)
    have Z2 := Lib.hid (show n ≤ 60 by omega)
    by_cases h3 : 20 < n0
    · have d3 : decide ((20 : Int) < (n0 : Int)) = true := decide_eq_true (by omega)
      have h3I : (20 : Int) < (n0 : Int) := by omega
      go_wp2_with fail
      go_ret
      exact ⟨false, rfl, fun h => (by cases h), B2.out⟩
    have d3 : decide ((20 : Int) < (n0 : Int)) = false := decide_eq_false (by omega)
    have Z3 := Lib.hid (show n0 ≤ 20 by omega)
    by_cases h4 : 20 < n1
    · have d4 : decide ((20 : Int) < (n1 : Int)) = true := decide_eq_true (by omega)
      have h4I : (20 : Int) < (n1 : Int) := by omega
      go_wp2_with fail
      go_ret
      exact ⟨false, rfl, fun h => (by cases h), B2.out⟩
    have d4 : decide ((20 : Int) < (n1 : Int)) = false := decide_eq_false (by omega)
    have Z4 := Lib.hid (show n1 ≤ 20 by omega)
    clear h1 h2 h3 h4
    go_wp2_with fail
    clear d1 d2 d3 d4
    go_loopw [3] (fun i wr => ∃ k : Nat, k ≤ n ∧ i = .int .i64 (k : Int) ∧ wr = w2 ∧ Hid (∀ j, j < k → ∀ hj : j < L.length, L[j].bytes.length ≤ 100)) (fun i _ => n - (intOf i).toNat)
    case atStart => exact ⟨0, Nat.zero_le _, rfl, rfl, Lib.hid fun j hj => absurd hj (Nat.not_lt_zero j)⟩
    case round =>
      obtain ⟨k, hk, rfl, hwr, U⟩ := hrel
      obtain rfl := hwr.symm
      have nb := Z2.out
      by_cases hlt : k < n
      · have kI : (k : Int) < (n : Int) := by omega
        obtain ⟨b2, off, hk2, rfl, hrg, hok⟩ := (HO.out.fw B2.out).nth hlt
        obtain ⟨-, -, -, -, f4, -⟩ := acs_at hrg
        obtain ⟨m, hm⟩ : ∃ m, L[k].un = m := ⟨_, rfl⟩
        have EM : Hid (L[k].bytes.length = m) := Lib.hid (by rw [← hm]; exact ((by_cap hok.2.2.2.2).1).symm)
        rw [hm] at f4
        clear hm hrg hok
        by_cases h100 : 100 < m
        · have d1 : decide ((100 : Int) < (m : Int)) = true := decide_eq_true (by omega)
          go_wp2_with fail
          go_ret
          exact ⟨false, rfl, fun h => (by cases h), B2.out⟩
        · have d1 : decide ((100 : Int) < (m : Int)) = false := decide_eq_false (by omega)
          have M1 := Lib.hid (show m ≤ 100 by omega)
          clear h100
          go_wp2_with fail
          go_roundw
          case rel =>
            refine ⟨k + 1, by omega, by go_num, by trivial, Lib.hid fun j hj hj2 => ?_⟩
            rcases Nat.lt_or_ge j k with h | h
            · exact U.out j h hj2
            · obtain rfl : j = k := by omega
              rw [EM.out]; exact M1.out
          case measure => simp [intOf]; omega
      · obtain rfl : k = n := by omega
        have kI : ¬ (k : Int) < (k : Int) := by omega
        have dk : decide ((k : Int) < (k : Int)) = false := decide_eq_false kI
        have V0 := Lib.hid (rvl_any _ L0 w2 (H0.out.fw B2.out))
        obtain ⟨q0, hq0⟩ : ∃ q, vld L0 = q := ⟨_, rfl⟩
        have Q0 := Lib.hid hq0
        rw [hq0] at V0
        clear hq0
        have FIN := Lib.hid (show (∀ k (h : k < L.length), L[k].bytes.length ≤ 100) from fun j hj => U.out j (by have := EN.out; omega) hj)
        cases q0 with
        | false =>
          go_wp2_with fail
          refine V0.out.mono ?_
          rintro e w3 ⟨rfl, hb⟩
          have B3 := Lib.hid (B2.out.trans (hb.mono B2.out.size))
          clear hb V0
          go_wp2_with fail
          go_ret
          exact ⟨false, rfl, fun h => (by cases h), B3.out⟩
        | true =>
          go_wp2_with fail
          refine V0.out.mono ?_
          rintro e w3 ⟨rfl, hb⟩
          have B3 := Lib.hid (B2.out.trans (hb.mono B2.out.size))
          obtain ⟨-, -, c6, -⟩ := CBox.cells (Row.go R2.out hb)
          have V1 := Lib.hid (rvl_any _ L1 w3 (H1.out.fw B3.out))
          obtain ⟨q1, hq1⟩ : ∃ q, vld L1 = q := ⟨_, rfl⟩
          have Q1 := Lib.hid hq1
          rw [hq1] at V1
          clear hb V0 hq1
          go_wp2_with fail
          refine V1.out.mono ?_
          rintro e w4 ⟨rfl, hb⟩
          have B4 := Lib.hid (B3.out.trans (hb.mono B3.out.size))
          clear hb V1
          go_wp2_with fail
          go_ret
          exact ⟨q1, rfl, fun h => ⟨GVH.out, by rw [EZ.out]; have := Z1.out; omega, by rw [EN.out]; exact Z2.out, by rw [EN0.out]; exact Z3.out, by rw [EN1.out]; exact Z4.out, FIN.out, Q0.out, Q1.out.trans h⟩, B4.out⟩
  · rw [decide_eq_false hv] at RV
    clear hv
    go_enter Try.func20, Try.ntmps20
    go_wp2_with (first | rw [HB0.out] | rw [HW0.out])
    refine RV.out.mono ?_
    rintro e w1 ⟨rfl, hb⟩
    have B1 := Lib.hid (BW.out.trans (hb.mono BW.out.size))
    clear hb RV SZ
    go_wp2_with fail
    go_ret
    exact ⟨false, rfl, fun h => (by cases h), B1.out⟩
end Go.Proofs.Ytdjjihppaobbcaa
