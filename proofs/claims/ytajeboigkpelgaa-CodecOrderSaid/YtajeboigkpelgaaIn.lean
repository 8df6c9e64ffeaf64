/- Layer 9: the law's read: both readers agree. WRITTEN BY gen_In.py. -/
import Derived.Test.YtajeboigkpelgaaIm
import Derived.Test.YtajeboigkpelgaaIo
import Derived.Deep.MidRow
namespace Go.Proofs.Ytajeboigkpelgaa
open Go Go.RowKit
set_option linter.unusedVariables false
set_option linter.unusedSimpArgs false
namespace Cod
/-- A reader after a read of a kind. -/
def rN (z : Nat) (l : List Nat) (bad : Bool) : List Nat × Bool := if z % 5 = 0 then (rU l bad).2.2 else if z % 5 = 1 then (rI l bad).2.2 else if z % 5 = 2 then (rB l bad).2.2 else if z % 5 = 3 then (rK l bad).2.2 else (rC z l bad).2.2
end Cod
theorem mod_5 (z : Nat) : (z : Int).tmod 5 = ((z % 5 : Nat) : Int) := (Int.ofNat_tmod z 5).symm
def rdPost (z : Nat) (l : List Nat) (bad : Bool) (S T : Nat) (o p : Nat → Prop) (w : World) (e : Ending) (w' : World) : Prop :=
  e = .returned (.bool true) ∧ RdP w' S (Cod.rN z l bad).1 (Cod.rN z l bad).2 o ∧ RdR w' T (Cod.rN z l bad).1 (Cod.rN z l bad).2 p ∧ Chg (fun k => o k ∨ p k) w w'

set_option maxHeartbeats 4000000 in
set_option maxRecDepth 100000 in
theorem read_0 (S T z : Nat) (l : List Nat) (bad : Bool) (o p : Nat → Prop) (w : World) (h : RdP w S l bad o) (hs : RdR w T l bad p) (hd : ∀ k, o k → ¬ p k) (hL : l.length ≤ 1000000) (hz : z < 256) (hj : z % 5 = 0) :
    Calls Try.prog 21 #[.pointer (some ⟨S, 0, none⟩), .pointer (some ⟨T, 0, none⟩), .int .u8 (z : Int)] w (rdPost z l bad S T o p w) := by
  have EN := Lib.hid (show Cod.rN z l bad = (Cod.rU l bad).2.2 by unfold Cod.rN; rw [if_pos hj])
  have e1 : (z : Int).tmod 5 = 0 := by rw [mod_5, hj]; rfl
  have e2 : (z : Int) % 5 = 0 := by omega
  have BY := Lib.hid h.byt
  have P := Lib.hid (puint_any S l bad o w h hL)
  have Q := Lib.hid fun w1 (hs1 : RdR w1 T l bad p) => ruint_any T l bad p w1 hs1
  have HS := Lib.hid hs
  have HD := Lib.hid hd
  clear h hs hd hL hj
  obtain ⟨q, hq⟩ : ∃ q, Cod.rU l bad = q := ⟨_, rfl⟩
  unfold uPost at P Q
  rw [hq] at P EN
  have HQ := Lib.hid hq
  obtain ⟨q1, q2, q3, q4⟩ := q
  clear hq
  go_enter Try.func21, Try.ntmps21
  go_wp2_with fail
  refine P.out.mono ?_
  rintro e w1 ⟨rfl, hr, hc⟩
  have H1 := Lib.hid hr
  have S1 := Lib.hid (HS.out.chg hc fun k hk h2 => HD.out k h2 hk)
  have C1 := Lib.hid hc
  clear hr hc
  go_wp2_with fail
  refine (Q.out w1 S1.out).mono ?_
  rw [HQ.out]
  rintro e w2 ⟨rfl, hr, hc⟩
  have S2 := Lib.hid hr
  have H2 := Lib.hid (H1.out.chg hc HD.out)
  have C2 := Lib.hid hc
  clear hr hc
  go_wp2_with fail
  go_ret
  exact ⟨congrArg (fun t => Ending.returned (.bool t)) (by simp), by rw [EN.out]; exact H2.out, by rw [EN.out]; exact S2.out, (C1.out.mono fun k hk => Or.inl hk).trans (C2.out.mono fun k hk => Or.inr hk)⟩

set_option maxHeartbeats 4000000 in
set_option maxRecDepth 100000 in
theorem read_1 (S T z : Nat) (l : List Nat) (bad : Bool) (o p : Nat → Prop) (w : World) (h : RdP w S l bad o) (hs : RdR w T l bad p) (hd : ∀ k, o k → ¬ p k) (hL : l.length ≤ 1000000) (hz : z < 256) (hj : z % 5 = 1) :
    Calls Try.prog 21 #[.pointer (some ⟨S, 0, none⟩), .pointer (some ⟨T, 0, none⟩), .int .u8 (z : Int)] w (rdPost z l bad S T o p w) := by
  have EN := Lib.hid (show Cod.rN z l bad = (Cod.rI l bad).2.2 by unfold Cod.rN; rw [if_neg (by omega : ¬ z % 5 = 0), if_pos hj])
  have e1 : (z : Int).tmod 5 = 1 := by rw [mod_5, hj]; rfl
  have e2 : (z : Int) % 5 = 1 := by omega
  have BY := Lib.hid h.byt
  have P := Lib.hid (pint_any S l bad o w h hL)
  have Q := Lib.hid fun w1 (hs1 : RdR w1 T l bad p) => rint_any T l bad p w1 hs1
  have HS := Lib.hid hs
  have HD := Lib.hid hd
  clear h hs hd hL hj
  obtain ⟨q, hq⟩ : ∃ q, Cod.rI l bad = q := ⟨_, rfl⟩
  unfold iPost at P Q
  rw [hq] at P EN
  have HQ := Lib.hid hq
  obtain ⟨q1, q2, q3, q4⟩ := q
  clear hq
  go_enter Try.func21, Try.ntmps21
  go_wp2_with fail
  refine P.out.mono ?_
  rintro e w1 ⟨rfl, hr, hc⟩
  have H1 := Lib.hid hr
  have S1 := Lib.hid (HS.out.chg hc fun k hk h2 => HD.out k h2 hk)
  have C1 := Lib.hid hc
  clear hr hc
  go_wp2_with fail
  refine (Q.out w1 S1.out).mono ?_
  rw [HQ.out]
  rintro e w2 ⟨rfl, hr, hc⟩
  have S2 := Lib.hid hr
  have H2 := Lib.hid (H1.out.chg hc HD.out)
  have C2 := Lib.hid hc
  clear hr hc
  go_wp2_with fail
  go_ret
  exact ⟨congrArg (fun t => Ending.returned (.bool t)) (by simp), by rw [EN.out]; exact H2.out, by rw [EN.out]; exact S2.out, (C1.out.mono fun k hk => Or.inl hk).trans (C2.out.mono fun k hk => Or.inr hk)⟩

set_option maxHeartbeats 4000000 in
set_option maxRecDepth 100000 in
theorem read_2 (S T z : Nat) (l : List Nat) (bad : Bool) (o p : Nat → Prop) (w : World) (h : RdP w S l bad o) (hs : RdR w T l bad p) (hd : ∀ k, o k → ¬ p k) (hL : l.length ≤ 1000000) (hz : z < 256) (hj : z % 5 = 2) :
    Calls Try.prog 21 #[.pointer (some ⟨S, 0, none⟩), .pointer (some ⟨T, 0, none⟩), .int .u8 (z : Int)] w (rdPost z l bad S T o p w) := by
  have EN := Lib.hid (show Cod.rN z l bad = (Cod.rB l bad).2.2 by unfold Cod.rN; rw [if_neg (by omega : ¬ z % 5 = 0), if_neg (by omega : ¬ z % 5 = 1), if_pos hj])
  have e1 : (z : Int).tmod 5 = 2 := by rw [mod_5, hj]; rfl
  have e2 : (z : Int) % 5 = 2 := by omega
  have BY := Lib.hid h.byt
  have P := Lib.hid (pbytes_any S l bad o w h hL)
  have Q := Lib.hid fun w1 (hs1 : RdR w1 T l bad p) => rbytes_any T l bad p w1 hs1 hL
  have HS := Lib.hid hs
  have HD := Lib.hid hd
  clear h hs hd hL hj
  obtain ⟨q, hq⟩ : ∃ q, Cod.rB l bad = q := ⟨_, rfl⟩
  unfold bPost at P Q
  rw [hq] at P EN
  have HQ := Lib.hid hq
  obtain ⟨q1, q2, q3, q4⟩ := q
  clear hq
  go_enter Try.func21, Try.ntmps21
  go_wp2_with fail
  refine P.out.mono ?_
  rintro e w1 ⟨v1, rfl, hb1, hn1, hr, hc⟩
  have H1 := Lib.hid hr
  have S1 := Lib.hid (HS.out.chg hc fun k hk h2 => HD.out k h2 hk)
  have C1 := Lib.hid hc
  have V1 := Lib.hid hb1
  have W1 := Lib.hid hn1
  obtain ⟨A1, c1, rfl⟩ := hb1.form
  clear hr hc hb1 hn1
  go_wp2_with fail
  refine (Q.out w1 S1.out).mono ?_
  rw [HQ.out]
  rintro e w2 ⟨v2, rfl, hb2, hn2, hr, hc⟩
  have S2 := Lib.hid hr
  have H2 := Lib.hid (H1.out.chg hc HD.out)
  have C2 := Lib.hid hc
  have U1 := Lib.hid (V1.out.chg hc fun k hk h2 => by have := W1.out k hk; have := HS.out.2.1 k h2; omega)
  have k1 := conv_bs 22 5 9 Try.underlying22 Try.underlying5 Try.underlying9 U1.out
  have k2 := conv_bs 22 5 9 Try.underlying22 Try.underlying5 Try.underlying9 hb2
  obtain ⟨A2, c2, rfl⟩ := hb2.form
  clear hr hc hb2 hn2
  go_wp2_with fail
  go_ret
  exact ⟨congrArg (fun t => Ending.returned (.bool t)) (by simp), by rw [EN.out]; exact H2.out, by rw [EN.out]; exact S2.out, (C1.out.mono fun k hk => Or.inl hk).trans (C2.out.mono fun k hk => Or.inr hk)⟩

set_option maxHeartbeats 4000000 in
set_option maxRecDepth 100000 in
theorem read_3 (S T z : Nat) (l : List Nat) (bad : Bool) (o p : Nat → Prop) (w : World) (h : RdP w S l bad o) (hs : RdR w T l bad p) (hd : ∀ k, o k → ¬ p k) (hL : l.length ≤ 1000000) (hz : z < 256) (hj : z % 5 = 3) :
    Calls Try.prog 21 #[.pointer (some ⟨S, 0, none⟩), .pointer (some ⟨T, 0, none⟩), .int .u8 (z : Int)] w (rdPost z l bad S T o p w) := by
  have EN := Lib.hid (show Cod.rN z l bad = (Cod.rK l bad).2.2 by unfold Cod.rN; rw [if_neg (by omega : ¬ z % 5 = 0), if_neg (by omega : ¬ z % 5 = 1), if_neg (by omega : ¬ z % 5 = 2), if_pos hj])
  have e1 : (z : Int).tmod 5 = 3 := by rw [mod_5, hj]; rfl
  have e2 : (z : Int) % 5 = 3 := by omega
  have BY := Lib.hid h.byt
  have P := Lib.hid (pblock_any S l bad o w h hL)
  have Q := Lib.hid fun w1 (hs1 : RdR w1 T l bad p) => rblock_any T l bad p w1 hs1
  have HS := Lib.hid hs
  have HD := Lib.hid hd
  clear h hs hd hL hj
  have E8b := Lib.hid (Cod.rK_8 l bad BY.out)
  obtain ⟨q, hq⟩ : ∃ q, Cod.rK l bad = q := ⟨_, rfl⟩
  unfold kPost at P Q
  rw [hq] at P EN E8b
  have HQ := Lib.hid hq
  obtain ⟨q1, q2, q3, q4⟩ := q
  clear hq
  go_enter Try.func21, Try.ntmps21
  go_wp2_with fail
  refine P.out.mono ?_
  rintro e w1 ⟨rfl, hr, hc⟩
  have H1 := Lib.hid hr
  have S1 := Lib.hid (HS.out.chg hc fun k hk h2 => HD.out k h2 hk)
  have C1 := Lib.hid hc
  clear hr hc
  obtain ⟨C, hC⟩ : ∃ C, bkc q1 = C := ⟨_, rfl⟩
  have e8 := fun w => beql8 q1 q1 E8b.out E8b.out w
  have NI := Lib.hid (bkc_info E8b.out.1)
  have ON := Lib.hid (bkc_one q1)
  have SZ := Lib.hid (show C.size = 8 by rw [← hC, bkc_size, E8b.out.1])
  have HC := Lib.hid hC
  rw [hC]
  rw [hC] at e8 NI ON
  clear hC
  have TH := Lib.hid fun (w : World) (Z : Array Value) (hz : Z.size = 8) => rw_there (rw_new w Z 25 rfl) (n := C.size) (by rw [SZ.out, hz]; exact Nat.le_refl _)
  have PT := Lib.hid fun (w : World) (Z : Array Value) (hz : Z.size = 8) => rw_put (rw_new w Z 25 rfl) (ds := C) (by rw [SZ.out, hz])
  have BL := Lib.hid fun (w : World) (Z : Array Value) => rw_below ((Below.refl w.heap.size w).alloc (Nat.le_refl _) (.cells Z 25)) C.toList w.heap.size 0 (Nat.le_refl _)
  go_wp2_with (refine wpList_store_mid rfl _ _ _ rfl _ 0 _ rfl rfl (TH.out _ _ rfl) NI.out ON.out ?_)
  obtain ⟨Z, hZ⟩ : ∃ Z : Array Value, #[.int .u8 0, .int .u8 0, .int .u8 0, .int .u8 0, .int .u8 0, .int .u8 0, .int .u8 0, .int .u8 0] = Z := ⟨_, rfl⟩
  have Z8 : Z.size = 8 := by rw [← hZ]; rfl
  rw [hZ]
  have RA := Lib.hid (PT.out w1 Z Z8)
  have BA := Lib.hid (BL.out w1 Z)
  obtain ⟨g1, hg1⟩ : ∃ g, w1.heap.size = g := ⟨_, rfl⟩
  rw [hg1] at RA BA ⊢
  generalize hww : World.setCells (World.alloc w1 _) g1 0 C.toList = w2 at RA BA ⊢
  rw [← hg1] at BA
  clear hww hZ Z8
  have H2 := Lib.hid (H1.out.chg (below_chg BA.out fun _ => False) fun _ _ => id)
  have S2 := Lib.hid (S1.out.below BA.out)
  have G1 := Lib.hid (show ∀ k, p k → k < g1 by rw [← hg1]; exact S1.out.2.1)
  refine (Q.out w2 S2.out).mono ?_
  rw [HQ.out]
  rintro e w3 ⟨rfl, hr, hc⟩
  have S3 := Lib.hid hr
  have H3 := Lib.hid (H2.out.chg hc HD.out)
  have C3 := Lib.hid hc
  have RB := Lib.hid (rw_ch RA.out hc fun h => by have := G1.out _ h; omega)
  clear hr hc
  rw [HC.out]
  have LA := Lib.hid fun (Z : Array Value) => rw_fw RB.out (BL.out w3 Z)
  have FA := Lib.hid fun (Z : Array Value) => (show rdPost z l bad S T o p w (.returned (.bool true)) ((w3.alloc (.cells Z 25)).setCells w3.heap.size 0 C.toList) from by
    have hb := BL.out w3 Z
    refine ⟨rfl, by rw [EN.out]; exact H3.out.chg (below_chg hb fun _ => False) fun _ _ => id, by rw [EN.out]; exact S3.out.below hb, ?_⟩
    exact (((C1.out.mono fun k hk => Or.inl hk).trans (below_chg BA.out _)).trans (C3.out.mono fun k hk => Or.inr hk)).trans (below_chg hb _))
  clear H1 H2 H3 S1 S2 S3 C1 C3 BA EN RA RB
  go_wp2_with (first
    | (refine wpList_load_row rfl _ _ rfl _ rfl _ _ (0, 0) _ (LA.out _) Try.underlying25 rfl NI.out ?_)
    | (refine wpList_load_row rfl _ _ rfl _ rfl _ _ (0, 0) _ (PT.out w3 _ rfl) Try.underlying25 rfl NI.out ?_)
    | (refine wpList_store_mid rfl _ _ _ rfl _ 0 _ rfl rfl (TH.out _ _ rfl) NI.out ON.out ?_))
  go_ret
  have := FA.out #[.int .u8 0, .int .u8 0, .int .u8 0, .int .u8 0, .int .u8 0, .int .u8 0, .int .u8 0, .int .u8 0]
  exact ⟨congrArg (fun t => Ending.returned (.bool t)) (by simp), this.2⟩

set_option maxHeartbeats 4000000 in
set_option maxRecDepth 100000 in
theorem read_4 (S T z : Nat) (l : List Nat) (bad : Bool) (o p : Nat → Prop) (w : World) (h : RdP w S l bad o) (hs : RdR w T l bad p) (hd : ∀ k, o k → ¬ p k) (hL : l.length ≤ 1000000) (hz : z < 256) (hj : z % 5 = 4) :
    Calls Try.prog 21 #[.pointer (some ⟨S, 0, none⟩), .pointer (some ⟨T, 0, none⟩), .int .u8 (z : Int)] w (rdPost z l bad S T o p w) := by
  have EN := Lib.hid (show Cod.rN z l bad = (Cod.rC z l bad).2.2 by unfold Cod.rN; rw [if_neg (by omega : ¬ z % 5 = 0), if_neg (by omega : ¬ z % 5 = 1), if_neg (by omega : ¬ z % 5 = 2), if_neg (by omega : ¬ z % 5 = 3)])
  have e1 : (z : Int).tmod 5 = 4 := by rw [mod_5, hj]; rfl
  have e2 : (z : Int) % 5 = 4 := by omega
  have BY := Lib.hid h.byt
  have P := Lib.hid (pcount_any S l bad o w h hL (z : Int) (by omega) (by omega))
  have Q := Lib.hid fun w1 (hs1 : RdR w1 T l bad p) => rcount_any T l bad p w1 hs1 (z : Int) (by omega) (by omega)
  have HS := Lib.hid hs
  have HD := Lib.hid hd
  clear h hs hd hL hj
  obtain ⟨q, hq⟩ : ∃ q, Cod.rC z l bad = q := ⟨_, rfl⟩
  unfold cPost at P Q
  rw [hq] at P EN
  have HQ := Lib.hid hq
  obtain ⟨q1, q2, q3, q4⟩ := q
  clear hq
  go_enter Try.func21, Try.ntmps21
  go_wp2_with fail
  refine P.out.mono ?_
  rintro e w1 ⟨rfl, hr, hc⟩
  have H1 := Lib.hid hr
  have S1 := Lib.hid (HS.out.chg hc fun k hk h2 => HD.out k h2 hk)
  have C1 := Lib.hid hc
  clear hr hc
  go_wp2_with fail
  refine (Q.out w1 S1.out).mono ?_
  rw [HQ.out]
  rintro e w2 ⟨rfl, hr, hc⟩
  have S2 := Lib.hid hr
  have H2 := Lib.hid (H1.out.chg hc HD.out)
  have C2 := Lib.hid hc
  clear hr hc
  go_wp2_with fail
  go_ret
  exact ⟨congrArg (fun t => Ending.returned (.bool t)) (by simp), by rw [EN.out]; exact H2.out, by rw [EN.out]; exact S2.out, (C1.out.mono fun k hk => Or.inl hk).trans (C2.out.mono fun k hk => Or.inr hk)⟩

theorem read_any (S T z : Nat) (l : List Nat) (bad : Bool) (o p : Nat → Prop) (w : World) (h : RdP w S l bad o) (hs : RdR w T l bad p) (hd : ∀ k, o k → ¬ p k) (hL : l.length ≤ 1000000) (hz : z < 256) :
    Calls Try.prog 21 #[.pointer (some ⟨S, 0, none⟩), .pointer (some ⟨T, 0, none⟩), .int .u8 (z : Int)] w (rdPost z l bad S T o p w) := by
  rcases (by omega : z % 5 = 0 ∨ z % 5 = 1 ∨ z % 5 = 2 ∨ z % 5 = 3 ∨ z % 5 = 4) with hj | hj | hj | hj | hj
  · exact read_0 S T z l bad o p w h hs hd hL hz hj
  · exact read_1 S T z l bad o p w h hs hd hL hz hj
  · exact read_2 S T z l bad o p w h hs hd hL hz hj
  · exact read_3 S T z l bad o p w h hs hd hL hz hj
  · exact read_4 S T z l bad o p w h hs hd hL hz hj
/-- What is left is no longer than before, and its bytes are bytes. -/
theorem Cod.rN_len (z : Nat) (l : List Nat) (bad : Bool) (hb : ∀ x ∈ l, x < 256) : (Cod.rN z l bad).1.length ≤ l.length := by
  rcases Cod.dec_cases l hb with hd | ⟨n, r, hd, hn, hlt⟩
  · unfold Cod.rN
    rw [Cod.rU_none hd, Cod.rI_none hd, Cod.rB_none hd, Cod.rC_none hd]
    unfold Cod.rK
    (repeat' split) <;> simp
  · unfold Cod.rN
    rw [Cod.rU_some hd, Cod.rI_some hd]
    have hB : (Cod.rB l bad).2.2.1.length ≤ l.length := by
      by_cases h : n ≤ r.length
      · rw [Cod.rB_in hd h, List.length_drop]; omega
      · rw [Cod.rB_out hd (by omega)]; exact Nat.zero_le _
    have hC : (Cod.rC z l bad).2.2.1.length ≤ l.length := by
      by_cases h : (z : Int) < n
      · rw [Cod.rC_out hd h]; exact Nat.zero_le _
      · rw [Cod.rC_in hd h]; exact Nat.le_of_lt hlt
    have hK : (Cod.rK l bad).2.2.1.length ≤ l.length := by
      by_cases h : l.length < 8
      · rw [Cod.rK_out h]; exact Nat.zero_le _
      · rw [Cod.rK_in h, List.length_drop]; omega
    (repeat' split) <;> first | exact hB | exact hC | exact hK | exact Nat.le_of_lt hlt
end Go.Proofs.Ytajeboigkpelgaa
