/- The program's AppendInt; its reader: Int, Count, Bytes, Block. -/
import Derived.Test.YtajeboigkpelgaaIpc
namespace Go.Proofs.Ytajeboigkpelgaa
open Go Go.RowKit
set_option linter.unusedVariables false
set_option linter.unusedSimpArgs false
theorem bv64' {a : Nat} (ha : a < 2 ^ 64) : (BitVec.ofInt 64 (a : Int)).toNat = a := by rw [BitVec.ofInt_natCast, BitVec.toNat_ofNat]; exact Nat.mod_eq_of_lt ha
theorem xor64 {a b : Nat} (ha : a < 2 ^ 64) (hb : b < 2 ^ 64) : bits BinOp.xor IntKind.u64 (a : Int) (b : Int) = ((a ^^^ b : Nat) : Int) := by
  have hx : a ^^^ b < 2 ^ 64 := Nat.xor_lt_two_pow ha hb
  show IntKind.u64.wrap ((BitVec.ofInt 64 (a : Int) ^^^ BitVec.ofInt 64 (b : Int)).toNat : Int) = _
  rw [BitVec.toNat_xor, bv64' ha, bv64' hb, IntKind.wrap_u64]
  omega
theorem xor_ones {a : Nat} (ha : a < 2 ^ 64) : a ^^^ 18446744073709551615 = 18446744073709551615 - a := by
  have h := BitVec.toNat_not (x := BitVec.ofNat 64 a)
  rw [← BitVec.xor_allOnes, BitVec.toNat_xor, BitVec.toNat_allOnes, BitVec.toNat_ofNat, Nat.mod_eq_of_lt ha] at h
  exact h
theorem xor64_ones {a : Nat} (ha : a < 2 ^ 64) : bits BinOp.xor IntKind.u64 (a : Int) 18446744073709551615 = ((18446744073709551615 - a : Nat) : Int) := by
  have := xor64 ha (b := 18446744073709551615) (by decide)
  rw [xor_ones ha] at this
  exact this
theorem xor64_0 {a : Nat} (ha : a < 2 ^ 64) : bits BinOp.xor IntKind.u64 (a : Int) 0 = (a : Int) := by
  have := xor64 ha (b := 0) (by decide)
  rw [Nat.xor_zero] at this
  exact this
theorem and64_1 {a : Nat} (ha : a < 2 ^ 64) : bits BinOp.and IntKind.u64 (a : Int) 1 = ((a % 2 : Nat) : Int) := by
  have e2 : (BitVec.ofInt 64 (1 : Int)).toNat = 2 ^ 1 - 1 := by decide
  show IntKind.u64.wrap ((BitVec.ofInt 64 (a : Int) &&& BitVec.ofInt 64 (1 : Int)).toNat : Int) = _
  rw [BitVec.toNat_and, bv64' ha, e2, Nat.and_two_pow_sub_one_eq_mod, IntKind.wrap_u64]
  omega
set_option maxHeartbeats 1000000 in
set_option maxRecDepth 100000 in
theorem papi_any (v : Value) (b : List Nat) (n : Int) (w : World) (hb : Bs w v b) (h1 : -(2 ^ 63) ≤ n) (h2 : n < 2 ^ 63) (hl : b.length ≤ 1000000) :
    Calls Try.prog 13 #[v, .int .i64 n] w (newB (b ++ Cod.enc (Cod.zig n)) w) := by
  have U := Lib.hid fun m (hm : m < 2 ^ 64) => papu_any v b m w hb hm hl
  obtain ⟨A1, c1, rfl⟩ := hb.form
  clear hb
  generalize b.length = n1 at *
  by_cases h0 : 0 ≤ n
  · obtain ⟨m, rfl⟩ : ∃ m : Nat, n = (m : Int) := ⟨n.toNat, by omega⟩
    have ez : Cod.zig (m : Int) = 2 * m := by unfold Cod.zig; rw [if_pos h0]; omega
    rw [ez]
    have C := Lib.hid (U.out (2 * m) (by omega))
    have X := Lib.hid (show bits BinOp.xor IntKind.u64 ((m : Int) * 2) ((m : Int) / 9223372036854775808) = ((2 * m : Nat) : Int) by
      have h3 := xor64_0 (a := 2 * m) (by omega)
      rw [show (m : Int) / 9223372036854775808 = 0 by omega, show (m : Int) * 2 = ((2 * m : Nat) : Int) by omega]
      exact h3)
    clear ez U
    go_enter Try.func13, Try.ntmps13
    go_wp2_with fail
    rw [X.out]
    refine C.out.mono ?_
    rintro e w1 ⟨x, rfl, ho, hbel⟩
    go_wp2_with fail
    go_ret
    exact ⟨_, rfl, ho, hbel⟩
  · obtain ⟨m, rfl⟩ : ∃ m : Nat, n = -(m : Int) - 1 := ⟨(-n - 1).toNat, by omega⟩
    have ez : Cod.zig (-(m : Int) - 1) = 2 * m + 1 := by unfold Cod.zig; rw [if_neg h0]; omega
    rw [ez]
    have C := Lib.hid (U.out (2 * m + 1) (by omega))
    have X := Lib.hid (show bits BinOp.xor IntKind.u64 (IntKind.u64.wrap (IntKind.u64.wrap (-(m : Int) - 1) * 2)) (IntKind.u64.wrap ((-(m : Int) - 1) / 9223372036854775808)) = ((2 * m + 1 : Nat) : Int) by
      have h3 := xor64_ones (a := 18446744073709551614 - 2 * m) (by omega)
      rw [show IntKind.u64.wrap ((-(m : Int) - 1) / 9223372036854775808) = 18446744073709551615 by rw [IntKind.wrap_u64]; omega, show IntKind.u64.wrap (IntKind.u64.wrap (-(m : Int) - 1) * 2) = ((18446744073709551614 - 2 * m : Nat) : Int) by rw [IntKind.wrap_u64, IntKind.wrap_u64]; omega, h3]
      omega)
    clear ez U
    go_enter Try.func13, Try.ntmps13
    go_wp2_with fail
    rw [X.out]
    refine C.out.mono ?_
    rintro e w1 ⟨x, rfl, ho, hbel⟩
    go_wp2_with fail
    go_ret
    exact ⟨_, rfl, ho, hbel⟩
theorem zag_u64 {n : Nat} (h : n < 2 ^ 64) : wrap64 (bits BinOp.xor IntKind.u64 ((n : Int) / 2) (IntKind.u64.wrap (-bits BinOp.and IntKind.u64 (n : Int) 1))) = Cod.zag n := by
  rw [and64_1 h]
  have ZG : Cod.zag n = if n % 2 = 0 then ((n / 2 : Nat) : Int) else -((n / 2 : Nat) : Int) - 1 := rfl
  have e2 : (n : Int) / 2 = ((n / 2 : Nat) : Int) := by omega
  rcases (by omega : n % 2 = 0 ∨ n % 2 = 1) with h2 | h2
  · rw [ZG, if_pos h2, h2, show IntKind.u64.wrap (-((0 : Nat) : Int)) = 0 by rw [IntKind.wrap_u64]; omega, e2, xor64_0 (by omega)]
    unfold wrap64; omega
  · rw [ZG, if_neg (by omega), h2, show IntKind.u64.wrap (-((1 : Nat) : Int)) = 18446744073709551615 by rw [IntKind.wrap_u64]; omega, e2, xor64_ones (by omega)]
    unfold wrap64; omega
set_option maxHeartbeats 1000000 in
set_option maxRecDepth 100000 in
theorem pint_any (S : Nat) (l : List Nat) (bad : Bool) (o : Nat → Prop) (w : World) (h : RdP w S l bad o) (hL : l.length ≤ 1000000) :
    Calls Try.prog 27 #[.pointer (some ⟨S, 0, none⟩)] w (iPost l bad (fun w' r b => RdP w' S r b o) o w) := by
  have U := Lib.hid (puint_any S l bad o w h hL)
  have hl := h.byt
  clear h hL
  rcases Cod.dec_cases l hl with hd | ⟨n, r, hd, hn, -⟩
  · have EU := Lib.hid (Cod.rU_none (bad := bad) hd)
    have EI := Lib.hid (Cod.rI_none (bad := bad) hd)
    clear hd hl
    go_enter Try.func27, Try.ntmps27
    go_wp2_with fail
    refine U.out.mono ?_
    unfold uPost
    rw [EU.out]
    rintro e w1 ⟨rfl, hr, hc⟩
    go_wp2_with fail
    go_ret2
    have Z := zag_u64 (n := 0) (by decide)
    refine ⟨?_, by rw [EI.out]; exact hr, hc⟩
    rw [EI.out]
    exact congrArg (fun t => Ending.returned (.tuple #[.int .i64 t, .int .i64 5])) Z
  · have EU := Lib.hid (Cod.rU_some (bad := bad) hd)
    have EI := Lib.hid (Cod.rI_some (bad := bad) hd)
    have Z := Lib.hid (zag_u64 hn)
    clear hd hl
    go_enter Try.func27, Try.ntmps27
    go_wp2_with fail
    refine U.out.mono ?_
    unfold uPost
    rw [EU.out]
    rintro e w1 ⟨rfl, hr, hc⟩
    go_wp2_with fail
    go_ret2
    refine ⟨?_, by rw [EI.out]; exact hr, hc⟩
    rw [EI.out]
    exact congrArg (fun t => Ending.returned (.tuple #[.int .i64 t, .int .i64 0])) Z.out
set_option maxHeartbeats 1000000 in
set_option maxRecDepth 100000 in
theorem pcount_nat (S : Nat) (l : List Nat) (bad : Bool) (o : Nat → Prop) (w : World) (h : RdP w S l bad o) (hL : l.length ≤ 1000000) (m : Nat) (h63 : m < 2 ^ 63) :
    Calls Try.prog 30 #[.pointer (some ⟨S, 0, none⟩), .int .i64 (m : Int)] w (cPost (m : Int) l bad (fun w' r b => RdP w' S r b o) o w) := by
  have U := Lib.hid (puint_any S l bad o w h hL)
  have hl := h.byt
  clear h hL
  rcases Cod.dec_cases l hl with hd | ⟨n, r, hd, hn, -⟩
  · have EU := Lib.hid (Cod.rU_none (bad := bad) hd)
    have EI := Lib.hid (Cod.rC_none (most := m) (bad := bad) hd)
    clear hd hl
    go_enter Try.func30, Try.ntmps30
    go_wp2_with fail
    refine U.out.mono ?_
    unfold uPost
    rw [EU.out]
    rintro e w1 ⟨rfl, hr, hc⟩
    go_wp2_with fail
    go_ret2
    exact ⟨by rw [EI.out]; rfl, by rw [EI.out]; exact hr, hc⟩
  · have EU := Lib.hid (Cod.rU_some (bad := bad) hd)
    have m63 : m ≤ 9223372036854775807 := by omega
    have g0 : decide ((m : Int) < 0) = false := decide_eq_false (by omega)
    by_cases hm : m < n
    · have EI := Lib.hid (Cod.rC_out (most := m) (bad := bad) hd (by omega))
      have g1 : m < n := hm
      clear hd hl hm h63 hn
      go_enter Try.func30, Try.ntmps30
      go_wp2_with fail
      refine U.out.mono ?_
      unfold uPost
      rw [EU.out]
      rintro e w1 ⟨rfl, hr, hc⟩
      go_wp2_with fail
      refine (pfail_any S r bad o w1 hr).mono ?_
      rintro e w2 ⟨rfl, hr2, hc2⟩
      go_wp2_with fail
      go_ret2
      exact ⟨by rw [EI.out]; rfl, by rw [EI.out]; exact hr2, hc.trans hc2⟩
    · have EI := Lib.hid (Cod.rC_in (most := m) (bad := bad) hd (by omega))
      have g2 : decide (m < n) = false := decide_eq_false hm
      have n63 : n ≤ 9223372036854775807 := by omega
      clear hd hl hm h63 hn
      go_enter Try.func30, Try.ntmps30
      go_wp2_with fail
      refine U.out.mono ?_
      unfold uPost
      rw [EU.out]
      rintro e w1 ⟨rfl, hr, hc⟩
      go_wp2_with fail
      go_ret2
      exact ⟨by rw [EI.out]; rfl, by rw [EI.out]; exact hr, hc⟩
theorem pcount_any (S : Nat) (l : List Nat) (bad : Bool) (o : Nat → Prop) (w : World) (h : RdP w S l bad o) (hL : l.length ≤ 1000000) (most : Int) (h0 : 0 ≤ most) (h63 : most < 2 ^ 63) :
    Calls Try.prog 30 #[.pointer (some ⟨S, 0, none⟩), .int .i64 most] w (cPost most l bad (fun w' r b => RdP w' S r b o) o w) := by
  obtain ⟨m, rfl⟩ : ∃ m : Nat, most = (m : Int) := ⟨most.toNat, by omega⟩
  exact pcount_nat S l bad o w h hL m (by omega)
set_option maxHeartbeats 1000000 in
set_option maxRecDepth 100000 in
theorem pbytes_any (S : Nat) (l : List Nat) (bad : Bool) (o : Nat → Prop) (w : World) (h : RdP w S l bad o) (hL : l.length ≤ 1000000) :
    Calls Try.prog 28 #[.pointer (some ⟨S, 0, none⟩)] w (bPost l bad (fun w' r b => RdP w' S r b o) o w) := by
  have U := Lib.hid (pcount_nat S l bad o w h hL 9223372036854775807 (by decide))
  have hl := h.byt
  clear h
  have fin : ∀ (hE : Cod.rB l bad = ([], 5, [], true)) (w1 : World), RdP w1 S [] true o → Chg o w w1 → bPost l bad (fun w' r b => RdP w' S r b o) o w (.returned (.tuple #[.slice none 0 0, .int .i64 5])) w1 := fun hE w1 hr hc =>
    ⟨_, by rw [hE]; rfl, by rw [hE]; exact Bs.nil_ _, fun k hk => nil_own k hk, by rw [hE]; exact hr, hc⟩
  have FIN := Lib.hid fin
  clear fin
  rcases Cod.dec_cases l hl with hd | ⟨n, r, hd, hn, hlt⟩
  · have EU := Lib.hid (Cod.rC_none (most := (9223372036854775807 : Nat)) (bad := bad) hd)
    have EI := Lib.hid (Cod.rB_none (bad := bad) hd)
    clear hd hl
    go_enter Try.func28, Try.ntmps28
    go_wp2_with fail
    refine U.out.mono ?_
    unfold cPost
    rw [EU.out]
    rintro e w1 ⟨rfl, hr, hc⟩
    go_wp2_with fail
    go_ret2
    exact FIN.out EI.out _ hr hc
  · by_cases hm : (9223372036854775807 : Nat) < n
    · have EU := Lib.hid (Cod.rC_out (most := (9223372036854775807 : Nat)) (bad := bad) hd (by omega))
      have EI := Lib.hid (Cod.rB_out (bad := bad) hd (by omega))
      clear hd hl hm hn hlt
      go_enter Try.func28, Try.ntmps28
      go_wp2_with fail
      refine U.out.mono ?_
      unfold cPost
      rw [EU.out]
      rintro e w1 ⟨rfl, hr, hc⟩
      go_wp2_with fail
      go_ret2
      exact FIN.out EI.out _ hr hc
    · have EU := Lib.hid (Cod.rC_in (most := (9223372036854775807 : Nat)) (bad := bad) hd (by omega))
      have n63 : n ≤ 9223372036854775807 := by omega
      by_cases hr8 : r.length < n
      · have EI := Lib.hid (Cod.rB_out (bad := bad) hd hr8)
        clear hd hl hm hn
        go_enter Try.func28, Try.ntmps28
        go_wp2_with fail
        refine U.out.mono ?_
        unfold cPost
        rw [EU.out]
        rintro e w1 ⟨rfl, hr, hc⟩
        have T := Lib.hid (ptake_out S r bad o w1 hr n hr8 (by omega))
        have CL := Lib.hid fun w2 => pclone_any _ [] w2 (Bs.nil_ w2) (by simp)
        clear hr hr8 hlt
        go_wp2_with fail
        refine T.out.mono ?_
        rintro e w2 ⟨rfl, hr2, hc2⟩
        go_wp2_with fail
        refine (CL.out w2).mono ?_
        rintro e w3 ⟨v, rfl, ho, hb⟩
        have C3 := Lib.hid ((hc.trans hc2).trans (below_chg hb o))
        have R3 := Lib.hid (hr2.below hb)
        have O3 := Lib.hid (show (∀ k, v.ownBlock = some k → w.heap.size ≤ k) from fun k hk => Nat.le_trans (hc.trans hc2).size (ho.own k hk).1)
        have B3 := Lib.hid ho.bs
        clear hr2 hb ho hc hc2
        go_wp2_with fail
        go_ret2
        exact ⟨v, by rw [EI.out]; rfl, by rw [EI.out]; exact B3.out, O3.out, by rw [EI.out]; exact R3.out, C3.out⟩
      · have EI := Lib.hid (Cod.rB_in (bad := bad) hd (by omega))
        clear hd hl hm hn
        go_enter Try.func28, Try.ntmps28
        go_wp2_with fail
        refine U.out.mono ?_
        unfold cPost
        rw [EU.out]
        rintro e w1 ⟨rfl, hr, hc⟩
        have T := Lib.hid (ptake_in S r bad o w1 hr n (by omega) (by omega))
        have C1 := Lib.hid hc
        have LN := Lib.hid (show (r.take n).length ≤ 10000000 by rw [List.length_take]; omega)
        clear hr hr8 hlt hc
        go_wp2_with fail
        refine T.out.mono ?_
        rintro e w2 ⟨A, c, rfl, hb, hown, hr2, hc2⟩
        have CL := Lib.hid (pclone_any _ _ w2 hb LN.out)
        have C2 := Lib.hid (C1.out.trans hc2)
        have R2 := Lib.hid hr2
        clear hb hown hr2 hc2
        go_wp2_with fail
        refine CL.out.mono ?_
        rintro e w3 ⟨v, rfl, ho, hb⟩
        have C3 := Lib.hid (C2.out.trans (below_chg hb o))
        have R3 := Lib.hid (R2.out.below hb)
        have O3 := Lib.hid (show (∀ k, v.ownBlock = some k → w.heap.size ≤ k) from fun k hk => Nat.le_trans C2.out.size (ho.own k hk).1)
        have B3 := Lib.hid ho.bs
        clear hb ho
        go_wp2_with fail
        go_ret2
        exact ⟨v, by rw [EI.out]; rfl, by rw [EI.out]; exact B3.out, O3.out, by rw [EI.out]; exact R3.out, C3.out⟩
theorem rw_rangeB {w : World} {b off c n : Nat} {l : List Nat} (h : Bs w (.slice (some ⟨b, off, none⟩) n c) l) : w.rangeAt b off (l.map bv) := fun j v hv => by
  have hj : j < l.length := by
    rcases Nat.lt_or_ge j l.length with h1 | h1
    · exact h1
    · rw [List.getElem?_eq_none (by simpa using h1)] at hv; cases hv
  obtain ⟨b', off', h1, h2⟩ := h.nth rfl (k := j) (by have := h.cap.1; omega)
  cases h1
  rw [h2, ← getD_bv hj]; exact hv
theorem run_arr8 {b off c : Nat} (w : World) : (Instr.arrayAt 25 (.slice (some ⟨b, off, none⟩) 8 c)).run Try.prog w = .ok (.pointer (some ⟨b, off, none⟩)) w := by
  have hl : Try.prog.underlying 25 = some (.array 8 5) := Try.underlying25
  simp [Instr.arrayAt, run_underlying hl]
theorem chg_up {o p : Nat → Prop} {a b c : World} (h : Chg o a b) (k : Chg p b c) (hp : ∀ i, i < a.heap.size → p i → o i) : Chg o a c :=
  ⟨k.os.trans h.os, k.tape.trans h.tape, k.output.trans h.output, Nat.le_trans h.size k.size, fun i hi hn => (k.block i (Nat.lt_of_lt_of_le hi h.size) fun h2 => hn (hp i hi h2)).trans (h.block i hi hn)⟩
set_option maxHeartbeats 1000000 in
set_option maxRecDepth 100000 in
theorem pblock_in (S : Nat) (l : List Nat) (bad : Bool) (o : Nat → Prop) (w : World) (h : RdP w S l bad o) (hL : l.length ≤ 1000000) (h8 : 8 ≤ l.length) :
    Calls Try.prog 29 #[.pointer (some ⟨S, 0, none⟩)] w (kPost l bad (fun w' r b => RdP w' S r b o) o w) := by
  have EI := Lib.hid (Cod.rK_in (l := l) (bad := bad) (by omega))
  obtain ⟨z, hz⟩ : ∃ z, ([0, 0, 0, 0, 0, 0, 0, 0] : List Nat) = z := ⟨_, rfl⟩
  have Z8 := Lib.hid (show z.length = 8 by rw [← hz]; rfl)
  have EZ : Hid ((#[.int .u8 0, .int .u8 0, .int .u8 0, .int .u8 0, .int .u8 0, .int .u8 0, .int .u8 0, .int .u8 0] : Array Value) = bkc z) := Lib.hid (by rw [← hz]; rfl)
  obtain ⟨B, hB⟩ : ∃ B, w.heap.size = B := ⟨_, rfl⟩
  obtain ⟨W, hW⟩ : ∃ W, w.alloc (.cells (bkc z) 25) = W := ⟨_, rfl⟩
  have BW : Below w.heap.size w W := by subst hW; exact (Below.refl w.heap.size w).alloc (Nat.le_refl _) _
  have R0 := Lib.hid (show Row W B 25 (bkc z) by subst hW hB; exact rw_new w _ _ rfl)
  have oB := Lib.hid (show ∀ k, o k → k < B from fun k hk => by rw [← hB]; exact h.2.1 k hk)
  have T := Lib.hid (ptake_in S l bad o W (h.below BW) 8 h8 hL)
  have CW := Lib.hid (below_chg BW o)
  have HB0 := Lib.hid hB
  have HW1 := Lib.hid hW
  have NB := Lib.hid (show ¬ B < w.heap.size by omega)
  have LT := Lib.hid (show (l.take 8).length = 8 by rw [List.length_take]; omega)
  clear h BW hB hW hz h8
  go_enter Try.func29, Try.ntmps29
  go_wp2_with (first | rw [EZ.out] | rw [HB0.out] | rw [HW1.out])
  refine T.out.mono ?_
  rintro e w1 ⟨A, c, rfl, hb, hown, hr, hc⟩
  obtain ⟨b0, off0, rfl, -⟩ := hb.nth rfl (k := 0) (by decide)
  have RB := Lib.hid (rw_ch R0.out hc (fun h => by have := oB.out _ h; omega))
  have RG := Lib.hid (rw_rangeB hb)
  have C1 := Lib.hid (CW.out.trans hc)
  have R1 := Lib.hid hr
  have ra := run_arr8 (b := b0) (off := off0) (c := c)
  clear hb hown hr hc
  have TH := Lib.hid (rw_there RB.out (n := 8) (by rw [bkc_size, Z8.out]; exact Nat.le_refl _))
  obtain ⟨q, hq⟩ : ∃ q, l.take 8 = q := ⟨_, rfl⟩
  rw [hq] at RG LT EI
  have SZ := Lib.hid (show (Try.prog.info? 25).map (·.size) = some (q.map bv).length by rw [List.length_map, LT.out]; kernel_rfl)
  have PB := Lib.hid (rw_put RB.out (ds := bkc q) (by rw [bkc_size, bkc_size, Z8.out, LT.out]))
  have R2 := Lib.hid (RdP.chg R1.out (p := fun k => k = B) (rw_chg (Chg.refl (fun k => k = B) w1) (g := B) rfl (bkc q).toList 0) fun k hk e => by have := oB.out k hk; omega)
  have C2 := Lib.hid (rw_chg (Chg.refl (fun k => o k ∨ k = B) w1) (g := B) (Or.inr rfl) (bkc q).toList 0)
  clear hq
  go_wp2_with (first | (refine wpList_load_mid rfl _ _ rfl b0 off0 rfl (q.map bv) _ RG.out Try.underlying25 rfl SZ.out ?_) | (refine wpList_store_mid rfl _ _ _ rfl B 0 (bkc q) rfl rfl (by rw [bkc_size, LT.out]; exact TH.out) (bkc_info LT.out) (bkc_one q) ?_))
  have FIN := Lib.hid (show kPost l bad (fun w' r b => RdP w' S r b o) o w (.returned (.tuple #[.agg (bkc q), .int .i64 0])) (w1.setCells B 0 (bkc q).toList) from
    ⟨by rw [EI.out]; rfl, by rw [EI.out]; exact R2.out, (chg_up C1.out C2.out fun k hk h => by
      rcases h with h | h
      · exact h
      · exact absurd (h ▸ hk) NB.out)⟩)
  refine bodyPost_ret (res_row_tmp (g := B) (t := 25) (fr := (0, 0)) rfl _ _ _ _ rfl PB.out Try.underlying25 rfl (bkc_info LT.out)) rfl ?_
  exact FIN.out
set_option maxHeartbeats 1000000 in
set_option maxRecDepth 100000 in
theorem pblock_out (S : Nat) (l : List Nat) (bad : Bool) (o : Nat → Prop) (w : World) (h : RdP w S l bad o) (hL : l.length ≤ 1000000) (h8 : l.length < 8) :
    Calls Try.prog 29 #[.pointer (some ⟨S, 0, none⟩)] w (kPost l bad (fun w' r b => RdP w' S r b o) o w) := by
  have EI := Lib.hid (Cod.rK_out (l := l) (bad := bad) h8)
  obtain ⟨z, hz⟩ : ∃ z, ([0, 0, 0, 0, 0, 0, 0, 0] : List Nat) = z := ⟨_, rfl⟩
  rw [hz] at EI
  have Z8 := Lib.hid (show z.length = 8 by rw [← hz]; rfl)
  have EZ : Hid ((#[.int .u8 0, .int .u8 0, .int .u8 0, .int .u8 0, .int .u8 0, .int .u8 0, .int .u8 0, .int .u8 0] : Array Value) = bkc z) := Lib.hid (by rw [← hz]; rfl)
  obtain ⟨B, hB⟩ : ∃ B, w.heap.size = B := ⟨_, rfl⟩
  obtain ⟨W, hW⟩ : ∃ W, w.alloc (.cells (bkc z) 25) = W := ⟨_, rfl⟩
  have BW : Below w.heap.size w W := by subst hW; exact (Below.refl w.heap.size w).alloc (Nat.le_refl _) _
  have R0 := Lib.hid (show Row W B 25 (bkc z) by subst hW hB; exact rw_new w _ _ rfl)
  have oB := Lib.hid (show ∀ k, o k → k < B from fun k hk => by rw [← hB]; exact h.2.1 k hk)
  have T := Lib.hid (ptake_out S l bad o W (h.below BW) 8 h8 hL)
  have CW := Lib.hid (below_chg BW o)
  have HB0 := Lib.hid hB
  have HW1 := Lib.hid hW
  have NB := Lib.hid (show ¬ B < w.heap.size by omega)
  clear h BW hB hW hz h8
  go_enter Try.func29, Try.ntmps29
  go_wp2_with (first | rw [EZ.out] | rw [HB0.out] | rw [HW1.out])
  refine T.out.mono ?_
  rintro e w1 ⟨rfl, hr, hc⟩
  have RB := Lib.hid (rw_ch R0.out hc (fun h => by have := oB.out _ h; omega))
  have C1 := Lib.hid (CW.out.trans hc)
  have R1 := Lib.hid hr
  clear hr hc
  have TH := Lib.hid (rw_there RB.out (n := 8) (by rw [bkc_size, Z8.out]; exact Nat.le_refl _))
  have PB := Lib.hid (rw_put RB.out (ds := bkc z) rfl)
  have R2 := Lib.hid (RdP.chg R1.out (p := fun k => k = B) (rw_chg (Chg.refl (fun k => k = B) w1) (g := B) rfl (bkc z).toList 0) fun k hk e => by have := oB.out k hk; omega)
  have C2 := Lib.hid (rw_chg (Chg.refl (fun k => o k ∨ k = B) w1) (g := B) (Or.inr rfl) (bkc z).toList 0)
  go_wp2_with (first | rw [EZ.out] | (refine wpList_store_mid rfl _ _ _ rfl B 0 (bkc z) rfl rfl (by rw [bkc_size, Z8.out]; exact TH.out) (bkc_info Z8.out) (bkc_one z) ?_))
  have FIN := Lib.hid (show kPost l bad (fun w' r b => RdP w' S r b o) o w (.returned (.tuple #[.agg (bkc z), .int .i64 5])) (w1.setCells B 0 (bkc z).toList) from
    ⟨by rw [EI.out]; rfl, by rw [EI.out]; exact R2.out, (chg_up C1.out C2.out fun k hk h => by
      rcases h with h | h
      · exact h
      · exact absurd (h ▸ hk) NB.out)⟩)
  refine bodyPost_ret (res_row_tmp (g := B) (t := 25) (fr := (0, 0)) rfl _ _ _ _ rfl PB.out Try.underlying25 rfl (bkc_info Z8.out)) rfl ?_
  exact FIN.out
theorem pblock_any (S : Nat) (l : List Nat) (bad : Bool) (o : Nat → Prop) (w : World) (h : RdP w S l bad o) (hL : l.length ≤ 1000000) :
    Calls Try.prog 29 #[.pointer (some ⟨S, 0, none⟩)] w (kPost l bad (fun w' r b => RdP w' S r b o) o w) := by
  by_cases h8 : l.length < 8
  · exact pblock_out S l bad o w h hL h8
  · exact pblock_in S l bad o w h hL (by omega)
set_option maxHeartbeats 1000000 in
set_option maxRecDepth 100000 in
theorem pblock_nil (w : World) : Calls Try.prog 29 #[.pointer none] w (qPost (.tuple #[.agg (bkc [0, 0, 0, 0, 0, 0, 0, 0]), .int .i64 5]) w) := by
  obtain ⟨z, hz⟩ : ∃ z, ([0, 0, 0, 0, 0, 0, 0, 0] : List Nat) = z := ⟨_, rfl⟩
  rw [hz]
  have Z8 := Lib.hid (show z.length = 8 by rw [← hz]; rfl)
  have EZ : Hid ((#[.int .u8 0, .int .u8 0, .int .u8 0, .int .u8 0, .int .u8 0, .int .u8 0, .int .u8 0, .int .u8 0] : Array Value) = bkc z) := Lib.hid (by rw [← hz]; rfl)
  obtain ⟨B, hB⟩ : ∃ B, w.heap.size = B := ⟨_, rfl⟩
  obtain ⟨W, hW⟩ : ∃ W, w.alloc (.cells (bkc z) 25) = W := ⟨_, rfl⟩
  have BW := Lib.hid (show Below w.heap.size w W by subst hW; exact (Below.refl w.heap.size w).alloc (Nat.le_refl _) _)
  have R0 := Lib.hid (show Row W B 25 (bkc z) by subst hW hB; exact rw_new w _ _ rfl)
  have T := Lib.hid (ptake_nil W)
  have HB0 := Lib.hid hB
  have HW1 := Lib.hid hW
  clear hB hW hz
  go_enter Try.func29, Try.ntmps29
  go_wp2_with (first | rw [EZ.out] | rw [HB0.out] | rw [HW1.out])
  refine (T.out _).mono ?_
  rintro e w1 ⟨rfl, e1⟩
  subst e1
  have TH := Lib.hid (rw_there R0.out (n := 8) (by rw [bkc_size, Z8.out]; exact Nat.le_refl _))
  have PB := Lib.hid (rw_put R0.out (ds := bkc z) rfl)
  have C2 := Lib.hid (rw_below BW.out (bkc z).toList B 0 (by rw [HB0.out]; exact Nat.le_refl _))
  go_wp2_with (first | rw [EZ.out] | (refine wpList_store_mid rfl _ _ _ rfl B 0 (bkc z) rfl rfl (by rw [bkc_size, Z8.out]; exact TH.out) (bkc_info Z8.out) (bkc_one z) ?_))
  refine bodyPost_ret (res_row_tmp (g := B) (t := 25) (fr := (0, 0)) rfl _ _ _ _ rfl PB.out Try.underlying25 rfl (bkc_info Z8.out)) rfl ?_
  exact ⟨rfl, C2.out⟩
set_option maxHeartbeats 1000000 in
set_option maxRecDepth 100000 in
theorem pint_nil (w : World) : Calls Try.prog 27 #[.pointer none] w (qPost (.tuple #[.int .i64 0, .int .i64 5]) w) := by
  have U := Lib.hid (puint_nil w)
  have Z := Lib.hid (zag_u64 (n := 0) (by decide))
  go_enter Try.func27, Try.ntmps27
  go_wp2_with fail
  refine U.out.mono ?_
  rintro e w1 ⟨rfl, hb⟩
  go_wp2_with fail
  go_ret2
  exact ⟨congrArg (fun t => Ending.returned (.tuple #[.int .i64 t, .int .i64 5])) Z.out, hb⟩
set_option maxHeartbeats 1000000 in
set_option maxRecDepth 100000 in
theorem pcount_nil (w : World) (most : Int) (h0 : 0 ≤ most) (h63 : most < 2 ^ 63) : Calls Try.prog 30 #[.pointer none, .int .i64 most] w (qPost (.tuple #[.int .i64 0, .int .i64 5]) w) := by
  have U := Lib.hid (puint_nil w)
  clear h0 h63
  go_enter Try.func30, Try.ntmps30
  go_wp2_with fail
  refine U.out.mono ?_
  rintro e w1 ⟨rfl, hb⟩
  go_wp2_with fail
  go_ret2
  exact ⟨rfl, hb⟩
set_option maxHeartbeats 1000000 in
set_option maxRecDepth 100000 in
theorem pbytes_nil (w : World) : Calls Try.prog 28 #[.pointer none] w fun e w' => ∃ v, e = .returned (.tuple #[v, .int .i64 5]) ∧ Bs w' v [] ∧ Below w.heap.size w w' := by
  have U := Lib.hid (pcount_nil w 9223372036854775807 (by decide) (by decide))
  go_enter Try.func28, Try.ntmps28
  go_wp2_with fail
  refine U.out.mono ?_
  rintro e w1 ⟨rfl, hb⟩
  go_wp2_with fail
  go_ret2
  exact ⟨_, rfl, Bs.nil_ _, hb⟩
set_option maxHeartbeats 1000000 in
set_option maxRecDepth 100000 in
theorem pnew_any (v : Value) (b : List Nat) (w : World) (hb : Bs w v b) (hl : b.length ≤ 1000000) : Calls Try.prog 19 #[v] w (nPost b RdP w) := by
  have C := Lib.hid (pclone_any v b w hb (by omega))
  obtain ⟨A1, c1, e1⟩ := hb.form
  generalize b.length = m1 at e1
  rw [e1] at C ⊢
  clear hb e1 hl
  go_enter Try.func19, Try.ntmps19
  go_wp2_with fail
  refine C.out.mono ?_
  rintro e w1 ⟨x, rfl, ho, hbel⟩
  obtain ⟨A2, c2, rfl⟩ := ho.bs.form
  have HO := Lib.hid ho
  have HG := Lib.hid hbel
  clear ho hbel
  go_wp2_with fail
  go_ret
  refine ⟨w1.heap.size, fun k => w.heap.size ≤ k ∧ k < (w1.alloc (.cells #[.slice A2 b.length c2, .bool false] 63)).heap.size, rfl, ⟨⟨HG.out.size, by simp⟩, fun k hk => hk.2, .slice A2 b.length c2, heap_alloc_new w1 _, HO.out.bs.alloc _, fun g hg => ?_⟩, fun k hk => hk.1, HG.out.alloc HG.out.size _⟩
  have := HO.out.own g hg
  refine ⟨⟨this.1, by simp; omega⟩, by omega⟩
end Go.Proofs.Ytajeboigkpelgaa
