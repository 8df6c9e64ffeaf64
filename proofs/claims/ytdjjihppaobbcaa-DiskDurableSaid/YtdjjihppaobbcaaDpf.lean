/- Layer 14: contracts of the program: Flush, Erase. -/
import Derived.Test.YtdjjihppaobbcaaDpe
namespace Go.Proofs.Ytdjjihppaobbcaa
open Go Go.RowKit Med Flt
set_option linter.unusedVariables false
set_option linter.unusedSimpArgs false
/-- The box of a pointer to the disk. -/
abbrev DBox (w : World) (b D : Nat) : Prop := Row w b 30 #[.pointer (some ⟨D, 0, none⟩)]
theorem Dsk.beD_count {fa : Nat → F} {p : Dsk.Pw} {d : Dsk.Dk} {key : Nat} (h : Dsk.beE fa p d key = 0) : (Dsk.beD fa p d key).count = d.count + 1 := by
  unfold Dsk.beD; rw [if_pos (Dsk.beE_cnt fa h)]
theorem opn_fin {B : Zn} {D P R Bn T S O : Nat} {L : List F} {p : Dsk.Pw} {d : Dsk.Dk} {key j : Nat} {x : Int} {d1 : Dsk.Dk} {X : World → Prop} {w0 w w' : World} {e : Ending}
    (h : opnPost B D P R Bn T S O L p d key j x d1 X w0 w e w') {E : Int} {dF : Dsk.Dk} (h1 : Dsk.beE (faL L) p d key ≠ 0 → E = Dsk.beE (faL L) p d key ∧ dF = Dsk.beD (faL L) p d key) (h2 : Dsk.beE (faL L) p d key = 0 → E = x ∧ dF = if x = 0 then Dsk.bump j d1 else d1) :
    pdPost B D P R Bn T S O L E (Dsk.beP p d) dF w0 e w' := by
  obtain ⟨a, b, c, t, -, -⟩ := h
  by_cases h0 : Dsk.beE (faL L) p d key = 0
  · obtain ⟨e1, e2⟩ := h2 h0
    rw [if_neg (not_not_intro h0)] at a b
    exact ⟨by rw [a, e1], by rw [e2]; exact b, c, t⟩
  · obtain ⟨e1, e2⟩ := h1 h0
    rw [if_pos h0] at a b
    exact ⟨by rw [a, e1], by rw [e2]; exact b, c, t⟩
set_option maxHeartbeats 4000000 in
set_option maxRecDepth 100000 in
theorem pfl1_any {B : Zn} {w0 c : World} {D P R Bn T S O K : Nat} {v : Value} {L : List F} {p : Dsk.Pw} {d : Dsk.Dk} (q0 : PqL tyB B w0 D P R Bn T S O K v d.l d.ops L (Dsk.rest L d.count) p d c) (b : Nat) (hb : DBox c b D) (f : F) :
    Calls Try.prog 64 #[fV f, .pointer (some ⟨b, 0, none⟩)] c (wkPost B D P R Bn T S O L p 0 (Dsk.fl R Bn T S O d) (fun _ => True) w0) := by
  replace q0 := q0.mono (Lt := tyD) (by decide)
  obtain ⟨x, y, z⟩ := f
  unfold fV
  obtain ⟨W0, hW0⟩ : ∃ q, c.alloc (.cells #[.int .i64 x, .int .i64 y, .int .i64 z] 80) = q := ⟨_, rfl⟩
  have B0 : Below c.heap.size c W0 := by subst hW0; exact (Below.refl _ _).alloc (Nat.le_refl _) _
  have Q0 := Lib.hid (q0.fw B0)
  have b0 : W0.cell? ⟨b, 0, none⟩ = some (.pointer (some ⟨D, 0, none⟩)) := by rw [(hb.go B0).cell]; rfl
  have a10 := Q0.out.row.oths.1
  have FL := Lib.hid (cfl_any Q0.out.ce)
  have HW0 := Lib.hid hW0
  clear hb q0 hW0 B0
  go_enter Try.func64, Try.ntmps64
  go_wp2_with (first | rw [HW0.out])
  refine FL.out.mono ?_
  rintro e w1 ⟨⟨u, rfl⟩, hr, ht⟩
  have Q1 := Lib.hid (Q0.out.cac hr ht)
  clear hr ht FL
  go_wp2_with fail
  go_ret
  obtain ⟨q1, q2, q3, q4, q5, q6, q7, q8⟩ := Q1.out
  obtain ⟨r1, r2, r3⟩ := PqL.fin (Ls := tyD) (d := Dsk.fl R Bn T S O d) ⟨q1, q2, q3, q4, q5, q6, q7, q8⟩ rfl rfl rfl
  exact ⟨rfl, r1, r2, r3, trivial⟩
set_option maxHeartbeats 4000000 in
set_option maxRecDepth 100000 in
theorem pfl14_any {B : Zn} {w : World} {D P R Bn T S O : Nat} {L : List F} {p : Dsk.Pw} {d : Dsk.Dk} (h : PDk B w D P R Bn T S O L d) (hp : PPw w P p) (hP : B.fr P) {n : Nat} (hf : p.fit n) (hn : n < 4611686018427387904) (hct : d.count < 4611686018427387904) (hfs : d.fs < 4611686018427387904) (key : Nat) :
    Calls Try.prog 34 #[.pointer (some ⟨D, 0, none⟩), .int .u64 (key : Int)] w (pdPost B D P R Bn T S O L (Dsk.beE (faL L) p d key) (Dsk.beP p d) (Dsk.flushD (faL L) R Bn T S O p d key) w) := by
  have FL := Dsk.beD_flds (faL L) p d key
  obtain ⟨b0, hb0⟩ : ∃ b, w.heap.size = b := ⟨_, rfl⟩
  obtain ⟨W0, hW0⟩ : ∃ q, w.alloc (.cells #[.pointer (some ⟨D, 0, none⟩)] 30) = q := ⟨_, rfl⟩
  have B0 : Below w.heap.size w W0 := by subst hW0; exact (Below.refl _ _).alloc (Nat.le_refl _) _
  have R0 : DBox W0 b0 D := by subst hW0; exact gr_new w _ _ hb0
  have c0 : W0.cell? ⟨b0, 0, none⟩ = some (.pointer (some ⟨D, 0, none⟩)) := by rw [R0.cell]; rfl
  have OP := Lib.hid (pop_any B0 h hp hP hf hn hct key 3 (by decide) 64 [.pointer (some ⟨b0, 0, none⟩)] (fun _ _ => by kernel_rfl) 0 (Dsk.fl R Bn T S O (Dsk.beD (faL L) p d key)) (by show (Dsk.beD (faL L) p d key).fs < _; rw [FL.2.2.2.2.2.2.2.2]; exact hfs) (fun _ => True) (fun _ _ h _ => h)
    (fun h0 c K v _ q h3 => pfl1_any (by rw [FL.1, FL.2.1, Dsk.beD_count h0]; exact q) b0 (R0.tch h3 (by decide)) _))
  have FIN := Lib.hid fun e w' (q : opnPost B D P R Bn T S O L p d key 3 0 (Dsk.fl R Bn T S O (Dsk.beD (faL L) p d key)) (fun _ => True) w W0 e w') => opn_fin q (E := Dsk.beE (faL L) p d key) (dF := Dsk.flushD (faL L) R Bn T S O p d key)
    (fun h0 => ⟨rfl, by unfold Dsk.flushD; rw [if_neg h0]⟩) (fun h0 => ⟨h0, by
      unfold Dsk.flushD; rw [if_pos h0, if_pos rfl]
      show ({ Dsk.fl R Bn T S O (Dsk.beD (faL L) p d key) with fs := d.fs + 1 } : Dsk.Dk) = { Dsk.fl R Bn T S O (Dsk.beD (faL L) p d key) with fs := (Dsk.beD (faL L) p d key).fs + 1 }
      rw [FL.2.2.2.2.2.2.2.2]⟩)
  have HB0 := Lib.hid hb0
  have HW0 := Lib.hid hW0
  have BH := Lib.hid B0
  clear h hp hP hf hn hct hfs FL hb0 hW0 B0 R0
  go_enter Try.func34, Try.ntmps34
  go_wp2_with (first | rw [HB0.out] | rw [HW0.out])
  refine OP.out.mono ?_
  intro e w1 hq
  have Q := Lib.hid (FIN.out _ _ hq)
  obtain ⟨rfl, -⟩ := id Q.out
  clear hq OP
  generalize Dsk.beE (faL L) p d key = E at *
  go_wp2_with fail
  go_ret
  obtain ⟨q1, q2, q3, q4⟩ := Q.out
  exact ⟨rfl, q2, q3, q4⟩
set_option maxHeartbeats 4000000 in
set_option maxRecDepth 100000 in
theorem per1_any {B : Zn} {w0 c : World} {D P R Bn T S O K : Nat} {v : Value} {L : List F} {p : Dsk.Pw} {d : Dsk.Dk} (q0 : PqL tyB B w0 D P R Bn T S O K v d.l d.ops L (Dsk.rest L d.count) p d c) (hT : B.top c) (hol : d.ops.length ≤ 1000) (b k : Nat) (a : Int) (hb : DBox c b D) (hk : Row c k 3 #[.int .i64 a]) (f : F) :
    Calls Try.prog 68 #[fV f, .pointer (some ⟨b, 0, none⟩), .pointer (some ⟨k, 0, none⟩)] c (wkPost B D P R Bn T S O L p (erE Bn a) { d with ops := app d.ops (erE Bn a) ⟨true, a, []⟩ } (fun _ => True) w0) := by
  replace q0 := q0.mono (Lt := tyD) (by decide)
  obtain ⟨x, y, z⟩ := f
  unfold fV
  obtain ⟨W0, hW0⟩ : ∃ q, c.alloc (.cells #[.int .i64 x, .int .i64 y, .int .i64 z] 80) = q := ⟨_, rfl⟩
  have B0 : Below c.heap.size c W0 := by subst hW0; exact (Below.refl _ _).alloc (Nat.le_refl _) _
  have B1 : Below c.heap.size c W0.drew := B0.drew
  have Q0 := Lib.hid (q0.fw B1)
  have b0 : W0.drew.cell? ⟨b, 0, none⟩ = some (.pointer (some ⟨D, 0, none⟩)) := by rw [(hb.go B1).cell]; rfl
  have k0 : W0.drew.cell? ⟨k, 0, none⟩ = some (.int .i64 a) := by rw [(hk.go B1).cell]; rfl
  have a10 := Q0.out.row.oths.1
  have ER := cer_any Q0.out.ce a [] hol (hT.up B1.size)
  unfold adPost at ER
  rw [show opE Bn (Med.play R Bn T S O d.l d.ops) ⟨true, a, []⟩ = erE Bn a from rfl] at ER
  replace ER := Lib.hid ER
  obtain ⟨E, hE⟩ : ∃ q, erE Bn a = q := ⟨_, rfl⟩
  rw [hE] at ER ⊢
  have HW0 := Lib.hid hW0
  clear hb hk hT hol q0 hW0 B0 B1 hE
  go_enter Try.func68, Try.ntmps68
  go_wp2_with (first | rw [HW0.out])
  refine wp_region_still_tail 5 (by kernel_rfl) (by kernel_rfl) ?_
  simp only [List.take_succ_cons, List.take_zero, List.drop_succ_cons, List.drop_zero]
  repeat still_step
  refine wpStill_nil ?_
  change wpList _ _ _ _ _ W0.drew
  go_wp2_with fail
  refine ER.out.mono ?_
  rintro e w1 ⟨rfl, hr, ht⟩
  have Q1 := Lib.hid (Q0.out.cac hr ht)
  clear hr ht ER
  go_wp2_with fail
  go_ret
  obtain ⟨q1, q2, q3, q4, q5, q6, q7, q8⟩ := Q1.out
  obtain ⟨r1, r2, r3⟩ := PqL.fin (Ls := tyD) (d := { d with ops := app d.ops E ⟨true, a, []⟩ }) ⟨q1, q2, q3, q4, q5, q6, q7, q8⟩ rfl rfl rfl
  exact ⟨rfl, r1, r2, r3, trivial⟩
set_option maxHeartbeats 4000000 in
set_option maxRecDepth 100000 in
theorem per14_any {B : Zn} {w : World} {D P R Bn T S O : Nat} {L : List F} {p : Dsk.Pw} {d : Dsk.Dk} (h : PDk B w D P R Bn T S O L d) (hp : PPw w P p) (hP : B.fr P) (hT : B.top w) {n : Nat} (hf : p.fit n) (hn : n < 4611686018427387904) (hct : d.count < 4611686018427387904) (hes : d.es < 4611686018427387904) (hol : d.ops.length ≤ 1000) (key : Nat) (a : Int) :
    Calls Try.prog 37 #[.pointer (some ⟨D, 0, none⟩), .int .u64 (key : Int), .int .i64 a] w (pdPost B D P R Bn T S O L (Dsk.eraseE (faL L) Bn p d key a) (Dsk.beP p d) (Dsk.eraseD (faL L) Bn p d key a) w) := by
  have FL := Dsk.beD_flds (faL L) p d key
  obtain ⟨b0, hb0⟩ : ∃ b, w.heap.size = b := ⟨_, rfl⟩
  obtain ⟨W0, hW0⟩ : ∃ q, w.alloc (.cells #[.pointer (some ⟨D, 0, none⟩)] 30) = q := ⟨_, rfl⟩
  obtain ⟨b1, hb1⟩ : ∃ b, W0.heap.size = b := ⟨_, rfl⟩
  obtain ⟨W1, hW1⟩ : ∃ q, W0.alloc (.cells #[.int .i64 a] 3) = q := ⟨_, rfl⟩
  have B0 : Below w.heap.size w W0 := by subst hW0; exact (Below.refl _ _).alloc (Nat.le_refl _) _
  have B1 : Below W0.heap.size W0 W1 := by subst hW1; exact (Below.refl _ _).alloc (Nat.le_refl _) _
  have B2 : Below w.heap.size w W1 := B0.trans (B1.mono B0.size)
  have R0 : DBox W1 b0 D := Row.go (by subst hW0; exact gr_new w _ _ hb0) B1
  have R1 : Row W1 b1 3 #[.int .i64 a] := by subst hW1; exact gr_new W0 _ _ hb1
  have c0 : W1.cell? ⟨b0, 0, none⟩ = some (.pointer (some ⟨D, 0, none⟩)) := by rw [R0.cell]; rfl
  have OP := Lib.hid (pop_any B2 h hp hP hf hn hct key 2 (by decide) 68 [.pointer (some ⟨b0, 0, none⟩), .pointer (some ⟨b1, 0, none⟩)] (fun _ _ => by kernel_rfl) (erE Bn a) { Dsk.beD (faL L) p d key with ops := app (Dsk.beD (faL L) p d key).ops (erE Bn a) ⟨true, a, []⟩ } (by show (Dsk.beD (faL L) p d key).es < _; rw [FL.2.2.2.2.2.2.2.1]; exact hes) (fun _ => True) (fun _ _ h _ => h)
    (fun h0 c K v _ q h3 => per1_any (by rw [FL.1, FL.2.1, Dsk.beD_count h0]; exact q) (hT.up (Nat.le_trans B2.size (Tch.size h3))) (by rw [FL.2.1]; exact hol) b0 b1 a (R0.tch h3 (by decide)) (R1.tch h3 (by decide)) _))
  have FIN := Lib.hid fun e w' q => opn_fin (e := e) (w' := w') (B := B) (D := D) (P := P) (R := R) (Bn := Bn) (T := T) (S := S) (O := O) (L := L) (p := p) (d := d) (key := key) (j := 2) (x := erE Bn a) (d1 := { Dsk.beD (faL L) p d key with ops := app (Dsk.beD (faL L) p d key).ops (erE Bn a) ⟨true, a, []⟩ }) (X := fun _ => True) (w0 := w) (w := W1) q (E := Dsk.eraseE (faL L) Bn p d key a) (dF := Dsk.eraseD (faL L) Bn p d key a)
    (fun h0 => by
      have e1 : Dsk.eraseE (faL L) Bn p d key a = Dsk.beE (faL L) p d key := by unfold Dsk.eraseE; rw [if_pos h0]
      exact ⟨e1, by unfold Dsk.eraseD; rw [e1, if_neg h0]⟩)
    (fun h0 => by
      have e1 : Dsk.eraseE (faL L) Bn p d key a = erE Bn a := by unfold Dsk.eraseE; rw [if_neg (not_not_intro h0)]
      refine ⟨e1, ?_⟩
      unfold Dsk.eraseD
      rw [e1]
      split
      · rename_i h1
        unfold Dsk.bump app
        rw [if_pos h1, if_neg (by decide), if_neg (by decide), if_pos (by decide), FL.2.1]
        show ({ Dsk.beD (faL L) p d key with es := d.es + 1, ops := d.ops ++ [⟨true, a, []⟩] } : Dsk.Dk) = { Dsk.beD (faL L) p d key with es := (Dsk.beD (faL L) p d key).es + 1, ops := d.ops ++ [⟨true, a, []⟩] }
        rw [FL.2.2.2.2.2.2.2.1]
      · rename_i h1
        unfold app
        rw [if_neg h1])
  have HB0 := Lib.hid hb0
  have HW0 := Lib.hid hW0
  have HB1 := Lib.hid hb1
  have HW1 := Lib.hid hW1
  have BH := Lib.hid B2
  clear h hp hP hf hn hct hes hol hT FL hb0 hW0 hb1 hW1 B0 B1 B2 R0 R1
  go_enter Try.func37, Try.ntmps37
  go_wp2_with (first | rw [HB0.out] | rw [HW0.out] | rw [HB1.out] | rw [HW1.out])
  refine OP.out.mono ?_
  intro e w1 hq
  have Q := Lib.hid (FIN.out _ _ hq)
  obtain ⟨rfl, -⟩ := id Q.out
  clear hq OP
  generalize Dsk.eraseE (faL L) Bn p d key a = E at *
  go_wp2_with fail
  go_ret
  obtain ⟨q1, q2, q3, q4⟩ := Q.out
  exact ⟨rfl, q2, q3, q4⟩
end Go.Proofs.Ytdjjihppaobbcaa
