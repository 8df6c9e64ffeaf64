/- Layer 14: contract of the program: Write. -/
import Derived.Test.YtdjjihppaobbcaaDph
namespace Go.Proofs.Ytdjjihppaobbcaa
open Go Go.RowKit Med Flt
set_option linter.unusedVariables false
set_option linter.unusedSimpArgs false
theorem Dsk.wr1D_ws (R B T S O : Nat) (d : Dsk.Dk) (f : F) (a : Int) (b : List Nat) (force : Bool) : (Dsk.wr1D R B T S O d f a b force).ws = d.ws := by
  unfold Dsk.wr1D; (repeat' split) <;> rfl
theorem Dsk.write_cnt {fa : Nat → F} (R B T S O : Nat) {p : Dsk.Pw} {d : Dsk.Dk} {key : Nat} (a : Int) (b : List Nat) (force : Bool) (h : Dsk.beE fa p d key = 0) :
    Dsk.writeE fa p d key a b = Dsk.wr1E (Dsk.beD fa p d key) a b ∧
    Dsk.writeD fa R B T S O p d key a b force = if Dsk.wr1E (Dsk.beD fa p d key) a b = 0 then Dsk.bump 1 (Dsk.wr1D R B T S O (Dsk.beD fa p d key) (fa d.count) a b force) else Dsk.wr1D R B T S O (Dsk.beD fa p d key) (fa d.count) a b force := by
  obtain ⟨fl0, fo, _, _, _, _, fw, _⟩ := Dsk.beD_flds fa p d key
  have c2 : ∀ x, Dsk.has (Dsk.beD fa p d key) x ↔ Dsk.has d x := fun x => by unfold Dsk.has; rw [fl0]
  have e : Dsk.writeE fa p d key a b = Dsk.wr1E (Dsk.beD fa p d key) a b := by
    unfold Dsk.writeE Dsk.wr1E
    rw [if_neg (not_not_intro h)]
    simp only [c2]
  have eA : Dsk.wrA fa p d key a = Dsk.wr1A (fa d.count) a := by unfold Dsk.wrA Dsk.wr1A; rw [Dsk.beF_cnt h]
  have eB : Dsk.wrBs fa p d key b = Dsk.wr1B (fa d.count) b := by unfold Dsk.wrBs Dsk.wr1B; rw [Dsk.beF_cnt h]
  refine ⟨e, ?_⟩
  have eW : Dsk.wrote fa p d key a b = { Dsk.beD fa p d key with ws := d.ws + 1, ops := (Dsk.beD fa p d key).ops ++ [⟨false, Dsk.wr1A (fa d.count) a, Dsk.wr1B (fa d.count) b⟩] } := by
    unfold Dsk.wrote; rw [eA, eB, fo]
  unfold Dsk.writeD
  rw [e, eA, Dsk.beF_cnt h, eW]
  unfold Dsk.wr1D
  generalize hD : Dsk.beD fa p d key = D at *
  by_cases e0 : Dsk.wr1E D a b = 0
  · rw [if_neg (not_not_intro e0), if_pos e0]
    by_cases k : (fa d.count).kind = 1 ∨ ¬ Dsk.has d (Dsk.wr1A (fa d.count) a)
    · rw [if_pos k, if_pos (Or.inr (k.imp id fun c e => c ((c2 _).1 e)))]
      unfold Dsk.bump
      rw [if_neg (by decide), if_pos rfl, fw]
    · have hk : ¬ (Dsk.wr1E D a b ≠ 0 ∨ (fa d.count).kind = 1 ∨ ¬ Dsk.has D (Dsk.wr1A (fa d.count) a)) := by
        rintro (c | c | c)
        · exact c e0
        · exact k (Or.inl c)
        · exact k (Or.inr fun e => c ((c2 _).2 e))
      rw [if_neg k, if_neg hk]
      cases force <;> simp [Dsk.bump, Dsk.fl, Dsk.cont, fw]
  · rw [if_pos e0, if_neg e0, if_pos (Or.inl e0)]
set_option maxHeartbeats 4000000 in
set_option maxRecDepth 100000 in
theorem pwr14_any {B : Zn} {w : World} {D P R Bn T S O : Nat} {L : List F} {p : Dsk.Pw} {d : Dsk.Dk} (h : PDk B w D P R Bn T S O L d) (hp : PPw w P p) (hP : B.fr P) (hT : B.top w) {n : Nat} (hf : p.fit n) (hn : n < 4611686018427387904) (hct : d.count < 4611686018427387904) (hws : d.ws < 4611686018427387904) (hol : d.ops.length ≤ 1000) (key : Nat) (a : Int) (v0 : Value) (b : List Nat) (force : Bool) (hv : ∀ c, Tch B tyB w c → Bs c v0 b) (hb : b.length ≤ 1000) :
    Calls Try.prog 36 #[.pointer (some ⟨D, 0, none⟩), .int .u64 (key : Int), .int .i64 a, v0, .bool force] w (pdPost B D P R Bn T S O L (Dsk.writeE (faL L) p d key a b) (Dsk.beP p d) (Dsk.writeD (faL L) R Bn T S O p d key a b force) w) := by
  have FL := Dsk.beD_flds (faL L) p d key
  obtain ⟨m, A0, cc, rfl⟩ : ∃ m A c, v0 = .slice A m c := by obtain ⟨A, c, e⟩ := (hv w (Tch.refl _ _ _)).form; exact ⟨_, A, c, e⟩
  obtain ⟨b0, hb0⟩ : ∃ b, w.heap.size = b := ⟨_, rfl⟩
  obtain ⟨W0, hW0⟩ : ∃ q, w.alloc (.cells #[.pointer (some ⟨D, 0, none⟩)] 30) = q := ⟨_, rfl⟩
  obtain ⟨b1, hb1⟩ : ∃ b, W0.heap.size = b := ⟨_, rfl⟩
  obtain ⟨W1, hW1⟩ : ∃ q, W0.alloc (.cells #[.int .i64 a] 3) = q := ⟨_, rfl⟩
  obtain ⟨b2, hb2⟩ : ∃ b, W1.heap.size = b := ⟨_, rfl⟩
  obtain ⟨W2, hW2⟩ : ∃ q, W1.alloc (.cells #[.slice A0 m cc] 60) = q := ⟨_, rfl⟩
  obtain ⟨b3, hb3⟩ : ∃ b, W2.heap.size = b := ⟨_, rfl⟩
  obtain ⟨W3, hW3⟩ : ∃ q, W2.alloc (.cells #[.bool force] 4) = q := ⟨_, rfl⟩
  have B0 : Below w.heap.size w W0 := by subst hW0; exact (Below.refl _ _).alloc (Nat.le_refl _) _
  have B1 : Below W0.heap.size W0 W1 := by subst hW1; exact (Below.refl _ _).alloc (Nat.le_refl _) _
  have B2 : Below W1.heap.size W1 W2 := by subst hW2; exact (Below.refl _ _).alloc (Nat.le_refl _) _
  have B3 : Below W2.heap.size W2 W3 := by subst hW3; exact (Below.refl _ _).alloc (Nat.le_refl _) _
  have B4 : Below w.heap.size w W3 := ((B0.trans (B1.mono B0.size)).trans (B2.mono (Nat.le_trans B0.size B1.size))).trans (B3.mono (Nat.le_trans (Nat.le_trans B0.size B1.size) B2.size))
  have R0 : DBox W3 b0 D := Row.go (Row.go (Row.go (by subst hW0; exact gr_new w _ _ hb0) B1) B2) B3
  have R1 : Row W3 b1 3 #[.int .i64 a] := Row.go (Row.go (by subst hW1; exact gr_new W0 _ _ hb1) B2) B3
  have R2 : Row W3 b2 60 #[.slice A0 m cc] := Row.go (by subst hW2; exact gr_new W1 _ _ hb2) B3
  have R3 : Row W3 b3 4 #[.bool force] := by subst hW3; exact gr_new W2 _ _ hb3
  have c0 : W3.cell? ⟨b0, 0, none⟩ = some (.pointer (some ⟨D, 0, none⟩)) := by rw [R0.cell]; rfl
  have OP := Lib.hid (pop_any B4 h hp hP hf hn hct key 1 (by decide) 66 [.pointer (some ⟨b0, 0, none⟩), .pointer (some ⟨b1, 0, none⟩), .pointer (some ⟨b2, 0, none⟩), .pointer (some ⟨b3, 0, none⟩)] (fun _ _ => by kernel_rfl) (Dsk.wr1E (Dsk.beD (faL L) p d key) a b) (Dsk.wr1D R Bn T S O (Dsk.beD (faL L) p d key) (faL L d.count) a b force)
    (by show (Dsk.wr1D R Bn T S O (Dsk.beD (faL L) p d key) (faL L d.count) a b force).ws < _; rw [Dsk.wr1D_ws, FL.2.2.2.2.2.2.1]; exact hws) (fun _ => True) (fun _ _ h _ => h)
    (fun h0 c K v _ q h3 => pwr1_any (by rw [FL.1, FL.2.1, Dsk.beD_count h0]; exact q) (hT.up (Nat.le_trans B4.size (Tch.size h3))) (by rw [FL.2.1]; exact hol) b0 b1 b2 b3 a (.slice A0 m cc) b force (R0.tch h3 (by decide)) (R1.tch h3 (by decide)) (R2.tch h3 (by decide)) (R3.tch h3 (by decide)) (hv c ((Tch.of_below B4 _ _).trans h3)) hb _))
  have FIN := Lib.hid fun e w' q => opn_fin (e := e) (w' := w') (B := B) (D := D) (P := P) (R := R) (Bn := Bn) (T := T) (S := S) (O := O) (L := L) (p := p) (d := d) (key := key) (j := 1) (x := Dsk.wr1E (Dsk.beD (faL L) p d key) a b) (d1 := Dsk.wr1D R Bn T S O (Dsk.beD (faL L) p d key) (faL L d.count) a b force) (X := fun _ => True) (w0 := w) (w := W3) q (E := Dsk.writeE (faL L) p d key a b) (dF := Dsk.writeD (faL L) R Bn T S O p d key a b force)
    (fun h0 => by
      have e1 : Dsk.writeE (faL L) p d key a b = Dsk.beE (faL L) p d key := by unfold Dsk.writeE; rw [if_pos h0]
      exact ⟨e1, by unfold Dsk.writeD; rw [e1, if_pos h0]⟩)
    (fun h0 => Dsk.write_cnt R Bn T S O a b force h0)
  have HB0 := Lib.hid hb0
  have HW0 := Lib.hid hW0
  have HB1 := Lib.hid hb1
  have HW1 := Lib.hid hW1
  have HB2 := Lib.hid hb2
  have HW2 := Lib.hid hW2
  have HB3 := Lib.hid hb3
  have HW3 := Lib.hid hW3
  clear h hp hP hT hf hn hct hws hol hv hb FL hb0 hW0 hb1 hW1 hb2 hW2 hb3 hW3 B0 B1 B2 B3 B4 R0 R1 R2 R3
  go_enter Try.func36, Try.ntmps36
  go_wp2_with (first | rw [HB0.out] | rw [HW0.out] | rw [HB1.out] | rw [HW1.out] | rw [HB2.out] | rw [HW2.out] | rw [HB3.out] | rw [HW3.out])
  refine OP.out.mono ?_
  intro e w1 hq
  have Q := Lib.hid (FIN.out _ _ hq)
  obtain ⟨rfl, -⟩ := id Q.out
  clear hq OP FIN
  generalize Dsk.writeE (faL L) p d key a b = E at *
  go_wp2_with fail
  go_ret
  exact Q.out
end Go.Proofs.Ytdjjihppaobbcaa
