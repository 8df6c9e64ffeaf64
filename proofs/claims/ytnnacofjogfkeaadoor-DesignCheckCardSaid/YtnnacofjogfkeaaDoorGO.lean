/- Joined: Ua Ub Uc Ud Ue Uf. -/
import Derived.Test.YtnnacofjogfkeaaDoorUm
import Derived.Test.YtnnacofjogfkeaaDoorGN
import Derived.Deep.MidRow
import Derived.Deep.RegionHeld3
import Derived.Test.YtnnacofjogfkeaaDoorRr
import Derived.Maps.OwnOps
import Derived.Maps.Views
import Derived.DeepKeys4
import Derived.WideKeyArr
namespace Go.Proofs.YtnnacofjogfkeaaDoor
open Go Go.RowKit Pl
set_option linter.unusedVariables false

/-- The cells of coordinates. -/
def kl (c : C3) : List Value := [.int .i64 (c.1 : Int), .int .i64 (c.2.1 : Int), .int .i64 (c.2.2 : Int)]
def ka (c : C3) : Array Value := #[.int .i64 (c.1 : Int), .int .i64 (c.2.1 : Int), .int .i64 (c.2.2 : Int)]
theorem ka_list (c : C3) : (ka c).toList = kl c := rfl
theorem kl_arr (c : C3) : (kl c).toArray = ka c := rfl
def At3 (w : World) (b o : Nat) (c : C3) : Prop := w.rangeAt b o (kl c)
theorem At3.below {w w' : World} {b o : Nat} {c : C3} (h : At3 w b o c) {B : Nat} (hb : Below B w w') (hB : b < B) : At3 w' b o c := fun j v hv => (hb.cell (p := ⟨b, o + j, none⟩) hB).trans (h j v hv)
theorem At3.lt {w : World} {b o : Nat} {c : C3} (h : At3 w b o c) : b < w.heap.size := World.block_lt_of_cell? w _ (h 0 _ rfl)
theorem At3.to {w w' : World} {b o : Nat} {c : C3} (h : At3 w b o c) (hb : Below w.heap.size w w') : At3 w' b o c := h.below hb h.lt
theorem At3.c0 {w : World} {b o : Nat} {c : C3} (h : At3 w b o c) : w.cell? ⟨b, o, none⟩ = some (.int .i64 (c.1 : Int)) := h 0 _ rfl
theorem At3.c1 {w : World} {b o : Nat} {c : C3} (h : At3 w b o c) : w.cell? ⟨b, o + 1, none⟩ = some (.int .i64 (c.2.1 : Int)) := h 1 _ rfl
theorem At3.c2 {w : World} {b o : Nat} {c : C3} (h : At3 w b o c) : w.cell? ⟨b, o + 2, none⟩ = some (.int .i64 (c.2.2 : Int)) := h 2 _ rfl
theorem Row.at3 {w : World} {g : Nat} {t : TypeId} {c : C3} (h : Row w g t (ka c)) : At3 w g 0 c := fun j v hv => by
  rw [Nat.zero_add, h.cell, ← hv]; simp [ka, kl]
theorem si3 (c : C3) : (Tryd.prog.info? 82).map (·.size) = some (kl c).length := by kernel_rfl
theorem sj3 (c : C3) : (Tryd.prog.info? 81).map (·.size) = some (kl c).length := by kernel_rfl
theorem row_new' (w : World) (cs : Array Value) (t : TypeId) : Row (w.alloc (.cells cs t)) w.heap.size t cs := heap_alloc_new w _
/-- A call that answers and keeps what stood. -/
def bel (v : Value) (w : World) (e : Ending) (w' : World) : Prop := e = .returned v ∧ Below w.heap.size w w'

/-- The k-th of them. -/
def g3 (c : C3) (k : Nat) : Nat := if k = 0 then c.1 else if k = 1 then c.2.1 else c.2.2
theorem g3_at (c : C3) (k : Nat) (hk : k < 3) (w : World) : (Instr.index 82 (.agg (kl c).toArray) (.int .i64 (k : Int))).run Tryd.prog w = .ok (.int .i64 (g3 c k : Nat)) w := by
  rcases (show k = 0 ∨ k = 1 ∨ k = 2 by omega) with rfl | rfl | rfl <;> rfl
theorem ld_skip {c : C3} {k : Nat} (hk : k < 3) (h : ∀ j, j < k → g3 c j = 0) (hne : g3 c k ≠ 0) : ld c = g3 c k := by
  have h0 := h 0
  have h1 := h 1
  rcases (show k = 0 ∨ k = 1 ∨ k = 2 by omega) with rfl | rfl | rfl <;> simp [g3, ld] at * <;> simp_all
theorem ld_zero {c : C3} (h : ∀ j, j < 3 → g3 c j = 0) : ld c = 0 := by
  have h0 := h 0
  have h1 := h 1
  have h2 := h 2
  simp [g3, ld] at *; simp_all

set_option maxHeartbeats 2000000 in
set_option maxRecDepth 100000 in
theorem leading_any (c : C3) (w : World) : Calls Tryd.prog 53 #[.agg (ka c)] w (bel (.int .i64 (ld c : Nat)) w) := by
  have R1 : Hid ((w.alloc (.cells (ka c) 82)).rangeAt w.heap.size 0 (kl c)) := Lib.hid (row_new' w (ka c) 82).at3
  have HB := Lib.hid ((Below.refl w.heap.size w).alloc (Nat.le_refl _) (.cells (ka c) 82))
  have KI := Lib.hid (g3_at c)
  have LS := Lib.hid (fun k => @ld_skip c k)
  have LZ := Lib.hid (@ld_zero c)
  have SI := Lib.hid (si3 c)
  obtain ⟨r, hr⟩ : ∃ r, ld c = r := ⟨_, rfl⟩
  obtain ⟨f, hf⟩ : ∃ f, g3 c = f := ⟨_, rfl⟩
  obtain ⟨C, hC⟩ : ∃ C, kl c = C := ⟨_, rfl⟩
  obtain ⟨D, hD⟩ : ∃ D, ka c = D := ⟨_, rfl⟩
  rw [hr, hf] at LS LZ
  rw [hf, hC] at KI
  rw [hC] at R1 SI
  rw [hD] at R1 HB
  rw [hr, hD]
  clear hr hf hC hD
  go_enter Tryd.func53, Tryd.ntmps53
  go_wp2_with (refine wpList_load_mid rfl _ _ rfl w.heap.size 0 rfl C _ R1.out Tryd.underlying82 rfl SI.out ?_)
  obtain ⟨w1, hw1⟩ : ∃ w1, w.alloc (.cells D 82) = w1 := ⟨_, rfl⟩
  rw [hw1] at HB ⊢
  clear R1 hw1
  go_loopw [6] (fun q wr => wr = w1 ∧ ∃ k : Nat, k ≤ 3 ∧ q = .int .i64 (k : Int) ∧ Hid (∀ j, j < k → f j = 0)) (fun q _ => 3 - (intOf q).toNat)
  case atStart => exact ⟨rfl, 0, by omega, rfl, Lib.hid fun j hj => absurd hj (Nat.not_lt_zero j)⟩
  case round =>
    obtain ⟨rfl, k, hk, rfl, H⟩ := hrel
    by_cases hlt : k < 3
    · have hkI : (k : Int) < 3 := by omega
      have hidx := KI.out k hlt
      by_cases e : f k = 0
      · have H2 := Lib.hid (fun j (hj : j < k + 1) => if h : j < k then H.out j h else (show j = k by omega) ▸ e)
        rw [e] at hidx
        clear e H LS LZ
        go_wp2
        go_roundw
        case rel => exact ⟨trivial, k + 1, by omega, by go_num, H2⟩
        case measure => simp [intOf]; omega
      · have E := LS.out k hlt H.out e
        have eI : ¬ ((f k : Int) = 0) := by omega
        rw [E]
        clear e H E LS LZ
        go_wp2
        go_ret
        exact ⟨rfl, HB.out⟩
    · obtain rfl : k = 3 := by omega
      obtain rfl := LZ.out H.out
      clear H LS LZ
      go_wp2
      go_ret
      exact ⟨rfl, HB.out⟩

/-- Where a space lies, and its field. -/
def Fs (w : World) (S : Nat) (u : Value) (q : Nat) : Prop := w.cell? ⟨S, 0, none⟩ = some u ∧ Fd w u q
theorem Fs.to {w w' : World} {S : Nat} {u : Value} {q : Nat} (h : Fs w S u q) (hb : Below w.heap.size w w') : Fs w' S u q :=
  ⟨(hb.cell (World.block_lt_of_cell? w _ h.1)).trans h.1, h.2.to hb⟩
/-- A call that only reads (its regions may draw). -/
def qui (v : Value) (w : World) (e : Ending) (w' : World) : Prop := e = .returned v ∧ ∃ n, w' = w.drewN n

end Go.Proofs.YtnnacofjogfkeaaDoor
namespace Go.Proofs.YtnnacofjogfkeaaDoor
open Go Go.RowKit Pl
set_option linter.unusedVariables false

def dotTo (q : Nat) (l p : C3) : Nat → Nat
  | 0 => 0
  | k + 1 => Sf.addF q (dotTo q l p k) (Sf.mulF q (g3 l k) (g3 p k))
theorem dotTo_3 (q : Nat) (l p : C3) : dotTo q l p 3 = dot q l p := rfl
theorem g3_lt {q : Nat} {c : C3} (h : El q c) {k : Nat} (hk : k < 3) : g3 c k < q := by
  rcases (show k = 0 ∨ k = 1 ∨ k = 2 by omega) with rfl | rfl | rfl
  · exact h.1
  · exact h.2.1
  · exact h.2.2
theorem dotTo_lt {q : Nat} {l p : C3} (hq : q ∈ szs) (hl : El q l) (hp : El q p) : ∀ k, k ≤ 3 → dotTo q l p k < q
  | 0, _ => by have := (szs_ok hq).2.1; rw [dotTo]; omega
  | k + 1, hk => Sf.add_lt (szs_ok hq).1 (dotTo_lt hq hl hp k (by omega)) (Sf.mul_lt (szs_ok hq).1 (g3_lt hl (by omega)) (g3_lt hp (by omega)))
theorem At3.at_ {w : World} {b o : Nat} {c : C3} (h : At3 w b o c) {k : Nat} (hk : k < 3) : w.cell? ⟨b, o + k, none⟩ = some (.int .i64 (g3 c k : Nat)) := by
  rcases (show k = 0 ∨ k = 1 ∨ k = 2 by omega) with rfl | rfl | rfl
  · exact h.c0
  · exact h.c1
  · exact h.c2

set_option maxHeartbeats 4000000 in
set_option maxRecDepth 100000 in
theorem dot_any (q S : Nat) (u : Value) (l p : C3) (w : World) (hq : q ∈ szs) (h : Fs w S u q) (hl : El q l) (hp : El q p) :
    Calls Tryd.prog 46 #[.pointer (some ⟨S, 0, none⟩), .agg (ka l), .agg (ka p)] w (bel (.int .i64 (dot q l p : Nat)) w) := by
  have QS := Lib.hid (szs_ok hq).1
  obtain ⟨B, hB⟩ : ∃ B, w.heap.size = B := ⟨_, rfl⟩
  have b1 : Below w.heap.size w ((w.alloc (.cells (ka l) 82)).alloc (.cells (ka p) 82)) := ((Below.refl w.heap.size w).alloc (Nat.le_refl _) _).alloc (by simp) _
  have r1 : At3 ((w.alloc (.cells (ka l) 82)).alloc (.cells (ka p) 82)) B 0 l := by
    subst hB; exact ((row_new' w _ _).at3).to ((Below.refl _ _).alloc (Nat.le_refl _) _)
  have r2 : At3 ((w.alloc (.cells (ka l) 82)).alloc (.cells (ka p) 82)) (B + 1) 0 p := by
    have := (row_new' (w.alloc (.cells (ka l) 82)) (ka p) 82).at3
    rwa [World.size_alloc, hB] at this
  have F1 := Lib.hid (h.to b1)
  have KI := Lib.hid (g3_at l)
  have SI := Lib.hid (si3 l)
  have LG := Lib.hid (fun k (hk : k < 3) => g3_lt hl hk)
  have PG := Lib.hid (fun k (hk : k < 3) => g3_lt hp hk)
  have DL := Lib.hid (fun k (hk : k ≤ 3) => dotTo_lt hq hl hp k hk)
  have D1 : Hid (∀ k, dotTo q l p (k + 1) = Sf.addF q (dotTo q l p k) (Sf.mulF q (g3 l k) (g3 p k))) := Lib.hid fun k => rfl
  have D0 : Hid (dotTo q l p 0 = 0) := Lib.hid rfl
  rw [← dotTo_3]
  have R1 : Hid (World.rangeAt _ w.heap.size 0 (kl l)) := Lib.hid (by rw [hB]; exact r1)
  have B1 := Lib.hid b1
  have R2 := Lib.hid r2
  have HB := Lib.hid hB
  clear r1 r2 b1 h hl hp hq hB
  obtain ⟨d, hd⟩ : ∃ d, dotTo q l p = d := ⟨_, rfl⟩
  obtain ⟨f, hf⟩ : ∃ f, g3 l = f := ⟨_, rfl⟩
  obtain ⟨C, hC⟩ : ∃ C, kl l = C := ⟨_, rfl⟩
  obtain ⟨D, hD⟩ : ∃ D, ka l = D := ⟨_, rfl⟩
  obtain ⟨E, hE⟩ : ∃ E, ka p = E := ⟨_, rfl⟩
  rw [hf, hC] at KI
  rw [hf] at LG
  rw [hd] at DL D0
  rw [hd, hf] at D1
  rw [hC] at SI
  rw [hC, hD, hE] at R1
  rw [hD, hE] at R2 B1 F1
  rw [hd, hD, hE]
  clear hf hC hD hE hd
  go_enter Tryd.func46, Tryd.ntmps46
  go_wp2_with (refine wpList_load_mid rfl _ _ rfl w.heap.size 0 rfl C _ R1.out Tryd.underlying82 rfl SI.out ?_)
  rw [HB.out]
  obtain ⟨w1, hw1⟩ : ∃ w1, (w.alloc (.cells D 82)).alloc (.cells E 82) = w1 := ⟨_, rfl⟩
  rw [hw1] at R2 B1 F1 ⊢
  clear R1 hw1
  go_loopw [7, 8, 9, 11] (fun s _ _ k wr => ∃ k' : Nat, k' ≤ 3 ∧ k = .int .i64 (k' : Int) ∧ s = .int .i64 (d k' : Nat) ∧ Hid (Below w.heap.size w wr ∧ Fs wr S u q ∧ At3 wr (B + 1) 0 p)) (fun _ _ _ k _ => 3 - (intOf k).toNat)
  case atStart => exact ⟨0, by omega, rfl, by rw [D0.out]; rfl, Lib.hid ⟨B1.out, F1.out, R2.out⟩⟩
  case round =>
    obtain ⟨k, hk, rfl, rfl, H⟩ := hrel
    by_cases hlt : k < 3
    · have hkI : (k : Int) < 3 := by omega
      have hidx := KI.out k hlt
      have hpt := H.out.2.2.at_ hlt
      rw [Nat.zero_add] at hpt
      obtain ⟨x, hx⟩ : ∃ x, f k = x := ⟨_, rfl⟩
      obtain ⟨y, hy⟩ : ∃ y, g3 p k = y := ⟨_, rfl⟩
      have xq : x < q := hx ▸ LG.out k hlt
      have yq : y < q := hy ▸ PG.out k hlt
      have E := D1.out k
      rw [hx, hy] at E
      have zq := DL.out k hk
      obtain ⟨z, hz⟩ : ∃ z, d k = z := ⟨_, rfl⟩
      obtain ⟨m, hm⟩ : ∃ m, Sf.mulF q x y = m := ⟨_, rfl⟩
      have mq : m < q := hm ▸ Sf.mul_lt QS.out xq yq
      obtain ⟨t, ht⟩ : ∃ t, Sf.addF q z m = t := ⟨_, rfl⟩
      rw [hz, hm, ht] at E
      rw [hz] at zq
      have E := Lib.hid E
      have CU := H.out.2.1.1
      have MM := fun n => Lib.hid (hm ▸ mul_ok q x y u (wr.drewN n) QS.out (H.out.2.1.2.to (below_drewN (Below.refl wr.heap.size wr) n)) xq yq)
      have MA := fun n => Lib.hid (ht ▸ add_ok q z m u (wr.drewN n) QS.out (H.out.2.1.2.to (below_drewN (Below.refl wr.heap.size wr) n)) zq mq)
      have MM' := Lib.hid MM
      have MA' := Lib.hid MA
      have H2 : Hid (∀ n, Below w.heap.size w (wr.drewN n) ∧ Fs (wr.drewN n) S u q ∧ At3 (wr.drewN n) (B + 1) 0 p) := Lib.hid fun n => ⟨below_drewN H.out.1 n, H.out.2.1.to (below_drewN (Below.refl wr.heap.size wr) n), H.out.2.2.to (below_drewN (Below.refl wr.heap.size wr) n)⟩
      rw [hy] at hpt
      rw [hx] at hidx
      rw [hz]
      clear MM MA H hx hy hm ht hz xq yq zq mq
      go_wp2_with fail
      go_quiet (first
        | (go_at_call 43; refine Calls.quiet_of_same ((MM'.out _).out.mono fun _ _ h => ⟨h.1, h.2⟩))
        | (go_at_call 42; refine Calls.quiet_of_same ((MA'.out _).out.mono fun _ _ h => ⟨h.1, h.2⟩)))
      go_wp2_with fail
      go_roundw
      case rel => exact ⟨k + 1, by omega, by go_num, by rw [E.out], H2.out nq⟩
      case measure => simp [intOf]; omega
    · obtain rfl : k = 3 := by omega
      have HB3 := Lib.hid H.out.1
      clear H
      go_wp2_with fail
      go_ret
      exact ⟨rfl, HB3.out⟩
end Go.Proofs.YtnnacofjogfkeaaDoor
namespace Go.Proofs.YtnnacofjogfkeaaDoor
open Go Go.RowKit Pl
set_option linter.unusedVariables false
set_option linter.unusedSimpArgs false

theorem At3.d1 {w : World} {b : Nat} {c : C3} (h : At3 w b 0 c) : w.cell? ⟨b, 1, none⟩ = some (.int .i64 (c.2.1 : Int)) := h.c1
theorem At3.d2 {w : World} {b : Nat} {c : C3} (h : At3 w b 0 c) : w.cell? ⟨b, 2, none⟩ = some (.int .i64 (c.2.2 : Int)) := h.c2
theorem Row.go {w w' : World} {g : Nat} {t : TypeId} {cs : Array Value} (h : Row w g t cs) (hb : Below w.heap.size w w') : Row w' g t cs := h.below hb h.lt
theorem Row.thr {w : World} {g : Nat} {t : TypeId} {cs : Array Value} (h : Row w g t cs) {n : Nat} (hs : n ≤ cs.size) : w.there g 0 n := fun j hj =>
  ⟨by rw [Nat.zero_add, h.cell, Array.getElem?_eq_getElem (by omega)]; rfl, h.frozen _⟩
theorem Row.oth {w : World} {g : Nat} {t : TypeId} {cs : Array Value} (h : Row w g t cs) {k : Nat} (hk : g ≠ k) (i : Nat) (u : Value) : Row (w.setCell ⟨k, i, none⟩ u) g t cs := (Below.heap_setCell w ⟨k, i, none⟩ u g hk).trans h
/-- Coordinates go into a row of three cells. -/
theorem Row.put3 {w : World} {g : Nat} {t : TypeId} {cs : Array Value} (h : Row w g t cs) (hs : cs.size = 3) (c : C3) : Row (w.setCells g 0 (ka c).toList) g t (ka c) := by
  obtain ⟨a0, a1, a2, rfl⟩ : ∃ a0 a1 a2, cs = #[a0, a1, a2] := ⟨cs[0], cs[1], cs[2], Array.ext (by simp [hs]) (by intro i h1 h2; rcases (show i = 0 ∨ i = 1 ∨ i = 2 by omega) with rfl | rfl | rfl <;> rfl)⟩
  exact ((h.store 0 (.int .i64 (c.1 : Int))).store 1 (.int .i64 (c.2.1 : Int))).store 2 (.int .i64 (c.2.2 : Int))
theorem below_set3 {B : Nat} {w w' : World} (h : Below B w w') {g : Nat} (hg : B ≤ g) (c : C3) : Below B w (w'.setCells g 0 (ka c).toList) :=
  ((h.setCell (p := ⟨g, 0, none⟩) hg _).setCell (p := ⟨g, 1, none⟩) hg _).setCell (p := ⟨g, 2, none⟩) hg _
theorem At3.apart {w : World} {b o g : Nat} {c : C3} (h : At3 w b o c) (hne : b ≠ g) (d : C3) : At3 (w.setCells g 0 (ka d).toList) b o c := fun j v hv => by
  have hb : ∀ (w : World) i x, (w.setCell ⟨g, i, none⟩ x).cell? ⟨b, o + j, none⟩ = w.cell? ⟨b, o + j, none⟩ := fun w i x => World.cell?_of_block (Below.heap_setCell w ⟨g, i, none⟩ x b hne)
  exact ((hb _ _ _).trans ((hb _ _ _).trans (hb _ _ _))).trans (h j v hv)
theorem ka_one (c : C3) : (ka c).all (·.oneCell') = true := by simp [ka, Value.oneCell']

end Go.Proofs.YtnnacofjogfkeaaDoor
namespace Go.Proofs.YtnnacofjogfkeaaDoor
open Go Go.RowKit Pl
set_option linter.unusedVariables false
set_option linter.unusedSimpArgs false

theorem cell_to {w w' : World} {p : Addr} {u : Value} (h : w.cell? p = some u) (hb : Below w.heap.size w w') : w'.cell? p = some u := (hb.cell (World.block_lt_of_cell? w _ h)).trans h
/-- The first k coordinates are multiplied by i. -/
def sc (q i : Nat) (c : C3) (k : Nat) : C3 := (if 0 < k then Sf.mulF q c.1 i else c.1, if 1 < k then Sf.mulF q c.2.1 i else c.2.1, if 2 < k then Sf.mulF q c.2.2 i else c.2.2)
theorem sc_0 (q i : Nat) (c : C3) : sc q i c 0 = c := rfl
theorem sc_3 (q : Nat) (c : C3) : sc q (Sf.invF q (ld c)) c 3 = nrm q c := rfl
theorem Row.sc {w : World} {g : Nat} {t : TypeId} {q i : Nat} {c : C3} {k : Nat} (h : Row w g t (ka (sc q i c k))) (hk : k < 3) : Row (w.setCell ⟨g, k, none⟩ (.int .i64 (Sf.mulF q (g3 c k) i : Nat))) g t (ka (Proofs.YtnnacofjogfkeaaDoor.sc q i c (k + 1))) := by
  rcases (show k = 0 ∨ k = 1 ∨ k = 2 by omega) with rfl | rfl | rfl
  · exact h.store 0 _
  · exact h.store 1 _
  · exact h.store 2 _

end Go.Proofs.YtnnacofjogfkeaaDoor
namespace Go.Proofs.YtnnacofjogfkeaaDoor
open Go Go.RowKit Go.Maps Go.WideMaps Pl
set_option linter.unusedVariables false

/-! ### The map -/
theorem laid_out : laidOutB Tryd.prog = true := by kernel_rfl
theorem krow : (82 : TypeId) < Tryd.prog.types.size := of_decide_eq_true (by kernel_rfl)
theorem kwide : (match Tryd.prog.underlying 82 with | some (.array _ _) | some (.struct _) => true | _ => false) = true := by rw [Tryd.underlying82]
theorem klaw : Keyed Tryd.prog 82 := Keyed.of_law (deep_law_laid laid_out (m := 2) (by omega) krow (by kernel_rfl) kwide)
theorem karr : ArrKey Tryd.prog 82 3 3 := ⟨Tryd.underlying82, by kernel_rfl, by kernel_rfl, by kernel_rfl⟩
theorem keyOf_tri {P : Program} {k e : TypeId} {q : IntKind} (A : ArrKey P k e 3) (he : P.underlying e = some (.int q)) (hsz : ∃ m, P.types.size = m + 1) {a b c : Int} (wa : (Lit.int q a).wf = true) (wb : (Lit.int q b).wf = true) (wc : (Lit.int q c).wf = true) :
    keyOf P k (.agg #[.int q a, .int q b, .int q c]) = some (.string (keyBytes [.int q a, .int q b, .int q c])) := by
  have hkt := A.keyType hsz
  obtain ⟨m, hm⟩ := hsz
  unfold keyOf
  simp only [A.hu]
  rw [if_pos (by simp [hkt, Value.formed, A.hu, A.size]), hm]
  unfold Program.keyLits
  simp only [A.hu, Value.cells]
  rw [if_pos (by rw [A.size]; rfl), show List.range 3 = [0, 1, 2] from rfl, List.mapM_cons, List.mapM_cons, List.mapM_cons, List.mapM_nil]
  simp [A.one, Program.keyLits, he, wa, wb, wc]
def kk (c : C3) : Lit := .string (keyBytes [.int .i64 (c.1 : Int), .int .i64 (c.2.1 : Int), .int .i64 (c.2.2 : Int)])
theorem wf_small {a : Nat} (h : a < 1000) : (Lit.int .i64 (a : Int)).wf = true := by
  simp [Lit.wf, IntKind.min, IntKind.max, IntKind.signed, IntKind.bits]; omega
theorem keyOf_c {q : Nat} {c : C3} (hq : q ≤ 9) (h : El q c) : keyOf Tryd.prog 82 (.agg (ka c)) = some (kk c) :=
  keyOf_tri karr Tryd.underlying3 ⟨_, rfl⟩ (wf_small (by have := h.1; omega)) (wf_small (by have := h.2.1; omega)) (wf_small (by have := h.2.2; omega))
theorem kk_inj {q : Nat} {c d : C3} (hq : q ≤ 9) (hc : El q c) (hd : El q d) (e : kk c = kk d) : c = d := by
  have h1 := keyOf_c hq hc
  have h2 := keyOf_c hq hd
  rw [← e] at h2
  have := klaw.inj h1 h2
  injection this with this
  unfold ka at this
  obtain ⟨c0, c1, c2⟩ := c
  obtain ⟨d0, d1, d2⟩ := d
  simp at this
  obtain ⟨h0, h1, h2⟩ := this
  rw [show c0 = d0 by omega, show c1 = d1 by omega, show c2 = d2 by omega]
/-- Block M is a map that gives each of these coordinates its position. -/
def Mp (w : World) (M : Nat) (L : List C3) : Prop := ∃ D : DataW Unit, w.ownsMap Tryd.prog 82 (plainElem Tryd.prog 3) M L.length D ∧ IsMap D ∧ ∀ i (h : i < L.length), D.atKey (kk L[i]) (.lit (.int .i64 0)) = .lit (.int .i64 (i : Int))
theorem Mp.lt {w : World} {M : Nat} {L : List C3} (h : Mp w M L) : M < w.heap.size := by obtain ⟨D, h, _⟩ := h; exact h.lt
theorem Mp.to {w w' : World} {M : Nat} {L : List C3} (h : Mp w M L) (hb : Below w.heap.size w w') : Mp w' M L := by
  have hlt := h.lt
  obtain ⟨D, ⟨es, cl, hm, hr⟩, h2⟩ := h
  exact ⟨D, ⟨es, cl, (hb.block M hlt).trans hm, hr⟩, h2⟩
theorem Mp.block {w w' : World} {M : Nat} {L : List C3} (h : Mp w M L) (hb : w'.heap[M]? = w.heap[M]?) : Mp w' M L := by
  obtain ⟨D, ⟨es, cl, hm, hr⟩, h2⟩ := h
  exact ⟨D, ⟨es, cl, hb.trans hm, hr⟩, h2⟩
theorem Mp.made (w : World) : Mp (w.alloc (.map #[] 0)) w.heap.size [] := ⟨.map [], World.ownsMap_made w _ _ _, isMap_empty, fun i h => absurd h (Nat.not_lt_zero i)⟩
/-- The coordinates c get the next number. -/
theorem Mp.put {w : World} {M q : Nat} {L : List C3} (h : Mp w M L) (hq : q ≤ 9) (hL : ∀ c ∈ L, El q c) {c : C3} (hc : El q c) (hn : c ∉ L) (hlen : L.length < 500) :
    ∃ w', (Instr.mapUpdate 78 (.map (some M)) (.agg (ka c)) (.int .i64 (L.length : Int))).run Tryd.prog w = .ok () w' ∧ Mp w' M (L ++ [c]) ∧ w.grownBy w' (some M) := by
  obtain ⟨D, ho, hD, hat⟩ := h
  obtain ⟨w', h1, h2, h3⟩ := ho.update klaw Tryd.underlying78 (by unfold maxLen; omega) (keyOf_c hq hc) (plainElem_int Tryd.underlying3 (wf_small (a := L.length) (by omega)))
  refine ⟨w', h1, ⟨_, by rw [List.length_append]; exact h2, hD.put _ _, fun i hi => ?_⟩, h3⟩
  rcases Nat.lt_or_ge i L.length with hlt | hge
  · rw [List.getElem_append_left hlt, atKey_put_other (fun e => hn (by rw [← kk_inj hq (hL _ (List.getElem_mem hlt)) hc e]; exact List.getElem_mem hlt))]
    exact hat i hlt
  · have e : i = L.length := by simp at hi; omega
    subst e
    rw [List.getElem_append_right (Nat.le_refl _)]
    simp only [Nat.sub_self, List.getElem_cons_zero]
    exact atKey_put_same hD (show WideAt.IsKeyLit (kk c) by unfold kk; trivial) _ _
theorem Mp.get {w : World} {M q : Nat} {L : List C3} (h : Mp w M L) (hq : q ≤ 9) {i : Nat} (hi : i < L.length) (hc : El q L[i]) :
    (Instr.lookup 78 (.map (some M)) (.agg (ka L[i])) false).run Tryd.prog w = .ok (.int .i64 (i : Int)) w := by
  obtain ⟨D, ho, hD, hat⟩ := h
  obtain ⟨c, hrun, hc', hw⟩ := ho.lookup_int klaw Tryd.underlying78 Tryd.underlying3 (by kernel_rfl) (keyOf_c hq hc)
  rw [hat i hi] at hc'
  injection hc' with hc'
  injection hc' with _ hc'
  rw [hc']; exact hrun
/-- 'm[k] = v' in a region that draws. -/
theorem wp_mapPut {w : World} {o : Oper} {a : Act} {K : Act → World → Prop} {Q : Exit → Act → World → Prop} (m x v : Operand) (ho : o.op = .mapUpdate 78 m x v)
    (M q n : Nat) (L : List C3) (c : C3) (h : Mp w M L) (hq : q ≤ 9) (hL : ∀ c ∈ L, El q c) (hc : El q c) (hn : c ∉ L) (hlen : L.length < 500) (en : L.length = n) (hm : a.eval m = .map (some M)) (hx : a.eval x = .agg (ka c)) (hv : a.eval v = .int .i64 (n : Int))
    (hK : ∀ w', Mp w' M (L ++ [c]) → w.grownBy w' (some M) → K (a.put o.dst undef) w') : o.wp Tryd.prog a w K Q := by
  subst en
  obtain ⟨w', h1, h2, h3⟩ := h.put hq hL hc hn hlen
  unfold Oper.wp
  simp only [execOp, ho, hm, hx, hv, h1, Result.andThen, Sem.run_bind, Sem.run_pure]
  exact hK _ h2 h3
theorem wp_mapGet {w : World} {o : Oper} {a : Act} {K : Act → World → Prop} {Q : Exit → Act → World → Prop} (m x : Operand) (ho : o.op = .lookup 78 m x false)
    (M q i : Nat) (L : List C3) (h : Mp w M L) (hq : q ≤ 9) (hi : i < L.length) (hc : El q L[i]) (hm : a.eval m = .map (some M)) (hx : a.eval x = .agg (ka L[i]))
    (hK : K (a.put o.dst (.int .i64 (i : Int))) w) : o.wp Tryd.prog a w K Q := by
  unfold Oper.wp
  simp only [execOp, ho, hm, hx, h.get hq hi hc, Result.andThen, Sem.run_bind, Sem.run_pure]
  exact hK

/-! ### Lists of coordinates -/
theorem flat3_len : ∀ L : List C3, (L.flatMap kl).length = L.length * 3
  | [] => rfl
  | c :: r => by rw [List.flatMap_cons, List.length_append, flat3_len r, List.length_cons]; simp [kl]; omega
theorem flat3_at : ∀ {L : List C3} {i : Nat} (hi : i < L.length) {j : Nat}, j < 3 → (L.flatMap kl)[i * 3 + j]? = (kl L[i])[j]?
  | c :: r, 0, _, j, hj => by
    rw [List.flatMap_cons, Nat.zero_mul, Nat.zero_add, List.getElem?_append_left (by simpa [kl] using hj)]; rfl
  | c :: r, i + 1, hi, j, hj => by
    rw [List.flatMap_cons, List.getElem?_append_right (by simp [kl]; omega)]
    have := flat3_at (L := r) (i := i) (by simpa using hi) hj
    rw [show (i + 1) * 3 + j - (kl c).length = i * 3 + j by simp [kl]; omega, this]
    rfl
theorem kl_one (L : List C3) : ∀ u ∈ L.flatMap kl, u.oneCell' = true := by
  intro u hu
  obtain ⟨c, _, hu⟩ := List.mem_flatMap.1 hu
  simp only [kl, List.mem_cons, List.not_mem_nil, or_false] at hu
  rcases hu with rfl | rfl | rfl <;> rfl
theorem kl_one' (c : C3) : ∀ u ∈ kl c, u.oneCell' = true := by
  intro u hu
  simp only [kl, List.mem_cons, List.not_mem_nil, or_false] at hu
  rcases hu with rfl | rfl | rfl <;> rfl
/-- A list of coordinates that lies in a block from base on, or is nil. -/
def OwnC (e : TypeId) (w : World) (base : Nat) (v : Value) (L : List C3) : Prop := w.ownsRow base e 3 v L.length (L.flatMap kl)
theorem OwnC.lt {e : TypeId} {w : World} {base : Nat} {v : Value} {L : List C3} (h : OwnC e w base v L) : ∀ k, v.ownBlock = some k → base ≤ k ∧ k < w.heap.size := World.ownsRow.lt h
theorem OwnC.below {e : TypeId} {w w' : World} {base B : Nat} {v : Value} {L : List C3} (h : OwnC e w base v L) (hb : Below B w w') (hB : w.heap.size ≤ B) : OwnC e w' base v L := by
  obtain ⟨hl, h⟩ := h
  refine ⟨hl, ?_⟩
  rcases h with h | ⟨g, cap, cur, rfl, hg, hh, hr⟩
  · exact .inl h
  · exact .inr ⟨g, cap, cur, rfl, hg, (hb.block g (by have := (Array.getElem?_eq_some_iff.1 hh).1; omega)).trans hh, hr⟩
theorem OwnC.to {e : TypeId} {w w' : World} {base : Nat} {v : Value} {L : List C3} (h : OwnC e w base v L) (hb : Below w.heap.size w w') : OwnC e w' base v L := h.below hb (Nat.le_refl _)
theorem OwnC.off {e : TypeId} {w w' : World} {base k : Nat} {v : Value} {L : List C3} (h : OwnC e w base v L) (hb : ∀ b, b ≠ k → b < w.heap.size → w'.heap[b]? = w.heap[b]?) (hk : k < base) : OwnC e w' base v L := by
  obtain ⟨hl, h⟩ := h
  refine ⟨hl, ?_⟩
  rcases h with h | ⟨g, cap, cur, rfl, hg, hh, hr⟩
  · exact .inl h
  · exact .inr ⟨g, cap, cur, rfl, hg, (hb g (by omega) (Array.getElem?_eq_some_iff.1 hh).1).trans hh, hr⟩
theorem OwnC.nil_ (e : TypeId) (w : World) (base : Nat) : OwnC e w base (.slice none 0 0) [] := World.ownsRow_nil _ _ _ _
/-- Where n coordinates lie. -/
def Cs (w : World) (g n : Nat) (f : Nat → C3) : Prop := ∀ i, i < n → At3 w g (i * 3) (f i)
theorem Cs.to {w w' : World} {g n : Nat} {f : Nat → C3} (h : Cs w g n f) (hb : Below w.heap.size w w') : Cs w' g n f := fun i hi => (h i hi).to hb
theorem OwnC.cs {e : TypeId} {w : World} {base : Nat} {v : Value} {L : List C3} (h : OwnC e w base v L) (hp : 0 < L.length) : ∃ g cap, v = .slice (some ⟨g, 0, none⟩) L.length cap ∧ base ≤ g ∧ (L.length ≤ cap ∧ cap ≤ maxLen) ∧ Cs w g L.length (fun i => L.getD i (0, 0, 0)) := by
  obtain ⟨hl, h⟩ := h
  rcases h with ⟨rfl, h0⟩ | ⟨g, cap, cur, rfl, hg, hh, hle, hm, hs, ht⟩
  · omega
  · refine ⟨g, cap, rfl, hg, ⟨hle, hm⟩, fun i hi j u hu => ?_⟩
    have hj : j < 3 := by have := (List.getElem?_eq_some_iff.1 hu).1; simpa [kl] using this
    have hi3 : i * 3 + j < L.length * 3 := by omega
    have h1 := flat3_at hi hj
    rw [← ht, List.getElem?_take_of_lt hi3] at h1
    rw [cell_of_row w g (i * 3 + j) cur _ (0, 0) hh]
    have e : L.getD i (0, 0, 0) = L[i] := getD_in hi
    simp only [e] at hu
    rw [← hu, ← h1]; simp
theorem OwnC.form {e : TypeId} {w : World} {base : Nat} {v : Value} {L : List C3} (h : OwnC e w base v L) : ∃ A cap, v = .slice A L.length cap := by
  obtain ⟨hl, h⟩ := h
  rcases h with ⟨rfl, h0⟩ | ⟨g, cap, cur, rfl, _⟩
  · exact ⟨none, 0, by rw [h0]⟩
  · exact ⟨_, _, rfl⟩
theorem info_c : (Tryd.prog.info? 82).map (fun i => (i.zero, i.size, i.bytes)) = some (some (.agg #[.int .i64 0, .int .i64 0, .int .i64 0]), 3, 24) := by kernel_rfl
theorem run_build_c (c : C3) (w : World) : (Instr.buildSlice 77 1 #[(0, .agg (ka c))]).run Tryd.prog w = .ok (.slice (some ⟨w.heap.size, 0, none⟩) 1 1) (w.alloc (.cells (ka c) 82)) := by
  obtain ⟨i, hi, hzz⟩ := Option.map_eq_some_iff.1 info_c
  simp only [Prod.mk.injEq] at hzz
  obtain ⟨hz, hs, hb⟩ := hzz
  simp [Instr.buildSlice, run_underlying Tryd.underlying77, sizeOf, typeInfo, hi, hs, zeroValue, hz, newRow, Instr.fill, ka, Value.cells, show Array.range 3 = #[0, 1, 2] from rfl]
theorem wp_build_c {o : Oper} {a : Act} {w : World} {K : Act → World → Prop} {Q : Exit → Act → World → Prop} (x : Operand) (ho : o.op = .buildSlice 77 1 #[(0, x)]) (c : C3) (hx : a.eval x = .agg (ka c))
    (hk : K (a.put o.dst (.slice (some ⟨w.heap.size, 0, none⟩) 1 1)) (w.alloc (.cells (ka c) 82))) : o.wp Tryd.prog a w K Q := by
  unfold Oper.wp
  simp only [execOp, ho, List.map_toArray, List.map_cons, List.map_nil, hx, Sem.run_bind, Sem.run_pure, Result.andThen_ok, run_build_c c w]
  exact hk
theorem wpList_build_c {ops : Array Oper} {rest : List Oper} {o : Oper} {a : Act} {w : World} {Q : Exit → Act → World → Prop} (hgd : o.guard = none) (x : Operand) (ho : o.op = .buildSlice 77 1 #[(0, x)]) (c : C3) (hx : a.eval x = .agg (ka c))
    (hk : wpList Tryd.prog ops Q rest (a.put o.dst (.slice (some ⟨w.heap.size, 0, none⟩) 1 1)) (w.alloc (.cells (ka c) 82))) : wpList Tryd.prog ops Q (o :: rest) a w :=
  wpList_plain hgd fun _ hK => wp_build_c x ho c hx (hK _ _ hk)
/-- 'append(x, c)': where the new list lies. -/
theorem wp_push_c {w : World} {o : Oper} {a : Act} {K : Act → World → Prop} {Q : Exit → Act → World → Prop} (s x : Operand)
    (ho : o.op = .call { callee := .builtin .append, args := #[s, x], argTypes := #[77, 77] })
    (base : Nat) (v : Value) (L : List C3) (n : Nat) (c : C3) (bl cp : Nat) (hs : a.eval s = v) (hown : OwnC 82 w base v L) (hn : L.length = n) (hx : a.eval x = .slice (some ⟨bl, 0, none⟩) 1 cp) (hsrc : At3 w bl 0 c) (hlen : n ≤ 1000) (hbase : base ≤ w.heap.size)
    (h : ∀ g cap w', OwnC 82 w' base (.slice (some ⟨g, 0, none⟩) (n + 1) cap) (L ++ [c]) → w.grownBy w' v.ownBlock → (v.ownBlock = some g ∨ g = w.heap.size) → g < w'.heap.size → K (a.put o.dst (.slice (some ⟨g, 0, none⟩) (n + 1) cap)) w') : o.wp Tryd.prog a w K Q := by
  subst hn
  obtain ⟨i, hi, hzz⟩ := Option.map_eq_some_iff.1 info_c
  simp only [Prod.mk.injEq] at hzz
  obtain ⟨hz, hsz, hby⟩ := hzz
  refine wp_append_lies w s x _ ho base _ i _ 3 24 Tryd.underlying77 hi hz hsz hby rfl (by decide) v L.length _ hs hown ⟨bl, 0, none⟩ 1 cp (kl c) hx (by simp [kl]) (fun j u hu => ?_) (kl_one' c) (by decide) (by unfold maxLen; omega) (by omega) hbase _ rfl fun g cap w' h1 h2 h3 h4 => h g cap w' ?_ h2 h3 h4
  · rw [Go.WideShapes.add_plain]; exact hsrc j u hu
  · show w'.ownsRow base _ 3 _ (L ++ [c]).length ((L ++ [c]).flatMap kl)
    rw [List.length_append, List.flatMap_append, List.length_singleton]
    simpa using h1
theorem wpList_push_c {w : World} {ops : Array Oper} {rest : List Oper} {o : Oper} {a : Act} {Q : Exit → Act → World → Prop} (hgd : o.guard = none) (s x : Operand)
    (ho : o.op = .call { callee := .builtin .append, args := #[s, x], argTypes := #[77, 77] })
    (base : Nat) (v : Value) (L : List C3) (n : Nat) (c : C3) (bl cp : Nat) (hs : a.eval s = v) (hown : OwnC 82 w base v L) (hn : L.length = n) (hx : a.eval x = .slice (some ⟨bl, 0, none⟩) 1 cp) (hsrc : At3 w bl 0 c) (hlen : n ≤ 1000) (hbase : base ≤ w.heap.size)
    (h : ∀ g cap w', OwnC 82 w' base (.slice (some ⟨g, 0, none⟩) (n + 1) cap) (L ++ [c]) → w.grownBy w' v.ownBlock → (v.ownBlock = some g ∨ g = w.heap.size) → g < w'.heap.size → wpList Tryd.prog ops Q rest (a.put o.dst (.slice (some ⟨g, 0, none⟩) (n + 1) cap)) w') : wpList Tryd.prog ops Q (o :: rest) a w :=
  wpList_plain hgd fun _ hK => wp_push_c s x ho base v L n c bl cp hs hown hn hx hsrc hlen hbase fun g cap w' h1 h2 h3 h4 => hK _ _ (h g cap w' h1 h2 h3 h4)
theorem info_t : (Tryd.prog.info? 81).map (fun i => (i.zero, i.size, i.bytes)) = some (some (.agg #[.int .i64 0, .int .i64 0, .int .i64 0]), 3, 24) := by kernel_rfl
theorem run_build_t (c : C3) (w : World) : (Instr.buildSlice 84 1 #[(0, .agg (ka c))]).run Tryd.prog w = .ok (.slice (some ⟨w.heap.size, 0, none⟩) 1 1) (w.alloc (.cells (ka c) 81)) := by
  obtain ⟨i, hi, hzz⟩ := Option.map_eq_some_iff.1 info_t
  simp only [Prod.mk.injEq] at hzz
  obtain ⟨hz, hs, hb⟩ := hzz
  simp [Instr.buildSlice, run_underlying Tryd.underlying84, sizeOf, typeInfo, hi, hs, zeroValue, hz, newRow, Instr.fill, ka, Value.cells, show Array.range 3 = #[0, 1, 2] from rfl]
theorem wp_build_t {o : Oper} {a : Act} {w : World} {K : Act → World → Prop} {Q : Exit → Act → World → Prop} (x : Operand) (ho : o.op = .buildSlice 84 1 #[(0, x)]) (c : C3) (hx : a.eval x = .agg (ka c))
    (hk : K (a.put o.dst (.slice (some ⟨w.heap.size, 0, none⟩) 1 1)) (w.alloc (.cells (ka c) 81))) : o.wp Tryd.prog a w K Q := by
  unfold Oper.wp
  simp only [execOp, ho, List.map_toArray, List.map_cons, List.map_nil, hx, Sem.run_bind, Sem.run_pure, Result.andThen_ok, run_build_t c w]
  exact hk
theorem wpList_build_t {ops : Array Oper} {rest : List Oper} {o : Oper} {a : Act} {w : World} {Q : Exit → Act → World → Prop} (hgd : o.guard = none) (x : Operand) (ho : o.op = .buildSlice 84 1 #[(0, x)]) (c : C3) (hx : a.eval x = .agg (ka c))
    (hk : wpList Tryd.prog ops Q rest (a.put o.dst (.slice (some ⟨w.heap.size, 0, none⟩) 1 1)) (w.alloc (.cells (ka c) 81))) : wpList Tryd.prog ops Q (o :: rest) a w :=
  wpList_plain hgd fun _ hK => wp_build_t x ho c hx (hK _ _ hk)
/-- 'append(x, c)': where the new list lies. -/
theorem wp_push_t {w : World} {o : Oper} {a : Act} {K : Act → World → Prop} {Q : Exit → Act → World → Prop} (s x : Operand)
    (ho : o.op = .call { callee := .builtin .append, args := #[s, x], argTypes := #[84, 84] })
    (base : Nat) (v : Value) (L : List C3) (n : Nat) (c : C3) (bl cp : Nat) (hs : a.eval s = v) (hown : OwnC 81 w base v L) (hn : L.length = n) (hx : a.eval x = .slice (some ⟨bl, 0, none⟩) 1 cp) (hsrc : At3 w bl 0 c) (hlen : n ≤ 1000) (hbase : base ≤ w.heap.size)
    (h : ∀ g cap w', OwnC 81 w' base (.slice (some ⟨g, 0, none⟩) (n + 1) cap) (L ++ [c]) → w.grownBy w' v.ownBlock → (v.ownBlock = some g ∨ g = w.heap.size) → g < w'.heap.size → K (a.put o.dst (.slice (some ⟨g, 0, none⟩) (n + 1) cap)) w') : o.wp Tryd.prog a w K Q := by
  subst hn
  obtain ⟨i, hi, hzz⟩ := Option.map_eq_some_iff.1 info_t
  simp only [Prod.mk.injEq] at hzz
  obtain ⟨hz, hsz, hby⟩ := hzz
  refine wp_append_lies w s x _ ho base _ i _ 3 24 Tryd.underlying84 hi hz hsz hby rfl (by decide) v L.length _ hs hown ⟨bl, 0, none⟩ 1 cp (kl c) hx (by simp [kl]) (fun j u hu => ?_) (kl_one' c) (by decide) (by unfold maxLen; omega) (by omega) hbase _ rfl fun g cap w' h1 h2 h3 h4 => h g cap w' ?_ h2 h3 h4
  · rw [Go.WideShapes.add_plain]; exact hsrc j u hu
  · show w'.ownsRow base _ 3 _ (L ++ [c]).length ((L ++ [c]).flatMap kl)
    rw [List.length_append, List.flatMap_append, List.length_singleton]
    simpa using h1
theorem wpList_push_t {w : World} {ops : Array Oper} {rest : List Oper} {o : Oper} {a : Act} {Q : Exit → Act → World → Prop} (hgd : o.guard = none) (s x : Operand)
    (ho : o.op = .call { callee := .builtin .append, args := #[s, x], argTypes := #[84, 84] })
    (base : Nat) (v : Value) (L : List C3) (n : Nat) (c : C3) (bl cp : Nat) (hs : a.eval s = v) (hown : OwnC 81 w base v L) (hn : L.length = n) (hx : a.eval x = .slice (some ⟨bl, 0, none⟩) 1 cp) (hsrc : At3 w bl 0 c) (hlen : n ≤ 1000) (hbase : base ≤ w.heap.size)
    (h : ∀ g cap w', OwnC 81 w' base (.slice (some ⟨g, 0, none⟩) (n + 1) cap) (L ++ [c]) → w.grownBy w' v.ownBlock → (v.ownBlock = some g ∨ g = w.heap.size) → g < w'.heap.size → wpList Tryd.prog ops Q rest (a.put o.dst (.slice (some ⟨g, 0, none⟩) (n + 1) cap)) w') : wpList Tryd.prog ops Q (o :: rest) a w :=
  wpList_plain hgd fun _ hK => wp_push_t s x ho base v L n c bl cp hs hown hn hx hsrc hlen hbase fun g cap w' h1 h2 h3 h4 => hK _ _ (h g cap w' h1 h2 h3 h4)
end Go.Proofs.YtnnacofjogfkeaaDoor
namespace Go.Proofs.YtnnacofjogfkeaaDoor
open Go Go.RowKit Pl
set_option linter.unusedVariables false
set_option linter.unusedSimpArgs false

theorem kS_big (q : Nat) (hq : q ∈ Sf.sizes) (h : q ∉ szs) : q = 8 ∨ q = 9 := (show ∀ q ∈ Sf.sizes, q ∉ szs → q = 8 ∨ q = 9 by decide) q hq h
theorem lf_arg (q p : Int) (w : World) (hK : Kd w) (hq : ∀ k, k < 7 → (kS k : Int) ≠ q) : Calls Tryd.prog 39 #[.int .i64 q, .int .i64 p] w (bel (.tuple #[.pointer none, .int .i64 1]) w) := by
  have NE := Lib.hid (new_err q w hK hq)
  clear hq hK
  go_enter Tryd.func39, Tryd.ntmps39
  go_wp2_with fail
  refine NE.out.mono ?_
  rintro e w1 ⟨rfl, hb⟩
  have HB := Lib.hid hb
  clear hb
  go_wp2_with fail
  go_ret2
  exact ⟨rfl, HB.out⟩
theorem lf_limit (q : Nat) (p : Int) (w : World) (hK : Kd w) (hq : q ∈ Sf.sizes) (hp : 60 < p) : Calls Tryd.prog 39 #[.int .i64 (q : Int), .int .i64 p] w (bel (.tuple #[.pointer none, .int .i64 7]) w) := by
  have NE := Lib.hid (new_ok q w hK hq)
  clear hq hK
  go_enter Tryd.func39, Tryd.ntmps39
  go_wp2_with fail
  refine NE.out.mono ?_
  rintro e w1 ⟨u, rfl, -, hb⟩
  have HB := Lib.hid hb
  clear hb
  go_wp2_with fail
  go_ret2
  exact ⟨rfl, HB.out⟩
theorem lf_ok (q : Nat) (p : Int) (w : World) (hK : Kd w) (hq : q ∈ Sf.sizes) (hp : p ≤ 60) : Calls Tryd.prog 39 #[.int .i64 (q : Int), .int .i64 p] w (newPost q w) := by
  have NE := Lib.hid (new_ok q w hK hq)
  clear hq hK
  go_enter Tryd.func39, Tryd.ntmps39
  go_wp2_with fail
  refine NE.out.mono ?_
  rintro e w1 ⟨u, rfl, hf, hb⟩
  have HB := Lib.hid (And.intro hf hb)
  clear hb hf
  go_wp2_with fail
  go_ret2
  exact ⟨u, rfl, HB.out⟩

/-! ### newSpace -/
theorem Row.gr {w w' : World} {g : Nat} {t : TypeId} {cs : Array Value} {row : Option Nat} (h : Row w g t cs) (hg : w.grownBy w' row) (hne : some g ≠ row) : Row w' g t cs := (hg.block g h.lt hne).trans h
theorem At3.gr {w w' : World} {b o : Nat} {c : C3} {row : Option Nat} (h : At3 w b o c) (hg : w.grownBy w' row) (hne : some b ≠ row) : At3 w' b o c := fun j v hv => (World.cell?_of_block (hg.block b h.lt hne)).trans (h j v hv)
theorem grown_set (w : World) (g i : Nat) (u : Value) : w.grownBy (w.setCell ⟨g, i, none⟩ u) (some g) := ⟨rfl, rfl, rfl, by simp [World.setCell], fun b _ hb => Below.heap_setCell w ⟨g, i, none⟩ u b (fun e => hb (by rw [e]))⟩
theorem grown_set3 (w : World) (g : Nat) (c : C3) : w.grownBy (w.setCells g 0 (ka c).toList) (some g) := ⟨rfl, rfl, rfl, by simp [ka, World.setCells, World.setCell], fun b _ hb => by
  have hne : b ≠ g := fun e => hb (by rw [e])
  exact ((Below.heap_setCell _ ⟨g, 2, none⟩ _ b hne).trans (Below.heap_setCell _ ⟨g, 1, none⟩ _ b hne)).trans (Below.heap_setCell w ⟨g, 0, none⟩ _ b hne)⟩
theorem OwnC.own {e : TypeId} {w w' : World} {base : Nat} {v : Value} {L : List C3} {g : Nat} (h : OwnC e w base v L) (hg : w.grownBy w' (some g)) (hne : ∀ k, v.ownBlock = some k → k ≠ g) : OwnC e w' base v L := by
  obtain ⟨hl, h⟩ := h
  refine ⟨hl, ?_⟩
  rcases h with h | ⟨b, cap, cur, rfl, hb, hh, hr⟩
  · exact .inl h
  · exact .inr ⟨b, cap, cur, rfl, hb, (hg.block b (Array.getElem?_eq_some_iff.1 hh).1 (fun e => hne b rfl (Option.some.inj e))).trans hh, hr⟩
/-- A space in memory: its field, its coordinates, their numbers. -/
def Spc (w : World) (S q : Nat) : Prop := ∃ u g cap M, Fs w S u q ∧ w.cell? ⟨S, 1, none⟩ = some (.slice (some ⟨g, 0, none⟩) (cN q) cap) ∧ w.cell? ⟨S, 2, none⟩ = some (.map (some M)) ∧ (cN q ≤ cap ∧ cap ≤ maxLen) ∧ Cs w g (cN q) (pt q) ∧ Mp w M (all q)
theorem Spc.to {w w' : World} {S q : Nat} (h : Spc w S q) (hb : Below w.heap.size w w') : Spc w' S q := by
  obtain ⟨u, g, cap, M, h1, h2, h3, h4, h5, h6⟩ := h
  exact ⟨u, g, cap, M, h1.to hb, cell_to h2 hb, cell_to h3 hb, h4, h5.to hb, h6.to hb⟩
theorem Fd.ptr {w : World} {u : Value} {q : Nat} (h : Fd w u q) : ∃ b, u = .pointer (some ⟨b, 0, none⟩) := by obtain ⟨B, _, _, h, _⟩ := h; exact ⟨B, h⟩
def nsPost (q : Nat) (w : World) (e : Ending) (w' : World) : Prop := ∃ S, e = .returned (.tuple #[.pointer (some ⟨S, 0, none⟩), .int .i64 0]) ∧ Spc w' S q ∧ Below w.heap.size w w'
theorem cF_succ (q n : Nat) : cF q (n + 1) = if ld (co q n) = 1 then cF q n ++ [co q n] else cF q n := by
  unfold cF
  rw [List.range_succ, List.filter_append, List.map_append]
  by_cases h : ld (co q n) = 1
  · rw [if_pos h]; simp [h]
  · rw [if_neg h]; simp [h]
theorem cF_facts : ∀ q ∈ szs, ∀ n, n < q * q * q → (ld (co q n) = 1 → co q n ∉ cF q n) ∧ (cF q n).length ≤ 57 := by decide +kernel
theorem cF_el {q : Nat} (hq : q ∈ szs) {n : Nat} (hn : n ≤ q * q * q) : ∀ c ∈ cF q n, El q c := by
  intro c hc
  unfold cF at hc
  obtain ⟨m, hm, rfl⟩ := List.mem_map.1 hc
  have := List.mem_range.1 (List.mem_filter.1 hm).1
  exact co_el hq (by omega)
theorem all_at {q : Nat} (hq : q ∈ szs) {i : Nat} (hi : i < cN q) : (all q).getD i (0, 0, 0) = pt q i := by
  rw [all_pt hq]; simp [List.getD, hi]

theorem ns_arg (q : Int) (w : World) (hK : Kd w) (hq : ∀ k, k < 7 → (kS k : Int) ≠ q) : Calls Tryd.prog 45 #[.int .i64 q] w (bel (.tuple #[.pointer none, .int .i64 1]) w) := by
  have NE := Lib.hid (fun p => lf_arg q p w hK hq)
  clear hq hK
  go_enter Tryd.func45, Tryd.ntmps45
  go_wp2_with fail
  refine (NE.out _).mono ?_
  rintro e w1 ⟨rfl, hb⟩
  have HB := Lib.hid hb
  clear hb
  go_wp2_with fail
  go_ret2
  exact ⟨rfl, HB.out⟩
theorem ns_limit (q : Nat) (w : World) (hK : Kd w) (hq : q ∈ Sf.sizes) (h8 : q ∉ szs) : Calls Tryd.prog 45 #[.int .i64 (q : Int)] w (bel (.tuple #[.pointer none, .int .i64 7]) w) := by
  have NE := Lib.hid (fun p (hp : (60 : Int) < p) => lf_limit q p w hK hq hp)
  obtain ⟨p, hp⟩ : ∃ p : Nat, q * q = p := ⟨_, rfl⟩
  have e8 := kS_big q hq h8
  have p60 : 60 < p ∧ p ≤ 81 ∧ q ≤ 9 := by rcases e8 with rfl | rfl <;> omega
  have ep : (q : Int) * (q : Int) = (p : Int) := by rw [← hp]; rfl
  have NE' := NE.out (((p + q + 1 : Nat)) : Int) (by omega)
  have NE2 := Lib.hid NE'
  have e1 : ((p + q + 1 : Nat) : Int) = (p : Int) + (q : Int) + 1 := by omega
  rw [e1] at NE2
  clear NE NE' hq hK h8 hp e8 e1
  go_enter Tryd.func45, Tryd.ntmps45
  go_wp2_with fail
  refine NE2.out.mono ?_
  rintro e w1 ⟨rfl, hb⟩
  have HB := Lib.hid hb
  clear hb
  go_wp2_with fail
  go_ret2
  exact ⟨rfl, HB.out⟩
set_option maxHeartbeats 4000000 in
set_option maxRecDepth 100000 in
theorem ns_ok (q : Nat) (w : World) (hK : Kd w) (hq : q ∈ szs) : Calls Tryd.prog 45 #[.int .i64 (q : Int)] w (nsPost q w) := by
  have so := szs_ok hq
  obtain ⟨p, hp⟩ : ∃ p : Nat, q * q = p := ⟨_, rfl⟩
  obtain ⟨r, hr⟩ : ∃ r : Nat, q * q * q = r := ⟨_, rfl⟩
  have ep : (q : Int) * (q : Int) = (p : Int) := by rw [← hp]; rfl
  have er : (p : Int) * (q : Int) = (r : Int) := by rw [← hr, ← hp]; rfl
  have r343 : r ≤ 343 := by omega
  have p60 : p + q + 1 ≤ 57 := by have := so.2.2.2.1; unfold cN at this; omega
  have NE := Lib.hid (lf_ok q ((p : Int) + (q : Int) + 1) w hK so.1 (by omega))
  have q2 := so.2.1
  have q7 := so.2.2.1
  have QS := Lib.hid hq
  have HR := Lib.hid hr
  clear so hK hq hp hr
  have hmm := @run_makeMap Tryd.prog
  go_enter Tryd.func45, Tryd.ntmps45
  go_wp2_with fail
  refine NE.out.mono ?_
  rintro e w1 ⟨u, rfl, hf, hb⟩
  have FD := Lib.hid hf
  have B1 := Lib.hid hb
  obtain ⟨bf, rfl⟩ := hf.ptr
  clear hf hb
  obtain ⟨B, hB⟩ : ∃ B, w1.heap.size = B := ⟨_, rfl⟩
  have HE := Lib.hid hB
  clear hB
  go_wp2_with fail
  rw [HE.out]
  go_loopw [7, 8, 32] (fun _ _ i wr => ∃ n : Nat, n ≤ r ∧ i = .int .i64 (n : Int) ∧ ∃ v, Hid (Below w1.heap.size w1 wr ∧ Row wr (B + 1) 80 #[.pointer (some ⟨bf, 0, none⟩), v, .map (some B)] ∧ OwnC 82 wr (B + 2) v (cF q n) ∧ Mp wr B (cF q n))) (fun _ _ i _ => r - (intOf i).toNat)
  case atStart =>
    refine ⟨0, by omega, rfl, .slice none 0 0, Lib.hid ⟨((Below.refl _ _).alloc (Nat.le_refl _) _).alloc (by simp) _, ?_, OwnC.nil_ _ _ _, ?_⟩⟩
    · have := row_new' (w1.alloc (.map #[] 0)) #[.pointer (some ⟨bf, 0, none⟩), .slice none 0 0, .map (some B)] 80
      rw [World.size_alloc, HE.out] at this
      exact this
    · have := Mp.made w1
      rw [HE.out] at this
      exact this.to ((Below.refl _ _).alloc (Nat.le_refl _) _)
  case round =>
    obtain ⟨n, hn, rfl, v, H⟩ := hrel
    by_cases hlt : n < r
    · have hkI : (n : Int) < (r : Int) := by omega
      have HB := Lib.hid H.out.1
      have HR1 := Lib.hid H.out.2.1
      have HL1 := Lib.hid H.out.2.2.1
      have HM1 := Lib.hid H.out.2.2.2
      have hnr : n < q * q * q := by rw [HR.out]; exact hlt
      obtain ⟨hnew, h57⟩ := cF_facts q QS.out n hnr
      have hsucc := cF_succ q n
      have hel := cF_el QS.out (Nat.le_of_lt hnr)
      have hce := co_el QS.out hnr
      obtain ⟨a, ha⟩ : ∃ a, n / q = a := ⟨_, rfl⟩
      obtain ⟨x, hx⟩ : ∃ x, a / q = x := ⟨_, rfl⟩
      obtain ⟨y, hy⟩ : ∃ y, a % q = y := ⟨_, rfl⟩
      obtain ⟨z, hz⟩ : ∃ z, n % q = z := ⟨_, rfl⟩
      have hco : co q n = (x, y, z) := by unfold co; rw [ha, hx, hy, hz]
      rw [hco] at hnew hsucc hce
      have an : a ≤ 343 := by rw [← ha]; have := Nat.div_le_self n q; omega
      have xn : x ≤ 343 := by rw [← hx]; have := Nat.div_le_self a q; omega
      have yn : y ≤ 343 := by rw [← hy]; have := Nat.mod_le a q; omega
      have zn : z ≤ 343 := by rw [← hz]; have := Nat.mod_le n q; omega
      have q0 : ¬ q = 0 := by omega
      have d1 : (n : Int).tdiv (q : Int) = (a : Int) := by rw [← ha]; exact (Int.ofNat_tdiv n q).symm
      have d2 : (a : Int).tdiv (q : Int) = (x : Int) := by rw [← hx]; exact (Int.ofNat_tdiv a q).symm
      have m1 : (a : Int).tmod (q : Int) = (y : Int) := by rw [← hy]; exact (Int.ofNat_tmod a q).symm
      have m2 : (n : Int).tmod (q : Int) = (z : Int) := by rw [← hz]; exact (Int.ofNat_tmod n q).symm
      have e1 : (n : Int) / (q : Int) = (a : Int) := by rw [← ha]; rfl
      have e2 : (a : Int) / (q : Int) = (x : Int) := by rw [← hx]; rfl
      have e3 : (a : Int) % (q : Int) = (y : Int) := by rw [← hy]; rfl
      have e4 : (n : Int) % (q : Int) = (z : Int) := by rw [← hz]; rfl
      have w1' : IntKind.i64.wrap (a : Int) = (a : Int) := by rw [IntKind.wrap_i64]; omega
      have w2' : IntKind.i64.wrap (x : Int) = (x : Int) := by rw [IntKind.wrap_i64]; omega
      have w3' : IntKind.i64.wrap (y : Int) = (y : Int) := by rw [IntKind.wrap_i64]; omega
      have w4' : IntKind.i64.wrap (z : Int) = (z : Int) := by rw [IntKind.wrap_i64]; omega
      obtain ⟨c, hc⟩ : ∃ c : C3, (x, y, z) = c := ⟨_, rfl⟩
      have KC : Hid ((#[.int .i64 (x : Int), .int .i64 (y : Int), .int .i64 (z : Int)] : Array Value) = ka c) := Lib.hid (by rw [← hc]; rfl)
      rw [hc] at hnew hsucc hce
      have NEW := Lib.hid hnew
      have SUC := Lib.hid hsucc
      have EL := Lib.hid hel
      have CE := Lib.hid hce
      have L57 := Lib.hid h57
      have LD := Lib.hid (leading_any c)
      clear hnew hsucc hel hce h57 hnr ha hx hy hz hco hc H
      obtain ⟨L, hL⟩ : ∃ L, cF q n = L := ⟨_, rfl⟩
      rw [hL] at NEW SUC EL L57 HL1 HM1
      clear hL
      obtain ⟨A, cp, rfl⟩ := HL1.out.form
      obtain ⟨m, hm⟩ : ∃ m, L.length = m := ⟨_, rfl⟩
      rw [hm] at HR1 HL1
      have m57 : m ≤ 57 := by rw [← hm]; exact L57.out
      have LM := Lib.hid hm
      clear hm L57
      obtain ⟨l, hl⟩ : ∃ l, ld c = l := ⟨_, rfl⟩
      rw [hl] at LD NEW SUC
      clear hl
      go_wp2_with fail
      refine wp_region_held (P := Tryd.prog) (S := (fun w' : World => True)) rfl ?_
      change wpAnyH _ _ _ _ _ _ _ _ wr.drew
      have hz2 : Below wr.heap.size wr wr.drew := (Below.refl wr.heap.size wr).drew
      generalize wr.drew = wz1 at hz2 ⊢
      have hq3 : Below wr.heap.size wr wz1 := hz2
      have R_4 := Lib.hid (Row.go HR1.out hq3)
      have L_5 := Lib.hid (OwnC.to HL1.out hq3)
      have M_6 := Lib.hid (Mp.to HM1.out hq3)
      have HB_7 : Hid (Below w1.heap.size w1 wz1) := Lib.hid (HB.out.trans (hq3.mono HB.out.size))
      clear hq3
      clear hz2
      have hS8 : (fun w' : World => True) wz1 := trivial
      refine takeD (i := 0) (v := .int .i64 (n : Int)) (some 35) rfl rfl (by kernel_rfl) (by kernel_rfl) (by kernel_rfl) (fun _ _ _ h => h) (Or.inl ⟨by rfl, by rintro w' -; go_simp⟩) hS8 ?_
      simp only [Act.put, List.setIfInBounds_toArray, List.set_cons_zero, List.set_cons_succ]
      refine takeD (i := 1) (v := .int .i64 (q : Int)) (some 36) rfl rfl (by kernel_rfl) (by kernel_rfl) (by kernel_rfl) (fun _ _ _ h => h) (Or.inl ⟨by rfl, by rintro w' -; go_simp⟩) hS8 ?_
      simp only [Act.put, List.setIfInBounds_toArray, List.set_cons_zero, List.set_cons_succ]
      refine takeD (i := 2) (v := .int .i64 (a : Int)) (some 37) rfl rfl (by kernel_rfl) (by kernel_rfl) (by kernel_rfl) (fun _ _ _ h => h) (Or.inl ⟨by rfl, by rintro w' -; go_simp⟩) hS8 ?_
      simp only [Act.put, List.setIfInBounds_toArray, List.set_cons_zero, List.set_cons_succ]
      refine takeD (i := 3) (v := .int .i64 (q : Int)) (some 38) rfl rfl (by kernel_rfl) (by kernel_rfl) (by kernel_rfl) (fun _ _ _ h => h) (Or.inl ⟨by rfl, by rintro w' -; go_simp⟩) hS8 ?_
      simp only [Act.put, List.setIfInBounds_toArray, List.set_cons_zero, List.set_cons_succ]
      refine takeD (i := 4) (v := .int .i64 (x : Int)) (some 39) rfl rfl (by kernel_rfl) (by kernel_rfl) (by kernel_rfl) (fun _ _ _ h => h) (Or.inl ⟨by rfl, by rintro w' -; go_simp⟩) hS8 ?_
      simp only [Act.put, List.setIfInBounds_toArray, List.set_cons_zero, List.set_cons_succ]
      refine takeD (i := 5) (v := .int .i64 (n : Int)) (some 40) rfl rfl (by kernel_rfl) (by kernel_rfl) (by kernel_rfl) (fun _ _ _ h => h) (Or.inl ⟨by rfl, by rintro w' -; go_simp⟩) hS8 ?_
      simp only [Act.put, List.setIfInBounds_toArray, List.set_cons_zero, List.set_cons_succ]
      refine takeD (i := 6) (v := .int .i64 (q : Int)) (some 41) rfl rfl (by kernel_rfl) (by kernel_rfl) (by kernel_rfl) (fun _ _ _ h => h) (Or.inl ⟨by rfl, by rintro w' -; go_simp⟩) hS8 ?_
      simp only [Act.put, List.setIfInBounds_toArray, List.set_cons_zero, List.set_cons_succ]
      refine takeD (i := 7) (v := .int .i64 (a : Int)) (some 42) rfl rfl (by kernel_rfl) (by kernel_rfl) (by kernel_rfl) (fun _ _ _ h => h) (Or.inl ⟨by rfl, by rintro w' -; go_simp⟩) hS8 ?_
      simp only [Act.put, List.setIfInBounds_toArray, List.set_cons_zero, List.set_cons_succ]
      refine takeD (i := 8) (v := .int .i64 (q : Int)) (some 43) rfl rfl (by kernel_rfl) (by kernel_rfl) (by kernel_rfl) (fun _ _ _ h => h) (Or.inl ⟨by rfl, by rintro w' -; go_simp⟩) hS8 ?_
      simp only [Act.put, List.setIfInBounds_toArray, List.set_cons_zero, List.set_cons_succ]
      refine takeD (i := 9) (v := .int .i64 (y : Int)) (some 44) rfl rfl (by kernel_rfl) (by kernel_rfl) (by kernel_rfl) (fun _ _ _ h => h) (Or.inl ⟨by rfl, by rintro w' -; go_simp⟩) hS8 ?_
      simp only [Act.put, List.setIfInBounds_toArray, List.set_cons_zero, List.set_cons_succ]
      refine takeD (i := 10) (v := .int .i64 (n : Int)) (some 45) rfl rfl (by kernel_rfl) (by kernel_rfl) (by kernel_rfl) (fun _ _ _ h => h) (Or.inl ⟨by rfl, by rintro w' -; go_simp⟩) hS8 ?_
      simp only [Act.put, List.setIfInBounds_toArray, List.set_cons_zero, List.set_cons_succ]
      refine takeD (i := 11) (v := .int .i64 (q : Int)) (some 46) rfl rfl (by kernel_rfl) (by kernel_rfl) (by kernel_rfl) (fun _ _ _ h => h) (Or.inl ⟨by rfl, by rintro w' -; go_simp⟩) hS8 ?_
      simp only [Act.put, List.setIfInBounds_toArray, List.set_cons_zero, List.set_cons_succ]
      refine takeD (i := 12) (v := .int .i64 (z : Int)) (some 47) rfl rfl (by kernel_rfl) (by kernel_rfl) (by kernel_rfl) (fun _ _ _ h => h) (Or.inl ⟨by rfl, by rintro w' -; go_simp⟩) hS8 ?_
      simp only [Act.put, List.setIfInBounds_toArray, List.set_cons_zero, List.set_cons_succ]
      refine takeD (i := 13) (v := .agg #[.int .i64 (x : Int), .int .i64 (y : Int), .int .i64 (z : Int)]) (some 48) rfl rfl (by kernel_rfl) (by kernel_rfl) (by kernel_rfl) (fun _ _ _ h => h) (Or.inl ⟨by rfl, by rintro w' -; go_simp⟩) hS8 ?_
      simp only [Act.put, List.setIfInBounds_toArray, List.set_cons_zero, List.set_cons_succ]
      refine wpAnyH_ready (rs := [14]) (by kernel_rfl) (by simp) ?_
      refine AllReadyH.cons rfl (fun K9 hK9 => ?_) AllReadyH.nil
      have HK9 := Lib.hid hK9
      clear hK9
      rw [if_pos (by rfl)]
      go_simp
      obtain ⟨nb, hnb⟩ : ∃ nb, wz1.heap.size = nb := ⟨_, rfl⟩
      obtain ⟨wa, hwa⟩ : ∃ wa, wz1.alloc (.cells #[.int .i64 0, .int .i64 0, .int .i64 0] 82) = wa := ⟨_, rfl⟩
      have R0 := row_new' wz1 #[.int .i64 0, .int .i64 0, .int .i64 0] 82
      have hqa : Below wz1.heap.size wz1 wa := by rw [← hwa]; exact (Below.refl _ _).alloc (Nat.le_refl _) _
      have NBA : Hid (∀ k, (Value.slice A m cp).ownBlock = some k → k ≠ nb) := Lib.hid fun k e h => by have := (L_5.out.lt k e).2; omega
      have NB : Hid (nb ≠ B ∧ nb ≠ B + 1 ∧ w1.heap.size ≤ nb) := Lib.hid (by have h1 := HB_7.out.size; have h2 := R_4.out.lt; have h3 := M_6.out.lt; omega)
      rw [hnb, hwa] at R0
      rw [hnb, hwa]
      have ZN := Lib.hid R0
      have hq10 : Below wz1.heap.size wz1 wa := hqa
      have R_11 := Lib.hid (Row.go R_4.out hq10)
      have L_12 := Lib.hid (OwnC.to L_5.out hq10)
      have M_13 := Lib.hid (Mp.to M_6.out hq10)
      have HB_14 : Hid (Below w1.heap.size w1 wa) := Lib.hid (HB_7.out.trans (hq10.mono HB_7.out.size))
      clear hq10
      clear R0 hqa hwa hnb
      have hS15 : (fun w' : World => True) wa := trivial
      refine HK9.out _ _ hS15 fun _ => ?_
      try simp only [Act.put, List.setIfInBounds_toArray, List.set_cons_zero, List.set_cons_succ]
      refine wpAnyH_ready (rs := [15]) (by kernel_rfl) (by simp) ?_
      refine AllReadyH.cons rfl (fun K16 hK16 => ?_) AllReadyH.nil
      have HK16 := Lib.hid hK16
      clear hK16
      rw [if_pos (by rfl)]
      rw [KC.out]
      refine wp_store_mid _ _ _ rfl nb 0 (ka c) rfl rfl (ZN.out.thr (n := 3) (by simp)) (si3 c) (ka_one _) ?_
      have hG := grown_set3 wa nb c
      have ZB := Lib.hid (below_set3 HB_14.out (g := nb) NB.out.2.2 c)
      have ZR := Lib.hid (R_11.out.gr hG (by simpa using Ne.symm NB.out.2.1))
      have ZL := Lib.hid (L_12.out.own hG (fun k e h => NBA.out k e h))
      have ZM := Lib.hid (M_13.out.block (hG.block B M_13.out.lt (by simpa using Ne.symm NB.out.1)))
      have RN := Lib.hid (ZN.out.put3 rfl c).at3
      obtain ⟨W7, hW7⟩ : ∃ W7, wa.setCells nb 0 (ka c).toList = W7 := ⟨_, rfl⟩
      rw [hW7] at ZB ZR ZL ZM RN ⊢
      clear hW7 hG
      have hS17 : (fun w' : World => True) W7 := trivial
      refine HK16.out _ _ hS17 fun _ => ?_
      refine wpAnyH_done (by kernel_rfl) ?_ _
      have RL : Hid (W7.rangeAt nb 0 (kl c)) := RN
      go_wp2_with (first | (refine wpList_load_mid rfl _ _ rfl nb 0 rfl (kl c) _ RL.out Tryd.underlying82 rfl (si3 c) ?_))
      clear RL
      by_cases l1 : l = 1
      · subst l1
        refine (LD.out _).mono ?_
        rintro e x18 ⟨rfl, hb⟩
        have hq19 : Below W7.heap.size W7 x18 := hb
        have R_20 := Lib.hid (Row.go ZR.out hq19)
        have L_21 := Lib.hid (OwnC.to ZL.out hq19)
        have M_22 := Lib.hid (Mp.to ZM.out hq19)
        have A_23 := Lib.hid (At3.to RN.out hq19)
        have HB_24 : Hid (Below w1.heap.size w1 x18) := Lib.hid (ZB.out.trans (hq19.mono ZB.out.size))
        clear hq19
        clear hb
        go_wp2_with fail
        refine wp_region_held (P := Tryd.prog) (S := (fun w' : World => w'.cell? ⟨B + 1, 1, none⟩ = some (.slice A m cp) ∧ w'.cell? ⟨B + 1, 2, none⟩ = some (.map (some B)) ∧ At3 w' nb 0 c)) rfl ?_
        change wpAnyH _ _ _ _ _ _ _ _ x18.drew
        have hz26 : Below x18.heap.size x18 x18.drew := (Below.refl x18.heap.size x18).drew
        generalize x18.drew = wz25 at hz26 ⊢
        have hq27 : Below x18.heap.size x18 wz25 := hz26
        have R_28 := Lib.hid (Row.go R_20.out hq27)
        have L_29 := Lib.hid (OwnC.to L_21.out hq27)
        have M_30 := Lib.hid (Mp.to M_22.out hq27)
        have A_31 := Lib.hid (At3.to A_23.out hq27)
        have HB_32 : Hid (Below w1.heap.size w1 wz25) := Lib.hid (HB_24.out.trans (hq27.mono HB_24.out.size))
        clear hq27
        clear hz26
        have hS33 : (fun w' : World => w'.cell? ⟨B + 1, 1, none⟩ = some (.slice A m cp) ∧ w'.cell? ⟨B + 1, 2, none⟩ = some (.map (some B)) ∧ At3 w' nb 0 c) wz25 := ⟨(show _ = some _ from R_28.out.cell 1), (show _ = some _ from R_28.out.cell 2), A_31.out⟩
        refine takeD (i := 0) (v := .pointer (some ⟨B + 1, 0, none⟩)) (some 52) rfl rfl (by kernel_rfl) (by kernel_rfl) (by kernel_rfl) (fun _ _ _ h => h) (Or.inl ⟨by rfl, by rintro w' -; go_simp⟩) hS33 ?_
        simp only [Act.put, List.setIfInBounds_toArray, List.set_cons_zero, List.set_cons_succ]
        refine takeD (i := 1) (v := .pointer (some ⟨B + 1, 0, none⟩)) (some 53) rfl rfl (by kernel_rfl) (by kernel_rfl) (by kernel_rfl) (fun _ _ _ h => h) (Or.inl ⟨by rfl, by rintro w' -; go_simp⟩) hS33 ?_
        simp only [Act.put, List.setIfInBounds_toArray, List.set_cons_zero, List.set_cons_succ]
        refine takeD (i := 2) (v := .pointer (some ⟨B + 1, 2, none⟩)) (some 54) rfl rfl (by kernel_rfl) (by kernel_rfl) (by kernel_rfl) (fun _ _ _ h => h) (Or.inl ⟨by rfl, by rintro w' -; go_simp⟩) hS33 ?_
        simp only [Act.put, List.setIfInBounds_toArray, List.set_cons_zero, List.set_cons_succ]
        refine takeD (i := 3) (v := .map (some B)) (some 55) rfl rfl (by kernel_rfl) (by kernel_rfl) (by kernel_rfl) (fun _ _ _ h => h) (Or.inl ⟨by rfl, by rintro w' h; have hc := h.2.1; go_simp⟩) hS33 ?_
        simp only [Act.put, List.setIfInBounds_toArray, List.set_cons_zero, List.set_cons_succ]
        refine takeD (i := 4) (v := .agg (ka c)) (some 56) rfl rfl (by kernel_rfl) (by kernel_rfl) (by kernel_rfl) (fun _ _ _ h => h) (yieldsIf_load_mid (by rfl) _ _ rfl _ _ rfl (kl c) _ (fun w' h => h.2.2) Tryd.underlying82 rfl (si3 c)) hS33 ?_
        simp only [Act.put, List.setIfInBounds_toArray, List.set_cons_zero, List.set_cons_succ]
        refine takeD (i := 5) (v := .pointer (some ⟨B + 1, 0, none⟩)) (some 57) rfl rfl (by kernel_rfl) (by kernel_rfl) (by kernel_rfl) (fun _ _ _ h => h) (Or.inl ⟨by rfl, by rintro w' -; go_simp⟩) hS33 ?_
        simp only [Act.put, List.setIfInBounds_toArray, List.set_cons_zero, List.set_cons_succ]
        refine takeD (i := 6) (v := .pointer (some ⟨B + 1, 0, none⟩)) (some 58) rfl rfl (by kernel_rfl) (by kernel_rfl) (by kernel_rfl) (fun _ _ _ h => h) (Or.inl ⟨by rfl, by rintro w' -; go_simp⟩) hS33 ?_
        simp only [Act.put, List.setIfInBounds_toArray, List.set_cons_zero, List.set_cons_succ]
        refine takeD (i := 7) (v := .pointer (some ⟨B + 1, 1, none⟩)) (some 59) rfl rfl (by kernel_rfl) (by kernel_rfl) (by kernel_rfl) (fun _ _ _ h => h) (Or.inl ⟨by rfl, by rintro w' -; go_simp⟩) hS33 ?_
        simp only [Act.put, List.setIfInBounds_toArray, List.set_cons_zero, List.set_cons_succ]
        refine takeD (i := 8) (v := .slice A m cp) (some 60) rfl rfl (by kernel_rfl) (by kernel_rfl) (by kernel_rfl) (fun _ _ _ h => h) (Or.inl ⟨by rfl, by rintro w' h; have hc := h.1; go_simp⟩) hS33 ?_
        simp only [Act.put, List.setIfInBounds_toArray, List.set_cons_zero, List.set_cons_succ]
        refine takeD (i := 9) (v := .int .i64 (m : Int)) (some 61) rfl rfl (by kernel_rfl) (by kernel_rfl) (by kernel_rfl) (fun _ _ _ h => h) (Or.inl ⟨by rfl, by rintro w' -; go_simp⟩) hS33 ?_
        simp only [Act.put, List.setIfInBounds_toArray, List.set_cons_zero, List.set_cons_succ]
        refine wpAnyH_ready (rs := [10]) (by kernel_rfl) (by simp) ?_
        refine AllReadyH.cons rfl (fun K34 hK34 => ?_) AllReadyH.nil
        have HK34 := Lib.hid hK34
        clear hK34
        rw [if_pos (by rfl)]
        refine wp_mapPut _ _ _ rfl B q m L c M_30.out (by omega) EL.out CE.out (NEW.out trivial) (by rw [LM.out]; omega) LM.out rfl rfl rfl ?_
        intro W9 hM hG
        have ZB := Lib.hid (HB_32.out.grown hG HB_32.out.size (fun k e => by cases e; exact Nat.le_of_eq HE.out))
        have ZR := Lib.hid (R_28.out.gr hG (by simp))
        have ZL := Lib.hid (L_29.out.off (fun b hb hlt => hG.block b hlt (by simpa using hb)) (by omega))
        have ZA := Lib.hid (A_31.out.gr hG (by simpa using NB.out.1))
        have ZM := Lib.hid hM
        clear hM hG
        have hS35 : (fun w' : World => w'.cell? ⟨B + 1, 1, none⟩ = some (.slice A m cp) ∧ w'.cell? ⟨B + 1, 2, none⟩ = some (.map (some B)) ∧ At3 w' nb 0 c) W9 := ⟨(show _ = some _ from ZR.out.cell 1), (show _ = some _ from ZR.out.cell 2), ZA.out⟩
        refine HK34.out _ _ hS35 fun _ => ?_
        refine wpAnyH_done (by kernel_rfl) ?_ _
        go_wp2_with fail
        have AP : Hid (∀ k, (Value.slice A m cp).ownBlock = some k → k ≠ nb) := NBA
        refine wp_region_held (P := Tryd.prog) (S := (fun w' : World => At3 w' nb 0 c)) rfl ?_
        change wpAnyH _ _ _ _ _ _ _ _ W9.drew
        have hz37 : Below W9.heap.size W9 W9.drew := (Below.refl W9.heap.size W9).drew
        generalize W9.drew = wz36 at hz37 ⊢
        have hq38 : Below W9.heap.size W9 wz36 := hz37
        have R_39 := Lib.hid (Row.go ZR.out hq38)
        have L_40 := Lib.hid (OwnC.to ZL.out hq38)
        have M_41 := Lib.hid (Mp.to ZM.out hq38)
        have A_42 := Lib.hid (At3.to ZA.out hq38)
        have HB_43 : Hid (Below w1.heap.size w1 wz36) := Lib.hid (ZB.out.trans (hq38.mono ZB.out.size))
        clear hq38
        clear hz37
        have hS44 : (fun w' : World => At3 w' nb 0 c) wz36 := A_42.out
        refine takeD (i := 0) (v := .pointer (some ⟨B + 1, 0, none⟩)) (some 62) rfl rfl (by kernel_rfl) (by kernel_rfl) (by kernel_rfl) (fun _ _ _ h => h) (Or.inl ⟨by rfl, by rintro w' -; go_simp⟩) hS44 ?_
        simp only [Act.put, List.setIfInBounds_toArray, List.set_cons_zero, List.set_cons_succ]
        refine takeD (i := 1) (v := .pointer (some ⟨B + 1, 0, none⟩)) (some 63) rfl rfl (by kernel_rfl) (by kernel_rfl) (by kernel_rfl) (fun _ _ _ h => h) (Or.inl ⟨by rfl, by rintro w' -; go_simp⟩) hS44 ?_
        simp only [Act.put, List.setIfInBounds_toArray, List.set_cons_zero, List.set_cons_succ]
        refine takeD (i := 2) (v := .pointer (some ⟨B + 1, 0, none⟩)) (some 64) rfl rfl (by kernel_rfl) (by kernel_rfl) (by kernel_rfl) (fun _ _ _ h => h) (Or.inl ⟨by rfl, by rintro w' -; go_simp⟩) hS44 ?_
        simp only [Act.put, List.setIfInBounds_toArray, List.set_cons_zero, List.set_cons_succ]
        refine takeD (i := 3) (v := .pointer (some ⟨B + 1, 1, none⟩)) (some 65) rfl rfl (by kernel_rfl) (by kernel_rfl) (by kernel_rfl) (fun _ _ _ h => h) (Or.inl ⟨by rfl, by rintro w' -; go_simp⟩) hS44 ?_
        simp only [Act.put, List.setIfInBounds_toArray, List.set_cons_zero, List.set_cons_succ]
        refine takeD (i := 5) (v := .agg (ka c)) (some 67) rfl rfl (by kernel_rfl) (by kernel_rfl) (by kernel_rfl) (fun _ _ _ h => h) (yieldsIf_load_mid (by rfl) _ _ rfl _ _ rfl (kl c) _ (fun w' h => h) Tryd.underlying82 rfl (si3 c)) hS44 ?_
        simp only [Act.put, List.setIfInBounds_toArray, List.set_cons_zero, List.set_cons_succ]
        refine wpAnyH_ready (rs := [4, 6]) (by kernel_rfl) (by simp) ?_
        refine AllReadyH.cons rfl (fun K hK => ?_) (AllReadyH.cons rfl (fun K hK => ?_) AllReadyH.nil)
        · have HK45 := Lib.hid hK
          clear hK
          rw [if_pos (by rfl)]
          have cc := (show _ = some _ from R_39.out.cell 1)
          go_simp
          clear cc
          skip
          refine HK45.out _ _ hS44 fun _ => ?_
          try simp only [Act.put, List.setIfInBounds_toArray, List.set_cons_zero, List.set_cons_succ]
          refine wpAnyH_ready (rs := [6]) (by kernel_rfl) (by simp) ?_
          refine AllReadyH.cons rfl (fun K46 hK46 => ?_) AllReadyH.nil
          have HK46 := Lib.hid hK46
          clear hK46
          rw [if_pos (by rfl)]
          refine wp_build_c _ rfl c rfl ?_
          obtain ⟨x47, hxb⟩ : ∃ q, wz36.alloc (.cells (ka c) 82) = q := ⟨_, rfl⟩
          have hbx : Below wz36.heap.size wz36 x47 := by rw [← hxb]; exact (Below.refl _ _).alloc (Nat.le_refl _) _
          have LIT : Hid (At3 x47 wz36.heap.size 0 c) := Lib.hid (by rw [← hxb]; exact (row_new' _ _ _).at3)
          obtain ⟨lb, hlb⟩ : ∃ q, wz36.heap.size = q := ⟨_, rfl⟩
          rw [hlb] at LIT
          rw [hxb, hlb]
          have hq48 : Below wz36.heap.size wz36 x47 := hbx
          have R_49 := Lib.hid (Row.go R_39.out hq48)
          have L_50 := Lib.hid (OwnC.to L_40.out hq48)
          have M_51 := Lib.hid (Mp.to M_41.out hq48)
          have A_52 := Lib.hid (At3.to A_42.out hq48)
          have HB_53 : Hid (Below w1.heap.size w1 x47) := Lib.hid (HB_43.out.trans (hq48.mono HB_43.out.size))
          clear hq48
          clear hbx hxb hlb
          have hS54 : (fun w' : World => At3 w' nb 0 c) x47 := A_52.out
          refine HK46.out _ _ hS54 fun _ => ?_
          try simp only [Act.put, List.setIfInBounds_toArray, List.set_cons_zero, List.set_cons_succ]
          refine wpAnyH_ready (rs := [7]) (by kernel_rfl) (by simp) ?_
          refine AllReadyH.cons rfl (fun K55 hK55 => ?_) AllReadyH.nil
          have HK55 := Lib.hid hK55
          clear hK55
          rw [if_pos (by rfl)]
          refine wp_push_c (.tmp 66) (.tmp 68) rfl (B + 2) (.slice A m cp) L m c lb 1 rfl L_50.out LM.out rfl LIT.out (by omega) (by have := R_49.out.lt; omega) ?_
          intro gs cs x56 ho hg hat hlt2
          have ZB2 : Hid (Below w1.heap.size w1 x56) := Lib.hid (HB_53.out.grown hg HB_53.out.size (fun k e => by have h1 := (L_50.out.lt k e).1; have h2 := HE.out; omega))
          have ZR2 := Lib.hid (R_49.out.gr hg (fun e => by have := (L_50.out.lt _ e.symm).1; omega))
          have ZM2 := Lib.hid (M_51.out.block (hg.block B M_51.out.lt (fun e => by have := (L_50.out.lt _ e.symm).1; omega)))
          have ZL2 := Lib.hid ho
          have ZG2 := Lib.hid (ho.lt gs rfl).1
          have ZA2 := Lib.hid (A_52.out.gr hg (fun e => by
            have := (L_50.out.lt _ e.symm).1
            have := AP.out nb e.symm
            exact this rfl))
          clear ho hg hat hlt2
          have hS57 : (fun w' : World => At3 w' nb 0 c) x56 := ZA2.out
          refine HK55.out _ _ hS57 fun _ => ?_
          try simp only [Act.put, List.setIfInBounds_toArray, List.set_cons_zero, List.set_cons_succ]
          refine takeD (i := 8) (v := .pointer (some ⟨B + 1, 0, none⟩)) (some 70) rfl rfl (by kernel_rfl) (by kernel_rfl) (by kernel_rfl) (fun _ _ _ h => h) (Or.inl ⟨by rfl, by rintro w' -; go_simp⟩) hS57 ?_
          simp only [Act.put, List.setIfInBounds_toArray, List.set_cons_zero, List.set_cons_succ]
          refine takeD (i := 9) (v := .pointer (some ⟨B + 1, 1, none⟩)) (some 71) rfl rfl (by kernel_rfl) (by kernel_rfl) (by kernel_rfl) (fun _ _ _ h => h) (Or.inl ⟨by rfl, by rintro w' -; go_simp⟩) hS57 ?_
          simp only [Act.put, List.setIfInBounds_toArray, List.set_cons_zero, List.set_cons_succ]
          refine wpAnyH_ready (rs := [10]) (by kernel_rfl) (by simp) ?_
          refine AllReadyH.cons rfl (fun K58 hK58 => ?_) AllReadyH.nil
          have HK58 := Lib.hid hK58
          clear hK58
          rw [if_pos (by rfl)]
          have cc := (show _ = some _ from ZR2.out.cell 1)
          have ff := ZR2.out.frozen 1
          go_simp
          clear cc ff
          have ZB3 := Lib.hid (ZB2.out.setCell (p := ⟨B + 1, 1, none⟩) (by have := HE.out; show _ ≤ B + 1; omega) (.slice (some ⟨gs, 0, none⟩) (m + 1) cs))
          have ZR3 := Lib.hid (ZR2.out.store 1 (.slice (some ⟨gs, 0, none⟩) (m + 1) cs))
          have ZL3 := Lib.hid (ZL2.out.off (k := B + 1) (fun b hb hlt => Below.heap_setCell x56 ⟨B + 1, 1, none⟩ (.slice (some ⟨gs, 0, none⟩) (m + 1) cs) b hb) (by omega))
          have ZM3 := Lib.hid (ZM2.out.block (Below.heap_setCell x56 ⟨B + 1, 1, none⟩ (.slice (some ⟨gs, 0, none⟩) (m + 1) cs) B (by show B ≠ B + 1; omega)))
          have ZA3 := Lib.hid (At3.gr (row := some (B + 1)) ZA2.out (grown_set x56 (B + 1) 1 (.slice (some ⟨gs, 0, none⟩) (m + 1) cs)) (by simpa using NB.out.2.1))
          have hS59 : (fun w' : World => At3 w' nb 0 c) (x56.setCell ⟨B + 1, 1, none⟩ (.slice (some ⟨gs, 0, none⟩) (m + 1) cs)) := ZA3.out
          refine HK58.out _ _ hS59 fun _ => ?_
          refine wpAnyH_done (by kernel_rfl) ?_ _
          go_wp2_with fail
          go_roundw
          case rel => exact ⟨n + 1, by omega, by go_num, _, Lib.hid ⟨ZB3.out, ZR3.out, by rw [SUC.out, if_pos trivial]; exact ZL3.out, by rw [SUC.out, if_pos trivial]; exact ZM3.out⟩⟩
          case measure => simp [intOf]; omega
        · have HK45 := Lib.hid hK
          clear hK
          rw [if_pos (by rfl)]
          refine wp_build_c _ rfl c rfl ?_
          obtain ⟨x46, hxb⟩ : ∃ q, wz36.alloc (.cells (ka c) 82) = q := ⟨_, rfl⟩
          have hbx : Below wz36.heap.size wz36 x46 := by rw [← hxb]; exact (Below.refl _ _).alloc (Nat.le_refl _) _
          have LIT : Hid (At3 x46 wz36.heap.size 0 c) := Lib.hid (by rw [← hxb]; exact (row_new' _ _ _).at3)
          obtain ⟨lb, hlb⟩ : ∃ q, wz36.heap.size = q := ⟨_, rfl⟩
          rw [hlb] at LIT
          rw [hxb, hlb]
          have hq47 : Below wz36.heap.size wz36 x46 := hbx
          have R_48 := Lib.hid (Row.go R_39.out hq47)
          have L_49 := Lib.hid (OwnC.to L_40.out hq47)
          have M_50 := Lib.hid (Mp.to M_41.out hq47)
          have A_51 := Lib.hid (At3.to A_42.out hq47)
          have HB_52 : Hid (Below w1.heap.size w1 x46) := Lib.hid (HB_43.out.trans (hq47.mono HB_43.out.size))
          clear hq47
          clear hbx hxb hlb
          have hS53 : (fun w' : World => At3 w' nb 0 c) x46 := A_51.out
          refine HK45.out _ _ hS53 fun _ => ?_
          try simp only [Act.put, List.setIfInBounds_toArray, List.set_cons_zero, List.set_cons_succ]
          refine wpAnyH_ready (rs := [4]) (by kernel_rfl) (by simp) ?_
          refine AllReadyH.cons rfl (fun K54 hK54 => ?_) AllReadyH.nil
          have HK54 := Lib.hid hK54
          clear hK54
          rw [if_pos (by rfl)]
          have cc := (show _ = some _ from R_48.out.cell 1)
          go_simp
          clear cc
          skip
          refine HK54.out _ _ hS53 fun _ => ?_
          try simp only [Act.put, List.setIfInBounds_toArray, List.set_cons_zero, List.set_cons_succ]
          refine wpAnyH_ready (rs := [7]) (by kernel_rfl) (by simp) ?_
          refine AllReadyH.cons rfl (fun K55 hK55 => ?_) AllReadyH.nil
          have HK55 := Lib.hid hK55
          clear hK55
          rw [if_pos (by rfl)]
          refine wp_push_c (.tmp 66) (.tmp 68) rfl (B + 2) (.slice A m cp) L m c lb 1 rfl L_49.out LM.out rfl LIT.out (by omega) (by have := R_48.out.lt; omega) ?_
          intro gs cs x56 ho hg hat hlt2
          have ZB2 : Hid (Below w1.heap.size w1 x56) := Lib.hid (HB_52.out.grown hg HB_52.out.size (fun k e => by have h1 := (L_49.out.lt k e).1; have h2 := HE.out; omega))
          have ZR2 := Lib.hid (R_48.out.gr hg (fun e => by have := (L_49.out.lt _ e.symm).1; omega))
          have ZM2 := Lib.hid (M_50.out.block (hg.block B M_50.out.lt (fun e => by have := (L_49.out.lt _ e.symm).1; omega)))
          have ZL2 := Lib.hid ho
          have ZG2 := Lib.hid (ho.lt gs rfl).1
          have ZA2 := Lib.hid (A_51.out.gr hg (fun e => by
            have := (L_49.out.lt _ e.symm).1
            have := AP.out nb e.symm
            exact this rfl))
          clear ho hg hat hlt2
          have hS57 : (fun w' : World => At3 w' nb 0 c) x56 := ZA2.out
          refine HK55.out _ _ hS57 fun _ => ?_
          try simp only [Act.put, List.setIfInBounds_toArray, List.set_cons_zero, List.set_cons_succ]
          refine takeD (i := 8) (v := .pointer (some ⟨B + 1, 0, none⟩)) (some 70) rfl rfl (by kernel_rfl) (by kernel_rfl) (by kernel_rfl) (fun _ _ _ h => h) (Or.inl ⟨by rfl, by rintro w' -; go_simp⟩) hS57 ?_
          simp only [Act.put, List.setIfInBounds_toArray, List.set_cons_zero, List.set_cons_succ]
          refine takeD (i := 9) (v := .pointer (some ⟨B + 1, 1, none⟩)) (some 71) rfl rfl (by kernel_rfl) (by kernel_rfl) (by kernel_rfl) (fun _ _ _ h => h) (Or.inl ⟨by rfl, by rintro w' -; go_simp⟩) hS57 ?_
          simp only [Act.put, List.setIfInBounds_toArray, List.set_cons_zero, List.set_cons_succ]
          refine wpAnyH_ready (rs := [10]) (by kernel_rfl) (by simp) ?_
          refine AllReadyH.cons rfl (fun K58 hK58 => ?_) AllReadyH.nil
          have HK58 := Lib.hid hK58
          clear hK58
          rw [if_pos (by rfl)]
          have cc := (show _ = some _ from ZR2.out.cell 1)
          have ff := ZR2.out.frozen 1
          go_simp
          clear cc ff
          have ZB3 := Lib.hid (ZB2.out.setCell (p := ⟨B + 1, 1, none⟩) (by have := HE.out; show _ ≤ B + 1; omega) (.slice (some ⟨gs, 0, none⟩) (m + 1) cs))
          have ZR3 := Lib.hid (ZR2.out.store 1 (.slice (some ⟨gs, 0, none⟩) (m + 1) cs))
          have ZL3 := Lib.hid (ZL2.out.off (k := B + 1) (fun b hb hlt => Below.heap_setCell x56 ⟨B + 1, 1, none⟩ (.slice (some ⟨gs, 0, none⟩) (m + 1) cs) b hb) (by omega))
          have ZM3 := Lib.hid (ZM2.out.block (Below.heap_setCell x56 ⟨B + 1, 1, none⟩ (.slice (some ⟨gs, 0, none⟩) (m + 1) cs) B (by show B ≠ B + 1; omega)))
          have ZA3 := Lib.hid (At3.gr (row := some (B + 1)) ZA2.out (grown_set x56 (B + 1) 1 (.slice (some ⟨gs, 0, none⟩) (m + 1) cs)) (by simpa using NB.out.2.1))
          have hS59 : (fun w' : World => At3 w' nb 0 c) (x56.setCell ⟨B + 1, 1, none⟩ (.slice (some ⟨gs, 0, none⟩) (m + 1) cs)) := ZA3.out
          refine HK58.out _ _ hS59 fun _ => ?_
          refine wpAnyH_done (by kernel_rfl) ?_ _
          go_wp2_with fail
          go_roundw
          case rel => exact ⟨n + 1, by omega, by go_num, _, Lib.hid ⟨ZB3.out, ZR3.out, by rw [SUC.out, if_pos trivial]; exact ZL3.out, by rw [SUC.out, if_pos trivial]; exact ZM3.out⟩⟩
          case measure => simp [intOf]; omega
      · have l1I : ¬ ((l : Int) = 1) := by omega
        refine (LD.out _).mono ?_
        rintro e x18 ⟨rfl, hb⟩
        have hq19 : Below W7.heap.size W7 x18 := hb
        have R_20 := Lib.hid (Row.go ZR.out hq19)
        have L_21 := Lib.hid (OwnC.to ZL.out hq19)
        have M_22 := Lib.hid (Mp.to ZM.out hq19)
        have A_23 := Lib.hid (At3.to RN.out hq19)
        have HB_24 : Hid (Below w1.heap.size w1 x18) := Lib.hid (ZB.out.trans (hq19.mono ZB.out.size))
        clear hq19
        clear hb
        go_wp2_with fail
        go_roundw
        case rel => exact ⟨n + 1, by omega, by go_num, _, Lib.hid ⟨HB_24.out, R_20.out, by rw [SUC.out, if_neg l1]; exact L_21.out, by rw [SUC.out, if_neg l1]; exact M_22.out⟩⟩
        case measure => simp [intOf]; omega
    · obtain rfl : n = r := by omega
      have SP : Hid (Spc wr (B + 1) q ∧ Below w.heap.size w wr) := Lib.hid (by
        obtain ⟨hb, hr, hl, hm⟩ := H.out
        rw [← HR.out] at hl hm
        have hlen : (all q).length = cN q := by rw [all_pt QS.out]; simp
        have hl : OwnC 82 wr (B + 2) v (all q) := hl
        obtain ⟨g, cap, rfl, -, hc, hcs⟩ := hl.cs (by rw [hlen]; unfold cN; omega)
        rw [hlen] at hcs hc hr
        refine ⟨⟨_, g, cap, B, ⟨hr.cell 0, FD.out.to hb⟩, hr.cell 1, hr.cell 2, hc, fun i hi => ?_, hm⟩, B1.out.trans (hb.mono B1.out.size)⟩
        have := hcs i hi
        have e := all_at QS.out hi
        simp only [e] at this
        exact this)
      clear H
      go_wp2_with fail
      go_ret2
      exact ⟨B + 1, rfl, SP.out⟩

end Go.Proofs.YtnnacofjogfkeaaDoor
