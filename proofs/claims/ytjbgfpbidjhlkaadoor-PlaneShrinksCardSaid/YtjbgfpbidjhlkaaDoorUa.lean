/- Planes in memory: coordinates (three numbers), lists of them; contracts: leading, minor. -/
import Derived.Test.YtjbgfpbidjhlkaaDoorUm
import Derived.Test.YtjbgfpbidjhlkaaDoorSz
import Derived.Deep.MidRow
import Derived.Deep.RegionHeld3
namespace Go.Proofs.YtjbgfpbidjhlkaaDoor
open Go Go.RowKit Pl
set_option linter.unusedVariables false

/-- The cells of coordinates. -/
def kl (c : C3) : List Value := [.int .i64 (c.1 : Int), .int .i64 (c.2.1 : Int), .int .i64 (c.2.2 : Int)]
def ka (c : C3) : Array Value := #[.int .i64 (c.1 : Int), .int .i64 (c.2.1 : Int), .int .i64 (c.2.2 : Int)]
theorem ka_list (c : C3) : (ka c).toList = kl c := rfl
theorem kl_arr (c : C3) : (kl c).toArray = ka c := rfl
def At3 (w : World) (b o : Nat) (c : C3) : Prop := w.rangeAt b o (kl c)
theorem At3.below {w w' : World} {b o : Nat} {c : C3} (h : At3 w b o c) {B : Nat} (hb : Below B w w') (hB : b < B) : At3 w' b o c := fun j v hv => (hb.cell (p := ⟨b, o + j, none⟩) hB).trans (h j v hv)
theorem At3.lt {w : World} {b o : Nat} {c : C3} (h : At3 w b o c) : b < w.heap.size := World.block_lt_of_cell? w _ (h 0 _ rfl)
theorem At3.to {w w' : World} {b o : Nat} {c : C3} (h : At3 w b o c) (hb : Below w.heap.size w w') : At3 w' b o c := h.below hb h.lt
theorem At3.c0 {w : World} {b o : Nat} {c : C3} (h : At3 w b o c) : w.cell? ⟨b, o, none⟩ = some (.int .i64 (c.1 : Int)) := h 0 _ rfl
theorem At3.c1 {w : World} {b o : Nat} {c : C3} (h : At3 w b o c) : w.cell? ⟨b, o + 1, none⟩ = some (.int .i64 (c.2.1 : Int)) := h 1 _ rfl
theorem At3.c2 {w : World} {b o : Nat} {c : C3} (h : At3 w b o c) : w.cell? ⟨b, o + 2, none⟩ = some (.int .i64 (c.2.2 : Int)) := h 2 _ rfl
theorem Row.at3 {w : World} {g : Nat} {t : TypeId} {c : C3} (h : Row w g t (ka c)) : At3 w g 0 c := fun j v hv => by
  rw [Nat.zero_add, h.cell, ← hv]; simp [ka, kl]
theorem si3 (c : C3) : (Tryd.prog.info? 53).map (·.size) = some (kl c).length := by kernel_rfl
theorem sj3 (c : C3) : (Tryd.prog.info? 52).map (·.size) = some (kl c).length := by kernel_rfl
theorem row_new' (w : World) (cs : Array Value) (t : TypeId) : Row (w.alloc (.cells cs t)) w.heap.size t cs := heap_alloc_new w _
/-- A call that answers and keeps what stood. -/
def bel (v : Value) (w : World) (e : Ending) (w' : World) : Prop := e = .returned v ∧ Below w.heap.size w w'

/-- The k-th of them. -/
def g3 (c : C3) (k : Nat) : Nat := if k = 0 then c.1 else if k = 1 then c.2.1 else c.2.2
theorem g3_at (c : C3) (k : Nat) (hk : k < 3) (w : World) : (Instr.index 53 (.agg (kl c).toArray) (.int .i64 (k : Int))).run Tryd.prog w = .ok (.int .i64 (g3 c k : Nat)) w := by
  rcases (show k = 0 ∨ k = 1 ∨ k = 2 by omega) with rfl | rfl | rfl <;> rfl
theorem ld_skip {c : C3} {k : Nat} (hk : k < 3) (h : ∀ j, j < k → g3 c j = 0) (hne : g3 c k ≠ 0) : ld c = g3 c k := by
  have h0 := h 0
  have h1 := h 1
  rcases (show k = 0 ∨ k = 1 ∨ k = 2 by omega) with rfl | rfl | rfl <;> simp [g3, ld] at * <;> simp_all
theorem ld_zero {c : C3} (h : ∀ j, j < 3 → g3 c j = 0) : ld c = 0 := by
  have h0 := h 0
  have h1 := h 1
  have h2 := h 2
  simp [g3, ld] at *; simp_all

set_option maxHeartbeats 2000000 in
theorem leading_any (c : C3) (w : World) : Calls Tryd.prog 36 #[.agg (ka c)] w (bel (.int .i64 (ld c : Nat)) w) := by
  have R1 : Hid ((w.alloc (.cells (ka c) 53)).rangeAt w.heap.size 0 (kl c)) := Lib.hid (row_new' w (ka c) 53).at3
  have HB := Lib.hid ((Below.refl w.heap.size w).alloc (Nat.le_refl _) (.cells (ka c) 53))
  have KI := Lib.hid (g3_at c)
  have LS := Lib.hid (fun k => @ld_skip c k)
  have LZ := Lib.hid (@ld_zero c)
  have SI := Lib.hid (si3 c)
  obtain ⟨r, hr⟩ : ∃ r, ld c = r := ⟨_, rfl⟩
  obtain ⟨f, hf⟩ : ∃ f, g3 c = f := ⟨_, rfl⟩
  obtain ⟨C, hC⟩ : ∃ C, kl c = C := ⟨_, rfl⟩
  obtain ⟨D, hD⟩ : ∃ D, ka c = D := ⟨_, rfl⟩
  rw [hr, hf] at LS LZ
  rw [hf, hC] at KI
  rw [hC] at R1 SI
  rw [hD] at R1 HB
  rw [hr, hD]
  clear hr hf hC hD
  go_enter Tryd.func36, Tryd.ntmps36
  go_wp2_with (refine wpList_load_mid rfl _ _ rfl w.heap.size 0 rfl C _ R1.out Tryd.underlying53 rfl SI.out ?_)
  obtain ⟨w1, hw1⟩ : ∃ w1, w.alloc (.cells D 53) = w1 := ⟨_, rfl⟩
  rw [hw1] at HB ⊢
  clear R1 hw1
  go_loopw [6] (fun q wr => wr = w1 ∧ ∃ k : Nat, k ≤ 3 ∧ q = .int .i64 (k : Int) ∧ Hid (∀ j, j < k → f j = 0)) (fun q _ => 3 - (intOf q).toNat)
  case atStart => exact ⟨rfl, 0, by omega, rfl, Lib.hid fun j hj => absurd hj (Nat.not_lt_zero j)⟩
  case round =>
    obtain ⟨rfl, k, hk, rfl, H⟩ := hrel
    by_cases hlt : k < 3
    · have hkI : (k : Int) < 3 := by omega
      have hidx := KI.out k hlt
      by_cases e : f k = 0
      · have H2 := Lib.hid (fun j (hj : j < k + 1) => if h : j < k then H.out j h else (show j = k by omega) ▸ e)
        rw [e] at hidx
        clear e H LS LZ
        go_wp2
        go_roundw
        case rel => exact ⟨trivial, k + 1, by omega, by go_num, H2⟩
        case measure => simp [intOf]; omega
      · have E := LS.out k hlt H.out e
        have eI : ¬ ((f k : Int) = 0) := by omega
        rw [E]
        clear e H E LS LZ
        go_wp2
        go_ret
        exact ⟨rfl, HB.out⟩
    · obtain rfl : k = 3 := by omega
      obtain rfl := LZ.out H.out
      clear H LS LZ
      go_wp2
      go_ret
      exact ⟨rfl, HB.out⟩

/-- Where a space lies, and its field. -/
def Fs (w : World) (S : Nat) (u : Value) (q : Nat) : Prop := w.cell? ⟨S, 0, none⟩ = some u ∧ Fd w u q
theorem Fs.to {w w' : World} {S : Nat} {u : Value} {q : Nat} (h : Fs w S u q) (hb : Below w.heap.size w w') : Fs w' S u q :=
  ⟨(hb.cell (World.block_lt_of_cell? w _ h.1)).trans h.1, h.2.to hb⟩
/-- A call that only reads (its regions may draw). -/
def qui (v : Value) (w : World) (e : Ending) (w' : World) : Prop := e = .returned v ∧ ∃ n, w' = w.drewN n

set_option maxHeartbeats 4000000 in
theorem minor_any (q a b c d S : Nat) (u : Value) (w : World) (hq : q ∈ szs) (h : Fs w S u q) (ha : a < q) (hb : b < q) (hc : c < q) (hd : d < q) :
    Calls Tryd.prog 50 #[.pointer (some ⟨S, 0, none⟩), .int .i64 (a : Int), .int .i64 (b : Int), .int .i64 (c : Int), .int .i64 (d : Int)] w (qui (.int .i64 (minor q a b c d : Nat)) w) := by
  have QS := (szs_ok hq).1
  have m0 := Sf.mul_lt QS ha hd
  have m1 := Sf.mul_lt QS hb hc
  have n1 := (Sf.neg_ok QS m1).1
  have CU := h.1
  have MM := Lib.hid (fun n x y (hx : x < q) (hy : y < q) => mul_ok q x y u (w.drewN n) QS (h.2.to (below_drewN (Below.refl w.heap.size w) n)) hx hy)
  have MA := Lib.hid (fun n x y (hx : x < q) (hy : y < q) => add_ok q x y u (w.drewN n) QS (h.2.to (below_drewN (Below.refl w.heap.size w) n)) hx hy)
  have MN := Lib.hid (fun n x (hx : x < q) => neg_el q x u (w.drewN n) QS (h.2.to (below_drewN (Below.refl w.heap.size w) n)) hx)
  clear QS hq h
  unfold minor
  go_enter Tryd.func50, Tryd.ntmps50
  go_wp2_with fail
  go_quiet (first
    | (go_at_call 33; refine Calls.quiet_of_same ((MM.out _ _ _ (by assumption) (by assumption)).mono fun _ _ h => ⟨h.1, h.2⟩))
    | (go_at_call 56; refine Calls.quiet_of_same ((MN.out _ _ (by assumption)).mono fun _ _ h => ⟨h.1, h.2⟩))
    | (go_at_call 32; refine Calls.quiet_of_same ((MA.out _ _ _ (by assumption) (by assumption)).mono fun _ _ h => ⟨h.1, h.2⟩)))
  go_wp2_with fail
  go_ret
  exact ⟨rfl, _, rfl⟩
end Go.Proofs.YtjbgfpbidjhlkaaDoor
