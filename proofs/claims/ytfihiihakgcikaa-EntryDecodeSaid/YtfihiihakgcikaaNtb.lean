/- Layer 15: valid entries: the program's and the reference's. -/
import Derived.Test.YtfihiihakgcikaaNta
namespace Go.Proofs.Ytfihiihakgcikaa
open Go Go.RowKit Ent
set_option linter.unusedVariables false
set_option linter.unusedSimpArgs false
/-- An entry lies in a block of its own. -/
def Eb (w : World) (b : Nat) (e : E) : Prop := Row w b 26 (ecs e).toArray
theorem Eb.rng {w : World} {b : Nat} {e : E} (h : Eb w b e) : w.rangeAt b 0 (ecs e) := fun j v hv => by rw [Nat.zero_add, h.cell]; simpa using hv
theorem Eb.c0 {w : World} {b : Nat} {e : E} (h : Eb w b e) : w.cell? ⟨b, 0, none⟩ = some (.int .i64 e.kind) := h.cell 0
theorem Eb.c1 {w : World} {b : Nat} {e : E} (h : Eb w b e) : w.cell? ⟨b, 1, none⟩ = some (.int .i64 e.block) := h.cell 1
theorem Eb.c2 {w : World} {b : Nat} {e : E} (h : Eb w b e) : w.cell? ⟨b, 2, none⟩ = some (.int .u64 (e.ver : Int)) := h.cell 2
theorem Eb.data {w : World} {b : Nat} {e : E} (h : Eb w b e) : w.rangeAt b 3 (e.data.map bv) := fun j v hv => by
  have := h.rng (3 + j) v (by rw [Nat.add_comm]; exact hv)
  rwa [Nat.zero_add] at this
theorem Eb.below {w w' : World} {b : Nat} {e : E} (h : Eb w b e) (hb : Below w.heap.size w w') : Eb w' b e := Row.below h hb (Row.lt h)
theorem eb_new (w : World) (e : E) {b : Nat} (h : w.heap.size = b) : Eb (w.alloc (.cells (ecs e).toArray 26)) b e := h ▸ heap_alloc_new w _
theorem Eb.load8 {P : Program} {w : World} {b : Nat} {e : E} (h : Eb w b e) (hf : Fit e) : (loadCellsFrom ⟨b, 3, none⟩ 0 8 #[]).run P w = .ok (dcs e.data) w := by
  have := run_loadCells_list (P := P) w ⟨b, 3, none⟩ (e.data.map bv) (fun j v hv => by rw [Addr.add_mid]; exact h.data j v hv)
  rw [List.length_map, hf.2.1] at this
  exact this
/-- A truth value, and below the new memory all as it was. -/
def tvPost (b : Bool) (w : World) (e : Ending) (w' : World) : Prop := e = .returned (.bool b) ∧ Below w.heap.size w w'
theorem nat8 {l : List Nat} (h : l.length = 8) : ∃ x0 x1 x2 x3 x4 x5 x6 x7, l = [x0, x1, x2, x3, x4, x5, x6, x7] := by
  match l, h with
  | [x0, x1, x2, x3, x4, x5, x6, x7], _ => exact ⟨x0, x1, x2, x3, x4, x5, x6, x7, rfl⟩
theorem d8_zero : D8 (List.replicate 8 0) := ⟨by decide, by decide⟩

set_option maxHeartbeats 1000000 in
set_option maxRecDepth 100000 in
theorem pvalid_0 (e : E) (w : World) (hf : Fit e) (h : e.block < 0) : Calls Try.prog 16 #[ev e] w (tvPost false w) := by
  obtain ⟨k, b, v, d⟩ := e
  simp only at *
  obtain ⟨C, hC⟩ : ∃ C, (ecs ⟨k, b, v, d⟩).toArray = C := ⟨_, rfl⟩
  obtain ⟨B0, hB0⟩ : ∃ B, w.heap.size = B := ⟨_, rfl⟩
  obtain ⟨W, hW⟩ : ∃ W, w.alloc (.cells C 26) = W := ⟨_, rfl⟩
  have R : Eb W B0 ⟨k, b, v, d⟩ := by rw [← hW, ← hC]; exact eb_new w _ hB0
  have c0 := R.c0
  have c1 := R.c1
  have c2 := R.c2
  have BW : Hid (Below w.heap.size w W) := Lib.hid (by rw [← hW]; exact (Below.refl _ _).alloc (Nat.le_refl _) _)
  simp only at c0 c1 c2
  have d0 : decide (b < (0 : Int)) = true := decide_eq_true h
  have HB1 := Lib.hid hB0
  have HW1 := Lib.hid hW
  unfold ev
  rw [hC]
  clear hf hC hB0 hW R h
  go_enter Try.func16, Try.ntmps16
  go_wp2_with (first | rw [HB1.out] | rw [HW1.out])
  go_ret
  exact ⟨rfl, BW.out⟩
set_option maxHeartbeats 1000000 in
set_option maxRecDepth 100000 in
theorem pvalid_1 (e : E) (w : World) (hf : Fit e) (h0 : ¬ e.block < 0) (h : 65536 ≤ e.block) : Calls Try.prog 16 #[ev e] w (tvPost false w) := by
  obtain ⟨k, b, v, d⟩ := e
  simp only at *
  obtain ⟨C, hC⟩ : ∃ C, (ecs ⟨k, b, v, d⟩).toArray = C := ⟨_, rfl⟩
  obtain ⟨B0, hB0⟩ : ∃ B, w.heap.size = B := ⟨_, rfl⟩
  obtain ⟨W, hW⟩ : ∃ W, w.alloc (.cells C 26) = W := ⟨_, rfl⟩
  have R : Eb W B0 ⟨k, b, v, d⟩ := by rw [← hW, ← hC]; exact eb_new w _ hB0
  have c0 := R.c0
  have c1 := R.c1
  have c2 := R.c2
  have BW : Hid (Below w.heap.size w W) := Lib.hid (by rw [← hW]; exact (Below.refl _ _).alloc (Nat.le_refl _) _)
  simp only at c0 c1 c2
  have d0 : decide (b < (0 : Int)) = false := decide_eq_false h0
  have d1 : decide ((65536 : Int) ≤ b) = true := decide_eq_true h
  have HB1 := Lib.hid hB0
  have HW1 := Lib.hid hW
  unfold ev
  rw [hC]
  clear hf hC hB0 hW R h0 h
  go_enter Try.func16, Try.ntmps16
  go_wp2_with (first | rw [HB1.out] | rw [HW1.out])
  go_ret
  exact ⟨rfl, BW.out⟩
set_option maxHeartbeats 1000000 in
set_option maxRecDepth 100000 in
theorem pvalid_2 (e : E) (w : World) (hf : Fit e) (h0 : ¬ e.block < 0) (h1 : ¬ 65536 ≤ e.block) (h : e.ver = 0) : Calls Try.prog 16 #[ev e] w (tvPost false w) := by
  obtain ⟨k, b, v, d⟩ := e
  simp only at *
  obtain ⟨C, hC⟩ : ∃ C, (ecs ⟨k, b, v, d⟩).toArray = C := ⟨_, rfl⟩
  obtain ⟨B0, hB0⟩ : ∃ B, w.heap.size = B := ⟨_, rfl⟩
  obtain ⟨W, hW⟩ : ∃ W, w.alloc (.cells C 26) = W := ⟨_, rfl⟩
  have R : Eb W B0 ⟨k, b, v, d⟩ := by rw [← hW, ← hC]; exact eb_new w _ hB0
  have c0 := R.c0
  have c1 := R.c1
  have c2 := R.c2
  have BW : Hid (Below w.heap.size w W) := Lib.hid (by rw [← hW]; exact (Below.refl _ _).alloc (Nat.le_refl _) _)
  simp only at c0 c1 c2
  have d0 : decide (b < (0 : Int)) = false := decide_eq_false h0
  have d1 : decide ((65536 : Int) ≤ b) = false := decide_eq_false h1
  have d2 : ((v : Int) == 0) = true := by simp [h]
  have d2l : decide ((v : Int) < 1) = true := by simp; omega
  have HB1 := Lib.hid hB0
  have HW1 := Lib.hid hW
  unfold ev
  rw [hC]
  clear hf hC hB0 hW R h0 h1 h
  go_enter Try.func16, Try.ntmps16
  go_wp2_with (first | rw [HB1.out] | rw [HW1.out])
  go_ret
  exact ⟨rfl, BW.out⟩
set_option maxHeartbeats 1000000 in
set_option maxRecDepth 100000 in
theorem pvalid_3 (e : E) (w : World) (hf : Fit e) (h0 : ¬ e.block < 0) (h1 : ¬ 65536 ≤ e.block) (h2 : ¬ e.ver = 0) (h : e.kind = 1) : Calls Try.prog 16 #[ev e] w (tvPost true w) := by
  obtain ⟨k, b, v, d⟩ := e
  simp only at *
  obtain ⟨C, hC⟩ : ∃ C, (ecs ⟨k, b, v, d⟩).toArray = C := ⟨_, rfl⟩
  obtain ⟨B0, hB0⟩ : ∃ B, w.heap.size = B := ⟨_, rfl⟩
  obtain ⟨W, hW⟩ : ∃ W, w.alloc (.cells C 26) = W := ⟨_, rfl⟩
  have R : Eb W B0 ⟨k, b, v, d⟩ := by rw [← hW, ← hC]; exact eb_new w _ hB0
  have c0 := R.c0
  have c1 := R.c1
  have c2 := R.c2
  have BW : Hid (Below w.heap.size w W) := Lib.hid (by rw [← hW]; exact (Below.refl _ _).alloc (Nat.le_refl _) _)
  simp only at c0 c1 c2
  have d0 : decide (b < (0 : Int)) = false := decide_eq_false h0
  have d1 : decide ((65536 : Int) ≤ b) = false := decide_eq_false h1
  have d2 : ((v : Int) == 0) = false := by simp; omega
  have d2l : decide ((v : Int) < 1) = false := by simp; omega
  have d3 : (k == (1 : Int)) = true := by simp [h]
  have d3n : (k != (1 : Int)) = false := by simp [h]
  have HB1 := Lib.hid hB0
  have HW1 := Lib.hid hW
  unfold ev
  rw [hC]
  clear hf hC hB0 hW R h0 h1 h2 h
  go_enter Try.func16, Try.ntmps16
  go_wp2_with (first | rw [HB1.out] | rw [HW1.out])
  go_ret
  exact ⟨rfl, BW.out⟩
set_option maxHeartbeats 1000000 in
set_option maxRecDepth 100000 in
theorem pvalid_4 (e : E) (w : World) (hf : Fit e) (h0 : ¬ e.block < 0) (h1 : ¬ 65536 ≤ e.block) (h2 : ¬ e.ver = 0) (h3 : ¬ e.kind = 1) (h : ¬ e.kind = 2) : Calls Try.prog 16 #[ev e] w (tvPost false w) := by
  obtain ⟨k, b, v, d⟩ := e
  simp only at *
  obtain ⟨C, hC⟩ : ∃ C, (ecs ⟨k, b, v, d⟩).toArray = C := ⟨_, rfl⟩
  obtain ⟨B0, hB0⟩ : ∃ B, w.heap.size = B := ⟨_, rfl⟩
  obtain ⟨W, hW⟩ : ∃ W, w.alloc (.cells C 26) = W := ⟨_, rfl⟩
  have R : Eb W B0 ⟨k, b, v, d⟩ := by rw [← hW, ← hC]; exact eb_new w _ hB0
  have c0 := R.c0
  have c1 := R.c1
  have c2 := R.c2
  have BW : Hid (Below w.heap.size w W) := Lib.hid (by rw [← hW]; exact (Below.refl _ _).alloc (Nat.le_refl _) _)
  simp only at c0 c1 c2
  have d0 : decide (b < (0 : Int)) = false := decide_eq_false h0
  have d1 : decide ((65536 : Int) ≤ b) = false := decide_eq_false h1
  have d2 : ((v : Int) == 0) = false := by simp; omega
  have d3 : (k == (1 : Int)) = false := by simp [h3]
  have d4 : (k == (2 : Int)) = false := by simp [h]
  have HB1 := Lib.hid hB0
  have HW1 := Lib.hid hW
  unfold ev
  rw [hC]
  clear hf hC hB0 hW R h0 h1 h2 h3 h
  go_enter Try.func16, Try.ntmps16
  go_wp2_with (first | rw [HB1.out] | rw [HW1.out])
  go_ret
  exact ⟨rfl, BW.out⟩
set_option maxHeartbeats 1000000 in
set_option maxRecDepth 100000 in
theorem pvalid_5 (e : E) (w : World) (hf : Fit e) (h0 : ¬ e.block < 0) (h1 : ¬ 65536 ≤ e.block) (h2 : ¬ e.ver = 0) (h3 : ¬ e.kind = 1) (h : e.kind = 2) : Calls Try.prog 16 #[ev e] w (tvPost (decide (e.data = List.replicate 8 0)) w) := by
  obtain ⟨k, b, v, d⟩ := e
  simp only at *
  obtain ⟨C, hC⟩ : ∃ C, (ecs ⟨k, b, v, d⟩).toArray = C := ⟨_, rfl⟩
  obtain ⟨B0, hB0⟩ : ∃ B, w.heap.size = B := ⟨_, rfl⟩
  obtain ⟨W, hW⟩ : ∃ W, w.alloc (.cells C 26) = W := ⟨_, rfl⟩
  have R : Eb W B0 ⟨k, b, v, d⟩ := by rw [← hW, ← hC]; exact eb_new w _ hB0
  have c0 := R.c0
  have c1 := R.c1
  have c2 := R.c2
  have BW : Hid (Below w.heap.size w W) := Lib.hid (by rw [← hW]; exact (Below.refl _ _).alloc (Nat.le_refl _) _)
  simp only at c0 c1 c2
  obtain ⟨x0, x1, x2, x3, x4, x5, x6, x7, rfl⟩ := nat8 hf.2.1
  have EQ := deql8 [x0, x1, x2, x3, x4, x5, x6, x7] (List.replicate 8 0) hf.2 d8_zero
  obtain ⟨T, hT⟩ : ∃ T, decide ([x0, x1, x2, x3, x4, x5, x6, x7] = List.replicate 8 0) = T := ⟨_, rfl⟩
  rw [hT] at EQ ⊢
  have EQ' : ∀ w, (binOp .eql 24 (.agg #[.int .u8 (x0 : Int), .int .u8 (x1 : Int), .int .u8 (x2 : Int), .int .u8 (x3 : Int), .int .u8 (x4 : Int), .int .u8 (x5 : Int), .int .u8 (x6 : Int), .int .u8 (x7 : Int)]) (.agg #[.int .u8 0, .int .u8 0, .int .u8 0, .int .u8 0, .int .u8 0, .int .u8 0, .int .u8 0, .int .u8 0])).run Try.prog w = .ok (.bool T) w := EQ
  have GU := eguardB
  have y0 : W.cell? ⟨B0, 3, none⟩ = some (.int .u8 (x0 : Int)) := R.data 0 _ rfl
  have y1 : W.cell? ⟨B0, 4, none⟩ = some (.int .u8 (x1 : Int)) := R.data 1 _ rfl
  have y2 : W.cell? ⟨B0, 5, none⟩ = some (.int .u8 (x2 : Int)) := R.data 2 _ rfl
  have y3 : W.cell? ⟨B0, 6, none⟩ = some (.int .u8 (x3 : Int)) := R.data 3 _ rfl
  have y4 : W.cell? ⟨B0, 7, none⟩ = some (.int .u8 (x4 : Int)) := R.data 4 _ rfl
  have y5 : W.cell? ⟨B0, 8, none⟩ = some (.int .u8 (x5 : Int)) := R.data 5 _ rfl
  have y6 : W.cell? ⟨B0, 9, none⟩ = some (.int .u8 (x6 : Int)) := R.data 6 _ rfl
  have y7 : W.cell? ⟨B0, 10, none⟩ = some (.int .u8 (x7 : Int)) := R.data 7 _ rfl
  clear EQ hT
  have d0 : decide (b < (0 : Int)) = false := decide_eq_false h0
  have d1 : decide ((65536 : Int) ≤ b) = false := decide_eq_false h1
  have d2 : ((v : Int) == 0) = false := by simp; omega
  have d3 : (k == (1 : Int)) = false := by simp [h3]
  have d4 : (k == (2 : Int)) = true := by simp [h]
  have HB1 := Lib.hid hB0
  have HW1 := Lib.hid hW
  unfold ev
  rw [hC]
  clear hf hC hB0 hW R h0 h1 h2 h3 h
  go_enter Try.func16, Try.ntmps16
  go_wp2_with (first | rw [HB1.out] | rw [HW1.out])
  go_ret
  exact ⟨rfl, BW.out⟩
theorem pvalid_any (e : E) (w : World) (hf : Fit e) : Calls Try.prog 16 #[ev e] w (tvPost (decide (ok e)) w) := by
  have key : ∀ b : Bool, (b = true ↔ ok e) → Calls Try.prog 16 #[ev e] w (tvPost b w) → Calls Try.prog 16 #[ev e] w (tvPost (decide (ok e)) w) := fun b hb h => by
    have : decide (ok e) = b := by
      cases b with
      | true => exact decide_eq_true (hb.1 rfl)
      | false => exact decide_eq_false fun h => by cases hb.2 h
    rw [this]; exact h
  by_cases h0 : e.block < 0
  · exact key _ ⟨fun h => (by cases h), fun h => by have := h.2.1; omega⟩ (pvalid_0 e w hf h0)
  by_cases h1 : 65536 ≤ e.block
  · exact key _ ⟨fun h => (by cases h), fun h => by have := h.2.2.1; omega⟩ (pvalid_1 e w hf h0 h1)
  by_cases h2 : e.ver = 0
  · exact key _ ⟨fun h => (by cases h), fun h => by have := h.2.2.2.1; omega⟩ (pvalid_2 e w hf h0 h1 h2)
  by_cases h3 : e.kind = 1
  · exact key _ ⟨fun _ => ⟨Or.inl h3, by omega, by omega, by omega, Or.inl h3⟩, fun _ => rfl⟩ (pvalid_3 e w hf h0 h1 h2 h3)
  by_cases h4 : e.kind = 2
  · exact key _ ⟨fun h => ⟨Or.inr h4, by omega, by omega, by omega, Or.inr (of_decide_eq_true h)⟩, fun h => decide_eq_true (h.2.2.2.2.resolve_left h3)⟩ (pvalid_5 e w hf h0 h1 h2 h3 h4)
  · exact key _ ⟨fun h => (by cases h), fun h => by have := h.1; omega⟩ (pvalid_4 e w hf h0 h1 h2 h3 h4)
set_option maxHeartbeats 1000000 in
set_option maxRecDepth 100000 in
theorem r1valid_0 (e : E) (w : World) (hf : Fit e) (hk : e.kind = 1) (h : e.block < 0) : Calls Try.prog 15 #[ev e] w (tvPost false w) := by
  obtain ⟨k, b, v, d⟩ := e
  simp only at *
  obtain ⟨C, hC⟩ : ∃ C, (ecs ⟨k, b, v, d⟩).toArray = C := ⟨_, rfl⟩
  obtain ⟨B0, hB0⟩ : ∃ B, w.heap.size = B := ⟨_, rfl⟩
  obtain ⟨W, hW⟩ : ∃ W, w.alloc (.cells C 26) = W := ⟨_, rfl⟩
  have R : Eb W B0 ⟨k, b, v, d⟩ := by rw [← hW, ← hC]; exact eb_new w _ hB0
  have c0 := R.c0
  have c1 := R.c1
  have c2 := R.c2
  have BW : Hid (Below w.heap.size w W) := Lib.hid (by rw [← hW]; exact (Below.refl _ _).alloc (Nat.le_refl _) _)
  simp only at c0 c1 c2
  have e1 : (k != (1 : Int)) = false := by simp [hk]
  have e2 : (k == (1 : Int)) = true := by simp [hk]
  have d0 : decide (b < (0 : Int)) = true := decide_eq_true h
  have HB1 := Lib.hid hB0
  have HW1 := Lib.hid hW
  unfold ev
  rw [hC]
  clear hf hC hB0 hW R hk h
  go_enter Try.func15, Try.ntmps15
  go_wp2_with (first | rw [HB1.out] | rw [HW1.out])
  go_ret
  exact ⟨rfl, BW.out⟩
set_option maxHeartbeats 1000000 in
set_option maxRecDepth 100000 in
theorem r1valid_1 (e : E) (w : World) (hf : Fit e) (hk : e.kind = 1) (h0 : ¬ e.block < 0) (h : 65536 ≤ e.block) : Calls Try.prog 15 #[ev e] w (tvPost false w) := by
  obtain ⟨k, b, v, d⟩ := e
  simp only at *
  obtain ⟨C, hC⟩ : ∃ C, (ecs ⟨k, b, v, d⟩).toArray = C := ⟨_, rfl⟩
  obtain ⟨B0, hB0⟩ : ∃ B, w.heap.size = B := ⟨_, rfl⟩
  obtain ⟨W, hW⟩ : ∃ W, w.alloc (.cells C 26) = W := ⟨_, rfl⟩
  have R : Eb W B0 ⟨k, b, v, d⟩ := by rw [← hW, ← hC]; exact eb_new w _ hB0
  have c0 := R.c0
  have c1 := R.c1
  have c2 := R.c2
  have BW : Hid (Below w.heap.size w W) := Lib.hid (by rw [← hW]; exact (Below.refl _ _).alloc (Nat.le_refl _) _)
  simp only at c0 c1 c2
  have e1 : (k != (1 : Int)) = false := by simp [hk]
  have e2 : (k == (1 : Int)) = true := by simp [hk]
  have d0 : decide (b < (0 : Int)) = false := decide_eq_false h0
  have d1 : decide ((65536 : Int) ≤ b) = true := decide_eq_true h
  have HB1 := Lib.hid hB0
  have HW1 := Lib.hid hW
  unfold ev
  rw [hC]
  clear hf hC hB0 hW R hk h0 h
  go_enter Try.func15, Try.ntmps15
  go_wp2_with (first | rw [HB1.out] | rw [HW1.out])
  go_ret
  exact ⟨rfl, BW.out⟩
set_option maxHeartbeats 1000000 in
set_option maxRecDepth 100000 in
theorem r1valid_2 (e : E) (w : World) (hf : Fit e) (hk : e.kind = 1) (h0 : ¬ e.block < 0) (h1 : ¬ 65536 ≤ e.block) (h : e.ver = 0) : Calls Try.prog 15 #[ev e] w (tvPost false w) := by
  obtain ⟨k, b, v, d⟩ := e
  simp only at *
  obtain ⟨C, hC⟩ : ∃ C, (ecs ⟨k, b, v, d⟩).toArray = C := ⟨_, rfl⟩
  obtain ⟨B0, hB0⟩ : ∃ B, w.heap.size = B := ⟨_, rfl⟩
  obtain ⟨W, hW⟩ : ∃ W, w.alloc (.cells C 26) = W := ⟨_, rfl⟩
  have R : Eb W B0 ⟨k, b, v, d⟩ := by rw [← hW, ← hC]; exact eb_new w _ hB0
  have c0 := R.c0
  have c1 := R.c1
  have c2 := R.c2
  have BW : Hid (Below w.heap.size w W) := Lib.hid (by rw [← hW]; exact (Below.refl _ _).alloc (Nat.le_refl _) _)
  simp only at c0 c1 c2
  have e1 : (k != (1 : Int)) = false := by simp [hk]
  have e2 : (k == (1 : Int)) = true := by simp [hk]
  have d0 : decide (b < (0 : Int)) = false := decide_eq_false h0
  have d1 : decide ((65536 : Int) ≤ b) = false := decide_eq_false h1
  have d2l : decide ((v : Int) < 1) = true := by simp; omega
  have HB1 := Lib.hid hB0
  have HW1 := Lib.hid hW
  unfold ev
  rw [hC]
  clear hf hC hB0 hW R hk h0 h1 h
  go_enter Try.func15, Try.ntmps15
  go_wp2_with (first | rw [HB1.out] | rw [HW1.out])
  go_ret
  exact ⟨rfl, BW.out⟩
set_option maxHeartbeats 1000000 in
set_option maxRecDepth 100000 in
theorem r1valid_3 (e : E) (w : World) (hf : Fit e) (hk : e.kind = 1) (h0 : ¬ e.block < 0) (h1 : ¬ 65536 ≤ e.block) (h2 : ¬ e.ver = 0) : Calls Try.prog 15 #[ev e] w (tvPost true w) := by
  obtain ⟨k, b, v, d⟩ := e
  simp only at *
  obtain ⟨C, hC⟩ : ∃ C, (ecs ⟨k, b, v, d⟩).toArray = C := ⟨_, rfl⟩
  obtain ⟨B0, hB0⟩ : ∃ B, w.heap.size = B := ⟨_, rfl⟩
  obtain ⟨W, hW⟩ : ∃ W, w.alloc (.cells C 26) = W := ⟨_, rfl⟩
  have R : Eb W B0 ⟨k, b, v, d⟩ := by rw [← hW, ← hC]; exact eb_new w _ hB0
  have c0 := R.c0
  have c1 := R.c1
  have c2 := R.c2
  have BW : Hid (Below w.heap.size w W) := Lib.hid (by rw [← hW]; exact (Below.refl _ _).alloc (Nat.le_refl _) _)
  simp only at c0 c1 c2
  have e1 : (k != (1 : Int)) = false := by simp [hk]
  have e2 : (k == (1 : Int)) = true := by simp [hk]
  have d0 : decide (b < (0 : Int)) = false := decide_eq_false h0
  have d1 : decide ((65536 : Int) ≤ b) = false := decide_eq_false h1
  have d2l : decide ((v : Int) < 1) = false := by simp; omega
  have HB1 := Lib.hid hB0
  have HW1 := Lib.hid hW
  unfold ev
  rw [hC]
  clear hf hC hB0 hW R hk h0 h1 h2
  go_enter Try.func15, Try.ntmps15
  go_wp2_with (first | rw [HB1.out] | rw [HW1.out])
  go_ret
  exact ⟨rfl, BW.out⟩
set_option maxHeartbeats 1000000 in
set_option maxRecDepth 100000 in
theorem r2valid_0 (e : E) (w : World) (hf : Fit e) (hk : e.kind = 2) (h : e.block < 0) : Calls Try.prog 15 #[ev e] w (tvPost false w) := by
  obtain ⟨k, b, v, d⟩ := e
  simp only at *
  obtain ⟨C, hC⟩ : ∃ C, (ecs ⟨k, b, v, d⟩).toArray = C := ⟨_, rfl⟩
  obtain ⟨B0, hB0⟩ : ∃ B, w.heap.size = B := ⟨_, rfl⟩
  obtain ⟨W, hW⟩ : ∃ W, w.alloc (.cells C 26) = W := ⟨_, rfl⟩
  have R : Eb W B0 ⟨k, b, v, d⟩ := by rw [← hW, ← hC]; exact eb_new w _ hB0
  have c0 := R.c0
  have c1 := R.c1
  have c2 := R.c2
  have BW : Hid (Below w.heap.size w W) := Lib.hid (by rw [← hW]; exact (Below.refl _ _).alloc (Nat.le_refl _) _)
  simp only at c0 c1 c2
  have e1 : (k != (1 : Int)) = true := by simp [hk]
  have e3 : (k != (2 : Int)) = false := by simp [hk]
  have e2 : (k == (1 : Int)) = false := by simp [hk]
  have d0 : decide (b < (0 : Int)) = true := decide_eq_true h
  have HB1 := Lib.hid hB0
  have HW1 := Lib.hid hW
  unfold ev
  rw [hC]
  clear hf hC hB0 hW R hk h
  go_enter Try.func15, Try.ntmps15
  go_wp2_with (first | rw [HB1.out] | rw [HW1.out])
  go_ret
  exact ⟨rfl, BW.out⟩
set_option maxHeartbeats 1000000 in
set_option maxRecDepth 100000 in
theorem r2valid_1 (e : E) (w : World) (hf : Fit e) (hk : e.kind = 2) (h0 : ¬ e.block < 0) (h : 65536 ≤ e.block) : Calls Try.prog 15 #[ev e] w (tvPost false w) := by
  obtain ⟨k, b, v, d⟩ := e
  simp only at *
  obtain ⟨C, hC⟩ : ∃ C, (ecs ⟨k, b, v, d⟩).toArray = C := ⟨_, rfl⟩
  obtain ⟨B0, hB0⟩ : ∃ B, w.heap.size = B := ⟨_, rfl⟩
  obtain ⟨W, hW⟩ : ∃ W, w.alloc (.cells C 26) = W := ⟨_, rfl⟩
  have R : Eb W B0 ⟨k, b, v, d⟩ := by rw [← hW, ← hC]; exact eb_new w _ hB0
  have c0 := R.c0
  have c1 := R.c1
  have c2 := R.c2
  have BW : Hid (Below w.heap.size w W) := Lib.hid (by rw [← hW]; exact (Below.refl _ _).alloc (Nat.le_refl _) _)
  simp only at c0 c1 c2
  have e1 : (k != (1 : Int)) = true := by simp [hk]
  have e3 : (k != (2 : Int)) = false := by simp [hk]
  have e2 : (k == (1 : Int)) = false := by simp [hk]
  have d0 : decide (b < (0 : Int)) = false := decide_eq_false h0
  have d1 : decide ((65536 : Int) ≤ b) = true := decide_eq_true h
  have HB1 := Lib.hid hB0
  have HW1 := Lib.hid hW
  unfold ev
  rw [hC]
  clear hf hC hB0 hW R hk h0 h
  go_enter Try.func15, Try.ntmps15
  go_wp2_with (first | rw [HB1.out] | rw [HW1.out])
  go_ret
  exact ⟨rfl, BW.out⟩
set_option maxHeartbeats 1000000 in
set_option maxRecDepth 100000 in
theorem r2valid_2 (e : E) (w : World) (hf : Fit e) (hk : e.kind = 2) (h0 : ¬ e.block < 0) (h1 : ¬ 65536 ≤ e.block) (h : e.ver = 0) : Calls Try.prog 15 #[ev e] w (tvPost false w) := by
  obtain ⟨k, b, v, d⟩ := e
  simp only at *
  obtain ⟨C, hC⟩ : ∃ C, (ecs ⟨k, b, v, d⟩).toArray = C := ⟨_, rfl⟩
  obtain ⟨B0, hB0⟩ : ∃ B, w.heap.size = B := ⟨_, rfl⟩
  obtain ⟨W, hW⟩ : ∃ W, w.alloc (.cells C 26) = W := ⟨_, rfl⟩
  have R : Eb W B0 ⟨k, b, v, d⟩ := by rw [← hW, ← hC]; exact eb_new w _ hB0
  have c0 := R.c0
  have c1 := R.c1
  have c2 := R.c2
  have BW : Hid (Below w.heap.size w W) := Lib.hid (by rw [← hW]; exact (Below.refl _ _).alloc (Nat.le_refl _) _)
  simp only at c0 c1 c2
  have e1 : (k != (1 : Int)) = true := by simp [hk]
  have e3 : (k != (2 : Int)) = false := by simp [hk]
  have e2 : (k == (1 : Int)) = false := by simp [hk]
  have d0 : decide (b < (0 : Int)) = false := decide_eq_false h0
  have d1 : decide ((65536 : Int) ≤ b) = false := decide_eq_false h1
  have d2l : decide ((v : Int) < 1) = true := by simp; omega
  have HB1 := Lib.hid hB0
  have HW1 := Lib.hid hW
  unfold ev
  rw [hC]
  clear hf hC hB0 hW R hk h0 h1 h
  go_enter Try.func15, Try.ntmps15
  go_wp2_with (first | rw [HB1.out] | rw [HW1.out])
  go_ret
  exact ⟨rfl, BW.out⟩
set_option maxHeartbeats 1000000 in
set_option maxRecDepth 100000 in
theorem r2valid_5 (e : E) (w : World) (hf : Fit e) (hk : e.kind = 2) (h0 : ¬ e.block < 0) (h1 : ¬ 65536 ≤ e.block) (h2 : ¬ e.ver = 0) : Calls Try.prog 15 #[ev e] w (tvPost (decide (e.data = List.replicate 8 0)) w) := by
  obtain ⟨k, b, v, d⟩ := e
  simp only at *
  obtain ⟨C, hC⟩ : ∃ C, (ecs ⟨k, b, v, d⟩).toArray = C := ⟨_, rfl⟩
  obtain ⟨B0, hB0⟩ : ∃ B, w.heap.size = B := ⟨_, rfl⟩
  obtain ⟨W, hW⟩ : ∃ W, w.alloc (.cells C 26) = W := ⟨_, rfl⟩
  have R : Eb W B0 ⟨k, b, v, d⟩ := by rw [← hW, ← hC]; exact eb_new w _ hB0
  have c0 := R.c0
  have c1 := R.c1
  have c2 := R.c2
  have BW : Hid (Below w.heap.size w W) := Lib.hid (by rw [← hW]; exact (Below.refl _ _).alloc (Nat.le_refl _) _)
  simp only at c0 c1 c2
  obtain ⟨x0, x1, x2, x3, x4, x5, x6, x7, rfl⟩ := nat8 hf.2.1
  have EQ := deql8 [x0, x1, x2, x3, x4, x5, x6, x7] (List.replicate 8 0) hf.2 d8_zero
  obtain ⟨T, hT⟩ : ∃ T, decide ([x0, x1, x2, x3, x4, x5, x6, x7] = List.replicate 8 0) = T := ⟨_, rfl⟩
  rw [hT] at EQ ⊢
  have EQ' : ∀ w, (binOp .eql 24 (.agg #[.int .u8 (x0 : Int), .int .u8 (x1 : Int), .int .u8 (x2 : Int), .int .u8 (x3 : Int), .int .u8 (x4 : Int), .int .u8 (x5 : Int), .int .u8 (x6 : Int), .int .u8 (x7 : Int)]) (.agg #[.int .u8 0, .int .u8 0, .int .u8 0, .int .u8 0, .int .u8 0, .int .u8 0, .int .u8 0, .int .u8 0])).run Try.prog w = .ok (.bool T) w := EQ
  have GU := eguardB
  have y0 : W.cell? ⟨B0, 3, none⟩ = some (.int .u8 (x0 : Int)) := R.data 0 _ rfl
  have y1 : W.cell? ⟨B0, 4, none⟩ = some (.int .u8 (x1 : Int)) := R.data 1 _ rfl
  have y2 : W.cell? ⟨B0, 5, none⟩ = some (.int .u8 (x2 : Int)) := R.data 2 _ rfl
  have y3 : W.cell? ⟨B0, 6, none⟩ = some (.int .u8 (x3 : Int)) := R.data 3 _ rfl
  have y4 : W.cell? ⟨B0, 7, none⟩ = some (.int .u8 (x4 : Int)) := R.data 4 _ rfl
  have y5 : W.cell? ⟨B0, 8, none⟩ = some (.int .u8 (x5 : Int)) := R.data 5 _ rfl
  have y6 : W.cell? ⟨B0, 9, none⟩ = some (.int .u8 (x6 : Int)) := R.data 6 _ rfl
  have y7 : W.cell? ⟨B0, 10, none⟩ = some (.int .u8 (x7 : Int)) := R.data 7 _ rfl
  clear EQ hT
  have e1 : (k != (1 : Int)) = true := by simp [hk]
  have e3 : (k != (2 : Int)) = false := by simp [hk]
  have e2 : (k == (1 : Int)) = false := by simp [hk]
  have d0 : decide (b < (0 : Int)) = false := decide_eq_false h0
  have d1 : decide ((65536 : Int) ≤ b) = false := decide_eq_false h1
  have d2l : decide ((v : Int) < 1) = false := by simp; omega
  have HB1 := Lib.hid hB0
  have HW1 := Lib.hid hW
  unfold ev
  rw [hC]
  clear hf hC hB0 hW R hk h0 h1 h2
  go_enter Try.func15, Try.ntmps15
  go_wp2_with (first | rw [HB1.out] | rw [HW1.out])
  go_ret
  exact ⟨rfl, BW.out⟩
set_option maxHeartbeats 1000000 in
set_option maxRecDepth 100000 in
theorem rvalid_4 (e : E) (w : World) (hf : Fit e) (h3 : ¬ e.kind = 1) (h : ¬ e.kind = 2) : Calls Try.prog 15 #[ev e] w (tvPost false w) := by
  obtain ⟨k, b, v, d⟩ := e
  simp only at *
  obtain ⟨C, hC⟩ : ∃ C, (ecs ⟨k, b, v, d⟩).toArray = C := ⟨_, rfl⟩
  obtain ⟨B0, hB0⟩ : ∃ B, w.heap.size = B := ⟨_, rfl⟩
  obtain ⟨W, hW⟩ : ∃ W, w.alloc (.cells C 26) = W := ⟨_, rfl⟩
  have R : Eb W B0 ⟨k, b, v, d⟩ := by rw [← hW, ← hC]; exact eb_new w _ hB0
  have c0 := R.c0
  have c1 := R.c1
  have c2 := R.c2
  have BW : Hid (Below w.heap.size w W) := Lib.hid (by rw [← hW]; exact (Below.refl _ _).alloc (Nat.le_refl _) _)
  simp only at c0 c1 c2
  have e1 : (k != (1 : Int)) = true := by simp [h3]
  have e3 : (k != (2 : Int)) = true := by simp [h]
  have HB1 := Lib.hid hB0
  have HW1 := Lib.hid hW
  unfold ev
  rw [hC]
  clear hf hC hB0 hW R h3 h
  go_enter Try.func15, Try.ntmps15
  go_wp2_with (first | rw [HB1.out] | rw [HW1.out])
  go_ret
  exact ⟨rfl, BW.out⟩
theorem rvalid_any (e : E) (w : World) (hf : Fit e) : Calls Try.prog 15 #[ev e] w (tvPost (decide (ok e)) w) := by
  have key : ∀ b : Bool, (b = true ↔ ok e) → Calls Try.prog 15 #[ev e] w (tvPost b w) → Calls Try.prog 15 #[ev e] w (tvPost (decide (ok e)) w) := fun b hb h => by
    have : decide (ok e) = b := by
      cases b with
      | true => exact decide_eq_true (hb.1 rfl)
      | false => exact decide_eq_false fun h => by cases hb.2 h
    rw [this]; exact h
  by_cases k1 : e.kind = 1
  · by_cases h0 : e.block < 0
    · exact key _ ⟨fun h => (by cases h), fun h => by have := h.2.1; omega⟩ (r1valid_0 e w hf k1 h0)
    by_cases h1 : 65536 ≤ e.block
    · exact key _ ⟨fun h => (by cases h), fun h => by have := h.2.2.1; omega⟩ (r1valid_1 e w hf k1 h0 h1)
    by_cases h2 : e.ver = 0
    · exact key _ ⟨fun h => (by cases h), fun h => by have := h.2.2.2.1; omega⟩ (r1valid_2 e w hf k1 h0 h1 h2)
    exact key _ ⟨fun _ => ⟨Or.inl k1, by omega, by omega, by omega, Or.inl k1⟩, fun _ => rfl⟩ (r1valid_3 e w hf k1 h0 h1 h2)
  by_cases k2 : e.kind = 2
  · by_cases h0 : e.block < 0
    · exact key _ ⟨fun h => (by cases h), fun h => by have := h.2.1; omega⟩ (r2valid_0 e w hf k2 h0)
    by_cases h1 : 65536 ≤ e.block
    · exact key _ ⟨fun h => (by cases h), fun h => by have := h.2.2.1; omega⟩ (r2valid_1 e w hf k2 h0 h1)
    by_cases h2 : e.ver = 0
    · exact key _ ⟨fun h => (by cases h), fun h => by have := h.2.2.2.1; omega⟩ (r2valid_2 e w hf k2 h0 h1 h2)
    exact key _ ⟨fun h => ⟨Or.inr k2, by omega, by omega, by omega, Or.inr (of_decide_eq_true h)⟩, fun h => decide_eq_true (h.2.2.2.2.resolve_left k1)⟩ (r2valid_5 e w hf k2 h0 h1 h2)
  exact key _ ⟨fun h => (by cases h), fun h => by have := h.1; omega⟩ (rvalid_4 e w hf k1 k2)
end Go.Proofs.Ytfihiihakgcikaa
