/- Equality of blocks, and of three blocks. -/
import Derived.Test.YtfhgalfdlkdliaaPc
import Derived.Stop.BytesEq
import Derived.ChangeKeysEq
namespace Go.Proofs.Ytfhgalfdlkdliaa
open Go Go.RowKit
set_option linter.unusedVariables false

theorem bcs_cells (l : List Nat) (h : ∀ x ∈ l, x < 256) : bcs l = ((l.map UInt8.ofNat).map Extern.Stop.cell).toArray := by
  unfold bcs
  rw [List.map_map]
  congr 1
  refine List.map_congr_left fun x hx => ?_
  have := h x hx
  simp [bv, Extern.Stop.cell, Nat.mod_eq_of_lt this]
theorem u8s_eq (a b : List Nat) (ha : ∀ x ∈ a, x < 256) (hb : ∀ x ∈ b, x < 256) : (a.map UInt8.ofNat == b.map UInt8.ofNat) = decide (a = b) := by
  have h := strOf_eq a b ha hb
  rw [strOf_toList, strOf_toList] at h
  exact h
theorem size_u8 (w : World) : (sizeOf 5).run Try.prog w = .ok 1 w := by
  obtain ⟨i, hi, hz⟩ : ∃ i, Try.prog.info? 5 = some i ∧ i.size = 1 := by
    have h : (Try.prog.info? 5).map (·.size) = some 1 := by kernel_rfl
    cases hq : Try.prog.info? 5 with
    | none => rw [hq] at h; cases h
    | some i => rw [hq] at h; exact ⟨i, rfl, by simpa using h⟩
  simp [sizeOf, typeInfo, hi, hz]
theorem eq8 (d : Nat) (a b : List Nat) (ha : B8 a) (hb : B8 b) (w : World) : (Op.equalIn (d + 2) 44 (.agg (bcs a)) (.agg (bcs b))).run Try.prog w = .ok (decide (a = b)) w := by
  rw [bcs_cells a ha.2, bcs_cells b hb.2, run_equalIn_bytes w d 44 5 8 Try.underlying44 Try.underlying5 size_u8 _ _ (by rw [List.length_map, ha.1]) (by rw [List.length_map, hb.1]), u8s_eq a b ha.2 hb.2]
theorem guard37 : Try.prog.eqGuardType Try.prog.depth 44 = false := by kernel_rfl
theorem guard63 : Try.prog.eqGuardType Try.prog.depth 73 = false := by kernel_rfl
theorem neq8 (a b : List Nat) (ha : B8 a) (hb : B8 b) (w : World) : (binOp .neq 44 (.agg (bcs a)) (.agg (bcs b))).run Try.prog w = .ok (.bool (!decide (a = b))) w := by
  rw [run_neq_struct, eq8 9998 a b ha hb]; rfl
theorem eql8 (a b : List Nat) (ha : B8 a) (hb : B8 b) (w : World) : (binOp .eql 44 (.agg (bcs a)) (.agg (bcs b))).run Try.prog w = .ok (.bool (decide (a = b))) w := by
  rw [run_eql_struct, eq8 9998 a b ha hb]; rfl
theorem ext3 (S : Nat → Blk) {j : Nat} (hj : j < 3) : (bcs (cat3 S)).extract (j * 8) (j * 8 + 8) = bcs (S j).1 := by
  refine Array.ext_getElem? fun i => ?_
  rw [Array.getElem?_extract]
  split
  · rename_i h
    have hi : i < 8 := by rw [bcs_size, cat3_len] at h; omega
    simp only [bcs, List.getElem?_toArray]
    rw [List.getElem?_map, cat3_at S hj hi, ← List.getElem?_map]
  · rename_i h
    rw [bcs_size, cat3_len] at h
    rw [Array.getElem?_eq_none (by rw [bcs_size, (S j).2.1]; omega)]
theorem part3 (S : Nat → Blk) {j : Nat} (hj : j < 3) (w : World) : (part 44 (bcs (cat3 S)) (j * 8)).run Try.prog w = .ok (.agg (bcs (S j).1)) w := by
  have h : (Try.prog.info? 44).map (·.size) = some 8 := by kernel_rfl
  cases hq : Try.prog.info? 44 with
  | none => rw [hq] at h; cases h
  | some i =>
    rw [hq] at h
    have hs : i.size = 8 := by simpa using h
    simp [part, isAgg, run_underlying Try.underlying44, sizeOf, typeInfo, hq, hs, ext3 S hj]
theorem items3 (d : Nat) (S T : Nat → Blk) (w : World) : ∀ js : List Nat, (∀ j ∈ js, j < 3) → (Op.eqItems (d + 2) 44 8 (bcs (cat3 S)) (bcs (cat3 T)) js).run Try.prog w = .ok (decide (∀ j ∈ js, (S j).1 = (T j).1)) w
  | [], _ => by simp [Op.eqItems]
  | j :: js, h => by
    have ih := items3 d S T w js fun k hk => h k (List.mem_cons_of_mem _ hk)
    have hj := h j List.mem_cons_self
    simp only [Op.eqItems, Sem.run_bind, part3 S hj, part3 T hj, Result.andThen_ok, eq8 d _ _ (S j).2 (T j).2]
    by_cases e : (S j).1 = (T j).1
    · simp [e, ih]
    · simp [e]
theorem cat3_eq (S T : Nat → Blk) : (∀ j ∈ [0, 1, 2], (S j).1 = (T j).1) ↔ cat3 S = cat3 T := by
  constructor
  · intro h
    unfold cat3
    rw [h 0 (by simp), h 1 (by simp), h 2 (by simp)]
  · intro h
    unfold cat3 at h
    obtain ⟨h0, h⟩ := List.append_inj h ((S 0).2.1.trans (T 0).2.1.symm)
    obtain ⟨h1, h2⟩ := List.append_inj h ((S 1).2.1.trans (T 1).2.1.symm)
    intro j hj
    simp at hj
    rcases hj with rfl | rfl | rfl
    · exact h0
    · exact h1
    · exact h2
theorem eq24 (d : Nat) (S T : Nat → Blk) (w : World) : (Op.equalIn (d + 3) 73 (.agg (bcs (cat3 S))) (.agg (bcs (cat3 T)))).run Try.prog w = .ok (decide (cat3 S = cat3 T)) w := by
  have h : (Try.prog.info? 44).map (·.size) = some 8 := by kernel_rfl
  cases hq : Try.prog.info? 44 with
  | none => rw [hq] at h; cases h
  | some i =>
    have hs : Try.prog.cellsOf 44 = 8 := by kernel_rfl
    rw [run_equalIn_array (w := w) (d + 2) _ _ Try.underlying73 hq, hs, items3 d S T w _ (fun j hj => by simpa using hj)]
    congr 1
    exact decide_eq_decide.2 (cat3_eq S T)
end Go.Proofs.Ytfhgalfdlkdliaa
