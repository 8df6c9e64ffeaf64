/- Equality of blocks. -/
import Derived.Test.YtajeboigkpelgaaIl
import Derived.Stop.BytesEq
import Derived.ChangeKeysEq
namespace Go.Proofs.Ytajeboigkpelgaa
open Go Go.RowKit
set_option linter.unusedVariables false
theorem bkc_cells (l : List Nat) (h : ∀ x ∈ l, x < 256) : bkc l = ((l.map UInt8.ofNat).map Extern.Stop.cell).toArray := by
  unfold bkc
  rw [List.map_map]
  congr 1
  refine List.map_congr_left fun x hx => ?_
  have := h x hx
  simp [bv, Extern.Stop.cell, Nat.mod_eq_of_lt this]
theorem u8l_eq (a b : List Nat) (ha : ∀ x ∈ a, x < 256) (hb : ∀ x ∈ b, x < 256) : (a.map UInt8.ofNat == b.map UInt8.ofNat) = decide (a = b) := by
  have h := strOf_eq a b ha hb
  rw [strOf_toList, strOf_toList] at h
  exact h
theorem size_u1 (w : World) : (sizeOf 5).run Try.prog w = .ok 1 w := by
  obtain ⟨i, hi, hz⟩ : ∃ i, Try.prog.info? 5 = some i ∧ i.size = 1 := by
    have h : (Try.prog.info? 5).map (·.size) = some 1 := by kernel_rfl
    cases hq : Try.prog.info? 5 with
    | none => rw [hq] at h; cases h
    | some i => rw [hq] at h; exact ⟨i, rfl, by simpa using h⟩
  simp [sizeOf, typeInfo, hi, hz]
/-- Eight bytes. -/
def E8 (l : List Nat) : Prop := l.length = 8 ∧ ∀ x ∈ l, x < 256
theorem eqb8 (d : Nat) (a b : List Nat) (ha : E8 a) (hb : E8 b) (w : World) : (Op.equalIn (d + 2) 25 (.agg (bkc a)) (.agg (bkc b))).run Try.prog w = .ok (decide (a = b)) w := by
  rw [bkc_cells a ha.2, bkc_cells b hb.2, run_equalIn_bytes w d 25 5 8 Try.underlying25 Try.underlying5 size_u1 _ _ (by rw [List.length_map, ha.1]) (by rw [List.length_map, hb.1]), u8l_eq a b ha.2 hb.2]
theorem guardB : Try.prog.eqGuardType Try.prog.depth 25 = false := by kernel_rfl
theorem bneq8 (a b : List Nat) (ha : E8 a) (hb : E8 b) (w : World) : (binOp .neq 25 (.agg (bkc a)) (.agg (bkc b))).run Try.prog w = .ok (.bool (!decide (a = b))) w := by
  rw [run_neq_struct, eqb8 9998 a b ha hb]; rfl
theorem beql8 (a b : List Nat) (ha : E8 a) (hb : E8 b) (w : World) : (binOp .eql 25 (.agg (bkc a)) (.agg (bkc b))).run Try.prog w = .ok (.bool (decide (a = b))) w := by
  rw [run_eql_struct, eqb8 9998 a b ha hb]; rfl
theorem Cod.rK_8 (l : List Nat) (bad : Bool) (hb : ∀ x ∈ l, x < 256) : E8 (Cod.rK l bad).1 := by
  unfold Cod.rK
  split
  · exact ⟨rfl, by decide⟩
  · exact ⟨by rw [List.length_take]; omega, fun x hx => hb x (List.mem_of_mem_take hx)⟩
end Go.Proofs.Ytajeboigkpelgaa
