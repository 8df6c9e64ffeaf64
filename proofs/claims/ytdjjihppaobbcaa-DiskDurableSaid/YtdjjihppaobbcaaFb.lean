/- Strings in a walk: what len, s[i], s[k:], s[:k], +, == give, in lists of bytes. -/
import Derived.Test.YtdjjihppaobbcaaFa
import Derived.Lib.Strings
import Derived.Laws.Strings3
import Derived.Laws.Concat
namespace Go.Proofs.Ytdjjihppaobbcaa
open Go Go.RowKit
namespace Flt
/-- Bytes. -/
def By (l : List Nat) : Prop := ∀ x ∈ l, x < 256
instance (l : List Nat) : Decidable (By l) := by unfold By; infer_instance
theorem By.app {a b : List Nat} (h : By a) (k : By b) : By (a ++ b) := fun x hx => (List.mem_append.1 hx).elim (h x) (k x)
theorem By.drop {l : List Nat} (h : By l) (k : Nat) : By (l.drop k) := fun x hx => h x (List.mem_of_mem_drop hx)
theorem By.take {l : List Nat} (h : By l) (k : Nat) : By (l.take k) := fun x hx => h x (List.mem_of_mem_take hx)
theorem By.tail {c : Nat} {l : List Nat} (h : By (c :: l)) : By l := fun x hx => h x (List.mem_cons_of_mem _ hx)
theorem strOf_dat (l : List Nat) : (strOf l).data.toList = l.map UInt8.ofNat := by rw [← ByteArray.toList_eq]; exact strOf_toList l
theorem str_eq {a b : ByteArray} (h : a.data.toList = b.data.toList) : a = b := by
  have h2 : a.data = b.data := Array.ext' h
  cases a; cases b; simp_all
theorem str_ex (s : ByteArray) : ∃ l, s = strOf l ∧ By l := by
  refine ⟨s.data.toList.map (·.toNat), str_eq ?_, fun x hx => ?_⟩
  · rw [strOf_dat, List.map_map]
    conv => lhs; rw [← List.map_id s.data.toList]
    exact List.map_congr_left fun y _ => by simp
  · obtain ⟨y, _, rfl⟩ := List.mem_map.1 hx
    exact y.toNat_lt
theorem strOf_sz (l : List Nat) : (strOf l).size = l.length := by
  have h := congrArg List.length (strOf_dat l)
  rw [List.length_map] at h
  simpa using h
theorem strOf_app (a b : List Nat) : strOf a ++ strOf b = strOf (a ++ b) := by
  apply str_eq
  rw [ByteArray.data_append, Array.toList_append, strOf_dat, strOf_dat, strOf_dat, List.map_append]
theorem strOf_from (l : List Nat) (k : Nat) : (strOf l).extract k (strOf l).size = strOf (l.drop k) := by
  apply str_eq
  rw [Lib.extract_data, strOf_dat, strOf_dat, strOf_sz, List.map_drop]
  rw [List.take_of_length_le]
  simp
theorem strOf_to (l : List Nat) (k : Nat) : (strOf l).extract 0 k = strOf (l.take k) := by
  apply str_eq
  rw [Lib.extract_data, strOf_dat, strOf_dat, List.map_take]
  simp
theorem strOf_at {l : List Nat} (hl : By l) {k : Nat} (h : k < (strOf l).size) : (((strOf l)[k]'h).toNat : Int) = ((l.getD k 0 : Nat) : Int) := by
  have hk : k < l.length := by rw [strOf_sz] at h; exact h
  have e : (strOf l)[k]'h = (strOf l).data.toList[k]'(by rw [strOf_dat]; simpa using hk) := rfl
  rw [e]
  have e2 : (strOf l).data.toList[k]'(by rw [strOf_dat]; simpa using hk) = UInt8.ofNat l[k] := by simp only [strOf_dat, List.getElem_map]
  rw [e2, getD_in hk]
  have := hl _ (List.getElem_mem hk)
  simp; omega
theorem strOf_one {a b : List Nat} (ha : By a) (hb : By b) (h : strOf a = strOf b) : a = b := by
  have := strOf_eq a b ha hb
  rw [h] at this
  simpa using this
section
variable {P : Program} {t : TypeId} (ht : P.underlying t = some .string) (w : World)
include ht in
theorem sx_len (l : List Nat) : (Builtin.len_ #[t] t #[.string (strOf l)]).run P w = .ok (.int .i64 (l.length : Int)) w := by
  rw [run_len_string w t t _ ht, strOf_sz]; rfl
include ht in
theorem sx_at {l : List Nat} (hl : By l) {k : Nat} (hk : k < l.length) : (Instr.index t (.string (strOf l)) (.int .i64 (k : Int))).run P w = .ok (.int .u8 ((l.getD k 0 : Nat) : Int)) w := by
  have h : k < (strOf l).size := by rw [strOf_sz]; exact hk
  rw [run_index_string w t _ _ _ ht, dif_pos (by omega)]
  congr 2
  exact strOf_at hl (k := k) h
include ht in
theorem sx_from {l : List Nat} {k : Nat} (hk : k ≤ l.length) : (Instr.slice t (.string (strOf l)) (some (.int .i64 (k : Int))) none none).run P w = .ok (.string (strOf (l.drop k))) w := by
  rw [run_slice_string_from_if w t _ _ _ ht, if_pos (by rw [strOf_sz]; omega), Int.toNat_natCast, strOf_from]
include ht in
theorem sx_to {l : List Nat} {k : Nat} (hk : k ≤ l.length) : (Instr.slice t (.string (strOf l)) none (some (.int .i64 (k : Int))) none).run P w = .ok (.string (strOf (l.take k))) w := by
  rw [run_slice_string_to_if w t _ _ _ ht, if_pos (by rw [strOf_sz]; omega), Int.toNat_natCast, strOf_to]
theorem sx_add {a b : List Nat} (h : a.length + b.length ≤ 9223372036854775807) : (Op.stringOp .add (strOf a) (strOf b)).run P w = .ok (.string (strOf (a ++ b))) w := by
  rw [run_string_add_sum w _ _ (by rw [strOf_sz, strOf_sz]; omega), strOf_app]
end
theorem after_take (w s : List Nat) : w.isPrefixOf s = (decide (w.length ≤ s.length) && decide (s.take w.length = w)) := by
  rw [Bool.eq_iff_iff]
  simp only [Bool.and_eq_true, decide_eq_true_eq, List.isPrefixOf_iff_prefix]
  constructor
  · intro h
    exact ⟨h.length_le, (List.prefix_iff_eq_take.1 h).symm⟩
  · rintro ⟨_, h⟩
    rw [← h]; exact List.take_prefix _ _
theorem dig_by (n : Nat) : By (dig n) := fun x hx => by have := dig_in n x hx; omega
theorem word_by (k : Int) : By (word k) := by
  unfold word By
  repeat' split
  all_goals decide
theorem dig_le {n : Nat} (h : n < 9223372036854775808) : (dig n).length ≤ 19 := dig_len n 18 (by omega)
theorem word_le (k : Int) : (word k).length ≤ 5 := by
  unfold word
  repeat' split
  all_goals simp
theorem one_by (f : F) : By (one f) := by
  unfold one
  refine ((By.app (By.app (word_by _) (by decide)) (dig_by _))).app ?_
  split
  · exact By.app (by decide) (dig_by _)
  · intro x hx; cases hx
theorem text_by : ∀ L : List F, By (text L) := by
  intro L
  induction L with
  | nil => intro x hx; cases hx
  | cons f L ih =>
    rw [text_cons]
    refine (one_by f).app ?_
    split
    · intro x hx; cases hx
    · exact By.app (by decide) ih
end Flt
end Go.Proofs.Ytdjjihppaobbcaa
