/- Layer 15: entries as values: their cells, their equality; numbers of 64 bits byte by byte. -/
import Derived.Test.YtfihiihakgcikaaAc
import Derived.Test.YtfihiihakgcikaaHd
import Derived.Test.YtfihiihakgcikaaHs
import Derived.Stop.BytesEq
import Derived.ChangeKeysEq
import Derived.Deep.MidRow
namespace Go.Proofs.Ytfihiihakgcikaa
open Go Go.RowKit
set_option linter.unusedVariables false
set_option linter.unusedSimpArgs false
namespace Ent
/-- An entry's cells. -/
def ecs (e : E) : List Value := .int .i64 e.kind :: .int .i64 e.block :: .int .u64 (e.ver : Int) :: e.data.map bv
def ev (e : E) : Value := .agg (ecs e).toArray
/-- No entry. -/
def ez : E := ⟨0, 0, 0, List.replicate 8 0⟩
theorem ez_fit : Fit ez := ⟨by decide, by decide, by decide⟩
theorem ez_val : ev ez = .agg #[.int .i64 0, .int .i64 0, .int .u64 0, .int .u8 0, .int .u8 0, .int .u8 0, .int .u8 0, .int .u8 0, .int .u8 0, .int .u8 0, .int .u8 0] := rfl
theorem ecs_len {e : E} (h : Fit e) : (ecs e).length = 11 := by simp [ecs, h.2.1]
theorem ecs_one (e : E) : ∀ v ∈ ecs e, v.oneCell' = true := by
  intro v hv
  simp only [ecs, List.mem_cons] at hv
  rcases hv with rfl | rfl | rfl | hv
  · rfl
  · rfl
  · rfl
  · exact bv_one v hv
end Ent
open Ent
def dcs (l : List Nat) : Array Value := (l.map bv).toArray
theorem dcs_cells (l : List Nat) (h : ∀ x ∈ l, x < 256) : dcs l = ((l.map UInt8.ofNat).map Extern.Stop.cell).toArray := by
  unfold dcs
  rw [List.map_map]
  congr 1
  refine List.map_congr_left fun x hx => ?_
  have := h x hx
  simp [bv, Extern.Stop.cell, Nat.mod_eq_of_lt this]
theorem u8m_eq (a b : List Nat) (ha : ∀ x ∈ a, x < 256) (hb : ∀ x ∈ b, x < 256) : (a.map UInt8.ofNat == b.map UInt8.ofNat) = decide (a = b) := by
  have h := strOf_eq a b ha hb
  rw [strOf_toList, strOf_toList] at h
  exact h
theorem size_u8e (w : World) : (sizeOf 5).run Try.prog w = .ok 1 w := by
  obtain ⟨i, hi, hz⟩ : ∃ i, Try.prog.info? 5 = some i ∧ i.size = 1 := by
    have h : (Try.prog.info? 5).map (·.size) = some 1 := by kernel_rfl
    cases hq : Try.prog.info? 5 with
    | none => rw [hq] at h; cases h
    | some i => rw [hq] at h; exact ⟨i, rfl, by simpa using h⟩
  simp [sizeOf, typeInfo, hi, hz]
/-- Eight bytes. -/
def D8 (l : List Nat) : Prop := l.length = 8 ∧ ∀ x ∈ l, x < 256
theorem deq8 (d : Nat) (a b : List Nat) (ha : D8 a) (hb : D8 b) (w : World) : (Op.equalIn (d + 2) 24 (.agg (dcs a)) (.agg (dcs b))).run Try.prog w = .ok (decide (a = b)) w := by
  rw [dcs_cells a ha.2, dcs_cells b hb.2, run_equalIn_bytes w d 24 5 8 Try.underlying24 Try.underlying5 size_u8e _ _ (by rw [List.length_map, ha.1]) (by rw [List.length_map, hb.1]), u8m_eq a b ha.2 hb.2]
theorem eguardB : Try.prog.eqGuardType Try.prog.depth 24 = false := by kernel_rfl
theorem eguardE : Try.prog.eqGuardType Try.prog.depth 26 = false := by kernel_rfl
theorem deql8 (a b : List Nat) (ha : D8 a) (hb : D8 b) (w : World) : (binOp .eql 24 (.agg (dcs a)) (.agg (dcs b))).run Try.prog w = .ok (.bool (decide (a = b))) w := by
  rw [run_eql_struct, deq8 9998 a b ha hb]; rfl
theorem epart_data (e : E) (h : Fit e) (w : World) : (part 24 (ecs e).toArray 3).run Try.prog w = .ok (.agg (dcs e.data)) w := by
  have hq : (Try.prog.info? 24).map (·.size) = some 8 := by kernel_rfl
  cases hi : Try.prog.info? 24 with
  | none => rw [hi] at hq; cases hq
  | some i =>
    rw [hi] at hq
    have hs : i.size = 8 := by simpa using hq
    have ex : (ecs e).toArray.extract 3 11 = dcs e.data := by
      apply Array.ext'
      have := h.2.1
      simp [ecs, dcs, List.extract]
      exact List.take_of_length_le (by simp [this])
    have ex' : (List.take 8 (List.drop 3 (ecs e))).toArray = dcs e.data := by rw [← ex]; apply Array.ext'; simp [List.extract]
    simp [part, isAgg, run_underlying Try.underlying24, sizeOf, typeInfo, hi, hs, ex']
theorem epart_int (e : E) (o : Nat) (v : Value) (h : (ecs e)[o]? = some v) (w : World) : (part 3 (ecs e).toArray o).run Try.prog w = .ok v w := run_part_plain w (by kernel_rfl) (by simpa using h)
theorem epart_u64 (e : E) (o : Nat) (v : Value) (h : (ecs e)[o]? = some v) (w : World) : (part 22 (ecs e).toArray o).run Try.prog w = .ok v w := run_part_plain w (by kernel_rfl) (by simpa using h)
theorem eEq (a b : E) (ha : Fit a) (hb : Fit b) (w : World) : (Op.equalIn 10000 26 (ev a) (ev b)).run Try.prog w = .ok (decide (a = b)) w := by
  have hf : (Try.prog.fieldsOf 26).toList.map (fun f => (f.name, f.type, f.offset)) = [("Kind", 3, 0), ("Block", 3, 1), ("Version", 22, 2), ("Data", 24, 3)] := by kernel_rfl
  unfold ev
  rw [run_equalIn_struct w 9999 26 _ _ (by kernel_rfl) (by kernel_rfl)]
  generalize (Try.prog.fieldsOf 26).toList = L at hf ⊢
  have hlen : L.length = 4 := by simpa using congrArg List.length hf
  match L, hlen, hf with
  | [f0, f1, f2, f3], _, hf =>
    simp only [List.map_cons, List.map_nil, List.cons.injEq, Prod.mk.injEq, and_true] at hf
    obtain ⟨⟨n0, t0, o0⟩, ⟨n1, t1, o1⟩, ⟨n2, t2, o2⟩, ⟨n3, t3, o3⟩⟩ := hf
    simp only [Op.eqFields, n0, t0, o0, n1, t1, o1, n2, t2, o2, n3, t3, o3, Sem.run_bind, Sem.run_ite, epart_int a 0 _ rfl, epart_int b 0 _ rfl, epart_int a 1 _ rfl, epart_int b 1 _ rfl, epart_u64 a 2 _ rfl, epart_u64 b 2 _ rfl, epart_data a ha, epart_data b hb, Result.andThen_ok, run_equalIn_int w _ 3 _ _ _ _ Try.underlying3, run_equalIn_int w _ 22 _ _ _ _ Try.underlying22, deq8 _ _ _ ha.2 hb.2]
    obtain ⟨k, bl, v, d⟩ := a
    obtain ⟨k', bl', v', d'⟩ := b
    by_cases e1 : k = k'
    · by_cases e2 : bl = bl'
      · by_cases e3 : v = v'
        · by_cases e4 : d = d'
          · subst e1 e2 e3 e4; simp
          · subst e1 e2 e3; simp [e4]
        · have e3' : ¬ (v : Int) = (v' : Int) := by omega
          subst e1 e2; simp [e3, e3']
      · subst e1; simp [e2]
    · simp [e1]
theorem eeql (a b : E) (ha : Fit a) (hb : Fit b) (w : World) : (binOp .eql 26 (ev a) (ev b)).run Try.prog w = .ok (.bool (decide (a = b))) w := by
  have := eEq a b ha hb w
  unfold ev at *
  rw [run_eql_struct, this]; rfl
theorem eneq (a b : E) (ha : Fit a) (hb : Fit b) (w : World) : (binOp .neq 26 (ev a) (ev b)).run Try.prog w = .ok (.bool (!decide (a = b))) w := by
  have := eEq a b ha hb w
  unfold ev at *
  rw [run_neq_struct, this]; rfl
/-- The numbers of an entry lie within their types. -/
def I64 (x : Int) : Prop := -9223372036854775808 ≤ x ∧ x < 9223372036854775808
theorem shr_le (n i : Nat) : n / 2 ^ (8 * i) % 256 = (le n (i + 1)).getD i 0 := by
  induction i generalizing n with
  | zero => simp [le]
  | succ i ih =>
    have := ih (n / 256)
    rw [Nat.div_div_eq_div_mul, show 256 * 2 ^ (8 * i) = 2 ^ (8 * (i + 1)) by rw [show 8 * (i + 1) = 8 + 8 * i by omega, Nat.pow_add]] at this
    rw [this]
    rfl
theorem le_succ (n k : Nat) : le n (k + 1) = le n k ++ [n / 2 ^ (8 * k) % 256] := by
  induction k generalizing n with
  | zero => simp [le]
  | succ k ih =>
    have := ih (n / 256)
    rw [le, this, Nat.div_div_eq_div_mul, show 256 * 2 ^ (8 * k) = 2 ^ (8 * (k + 1)) by rw [show 8 * (k + 1) = 8 + 8 * k by omega, Nat.pow_add]]
    rfl
theorem num_lt8 {l : List Nat} (hb : ∀ x ∈ l, x < 256) (k : Nat) : Crc.num (l.take k) < 2 ^ (8 * k) := by
  have h1 := Crc.num_lt (b := l.take k) (fun x hx => hb x (List.mem_of_mem_take hx))
  refine Nat.lt_of_lt_of_le h1 (Nat.pow_le_pow_right (by decide) ?_)
  rw [List.length_take]; omega
theorem num_app {l : List Nat} (hb : ∀ x ∈ l, x < 256) {k : Nat} (hk : k < l.length) : Crc.num (l.take (k + 1)) = Crc.num (l.take k) + 2 ^ (8 * k) * l.getD k 0 := by
  induction l generalizing k with
  | nil => simp at hk
  | cons a t ih =>
    have ha := hb a List.mem_cons_self
    cases k with
    | zero => simp [Crc.num]
    | succ k =>
      rw [List.take_succ_cons, List.take_succ_cons, num_cons _ _ ha, num_cons _ _ ha, ih (fun x hx => hb x (List.mem_cons_of_mem _ hx)) (by simpa using hk)]
      rw [Nat.mul_add, ← Nat.mul_assoc, show 256 * 2 ^ (8 * k) = 2 ^ (8 * (k + 1)) by rw [show 8 * (k + 1) = 8 + 8 * k by omega, Nat.pow_add]]
      simp [Nat.add_assoc]
theorem or_u64 {a b : Nat} (ha : a < 2 ^ 64) (hb : b < 2 ^ 64) : bits BinOp.or IntKind.u64 (a : Int) (b : Int) = ((a ||| b : Nat) : Int) := by
  have hx : a ||| b < 2 ^ 64 := Nat.or_lt_two_pow ha hb
  show IntKind.u64.wrap ((BitVec.ofInt 64 (a : Int) ||| BitVec.ofInt 64 (b : Int)).toNat : Int) = _
  rw [BitVec.toNat_or, bv64 ha, bv64 hb, IntKind.wrap_u64]
  omega
/-- One more byte of a number. -/
theorem num_or {l : List Nat} (hb : ∀ x ∈ l, x < 256) {k : Nat} (hk : k < l.length) (h8 : k < 8) : bits BinOp.or IntKind.u64 ((Crc.num (l.take k) : Nat) : Int) (((2 ^ (8 * k) * l.getD k 0 : Nat)) : Int) = ((Crc.num (l.take (k + 1)) : Nat) : Int) ∧ 2 ^ (8 * k) * l.getD k 0 < 2 ^ 64 := by
  have h1 := num_lt8 hb k
  have h2 := num_lt8 hb (k + 1)
  have e := num_app hb hk
  have hp : 2 ^ (8 * (k + 1)) ≤ 2 ^ 64 := Nat.pow_le_pow_right (by decide) (by omega)
  have hp' : 2 ^ (8 * k) ≤ 2 ^ 64 := Nat.pow_le_pow_right (by decide) (by omega)
  have hlt : 2 ^ (8 * k) * l.getD k 0 < 2 ^ 64 := by omega
  refine ⟨?_, hlt⟩
  rw [or_u64 (by omega) hlt, e, Nat.or_comm, ← Nat.two_pow_add_eq_or_of_lt h1, Nat.add_comm]
end Go.Proofs.Ytfihiihakgcikaa
