/- Joined: Gfc Gff Gfr Gfs Rff. -/
import Derived.Test.YtfihiihakgcikaaProg
import Derived.Test.YtfihiihakgcikaaGf
import Derived.WalkKit
import Derived.WalkSpells
import Derived.WalkLawsBesides
import Derived.Lib.Hide
import Derived.Test.YtfihiihakgcikaaGA
import Derived.Deep.QuietTactic
import Derived.BigQuiet
import Derived.StillTailTactics
import Derived.Deep.DeepMust
import Derived.Deep.RegionHeld3
import Derived.Deep.AppendLies
namespace Go.Proofs.Ytfihiihakgcikaa
open Go Go.RowKit

theorem and128 (a : Nat) (ha : a < 256) : bits BinOp.and IntKind.u8 (a : Int) 128 = ((a &&& 128 : Nat) : Int) := u8_and_nat a 128 ha (by decide)
theorem and128_val : ∀ a, a < 256 → (a &&& 128) = 128 * (a / 128) := by decide +kernel
theorem and1 (a : Nat) (ha : a < 256) : bits BinOp.and IntKind.u8 (a : Int) 1 = ((a % 2 : Nat) : Int) := by
  have := u8_and_nat a 1 ha (by decide)
  rw [Nat.and_one_is_mod] at this
  exact this
theorem ret_u8 {a b : Int} (h : a = b) : Ending.returned (.int .u8 a) = .returned (.int .u8 b) := by rw [h]
theorem ret_i64 {a b : Int} (h : a = b) : Ending.returned (.int .i64 a) = .returned (.int .i64 b) := by rw [h]

theorem and1_i64 (a : Nat) : bits BinOp.and IntKind.i64 (a : Int) 1 = ((a % 2 : Nat) : Int) := by
  have key : (BitVec.ofInt 64 (a : Int) &&& BitVec.ofInt 64 1).toNat = a % 2 := by
    rw [BitVec.toNat_and, BitVec.toNat_ofInt, show (BitVec.ofInt 64 1).toNat = 2 ^ 1 - 1 by decide, Nat.and_two_pow_sub_one_eq_mod]
    omega
  show IntKind.i64.wrap ((BitVec.ofInt 64 (a : Int) &&& BitVec.ofInt 64 1).toNat : Nat) = _
  rw [key, IntKind.wrap_i64]
  omega

theorem tmod255 (n : Int) : n.tmod 255 = if 0 ≤ n then n % 255 else -((-n) % 255) := by
  by_cases h : 0 ≤ n
  · rw [if_pos h, Int.tmod_eq_emod_of_nonneg h]
  · rw [if_neg h]
    have := Int.neg_tmod (-n) 255
    rw [Int.neg_neg] at this
    rw [this, Int.tmod_eq_emod_of_nonneg (by omega)]
theorem red_neg (n : Int) (h : n.tmod 255 < 0) : wrap64 (n.tmod 255 + 255) = n % 255 := by
  rw [tmod255] at h ⊢
  by_cases hn : 0 ≤ n
  · rw [if_pos hn] at h; omega
  · rw [if_neg hn] at h ⊢
    rw [IntWalk.wrap64_in _ ⟨by omega, by omega⟩]; omega
theorem red_pos (n : Int) (h : 0 ≤ n.tmod 255) : n.tmod 255 = n % 255 := by
  rw [tmod255] at h ⊢
  by_cases hn : 0 ≤ n
  · rw [if_pos hn]
  · rw [if_neg hn] at h ⊢; omega

/-- The exponent that stands for n. -/
def red (n : Int) : Nat := (n % 255).toNat
theorem red_lt (n : Int) : red n < 256 := by unfold red; omega

end Go.Proofs.Ytfihiihakgcikaa
namespace Go.Proofs.Ytfihiihakgcikaa
open Go Go.RowKit
def fused (d s : List Nat) (c : Nat) : List Nat := (List.range d.length).map fun i => d.getD i 0 ^^^ Gf.mul c (s.getD i 0)
theorem fused_len (d s : List Nat) (c : Nat) : (fused d s c).length = d.length := by simp [fused]
theorem fused_at (d s : List Nat) (c k : Nat) (hk : k < d.length) : (fused d s c).getD k 0 = d.getD k 0 ^^^ Gf.mul c (s.getD k 0) := by
  rw [getD_in (by rw [fused_len]; exact hk)]
  simp [fused]

theorem fused_bytes (d s : List Nat) (c : Nat) (hd : ∀ x ∈ d, x < 256) (hc : c < 256) : ∀ x ∈ fused d s c, x < 256 := by
  intro x hx
  simp only [fused, List.mem_map, List.mem_range] at hx
  obtain ⟨i, hi, rfl⟩ := hx
  rw [getD_in hi]
  exact Gf.xor_lt _ _ (hd _ (List.getElem_mem hi)) (Gf.mul_lt _ _ hc)

theorem info_u8 : (Try.prog.info? 5).map (fun i => (i.zero, i.size, i.bytes)) = some (some (.int .u8 0), 1, 1) := by kernel_rfl

def fusedPost (d s : List Nat) (c : Nat) (w : World) (e : Ending) (w' : World) : Prop :=
  ∃ v, e = .returned (.tuple #[v, .int .i64 0]) ∧ Bs w' v (fused d s c) ∧ Below w.heap.size w w'
/-- .. and the list lies in new memory. -/
def fusedNew (d s : List Nat) (c : Nat) (w : World) (e : Ending) (w' : World) : Prop :=
  ∃ v, e = .returned (.tuple #[v, .int .i64 0]) ∧ Bs w' v (fused d s c) ∧ (∀ k, v.ownBlock = some k → w.heap.size ≤ k) ∧ Below w.heap.size w w'

end Go.Proofs.Ytfihiihakgcikaa
namespace Go.Proofs.Ytfihiihakgcikaa
open Go Go.RowKit

/-! ### The reference -/
theorem xor_i64 (a b : Nat) (ha : a < 2 ^ 62) (hb : b < 2 ^ 62) : bits BinOp.xor IntKind.i64 (a : Int) (b : Int) = ((a ^^^ b : Nat) : Int) := by
  have hx : a ^^^ b < 2 ^ 62 := Nat.xor_lt_two_pow ha hb
  have e1 : (BitVec.ofInt 64 (a : Int)).toNat = a := by rw [BitVec.ofInt_natCast, BitVec.toNat_ofNat]; exact Nat.mod_eq_of_lt (by omega)
  have e2 : (BitVec.ofInt 64 (b : Int)).toNat = b := by rw [BitVec.ofInt_natCast, BitVec.toNat_ofNat]; exact Nat.mod_eq_of_lt (by omega)
  show IntKind.i64.wrap ((BitVec.ofInt 64 (a : Int) ^^^ BitVec.ofInt 64 (b : Int)).toNat : Int) = _
  rw [BitVec.toNat_xor, e1, e2, IntKind.wrap_i64]
  omega
theorem shr_and1 (b k : Nat) (hb : b < 256) : bits BinOp.and IntKind.u8 ((b : Int) / 2 ^ k) 1 = ((b / 2 ^ k % 2 : Nat) : Int) := by
  have h : b / 2 ^ k ≤ b := Nat.div_le_self _ _
  have := and1 (b / 2 ^ k) (by omega)
  rw [← this]; congr 1
theorem shl_xor (a p k : Nat) (ha : a < 256) (hk : k < 8) (hp : p < 2 ^ 16) : bits BinOp.xor IntKind.i64 (p : Int) (wrap64 ((a : Int) * 2 ^ k)) = ((p ^^^ (2 ^ k * a) : Nat) : Int) := by
  have h1 : 2 ^ k ≤ 2 ^ 7 := Nat.pow_le_pow_right (by decide) (by omega)
  have h2 : 2 ^ k * a ≤ 2 ^ 7 * 255 := Nat.mul_le_mul h1 (by omega)
  have e : (a : Int) * 2 ^ k = ((2 ^ k * a : Nat) : Int) := by push_cast; rw [Int.mul_comm]
  rw [e, IntWalk.wrap64_in _ ⟨by omega, by omega⟩, xor_i64 _ _ (by omega) (by omega)]
theorem cl_step (a b k p : Nat) (hk : k < 8) : Gf.clF (8 - k) (2 ^ k * a) (b / 2 ^ k) p = Gf.clF (8 - (k + 1)) (2 ^ (k + 1) * a) (b / 2 ^ (k + 1)) (p ^^^ (2 ^ k * a) * (b / 2 ^ k % 2)) := by
  obtain ⟨d, e⟩ : ∃ d, 8 - k = d + 1 := ⟨7 - k, by omega⟩
  have e2 : 8 - (k + 1) = d := by omega
  rw [e, e2, Gf.clF, Nat.div_div_eq_div_mul, Nat.pow_succ, ← Nat.mul_assoc, Nat.mul_comm 2]
theorem shr_and1_i64 (p k : Nat) : bits BinOp.and IntKind.i64 ((p : Int) / 2 ^ k) 1 = ((p / 2 ^ k % 2 : Nat) : Int) := by
  rw [← and1_i64 (p / 2 ^ k)]; congr 1
theorem red_step (k p : Nat) (h : 8 ≤ k) : Gf.redF (k - 7) p = Gf.redF (k - 1 - 7) (p ^^^ (285 * 2 ^ (k - 8)) * (p / 2 ^ k % 2)) := by
  obtain ⟨d, rfl⟩ : ∃ d, k = d + 8 := ⟨k - 8, by omega⟩
  rw [show d + 8 - 7 = d + 1 by omega, show d + 8 - 1 - 7 = d by omega, show d + 8 - 8 = d by omega, Gf.redF]
theorem red_pow (k : Nat) (h2 : k ≤ 14) : 285 * 2 ^ (k - 8) ≤ 285 * 64 := by
  have h1 : 2 ^ (k - 8) ≤ 2 ^ 6 := Nat.pow_le_pow_right (by decide) (by omega)
  omega
theorem red_bound (k p : Nat) (_h : 8 ≤ k) (h2 : k ≤ 14) (hp : p < 65536) : p ^^^ (285 * 2 ^ (k - 8)) < 65536 := by
  have := red_pow k h2
  exact Nat.xor_lt_two_pow (n := 16) hp (by omega)
theorem red_xor (k p : Nat) (_h : 8 ≤ k) (h2 : k ≤ 14) (hp : p < 65536) : bits BinOp.xor IntKind.i64 (p : Int) (wrap64 (285 * 2 ^ (k - 8))) = ((p ^^^ (285 * 2 ^ (k - 8)) : Nat) : Int) := by
  have := red_pow k h2
  have e : (285 : Int) * 2 ^ (k - 8) = ((285 * 2 ^ (k - 8) : Nat) : Int) := by rw [Int.natCast_mul, Int.natCast_pow]; rfl
  rw [e, IntWalk.wrap64_in _ ⟨by omega, by omega⟩, xor_i64 _ _ (by omega) (by omega)]
end Go.Proofs.Ytfihiihakgcikaa
namespace Go.Proofs.Ytfihiihakgcikaa
open Go Go.RowKit

def rinvPost (a : Nat) (w : World) (e : Ending) (w' : World) : Prop :=
  (a ≠ 0 → e = .returned (.tuple #[.int .u8 (Gf.inv a : Nat), .bool true])) ∧ (a = 0 → e = .returned (.tuple #[.int .u8 0, .bool false])) ∧ w = w'
end Go.Proofs.Ytfihiihakgcikaa
namespace Go.Proofs.Ytfihiihakgcikaa
open Go Go.RowKit

def rfusedPost (d s : List Nat) (c : Nat) (w : World) (e : Ending) (w' : World) : Prop :=
  ∃ v, e = .returned v ∧ Bs w' v (fused d s c) ∧ Below w.heap.size w w'
/-- .. and the list lies in new memory. -/
def rfusedNew (d s : List Nat) (c : Nat) (w : World) (e : Ending) (w' : World) : Prop :=
  ∃ v, e = .returned v ∧ Bs w' v (fused d s c) ∧ (∀ k, v.ownBlock = some k → w.heap.size ≤ k) ∧ Below w.heap.size w w'
theorem fused_take (d s : List Nat) (c k : Nat) (hk : k < d.length) : (fused d s c).take (k + 1) = (fused d s c).take k ++ [d.getD k 0 ^^^ Gf.mul c (s.getD k 0)] := by
  rw [List.take_add_one, List.getElem?_eq_getElem (by rw [fused_len]; exact hk), ← getD_in (x := 0), fused_at d s c k hk]; rfl

end Go.Proofs.Ytfihiihakgcikaa
