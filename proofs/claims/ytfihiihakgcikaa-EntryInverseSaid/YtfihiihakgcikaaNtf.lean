/- Layer 15: parts of a slice of bytes; what Decode returns. -/
import Derived.Test.YtfihiihakgcikaaNte
import Derived.BigQuiet
import Derived.StillTailTactics
namespace Go.Proofs.Ytfihiihakgcikaa
open Go Go.RowKit Ent
set_option linter.unusedVariables false
set_option linter.unusedSimpArgs false
/-- b[lo:hi]. -/
theorem cut_lh (b off N c lo hi : Nat) (h1 : lo ≤ hi) (h2 : hi ≤ c) (h3 : lo < c) : (∀ w, (Instr.slice 27 (.slice (some ⟨b, off, none⟩) N c) (some (.int .i64 (lo : Int))) (some (.int .i64 (hi : Int))) none).run Try.prog w = .ok (.slice (some ⟨b, off + lo, none⟩) (hi - lo) (c - lo)) w) ∧ (∀ w, (Instr.sliceAt 27 (.slice (some ⟨b, off, none⟩) N c) (some (.int .i64 (lo : Int))) (some (.int .i64 (hi : Int))) none).run Try.prog w = .ok (.slice (some ⟨b, off + lo, none⟩) (hi - lo) (c - lo)) w) := by
  have hel : Try.prog.elem 27 = 5 := by kernel_rfl
  have hu : Try.prog.underlying 27 = some (.slice (Try.prog.elem 27)) := by rw [hel]; exact Try.underlying27
  obtain ⟨i, hi', hzz⟩ := Option.map_eq_some_iff.1 info_u8
  simp only [Prod.mk.injEq] at hzz
  have key : ∀ w, (Instr.slice 27 (.slice (some ⟨b, off, none⟩) N c) (some (.int .i64 (lo : Int))) (some (.int .i64 (hi : Int))) none).run Try.prog w = .ok (.slice (some ⟨b, off + lo, none⟩) (hi - lo) (c - lo)) w := fun w => by
    rw [run_slice_lh w 27 _ _ _ hu .i64 .i64 (lo : Int) (hi : Int) (by omega) (by omega) (by omega), hel]
    have hne : ¬ c = lo := by omega
    simp [sizeOf, typeInfo, hi', hzz.2.1, Result.andThen, sliced, hne, Addr.add]
  exact ⟨key, fun w => by rw [run_sliceAt_slice w _ _ _ _ _ hu]; exact key w⟩
theorem bs_sub {w : World} {b off N c lo n : Nat} {l : List Nat} (h : Bs w (.slice (some ⟨b, off, none⟩) N c) l) (hn : lo + n ≤ N) (hp : 0 < n) : Bs w (.slice (some ⟨b, off + lo, none⟩) n (c - lo)) (sub l lo n) := by
  obtain ⟨hN, hc, hm⟩ := h.cap
  have h1 := bs_from h (k := lo) (by omega)
  rw [if_neg (by omega)] at h1
  have h2 := bs_take h1 (k := n) (by omega)
  have e : (Option.map (fun a : Addr => a.add lo) (some (⟨b, off, none⟩ : Addr))) = some ⟨b, off + lo, none⟩ := by simp [Addr.add]
  rw [e] at h2
  exact h2
/-- What Decode returns. -/
def decV (b : List Nat) : E := if decE b = 0 then rdE b else ez
def decT (b : List Nat) : Nat := if decE b = 0 then rdT b else 0
def decPost (b : List Nat) (w : World) (r : Ending) (w' : World) : Prop := r = .returned (.tuple #[ev (decV b), .int .u64 (decT b : Nat), .int .i64 (decE b)]) ∧ Below w.heap.size w w'
theorem num_one {l : List Nat} (h : ∀ x ∈ l, x < 256) (hl : 0 < l.length) : Crc.num (sub l 0 1) = l.getD 0 0 := by
  cases l with
  | nil => simp at hl
  | cons a t => simp [sub, Crc.num]
theorem sum_iff {b : List Nat} (h : b.length = 37) (hb : ∀ x ∈ b, x < 256) : sld (b.take 29) = b ↔ Crc.crc (b.take 29) = Crc.num (sub b 29 8) := by
  have e : b.take 29 ++ sub b 29 8 = b := by
    unfold sub
    rw [List.take_of_length_le (show (b.drop 29).length ≤ 8 by rw [List.length_drop]; omega), List.take_append_drop]
  have h8 : (sub b 29 8).length = 8 := sub_len (by omega)
  have hs := sub_lt hb 29 8
  constructor
  · intro q
    unfold sld at q
    have q2 : b.take 29 ++ le (Crc.crc (b.take 29)) 8 = b.take 29 ++ sub b 29 8 := q.trans e.symm
    have q3 := List.append_cancel_left q2
    rw [← q3, num_le 8 _ (Nat.lt_of_lt_of_le (crc_lt fun x hx => hb x (List.mem_of_mem_take hx)) (by decide))]
  · intro q
    unfold sld
    rw [q]
    have := le_num hs
    rw [h8] at this
    rw [this, e]
theorem decE_len {b : List Nat} (h : b.length ≠ 37) : decE b = 5 := by unfold decE; rw [if_pos h]
theorem decE_sum {b : List Nat} (h : b.length = 37) (hb : ∀ x ∈ b, x < 256) (hs : Crc.crc (b.take 29) ≠ Crc.num (sub b 29 8)) : decE b = 6 := by
  unfold decE; rw [if_neg (not_not_intro h), if_pos (fun q => hs ((sum_iff h hb).1 q))]
theorem decE_val {b : List Nat} (h : b.length = 37) (hb : ∀ x ∈ b, x < 256) (hs : Crc.crc (b.take 29) = Crc.num (sub b 29 8)) : decE b = if ok (rdE b) then 0 else 5 := by
  unfold decE; rw [if_neg (not_not_intro h), if_neg (not_not_intro ((sum_iff h hb).2 hs))]
theorem rdE_fit {b : List Nat} (h : b.length = 37) (hb : ∀ x ∈ b, x < 256) : Fit (rdE b) := by
  refine ⟨?_, sub_len (by omega), sub_lt hb _ _⟩
  have := Crc.num_lt (sub_lt hb 5 8)
  rw [sub_len (by omega)] at this
  exact this
theorem decV_fit {b : List Nat} (hb : ∀ x ∈ b, x < 256) : Fit (decV b) := by
  unfold decV
  by_cases h : decE b = 0
  · rw [if_pos h]; exact (enc_rd hb h).2.1
  · rw [if_neg h]; exact ez_fit
theorem decV_bad {b : List Nat} (h : decE b ≠ 0) : decV b = ez ∧ decT b = 0 := by unfold decV decT; rw [if_neg h, if_neg h]; exact ⟨rfl, rfl⟩
theorem decV_good {b : List Nat} (h : decE b = 0) : decV b = rdE b ∧ decT b = rdT b := by unfold decV decT; rw [if_pos h, if_pos h]; exact ⟨rfl, rfl⟩
/-- The pieces of 37 bytes. -/
theorem form37 {w : World} {v : Value} {b : List Nat} (h : Bs w v b) (h37 : b.length = 37) : ∃ g off c, v = .slice (some ⟨g, off, none⟩) 37 c ∧ 37 ≤ c := by
  obtain ⟨A, c, rfl, hm, hl, hz, hc⟩ := h
  obtain ⟨g, off, rfl, _⟩ := hc (by omega)
  exact ⟨g, off, c, by rw [h37], by omega⟩
end Go.Proofs.Ytfihiihakgcikaa
