/- Layer 15: entries and their encoding. -/
import Derived.Test.YtfihiihakgcikaaHb
namespace Go.Proofs.Ytfihiihakgcikaa
namespace Ent
open Crc
/-- A number in little-endian bytes. -/
def le (n : Nat) : Nat → List Nat
  | 0 => []
  | k + 1 => n % 256 :: le (n / 256) k
theorem le_len : ∀ (k n : Nat), (le n k).length = k
  | 0, _ => rfl
  | k + 1, n => by rw [le, List.length_cons, le_len k]
theorem le_lt : ∀ (k n : Nat), ∀ x ∈ le n k, x < 256
  | 0, _ => by intro x h; cases h
  | k + 1, n => by
    intro x h
    rcases List.mem_cons.1 h with rfl | h
    · exact Nat.mod_lt _ (by decide)
    · exact le_lt k _ x h
theorem num_cons (a : Nat) (b : List Nat) (h : a < 256) : num (a :: b) = a + 256 * num b := by
  show a ^^^ (256 * num b) = _
  have := Nat.two_pow_add_eq_or_of_lt (i := 8) (b := a) (by omega) (num b)
  have e : a ^^^ (256 * num b) = 256 * num b + a := by
    have hx : (256 * num b) ^^^ a = 256 * num b + a := by
      have h2 : (2 ^ 8 * num b) ^^^ a = 2 ^ 8 * num b + a := by
        apply Nat.eq_of_testBit_eq
        intro i
        rw [Nat.testBit_xor, Nat.testBit_two_pow_mul_add _ (by omega : a < 2 ^ 8), Nat.testBit_two_pow_mul]
        by_cases hi : i < 8
        · have : ¬ 8 ≤ i := by omega
          simp [hi, this]
        · have h3 : a.testBit i = false := Nat.testBit_lt_two_pow (Nat.lt_of_lt_of_le (by omega : a < 2 ^ 8) (Nat.pow_le_pow_right (by decide) (by omega)))
          have : 8 ≤ i := by omega
          simp [hi, this, h3]
      exact h2
    rw [Nat.xor_comm, hx]
  omega
theorem num_le : ∀ (k n : Nat), n < 256 ^ k → num (le n k) = n
  | 0, n, h => by
    have : n = 0 := by simpa using h
    rw [this]; rfl
  | k + 1, n, h => by
    rw [le, num_cons _ _ (Nat.mod_lt _ (by decide)), num_le k (n / 256) (by rw [Nat.pow_succ] at h; omega)]
    omega
theorem le_num : ∀ {b : List Nat}, (∀ x ∈ b, x < 256) → le (num b) b.length = b
  | [], _ => rfl
  | a :: b, h => by
    have ha := h a List.mem_cons_self
    rw [List.length_cons, le, num_cons _ _ ha, show (a + 256 * num b) % 256 = a by omega, show (a + 256 * num b) / 256 = num b by omega, le_num fun x hx => h x (List.mem_cons_of_mem _ hx)]
theorem crc_lt {b : List Nat} (h : ∀ x ∈ b, x < 256) : crc b < 2 ^ 64 := by
  unfold crc upd
  exact Nat.xor_lt_two_pow (by decide) (rg_lt b h (Nat.xor_lt_two_pow (by decide) (by decide)))
/-- An entry. -/
structure E where
  kind : Int
  block : Int
  ver : Nat
  data : List Nat
instance (a b : E) : Decidable (a = b) := decidable_of_iff (a.kind = b.kind ∧ a.block = b.block ∧ a.ver = b.ver ∧ a.data = b.data) (by cases a; cases b; simp)
def ok (e : E) : Prop := (e.kind = 1 ∨ e.kind = 2) ∧ 0 ≤ e.block ∧ e.block < 65536 ∧ 1 ≤ e.ver ∧ (e.kind = 1 ∨ e.data = List.replicate 8 0)
instance (e : E) : Decidable (ok e) := inferInstanceAs (Decidable (_ ∧ _ ∧ _ ∧ _ ∧ _))
/-- The numbers of an entry fit. -/
def Fit (e : E) : Prop := e.ver < 2 ^ 64 ∧ e.data.length = 8 ∧ ∀ x ∈ e.data, x < 256
def body (e : E) (t : Nat) : List Nat := le e.kind.toNat 1 ++ (le e.block.toNat 4 ++ (le e.ver 8 ++ (e.data ++ le t 8)))
def sld (b : List Nat) : List Nat := b ++ le (crc b) 8
def enc (e : E) (t : Nat) : List Nat := sld (body e t)
def sub (b : List Nat) (i n : Nat) : List Nat := (b.drop i).take n
def rdE (b : List Nat) : E := ⟨(num (sub b 0 1) : Nat), (num (sub b 1 4) : Nat), num (sub b 5 8), sub b 13 8⟩
def rdT (b : List Nat) : Nat := num (sub b 21 8)
def decE (b : List Nat) : Int := if b.length ≠ 37 then 5 else if sld (b.take 29) ≠ b then 6 else if ok (rdE b) then 0 else 5
theorem body_len {e : E} (h : Fit e) (t : Nat) : (body e t).length = 29 := by
  simp only [body, List.length_append, le_len, h.2.1]
theorem body_lt {e : E} (h : Fit e) (t : Nat) : ∀ x ∈ body e t, x < 256 := by
  intro x hx
  simp only [body, List.mem_append] at hx
  rcases hx with hx | hx | hx | hx | hx
  · exact le_lt _ _ x hx
  · exact le_lt _ _ x hx
  · exact le_lt _ _ x hx
  · exact h.2.2 x hx
  · exact le_lt _ _ x hx
theorem sld_len (b : List Nat) : (sld b).length = b.length + 8 := by simp [sld, le_len]
theorem sld_lt {b : List Nat} (h : ∀ x ∈ b, x < 256) : ∀ x ∈ sld b, x < 256 := by
  intro x hx
  rcases List.mem_append.1 hx with hx | hx
  · exact h x hx
  · exact le_lt _ _ x hx
theorem sld_take (b : List Nat) : (sld b).take b.length = b := by unfold sld; exact List.take_left' rfl
theorem sub_len {b : List Nat} {i n : Nat} (h : i + n ≤ b.length) : (sub b i n).length = n := by simp [sub]; omega
theorem sub_lt {b : List Nat} (h : ∀ x ∈ b, x < 256) (i n : Nat) : ∀ x ∈ sub b i n, x < 256 := fun x hx => h x (List.mem_of_mem_drop (List.mem_of_mem_take hx))
theorem sub_skip {a c : List Nat} {i n : Nat} : sub (a ++ c) (a.length + i) n = sub c i n := by
  unfold sub; rw [List.drop_append, List.drop_eq_nil_of_le (by omega), List.nil_append, Nat.add_sub_cancel_left]
theorem sub_head {a c : List Nat} {n : Nat} (h : a.length = n) : sub (a ++ c) 0 n = a := by
  unfold sub; rw [List.drop_zero]; exact List.take_left' h
/-- The parts of an encoding, whatever follows it. -/
theorem parts {e : E} (h : Fit e) (t : Nat) (r : List Nat) : sub (body e t ++ r) 0 1 = le e.kind.toNat 1 ∧ sub (body e t ++ r) 1 4 = le e.block.toNat 4 ∧ sub (body e t ++ r) 5 8 = le e.ver 8 ∧ sub (body e t ++ r) 13 8 = e.data ∧ sub (body e t ++ r) 21 8 = le t 8 := by
  unfold body
  simp only [List.append_assoc]
  refine ⟨sub_head (le_len _ _), ?_, ?_, ?_, ?_⟩
  · have := sub_skip (a := le e.kind.toNat 1) (c := le e.block.toNat 4 ++ (le e.ver 8 ++ (e.data ++ (le t 8 ++ r)))) (i := 0) (n := 4)
    rw [le_len] at this
    exact this.trans (sub_head (le_len _ _))
  · have a1 := sub_skip (a := le e.kind.toNat 1) (c := le e.block.toNat 4 ++ (le e.ver 8 ++ (e.data ++ (le t 8 ++ r)))) (i := 4) (n := 8)
    have a2 := sub_skip (a := le e.block.toNat 4) (c := le e.ver 8 ++ (e.data ++ (le t 8 ++ r))) (i := 0) (n := 8)
    rw [le_len] at a1 a2
    exact a1.trans (a2.trans (sub_head (le_len _ _)))
  · have a1 := sub_skip (a := le e.kind.toNat 1) (c := le e.block.toNat 4 ++ (le e.ver 8 ++ (e.data ++ (le t 8 ++ r)))) (i := 12) (n := 8)
    have a2 := sub_skip (a := le e.block.toNat 4) (c := le e.ver 8 ++ (e.data ++ (le t 8 ++ r))) (i := 8) (n := 8)
    have a3 := sub_skip (a := le e.ver 8) (c := e.data ++ (le t 8 ++ r)) (i := 0) (n := 8)
    rw [le_len] at a1 a2 a3
    exact a1.trans (a2.trans (a3.trans (sub_head h.2.1)))
  · have a1 := sub_skip (a := le e.kind.toNat 1) (c := le e.block.toNat 4 ++ (le e.ver 8 ++ (e.data ++ (le t 8 ++ r)))) (i := 20) (n := 8)
    have a2 := sub_skip (a := le e.block.toNat 4) (c := le e.ver 8 ++ (e.data ++ (le t 8 ++ r))) (i := 16) (n := 8)
    have a3 := sub_skip (a := le e.ver 8) (c := e.data ++ (le t 8 ++ r)) (i := 8) (n := 8)
    have a4 := sub_skip (a := e.data) (c := le t 8 ++ r) (i := 0) (n := 8)
    rw [le_len] at a1 a2 a3
    rw [h.2.1] at a4
    exact a1.trans (a2.trans (a3.trans (a4.trans (sub_head (le_len _ _)))))
theorem rd_enc {e : E} (h : ok e) (hf : Fit e) {t : Nat} (ht : t < 2 ^ 64) : rdE (enc e t) = e ∧ rdT (enc e t) = t := by
  obtain ⟨p0, p1, p2, p3, p4⟩ := parts hf t (le (crc (body e t)) 8)
  obtain ⟨k, b, v, d⟩ := e
  obtain ⟨hk, hb, hb2, hv, _⟩ := h
  simp only at hk hb hb2 hv p0 p1 p2 p3 p4
  refine ⟨?_, ?_⟩
  · show E.mk _ _ _ _ = _
    rw [show enc ⟨k, b, v, d⟩ t = body ⟨k, b, v, d⟩ t ++ le (crc (body ⟨k, b, v, d⟩ t)) 8 from rfl, p0, p1, p2, p3, num_le 1 _ (by omega), num_le 4 _ (by omega), num_le 8 _ (Nat.lt_of_lt_of_le hf.1 (by decide))]
    rw [Int.toNat_of_nonneg (by omega), Int.toNat_of_nonneg hb]
  · show num _ = _
    rw [show enc ⟨k, b, v, d⟩ t = body ⟨k, b, v, d⟩ t ++ le (crc (body ⟨k, b, v, d⟩ t)) 8 from rfl, p4, num_le 8 _ (Nat.lt_of_lt_of_le ht (by decide))]
theorem enc_len {e : E} (hf : Fit e) (t : Nat) : (enc e t).length = 37 := by unfold enc; rw [sld_len, body_len hf]
theorem enc_take {e : E} (hf : Fit e) (t : Nat) : (enc e t).take 29 = body e t := by
  have := sld_take (body e t)
  rw [body_len hf] at this
  exact this
theorem dec_enc {e : E} (h : ok e) (hf : Fit e) {t : Nat} (ht : t < 2 ^ 64) : decE (enc e t) = 0 := by
  unfold decE
  rw [if_neg (not_not_intro (enc_len hf t)), enc_take hf, if_neg (not_not_intro (show sld (body e t) = enc e t from rfl)), (rd_enc h hf ht).1, if_pos h]
theorem cut2 (b : List Nat) (i n m : Nat) : sub b i n ++ sub b (i + n) m = sub b i (n + m) := by
  unfold sub
  rw [List.take_add, List.drop_drop]
/-- What is decoded is the encoding of the result. -/
theorem enc_rd {b : List Nat} (hb : ∀ x ∈ b, x < 256) (h : decE b = 0) : ok (rdE b) ∧ Fit (rdE b) ∧ rdT b < 2 ^ 64 ∧ enc (rdE b) (rdT b) = b := by
  unfold decE at h
  by_cases hl : b.length ≠ 37
  · rw [if_pos hl] at h; omega
  rw [if_neg hl] at h
  by_cases hs : sld (b.take 29) ≠ b
  · rw [if_pos hs] at h; omega
  rw [if_neg hs] at h
  by_cases ho : ok (rdE b)
  · have hl := Decidable.not_not.1 hl
    have hs := Decidable.not_not.1 hs
    have p64 : ∀ i, i + 8 ≤ 37 → num (sub b i 8) < 2 ^ 64 := fun i hi => by
      have := num_lt (sub_lt hb i 8)
      rw [sub_len (by omega)] at this
      exact this
    refine ⟨ho, ⟨p64 5 (by omega), sub_len (by omega), sub_lt hb _ _⟩, p64 21 (by omega), ?_⟩
    have q : ∀ i n, i + n ≤ 37 → le (num (sub b i n)) n = sub b i n := fun i n hi => by
      have := le_num (sub_lt hb i n)
      rw [sub_len (by omega)] at this
      exact this
    have hbody : body (rdE b) (rdT b) = b.take 29 := by
      unfold body rdE rdT
      simp only [Int.toNat_natCast]
      rw [q 0 1 (by omega), q 1 4 (by omega), q 5 8 (by omega), q 21 8 (by omega), cut2 b 13 8 8, cut2 b 5 8 16, cut2 b 1 4 24, cut2 b 0 1 28]
      unfold sub
      rw [List.drop_zero]
    unfold enc
    rw [hbody, hs]
  · rw [if_neg ho] at h; omega
/-- 29 bytes with their sum. -/
theorem dec_sld {b : List Nat} (h : b.length = 29) : decE (sld b) = if ok (rdE (sld b)) then 0 else 5 := by
  unfold decE
  have := sld_take b
  rw [h] at this
  rw [if_neg (by rw [sld_len]; omega), this, if_neg (not_not_intro rfl)]
/-- One byte is changed. -/
theorem changed {b : List Nat} (hl : b.length = 29) (hb : ∀ x ∈ b, x < 256) {j y : Nat} (hj : j < 37) (hy : y < 256) (hne : y ≠ (sld b).getD j 0) : decE ((sld b).set j y) = 6 := by
  have hsl : (sld b).length = 37 := by rw [sld_len]; omega
  unfold decE
  rw [if_neg (by rw [List.length_set]; omega), if_pos]
  intro hq
  by_cases h29 : j < 29
  · have e1 : (sld b).set j y = b.set j y ++ le (crc b) 8 := by unfold sld; rw [List.set_append_left _ _ (by omega)]
    have e2 : ((sld b).set j y).take 29 = b.set j y := by rw [e1]; exact List.take_left' (by rw [List.length_set]; exact hl)
    rw [e2, e1] at hq
    unfold sld at hq
    have hc := List.append_cancel_left hq
    have hb' : ∀ x ∈ b.set j y, x < 256 := fun x hx => (List.mem_or_eq_of_mem_set hx).elim (hb x) (fun e => e ▸ hy)
    have hcc : crc (b.set j y) = crc b := by
      have := congrArg num hc
      rw [num_le 8 _ (Nat.lt_of_lt_of_le (crc_lt hb') (by decide)), num_le 8 _ (Nat.lt_of_lt_of_le (crc_lt hb) (by decide))] at this
      exact this
    have g : (sld b).getD j 0 = b.getD j 0 := by
      unfold sld
      simp only [List.getD_eq_getElem?_getD, List.getElem?_append_left (show j < b.length by omega)]
    rw [g] at hne
    have hg : b.getD j 0 < 256 := by rw [getD_in (by omega)]; exact hb _ (List.getElem_mem _)
    have hx : b.getD j 0 ^^^ (b.getD j 0 ^^^ y) = y := by rw [← Nat.xor_assoc, Nat.xor_self, Nat.zero_xor]
    have hn := num_set b j (b.getD j 0 ^^^ y) (by omega)
    rw [hx] at hn
    refine crc_burst (a := b) (b := b.set j y) (f := 8 * j) (p := b.getD j 0 ^^^ y) (by simp) (by omega) (Nat.lt_of_lt_of_le (Nat.xor_lt_two_pow (n := 8) hg hy) (by decide)) (fun e => hne ((xor_eq_zero e).symm)) ?_ hcc.symm
    rw [hn, ← Nat.xor_assoc, Nat.xor_self, Nat.zero_xor]
  · have e2 : ((sld b).set j y).take 29 = b := by
      rw [List.take_set, ← hl, sld_take, List.set_eq_of_length_le (by omega)]
    rw [e2] at hq
    have := congrArg (fun l => l.getD j 0) hq
    simp only [List.getD_eq_getElem?_getD, List.getElem?_set_self (show j < (sld b).length by omega)] at this
    exact hne (by simpa [List.getD_eq_getElem?_getD] using this.symm)
end Ent
end Go.Proofs.Ytfihiihakgcikaa
