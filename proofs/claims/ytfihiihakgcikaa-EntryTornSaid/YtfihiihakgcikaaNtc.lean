/- Layer 15: numbers byte by byte: written and read, the program's and the reference's. -/
import Derived.Test.YtfihiihakgcikaaNtb
import Derived.Test.YtfihiihakgcikaaIj
namespace Go.Proofs.Ytfihiihakgcikaa
open Go Go.RowKit Ent
set_option linter.unusedVariables false
set_option linter.unusedSimpArgs false
/-- Bytes of the caller's own memory (at B or above), all else below B as it was. -/
def ownPost (B : Nat) (l : List Nat) (w : World) (e : Ending) (w' : World) : Prop := ∃ v, e = .returned v ∧ OwB w' B v l ∧ Below B w w'
theorem shr_u8 (n k : Nat) : (n : Int) / 2 ^ (8 * k) % 256 = ((n / 2 ^ (8 * k) % 256 : Nat) : Int) := by
  have h : (2 : Int) ^ (8 * k) = ((2 ^ (8 * k) : Nat) : Int) := by norm_cast
  rw [h]
  omega
set_option maxHeartbeats 2000000 in
set_option maxRecDepth 100000 in
theorem pnumw_any (B : Nat) (v : Value) (b : List Nat) (n c : Nat) (w : World) (hb : OwB w B v b) (hn : n < 2 ^ 64) (hc : c ≤ 8) (hl : b.length ≤ 1000000) (hB : B ≤ w.heap.size) :
    Calls Try.prog 17 #[v, .int .u64 (n : Int), .int .i64 (c : Int)] w (ownPost B (b ++ le n c) w) := by
  have N64 := Lib.hid hn
  have ML := Lib.hid hl
  have ST := Lib.hid hb
  have BZ := Lib.hid hB
  clear hb hl hB hn
  go_enter Try.func17, Try.ntmps17
  go_wp2_with fail
  go_loopw [0, 9] (fun s i wr => ∃ (k : Nat), k ≤ c ∧ i = .int .i64 (k : Int) ∧ Hid (OwB wr B s (b ++ le n k) ∧ Below B w wr)) (fun _ i _ => c - (intOf i).toNat)
  case atStart => exact ⟨0, Nat.zero_le _, rfl, Lib.hid ⟨by rw [show b ++ le n 0 = b by simp [le]]; exact ST.out, Below.refl _ _⟩⟩
  case round =>
    obtain ⟨k, hk, rfl, F⟩ := hrel
    by_cases hlt : k < c
    · have kI : (k : Int) < (c : Int) := by omega
      obtain ⟨z, hz⟩ : ∃ z, n / 2 ^ (8 * k) % 256 = z := ⟨_, rfl⟩
      have SH := Lib.hid (shr_u8 n k)
      rw [hz] at SH
      have NX := Lib.hid (le_succ n k)
      rw [hz] at NX
      have SRC := Lib.hid (show Bs (wr.alloc (.cells #[.int .u8 (z : Int)] 5)) (.slice (some ⟨wr.heap.size, 0, none⟩) 1 1) [z] from bs_one wr _ z (by omega))
      have LN := Lib.hid (show (b ++ le n k).length + 1 ≤ 1000010 by rw [List.length_append, le_len]; have := ML.out; omega)
      have OA := Lib.hid (F.out.1.below ((Below.refl _ _).alloc (Nat.le_refl _) (.cells #[.int .u8 (z : Int)] 5)))
      have BA := Lib.hid (F.out.2.alloc (Nat.le_trans BZ.out F.out.2.size) (.cells #[.int .u8 (z : Int)] 5))
      have SZ := Lib.hid F.out.2.size
      clear F hz
      go_wp2_with (first | rw [SH.out] | (at_builtin; refine wp_app rfl (.tmp 12) (.tmp 18) rfl B _ _ (b ++ le n k) [z] rfl rfl OA.out SRC.out (by have := LN.out; simp at this ⊢; omega) (by have := SZ.out; have := BZ.out; simp; omega) ?_; intro x2 w2 hown2 hg2))
      go_roundw
      case rel => exact ⟨k + 1, by omega, by go_num, Lib.hid ⟨by rw [NX.out, ← List.append_assoc]; exact hown2, BA.out.trans hg2⟩⟩
      case measure => simp [intOf]; omega
    · have ek : c = k := by omega
      subst ek
      have kI : ¬ (c : Int) < (c : Int) := by omega
      go_wp2_with fail
      go_ret
      exact ⟨_, rfl, F.out⟩
set_option maxHeartbeats 2000000 in
set_option maxRecDepth 100000 in
theorem rput_any (v : Value) (b : List Nat) (n c : Nat) (w : World) (hb : Bs w v b) (hn : n < 2 ^ 64) (hc : c ≤ 8) (hl : b.length ≤ 1000000) :
    Calls Try.prog 19 #[v, .int .u64 (n : Int), .int .i64 (c : Int)] w (newB (b ++ le n c) w) := by
  have N64 := Lib.hid hn
  have H := Lib.hid hb
  obtain ⟨A1, c1, e1⟩ := hb.form
  obtain ⟨m1, em⟩ : ∃ m, b.length = m := ⟨_, rfl⟩
  rw [em] at e1
  have E1 := Lib.hid e1
  have ML := Lib.hid (show b.length ≤ 1000000 from hl)
  rw [e1]
  clear hb e1 em hl hn
  have MK := Lib.hid (OwB.made w (Nat.le_refl _))
  have HA := Lib.hid (show Bs (w.alloc (.cells #[] 5)) (.slice A1 m1 c1) b by rw [← E1.out]; exact H.out.alloc _)
  go_enter Try.func19, Try.ntmps19
  go_wp2_with (at_builtin; refine wp_app rfl (.tmp 8) (.tmp 9) rfl w.heap.size _ _ [] b rfl rfl MK.out HA.out (by have := ML.out; simp; omega) (by simp) ?_; intro x1 w1 hown1 hg1)
  have ST := Lib.hid (show OwB w1 w.heap.size x1 b from hown1)
  have BW := Lib.hid (((Below.refl w.heap.size w).alloc (Nat.le_refl _) _).trans hg1)
  clear hown1 hg1 MK HA
  go_loopw [0, 7] (fun s i wr => ∃ (k : Nat), k ≤ c ∧ i = .int .i64 (k : Int) ∧ Hid (OwB wr w.heap.size s (b ++ le n k) ∧ Below w.heap.size w wr)) (fun _ i _ => c - (intOf i).toNat)
  case atStart => exact ⟨0, Nat.zero_le _, rfl, Lib.hid ⟨by rw [show b ++ le n 0 = b by simp [le]]; exact ST.out, BW.out⟩⟩
  case round =>
    obtain ⟨k, hk, rfl, F⟩ := hrel
    by_cases hlt : k < c
    · have kI : (k : Int) < (c : Int) := by omega
      obtain ⟨z, hz⟩ : ∃ z, n / 2 ^ (8 * k) % 256 = z := ⟨_, rfl⟩
      have SH := Lib.hid (shr_u8 n k)
      rw [hz] at SH
      have NX := Lib.hid (le_succ n k)
      rw [hz] at NX
      have SRC := Lib.hid (show Bs (wr.alloc (.cells #[.int .u8 (z : Int)] 5)) (.slice (some ⟨wr.heap.size, 0, none⟩) 1 1) [z] from bs_one wr _ z (by omega))
      have LN := Lib.hid (show (b ++ le n k).length + 1 ≤ 1000010 by rw [List.length_append, le_len]; have := ML.out; omega)
      have OA := Lib.hid (F.out.1.below ((Below.refl _ _).alloc (Nat.le_refl _) (.cells #[.int .u8 (z : Int)] 5)))
      have BA := Lib.hid (F.out.2.alloc F.out.2.size (.cells #[.int .u8 (z : Int)] 5))
      have SZ := Lib.hid F.out.2.size
      clear F hz
      go_wp2_with (first | rw [SH.out] | (at_builtin; refine wp_app rfl (.tmp 16) (.tmp 23) rfl w.heap.size _ _ (b ++ le n k) [z] rfl rfl OA.out SRC.out (by have := LN.out; simp at this ⊢; omega) (by have := SZ.out; simp; omega) ?_; intro x2 w2 hown2 hg2))
      go_roundw
      case rel => exact ⟨k + 1, by omega, by go_num, Lib.hid ⟨by rw [NX.out, ← List.append_assoc]; exact hown2, BA.out.trans hg2⟩⟩
      case measure => simp [intOf]; omega
    · have ek : c = k := by omega
      subst ek
      have kI : ¬ (c : Int) < (c : Int) := by omega
      go_wp2_with fail
      go_ret
      exact ⟨_, rfl, F.out⟩
theorem shl_u64 {x k : Nat} (h : 2 ^ (8 * k) * x < 2 ^ 64) : IntKind.u64.wrap ((x : Int) * 2 ^ (8 * k)) = ((2 ^ (8 * k) * x : Nat) : Int) := by
  have e : (x : Int) * 2 ^ (8 * k) = ((2 ^ (8 * k) * x : Nat) : Int) := by push_cast; exact Int.mul_comm _ _
  rw [e, IntKind.wrap_u64]
  omega
set_option maxHeartbeats 2000000 in
set_option maxRecDepth 100000 in
theorem pnumr_any (v : Value) (l : List Nat) (w : World) (hb : Bs w v l) (h8 : l.length ≤ 8) :
    Calls Try.prog 20 #[v] w fun e w' => e = .returned (.int .u64 (Crc.num l : Nat)) ∧ w = w' := by
  have H := Lib.hid hb
  obtain ⟨A1, c1, rfl⟩ := hb.form
  obtain ⟨n, hn⟩ : ∃ n, l.length = n := ⟨_, rfl⟩
  have LN := Lib.hid hn
  have LT := Lib.hid hb.lt
  rw [hn] at h8 H ⊢
  clear hb hn
  go_enter Try.func20, Try.ntmps20
  go_wp2_with fail
  go_loop [3, 7] (fun s i => ∃ (k y : Nat), k ≤ n ∧ i = .int .i64 (k : Int) ∧ s = .int .u64 (y : Int) ∧ Hid (y = Crc.num (l.take k))) (fun _ i => n - (intOf i).toNat)
  case atStart => exact ⟨0, 0, Nat.zero_le _, rfl, rfl, Lib.hid (by simp [Crc.num])⟩
  case round =>
    obtain ⟨k, y, hk, rfl, rfl, F⟩ := hrel
    by_cases hlt : k < n
    · have kI : (k : Int) < (n : Int) := by omega
      obtain ⟨b, off, rfl, hc⟩ := Bs.nth H.out rfl hlt
      obtain ⟨x, hx⟩ : ∃ x, l.getD k 0 = x := ⟨_, rfl⟩
      have Q := Lib.hid (num_or LT.out (k := k) (by rw [LN.out]; exact hlt) (by omega))
      rw [hx] at hc Q
      have SH := Lib.hid (shl_u64 Q.out.2)
      have NX := Lib.hid Q.out.1
      rw [← F.out] at NX
      obtain ⟨z, hz⟩ : ∃ z, 2 ^ (8 * k) * x = z := ⟨_, rfl⟩
      rw [hz] at SH NX
      obtain ⟨y2, hy2⟩ : ∃ y2, Crc.num (l.take (k + 1)) = y2 := ⟨_, rfl⟩
      rw [hy2] at NX
      have Y2 := Lib.hid hy2
      have X8 : x < 256 := by rw [← hx]; exact H.out.getD_lt k
      clear hz hy2 Q F hx
      go_wp2_with (first | rw [SH.out] | rw [NX.out])
      go_round
      case rel => exact ⟨k + 1, y2, by omega, by go_num, rfl, Lib.hid Y2.out.symm⟩
      case measure => simp [intOf]; omega
    · have ek : n = k := by omega
      subst ek
      have kI : ¬ (n : Int) < (n : Int) := by omega
      have E := Lib.hid (show y = Crc.num l by rw [F.out, ← LN.out, List.take_length])
      go_wp2_with fail
      go_ret
      exact ⟨by rw [E.out]; rfl, rfl⟩
set_option maxHeartbeats 2000000 in
set_option maxRecDepth 100000 in
theorem rget_any (v : Value) (l : List Nat) (w : World) (hb : Bs w v l) (h8 : l.length ≤ 8) :
    Calls Try.prog 21 #[v] w fun e w' => e = .returned (.int .u64 (Crc.num l : Nat)) ∧ w = w' := by
  have H := Lib.hid hb
  obtain ⟨A1, c1, rfl⟩ := hb.form
  obtain ⟨n, hn⟩ : ∃ n, l.length = n := ⟨_, rfl⟩
  have LN := Lib.hid hn
  have LT := Lib.hid hb.lt
  rw [hn] at h8 H ⊢
  clear hb hn
  go_enter Try.func21, Try.ntmps21
  go_wp2_with fail
  go_loop [3, 4] (fun s i => ∃ (k y : Nat), k ≤ n ∧ i = .int .i64 (k : Int) ∧ s = .int .u64 (y : Int) ∧ Hid (y = Crc.num (l.take k))) (fun _ i => n - (intOf i).toNat)
  case atStart => exact ⟨0, 0, Nat.zero_le _, rfl, rfl, Lib.hid (by simp [Crc.num])⟩
  case round =>
    obtain ⟨k, y, hk, rfl, rfl, F⟩ := hrel
    by_cases hlt : k < n
    · have kI : (k : Int) < (n : Int) := by omega
      obtain ⟨b, off, rfl, hc⟩ := Bs.nth H.out rfl hlt
      obtain ⟨x, hx⟩ : ∃ x, l.getD k 0 = x := ⟨_, rfl⟩
      have Q := Lib.hid (num_or LT.out (k := k) (by rw [LN.out]; exact hlt) (by omega))
      rw [hx] at hc Q
      have SH := Lib.hid (shl_u64 Q.out.2)
      have NX := Lib.hid Q.out.1
      rw [← F.out] at NX
      obtain ⟨z, hz⟩ : ∃ z, 2 ^ (8 * k) * x = z := ⟨_, rfl⟩
      rw [hz] at SH NX
      obtain ⟨y2, hy2⟩ : ∃ y2, Crc.num (l.take (k + 1)) = y2 := ⟨_, rfl⟩
      rw [hy2] at NX
      have Y2 := Lib.hid hy2
      have X8 : x < 256 := by rw [← hx]; exact H.out.getD_lt k
      clear hz hy2 Q F hx
      go_wp2_with (first | rw [SH.out] | rw [NX.out])
      go_round
      case rel => exact ⟨k + 1, y2, by omega, by go_num, rfl, Lib.hid Y2.out.symm⟩
      case measure => simp [intOf]; omega
    · have ek : n = k := by omega
      subst ek
      have kI : ¬ (n : Int) < (n : Int) := by omega
      have E := Lib.hid (show y = Crc.num l by rw [F.out, ← LN.out, List.take_length])
      go_wp2_with fail
      go_ret
      exact ⟨by rw [E.out]; rfl, rfl⟩
end Go.Proofs.Ytfihiihakgcikaa
