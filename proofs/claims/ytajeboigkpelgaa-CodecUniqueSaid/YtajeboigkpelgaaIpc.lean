/- The program's reader: Uint. -/
import Derived.Test.YtajeboigkpelgaaIpb
namespace Go.Proofs.Ytajeboigkpelgaa
open Go Go.RowKit
set_option linter.unusedVariables false
set_option linter.unusedSimpArgs false
/-- k bytes have been read: n is their number so far, or no number is encoded. -/
def Cod.Go (l : List Nat) (k n : Nat) : Prop := k ≤ l.length ∧ n < 2 ^ 64 ∧ ((k < 10 ∧ Cod.Inv l k n) ∨ (10 ≤ k ∧ Cod.dec 0 l = none))
theorem u64_shl (g m : Nat) : IntKind.u64.wrap ((g : Int) * 2 ^ m) = ((g * 2 ^ m % 2 ^ 64 : Nat) : Int) := by
  rw [IntKind.wrap_u64, show (g : Int) * 2 ^ m = ((g * 2 ^ m : Nat) : Int) by rw [Int.natCast_mul, Int.natCast_pow]; rfl]
  omega
theorem int_shr (y m : Nat) : (y : Int) / 2 ^ m = ((y / 2 ^ m : Nat) : Int) := by rw [Int.natCast_ediv, Int.natCast_pow]; rfl
theorem or_add {n g m : Nat} (h : n < 2 ^ m) : n ||| g * 2 ^ m = n + 2 ^ m * g := by
  rw [Nat.or_comm, Nat.mul_comm g, ← Nat.two_pow_add_eq_or_of_lt h, Nat.add_comm]
theorem Cod.go_step {l : List Nat} {k n x g : Nat} (h : Cod.Go l k n) (hl : k < l.length) (hx : l.getD k 0 = x) (h256 : x < 256) (hg : x % 128 = g) :
    ∃ y z r : Nat, IntKind.u64.wrap ((g : Int) * 2 ^ min (7 * k) 64) = (y : Int) ∧ (y : Int) / 2 ^ min (7 * k) 64 = (z : Int) ∧ bits .or .u64 (n : Int) (y : Int) = (r : Int) ∧
      ((z ≠ g ∧ Cod.dec 0 l = none) ∨ (z = g ∧ ((128 ≤ x ∧ Cod.Go l (k + 1) r) ∨ (x < 128 ∧ g = 0 ∧ 0 < k ∧ Cod.dec 0 l = none) ∨ (x < 128 ∧ ¬ (g = 0 ∧ 0 < k) ∧ r < 2 ^ 64 ∧ Cod.dec 0 l = some (r, l.drop (k + 1)))))) := by
  subst hx
  obtain ⟨h1, h2, h3⟩ := h
  refine ⟨g * 2 ^ min (7 * k) 64 % 2 ^ 64, g * 2 ^ min (7 * k) 64 % 2 ^ 64 / 2 ^ min (7 * k) 64, n ||| g * 2 ^ min (7 * k) 64 % 2 ^ 64, u64_shl _ _, int_shr _ _, bits_or_u64_nat _ _ (by omega) (Nat.mod_lt _ (by decide)), ?_⟩
  have g128 : g < 128 := by omega
  rcases h3 with ⟨hk, hI⟩ | ⟨hk, hd⟩
  · rcases (by omega : k ≤ 8 ∨ k = 9) with h8 | h9
    · have hp : 2 ^ (7 * k) ≤ 2 ^ 56 := Nat.pow_le_pow_right (by decide) (by omega)
      have hm : g * 2 ^ (7 * k) < 2 ^ 64 := by
        have := Nat.mul_le_mul_right (2 ^ (7 * k)) (show g ≤ 127 by omega)
        omega
      have hpos : 0 < 2 ^ (7 * k) := Nat.pow_pos (by decide)
      rw [Nat.min_eq_left (by omega), Nat.mod_eq_of_lt hm, Nat.mul_div_cancel _ hpos, or_add hI.2.2.1]
      refine Or.inr ⟨rfl, ?_⟩
      have h9 : ¬ (k = 9 ∧ 1 < l.getD k 0) := by omega
      have hs := Cod.inv_sum hI hk h9
      rcases Nat.lt_or_ge (l.getD k 0) 128 with hlt | hge
      · have eg : g = l.getD k 0 := by omega
        rcases Classical.em (g = 0 ∧ 0 < k) with h0 | h0
        · exact Or.inr (Or.inl ⟨hlt, h0.1, h0.2, Cod.inv_long hI hl hk h9 h0.2 (by omega)⟩)
        · refine Or.inr (Or.inr ⟨hlt, h0, by rw [← hg]; exact hs.2, ?_⟩)
          rw [eg]
          exact Cod.inv_last hI hl hk h9 hlt (by omega)
      · refine Or.inl ⟨hge, by omega, by rw [← hg]; exact hs.2, Or.inl ⟨by omega, ?_⟩⟩
        rw [← hg]
        exact Cod.inv_next hI hl hk h9 (by omega)
    · subst h9
      have e1 : g * 2 ^ min (7 * 9) 64 % 2 ^ 64 = g % 2 * 2 ^ 63 := by
        show g * 2 ^ 63 % 2 ^ 64 = _
        omega
      have e2 : g % 2 * 2 ^ 63 / 2 ^ min (7 * 9) 64 = g % 2 := by
        show g % 2 * 2 ^ 63 / 2 ^ 63 = _
        omega
      rw [e1, e2]
      rcases Nat.lt_or_ge 1 g with hg1 | hg1
      · exact Or.inl ⟨by omega, Cod.inv_big hI hl rfl (by omega)⟩
      · refine Or.inr ⟨by omega, ?_⟩
        have eo : n ||| g % 2 * 2 ^ 63 = n + 2 ^ (7 * 9) * g := by
          rw [or_add (m := 63) hI.2.2.1]; show n + 2 ^ 63 * (g % 2) = n + 2 ^ 63 * g; omega
        rw [eo]
        rcases Nat.lt_or_ge (l.getD 9 0) 128 with hlt | hge
        · have eg : g = l.getD 9 0 := by omega
          have h9 : ¬ (9 = 9 ∧ 1 < l.getD 9 0) := by omega
          have hs := Cod.inv_sum hI hk h9
          rcases Classical.em (g = 0 ∧ 0 < 9) with h0 | h0
          · exact Or.inr (Or.inl ⟨hlt, h0.1, h0.2, Cod.inv_long hI hl hk h9 h0.2 (by omega)⟩)
          · refine Or.inr (Or.inr ⟨hlt, h0, by rw [← hg]; exact hs.2, ?_⟩)
            rw [eg]
            exact Cod.inv_last hI hl hk h9 hlt (by omega)
        · refine Or.inl ⟨hge, by omega, ?_, Or.inr ⟨by omega, Cod.inv_big hI hl rfl (by omega)⟩⟩
          have := hI.2.2.1
          omega
  · have em : min (7 * k) 64 = 64 := by omega
    rw [em]
    have e1 : g * 2 ^ 64 % 2 ^ 64 = 0 := Nat.mul_mod_left _ _
    rw [e1, Nat.zero_div, Nat.or_zero]
    rcases Nat.eq_zero_or_pos g with h0 | h0
    · refine Or.inr ⟨h0.symm, ?_⟩
      rcases Nat.lt_or_ge (l.getD k 0) 128 with hlt | hge
      · exact Or.inr (Or.inl ⟨hlt, h0, by omega, hd⟩)
      · exact Or.inl ⟨hge, by omega, h2, Or.inr ⟨by omega, hd⟩⟩
    · exact Or.inl ⟨by omega, hd⟩
theorem Bs.at0 {w : World} {A : Option Addr} {n c : Nat} {l : List Nat} (h : Bs w (.slice A n c) l) (hn : 0 < n) : ∃ b off, A = some ⟨b, off, none⟩ ∧ w.cell? ⟨b, off, none⟩ = some (.int .u8 ((l.getD 0 0 : Nat) : Int)) := by
  obtain ⟨b, off, h1, h2⟩ := h.nth rfl hn
  exact ⟨b, off, h1, by simpa using h2⟩
set_option maxHeartbeats 4000000 in
set_option maxRecDepth 100000 in
theorem puint_any (S : Nat) (l : List Nat) (bad : Bool) (o : Nat → Prop) (w : World) (h : RdP w S l bad o) (hL : l.length ≤ 1000000) :
    Calls Try.prog 26 #[.pointer (some ⟨S, 0, none⟩)] w (uPost l bad (fun w' r b => RdP w' S r b o) o w) := by
  have HR := Lib.hid h
  have LL := Lib.hid hL
  have BY := Lib.hid h.byt
  obtain ⟨N, hN⟩ : ∃ N, l.length = N := ⟨_, rfl⟩
  have HN := Lib.hid hN
  clear h hL hN
  go_enter Try.func26, Try.ntmps26
  go_wp2_with fail
  go_loopw [4, 5, 6, 7, 8] (fun v i _ _ _ wr => ∃ k n : Nat, v = .int .u64 (n : Int) ∧ i = .int .i64 (((7 * k : Nat)) : Int) ∧ Hid (Cod.Go l k n ∧ RdP wr S (l.drop k) bad o ∧ Chg o w wr)) (fun _ i _ _ _ _ => 7 * N - (intOf i).toNat)
  case atStart => exact ⟨0, 0, rfl, rfl, Lib.hid ⟨⟨Nat.zero_le _, by decide, Or.inl ⟨by decide, Cod.inv_0 l⟩⟩, by simpa using HR.out, Chg.refl _ _⟩⟩
  case round =>
    obtain ⟨k, n, rfl, rfl, H⟩ := hrel
    have DL := Lib.hid (show (l.drop k).length = N - k by rw [List.length_drop, HN.out])
    by_cases hlt : k < N
    · have T := Lib.hid (ptake_in S (l.drop k) bad o wr H.out.2.1 1 (by rw [DL.out]; omega) (by rw [DL.out]; have := LL.out; have := HN.out; omega))
      go_wp2_with fail
      refine T.out.mono ?_
      rintro e w1 ⟨A, c, rfl, hb, hown, hr, hch⟩
      have hat := hb.at0 (by decide)
      obtain ⟨b0, off0, rfl, p0⟩ := hat
      have ex : ((l.drop k).take 1).getD 0 0 = l.getD k 0 := by
        rw [Cod.drop_at (by rw [HN.out]; exact hlt)]; rfl
      rw [ex] at p0
      obtain ⟨x, hx⟩ : ∃ x, l.getD k 0 = x := ⟨_, rfl⟩
      have EX := Lib.hid hx
      rw [hx] at p0
      have R1 := Lib.hid hr
      have C1 := Lib.hid hch
      clear hb hown hr hch ex hx
      obtain ⟨g, hg⟩ : ∃ g, x % 128 = g := ⟨_, rfl⟩
      have hgI : (x : Int) % 128 = (g : Int) := by omega
      have g128 : g < 128 := by omega
      obtain ⟨y, z, r, hy, hz, hr, CS⟩ := Cod.go_step H.out.1 (by rw [HN.out]; exact hlt) EX.out (by rw [← EX.out, getD_in (by rw [HN.out]; exact hlt)]; exact BY.out _ (List.getElem_mem _)) hg
      have D1 : (l.drop k).drop 1 = l.drop (k + 1) := by rw [List.drop_drop]
      rw [D1] at R1
      have CW := Lib.hid (H.out.2.2.trans C1.out)
      have FL := Lib.hid (pfail_any S _ bad o w1 R1.out)
      obtain ⟨s, hs⟩ : ∃ s, 7 * k = s := ⟨_, rfl⟩
      have HS := Lib.hid hs
      rw [hs] at hy hz ⊢
      have s63 : s ≤ 70000000 := by have := LL.out; have := HN.out; omega
      clear hs hg D1 H C1
      rcases CS with ⟨hzg, hd⟩ | ⟨rfl, CS⟩
      · have hne : ((z : Int) != (g : Int)) = true := by simp; omega
        have DN := Lib.hid (Cod.rU_none (bad := bad) hd)
        clear hzg hd
        go_wp2_with fail
        refine FL.out.mono ?_
        rintro e w2 ⟨rfl, hr2, hch2⟩
        go_wp2_with fail
        go_ret2
        exact ⟨by rw [DN.out]; rfl, by rw [DN.out]; exact hr2, CW.out.trans hch2⟩
      · rcases CS with ⟨hx1, hgo⟩ | ⟨hx1, h0, hk0, hd⟩ | ⟨hx1, h0, hr64, hd⟩
        · have hxI : (128 : Int) ≤ (x : Int) := by omega
          have GO := Lib.hid hgo
          clear hgo
          go_wp2_with fail
          go_roundw
          case rel => exact ⟨k + 1, r, rfl, by rw [show 7 * (k + 1) = s + 7 by have := HS.out; omega]; go_num, Lib.hid ⟨GO.out, R1.out, CW.out⟩⟩
          case measure => simp [intOf]; have := HS.out; omega
        · have hxI : ¬ (128 : Int) ≤ (x : Int) := by omega
          have hg0 : ((z : Int) == 0) = true := by simp; omega
          have s0 : 0 < s := by have := HS.out; omega
          have DN := Lib.hid (Cod.rU_none (bad := bad) hd)
          clear h0 hd
          go_wp2_with fail
          refine FL.out.mono ?_
          rintro e w2 ⟨rfl, hr2, hch2⟩
          go_wp2_with fail
          go_ret2
          exact ⟨by rw [DN.out]; rfl, by rw [DN.out]; exact hr2, CW.out.trans hch2⟩
        · have hxI : ¬ (128 : Int) ≤ (x : Int) := by omega
          have DN := Lib.hid (Cod.rU_some (bad := bad) hd)
          by_cases hz0 : z = 0
          · have hg0 : ((z : Int) == 0) = true := by simp; omega
            have s0 : decide (0 < s) = false := by have := HS.out; simp; omega
            clear h0 hd hz0
            go_wp2_with fail
            go_ret2
            exact ⟨by rw [DN.out]; rfl, by rw [DN.out]; exact R1.out, CW.out⟩
          · have hg0 : ((z : Int) == 0) = false := by simp; omega
            clear h0 hd hz0
            go_wp2_with fail
            go_ret2
            exact ⟨by rw [DN.out]; rfl, by rw [DN.out]; exact R1.out, CW.out⟩
    · have T := Lib.hid (ptake_out S (l.drop k) bad o wr H.out.2.1 1 (by rw [DL.out]; omega) (by rw [DL.out]; have := LL.out; have := HN.out; omega))
      have hd : Cod.dec 0 l = none := by
        rcases H.out.1.2.2 with ⟨_, hI⟩ | ⟨_, hd⟩
        · exact Cod.inv_end hI (Or.inl (by rw [HN.out]; exact hlt))
        · exact hd
      have DN := Lib.hid (Cod.rU_none (bad := bad) hd)
      have CW := Lib.hid H.out.2.2
      clear hd
      go_wp2_with fail
      refine T.out.mono ?_
      rintro e w2 ⟨rfl, hr2, hch2⟩
      go_wp2_with fail
      go_ret2
      exact ⟨by rw [DN.out]; rfl, by rw [DN.out]; exact hr2, CW.out.trans hch2⟩
end Go.Proofs.Ytajeboigkpelgaa
