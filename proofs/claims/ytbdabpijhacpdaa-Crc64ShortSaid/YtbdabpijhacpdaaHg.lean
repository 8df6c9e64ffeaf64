/- Layer 8: the walk of Crc64Burst. -/
import Derived.Test.YtbdabpijhacpdaaHe
import Derived.StillTailTactics
namespace Go.Proofs.Ytbdabpijhacpdaa
open Go Go.RowKit
set_option linter.unusedVariables false
set_option linter.unusedSimpArgs false
theorem own_row {w : World} {base : Nat} {e : TypeId} {v : Value} {n : Nat} {l : List Nat} (h : w.ownsRow base e 1 v n (l.map bv)) (hn : 0 < n) : ∃ g cap cur, v = .slice (some ⟨g, 0, none⟩) n cap ∧ base ≤ g ∧ Row w g e cur ∧ n ≤ cap ∧ cap ≤ maxLen ∧ cur.size = cap ∧ ∀ k, k < n → cur[k]? = some (.int .u8 ((l.getD k 0 : Nat) : Int)) := by
  obtain ⟨h0, h⟩ := h
  rcases h with ⟨-, h⟩ | ⟨g, cap, cur, rfl, hg, hh, hle, hm, hs, ht⟩
  · omega
  · refine ⟨g, cap, cur, rfl, hg, hh, hle, hm, by omega, fun k hk => ?_⟩
    have hl : l.length = n := by rw [List.length_map] at h0; omega
    have h1 := getD_bv (l := l) (k := k) (by omega)
    rw [← ht, Nat.mul_one, List.getElem?_take_of_lt hk] at h1
    simpa using h1
def BuSt (w wr : World) (g n cap : Nat) (t : TypeId) (b : List Nat) (f p k : Nat) : Prop :=
  Below w.heap.size w wr ∧ ∃ cur c, Row wr g t cur ∧ cur.size = cap ∧ c.length = n ∧ (∀ x ∈ c, x < 256) ∧ (∀ j, j < n → cur[j]? = some (.int .u8 ((c.getD j 0 : Nat) : Int))) ∧ Crc.num c = Crc.num b ^^^ 2 ^ f * (p % 2 ^ k)
set_option maxHeartbeats 2000000 in
set_option maxRecDepth 100000 in
theorem burstlaw_main (v : Value) (b : List Nat) (z p : Nat) (w : World) (hb : Bs w v b) (hz : z < 65536) (hp : p < 2 ^ 64) (h9 : 9 ≤ b.length) (h200 : b.length ≤ 200) (hp0 : p ≠ 0) :
    Calls Try.prog 10 #[v, .int .u16 (z : Int), .int .u64 (p : Int)] w (lawPost w) := by
  have H0 := Lib.hid hb
  obtain ⟨A1, c1, e1⟩ := hb.form
  obtain ⟨n, en⟩ : ∃ n, b.length = n := ⟨_, rfl⟩
  have EN := Lib.hid en
  rw [en] at e1 h9 h200
  have E1 := Lib.hid e1
  rw [e1]
  clear hb e1 en
  have LL := Lib.hid (show 0 + n ≤ maxLen ∧ 0 + n ≤ 140737488355328 by unfold maxLen; omega)
  obtain ⟨i0, hi, hz0, hz1, hz2⟩ := info_parts info_u8
  have I0 := Lib.hid (And.intro hi (And.intro hz0 (And.intro hz1 hz2)))
  clear hi hz0 hz1 hz2
  have hA : ¬ (n : Int) < 9 := by omega
  have hB : ¬ (200 : Int) < (n : Int) := by omega
  have hC : ((p : Int) == 0) = false := by simpa using hp0
  obtain ⟨f, hf⟩ : ∃ f, z % (8 * n - 63) = f := ⟨_, rfl⟩
  have fl : f + 64 ≤ 8 * n := by have := Nat.mod_lt z (show 8 * n - 63 > 0 by omega); omega
  have F := Lib.hid (show (z : Int) % (8 * (n : Int) - 63) = (f : Int) by rw [← hf, show 8 * (n : Int) - 63 = ((8 * n - 63 : Nat) : Int) by omega]; rfl)
  have nz : ¬ (8 * (n : Int) - 63 = 0) := by omega
  have P64 := Lib.hid hp
  have P0 := Lib.hid hp0
  clear hf hp hp0
  go_enter Try.func10, Try.ntmps10
  go_wp2_with fail
  refine (awake_any w).mono ?_
  rintro e w1 ⟨rfl, hbel⟩
  have B1 := Lib.hid hbel
  have H1 := Lib.hid (H0.out.below hbel)
  clear hbel
  go_wp2_with ((at_builtin; refine wpList_append_bs rfl (.tmp 32) (.tmp 33) 22 rfl w1.heap.size 5 i0 Try.underlying22 I0.out.1 I0.out.2.1 I0.out.2.2.1 I0.out.2.2.2 (.slice (some ⟨w1.heap.size, 0, none⟩) 0 0) (.slice A1 n c1) 0 [] rfl (World.ownsRow_made w1 #[] 0 (Nat.le_refl _) (Nat.zero_le _) rfl) b rfl (by rw [← E1.out]; exact H1.out.alloc _) (by rw [EN.out]; exact LL.out.1) (by rw [EN.out]; exact LL.out.2) (by simp) ?_; rw [EN.out]; intro x1 w2 hown1 hg1; have HO := Lib.hid hown1; have HG := Lib.hid (((Below.refl w1.heap.size w1).alloc (Nat.le_refl _) _).grown hg1 (by simp) (fun g hg => by cases hg; exact Nat.le_refl _))); clear hown1 hg1)
  rw [F.out]
  obtain ⟨g, cap, cur, rfl, hg, hrow, hcap, hmax, hsz, hcs⟩ := own_row (l := b) HO.out (by omega)
  have e0 : (0 : Nat) + n = n := Nat.zero_add n
  rw [e0] at HO hcap hcs ⊢
  have G := Lib.hid hg
  have CAP := Lib.hid (And.intro hcap hmax)
  have ST := Lib.hid (show BuSt w1 w2 g n cap 5 b f p 0 from ⟨HG.out, cur, b, hrow, hsz, EN.out, H1.out.lt, hcs, by rw [Nat.pow_zero, Nat.mod_one, Nat.mul_zero, Nat.xor_zero]⟩)
  clear hg hrow hcap hmax hsz hcs e0 HO HG F
  go_loopw [9] (fun i wr => ∃ k : Nat, k ≤ 64 ∧ i = .int .i64 (k : Int) ∧ Hid (BuSt w1 wr g n cap 5 b f p k)) (fun i _ => 64 - (intOf i).toNat)
  case atStart => exact ⟨0, by decide, rfl, ST⟩
  case round =>
    obtain ⟨k, hk, rfl, H⟩ := hrel
    by_cases hlt : k < 64
    · have kI : (k : Int) < 64 := by omega
      obtain ⟨hbel, cur, c, hrow, hsz, hcl, hc256, hcs, hnum⟩ := H.out
      obtain ⟨j, hj⟩ : ∃ j, (f + k) / 8 = j := ⟨_, rfl⟩
      have jn : j < n := by omega
      have STEP := Lib.hid (Crc.burst_step (b := b) (c := c) (f := f) (p := p) (i := k) hnum (by rw [hj, hcl]; exact jn))
      obtain ⟨r, hr⟩ : ∃ r, (f + k) % 8 = r := ⟨_, rfl⟩
      have r8 : r < 8 := by omega
      obtain ⟨q, hq⟩ : ∃ q, p / 2 ^ k % 2 = q := ⟨_, rfl⟩
      have q2 : q < 2 := by omega
      obtain ⟨x, hx⟩ : ∃ x, c.getD j 0 = x := ⟨_, rfl⟩
      have x256 : x < 256 := by rw [← hx, getD_in (by rw [hcl]; exact jn)]; exact hc256 _ (List.getElem_mem _)
      have s256 : 2 ^ r * q < 256 := by
        have h1 : 2 ^ r ≤ 2 ^ 7 := Nat.pow_le_pow_right (by decide) (by omega)
        have h2 : 2 ^ r * q ≤ 2 ^ 7 * 1 := Nat.mul_le_mul h1 (by omega)
        omega
      rw [hj, hr, hq, hx] at STEP
      have cell := hrow.cell j
      rw [hcs j jn, hx] at cell
      have fz : wr.frozen? ⟨g, j, none⟩ = false := hrow.frozen j
      have PQ : bits BinOp.and IntKind.u64 ((p : Int) / 2 ^ k) 1 = (q : Int) := by
        rw [← hq, ← and1_u64 (a := p / 2 ^ k) (Nat.lt_of_le_of_lt (Nat.div_le_self _ _) P64.out)]; congr 1
      have eQ : ((f : Int) + (k : Int)).tdiv 8 = (j : Int) := by rw [← hj]; exact (Int.ofNat_tdiv (f + k) 8).symm
      have eR : ((f : Int) + (k : Int)).tmod 8 = (r : Int) := by rw [← hr]; exact (Int.ofNat_tmod (f + k) 8).symm
      have eQ2 : ((f : Int) + (k : Int)) / 8 = (j : Int) := by rw [← hj]; rfl
      have eR2 : ((f : Int) + (k : Int)) % 8 = (r : Int) := by rw [← hr]; rfl
      have jb : j < 200 := by omega
      have WJ : IntKind.i64.wrap (j : Int) = (j : Int) := by rw [IntKind.wrap_i64]; omega
      have WR : IntKind.i64.wrap (r : Int) = (r : Int) := by rw [IntKind.wrap_i64]; omega
      have WQ : IntKind.u8.wrap (q : Int) = (q : Int) := by rw [IntKind.wrap_u8]; omega
      have SH : IntKind.u8.wrap ((q : Int) * 2 ^ r) = ((2 ^ r * q : Nat) : Int) := by
        rw [show (q : Int) * 2 ^ r = ((2 ^ r * q : Nat) : Int) by push_cast; rw [Int.mul_comm], IntKind.wrap_u8]; omega
      have XO := Lib.hid (u8_xor_nat x (2 ^ r * q) x256 s256)
      have HN := Lib.hid (And.intro hbel (And.intro hrow (And.intro hsz (And.intro hcl (And.intro hc256 hcs)))))
      clear hj hr hq hx hbel hrow hsz hcl hc256 hcs hnum H
      go_wp2
      refine wp_region_still_tail 14 (by kernel_rfl) (by kernel_rfl) ?_
      simp only [List.take_succ_cons, List.take_zero, List.drop_succ_cons, List.drop_zero]
      repeat still_step
      refine wpStill_nil ?_
      change wpList _ _ _ _ _ wr.drew
      go_wp2
      go_roundw
      case rel =>
        obtain ⟨hbel, hrow, hsz, hcl, hc256, hcs⟩ := HN.out
        refine ⟨k + 1, by omega, by go_num, Lib.hid ⟨?_, cur.setIfInBounds j (.int .u8 ((x ^^^ 2 ^ r * q : Nat) : Int)), c.set j (x ^^^ 2 ^ r * q), ?_, ?_, by rw [List.length_set, hcl], ?_, fun i hi => ?_, STEP.out⟩⟩
        · exact (hbel.setCell G.out _).drew
        · have e2 : (2 : Int) ^ r * (q : Int) = ((2 ^ r * q : Nat) : Int) := by push_cast; rfl
          rw [e2, XO.out]; exact hrow.store j _
        · rw [Array.size_setIfInBounds]; exact hsz
        · exact Crc.set_lt hc256 (Nat.xor_lt_two_pow (n := 8) x256 s256)
        · rcases Nat.lt_trichotomy i j with h | h | h
          · rw [Array.getElem?_setIfInBounds_ne (by omega), hcs i hi, List.getD_eq_getElem?_getD, List.getD_eq_getElem?_getD, List.getElem?_set_ne (by omega)]
          · subst h
            rw [Array.getElem?_setIfInBounds_self_of_lt (by rw [hsz]; have := CAP.out.1; omega), List.getD_eq_getElem?_getD, List.getElem?_set_self (by rw [hcl]; exact hi)]; rfl
          · rw [Array.getElem?_setIfInBounds_ne (by omega), hcs i hi, List.getD_eq_getElem?_getD, List.getD_eq_getElem?_getD, List.getElem?_set_ne (by omega)]
      case measure => simp [intOf]; omega
    · obtain rfl : k = 64 := by omega
      obtain ⟨hbel, cur, c, hrow, hsz, hcl, hc256, hcs, hnum⟩ := H.out
      have NE := Lib.hid (Crc.crc_burst (a := b) (b := c) (f := f) (p := p) (by rw [EN.out, hcl]) (by rw [EN.out]; omega) P64.out P0.out (Crc.burst_end P64.out hnum))
      have BC := Lib.hid (Bs.of_row (n := n) (c := cap) hrow hcl CAP.out hc256 hcs)
      have BB := Lib.hid (show Bs wr (.slice A1 n c1) b by rw [← E1.out]; exact H1.out.below hbel)
      have BW := Lib.hid (B1.out.trans (hbel.mono B1.out.size))
      clear hbel hrow hsz hcl hc256 hcs hnum H
      go_wp2_with fail
      refine (pcrcsum_any _ b wr BB.out).mono ?_
      rintro e w3 ⟨rfl, hb⟩
      have BC3 := Lib.hid (BC.out.below hb)
      have BW3 := Lib.hid (BW.out.trans (hb.mono BW.out.size))
      clear hb
      go_wp2_with fail
      refine (pcrcsum_any _ c w3 BC3.out).mono ?_
      rintro e w4 ⟨rfl, hb⟩
      have BW4 := Lib.hid (BW3.out.trans (hb.mono BW3.out.size))
      clear hb
      have NI := Lib.hid (show ((Crc.crc b : Nat) : Int) ≠ ((Crc.crc c : Nat) : Int) by have := NE.out; omega)
      go_wp2_with fail
      go_ret
      exact ⟨congrArg (fun t => Ending.returned (.bool t)) (by simp; have := NE.out; omega), BW4.out⟩
set_option maxHeartbeats 1000000 in
set_option maxRecDepth 100000 in
theorem burstlaw_early (v : Value) (b : List Nat) (z p : Nat) (w : World) (hb : Bs w v b) (hno : b.length < 9 ∨ 200 < b.length ∨ p = 0) :
    Calls Try.prog 10 #[v, .int .u16 (z : Int), .int .u64 (p : Int)] w (lawPost w) := by
  obtain ⟨A1, c1, rfl⟩ := hb.form
  clear hb
  generalize b.length = n at *
  by_cases h9 : n < 9
  · have hA : (n : Int) < 9 := by omega
    clear hno h9
    go_enter Try.func10, Try.ntmps10
    go_wp2_with fail
    refine (awake_any w).mono ?_
    rintro e w1 ⟨rfl, hb⟩
    have B1 := Lib.hid hb
    clear hb
    go_wp2_with fail
    go_ret
    exact ⟨rfl, B1.out⟩
  have hA : ¬ (n : Int) < 9 := by omega
  by_cases h2 : 200 < n
  · have hB : (200 : Int) < (n : Int) := by omega
    clear hno h9 h2
    go_enter Try.func10, Try.ntmps10
    go_wp2_with fail
    refine (awake_any w).mono ?_
    rintro e w1 ⟨rfl, hb⟩
    have B1 := Lib.hid hb
    clear hb
    go_wp2_with fail
    go_ret
    exact ⟨rfl, B1.out⟩
  have hB : ¬ (200 : Int) < (n : Int) := by omega
  obtain rfl : p = 0 := by omega
  have hC : (((0 : Nat) : Int) == 0) = true := rfl
  clear hno h9 h2
  go_enter Try.func10, Try.ntmps10
  go_wp2_with fail
  refine (awake_any w).mono ?_
  rintro e w1 ⟨rfl, hb⟩
  have B1 := Lib.hid hb
  clear hb
  go_wp2_with fail
  go_ret
  exact ⟨rfl, B1.out⟩
theorem burstlaw_walk (v : Value) (b : List Nat) (z p : Nat) (w : World) (hb : Bs w v b) (hz : z < 65536) (hp : p < 2 ^ 64) :
    Calls Try.prog 10 #[v, .int .u16 (z : Int), .int .u64 (p : Int)] w (lawPost w) := by
  by_cases h : b.length < 9 ∨ 200 < b.length ∨ p = 0
  · exact burstlaw_early v b z p w hb h
  · exact burstlaw_main v b z p w hb hz hp (by omega) (by omega) (by omega)
end Go.Proofs.Ytbdabpijhacpdaa
