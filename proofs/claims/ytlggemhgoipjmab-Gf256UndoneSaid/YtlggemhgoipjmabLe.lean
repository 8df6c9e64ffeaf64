/- The walk of the law on adding multiples twice. -/
import Derived.Test.YtlggemhgoipjmabLd
namespace Go.Proofs.Ytlggemhgoipjmab
open Go Go.RowKit

def turned (l : List Nat) : List Nat := (List.range l.length).map fun i => l.getD (l.length - 1 - i) 0 ^^^ (i % 256)
theorem turned_len (l : List Nat) : (turned l).length = l.length := by simp [turned]
theorem turned_at (l : List Nat) (k : Nat) (hk : k < l.length) : (turned l).getD k 0 = l.getD (l.length - 1 - k) 0 ^^^ (k % 256) := by
  rw [getD_in (by rw [turned_len]; exact hk)]
  simp [turned]
theorem turned_bytes (l : List Nat) (hl : ∀ x ∈ l, x < 256) : ∀ x ∈ turned l, x < 256 := by
  intro x hx
  simp only [turned, List.mem_map, List.mem_range] at hx
  obtain ⟨i, hi, rfl⟩ := hx
  rw [getD_in (by omega)]
  exact Gf.xor_lt _ _ (hl _ (List.getElem_mem _)) (by omega)
theorem fused_ext (a b : List Nat) (hl : a.length = b.length) (h : ∀ k, k < a.length → a.getD k 0 = b.getD k 0) : a = b := by
  refine List.ext_getElem hl fun k h1 h2 => ?_
  have := h k h1
  rwa [getD_in h1, getD_in h2] at this
theorem fused_twice (l s : List Nat) (c : Nat) : fused (fused l s c) s c = l := by
  refine fused_ext _ _ (by rw [fused_len, fused_len]) fun k hk => ?_
  rw [fused_len, fused_len] at hk
  rw [fused_at _ _ _ _ (by rw [fused_len]; exact hk), fused_at _ _ _ _ hk, Nat.xor_assoc, Nat.xor_self, Nat.xor_zero]
theorem fused_sum (l s : List Nat) (c d : Nat) (hc : c < 256) (hd : d < 256) : fused (fused l s c) s d = fused l s (c ^^^ d) := by
  refine fused_ext _ _ (by rw [fused_len, fused_len, fused_len]) fun k hk => ?_
  rw [fused_len, fused_len] at hk
  rw [fused_at _ _ _ _ (by rw [fused_len]; exact hk), fused_at _ _ _ _ hk, fused_at _ _ _ _ hk, Nat.xor_assoc, Gf.mul_xor_left _ _ _ hc hd]

set_option maxHeartbeats 1000000 in
set_option maxRecDepth 100000 in
theorem undone_long (v0 : Value) (l : List Nat) (c d : Nat) (w : World) (h0 : Bs w v0 l) (hlong : 1000 < l.length) :
    Calls Try.prog 4 #[v0, .int .u8 (c : Int), .int .u8 (d : Int)] w (lawPost w) := by
  obtain ⟨A0, c0, rfl⟩ := h0.form
  clear h0
  generalize l.length = n at *
  go_enter Try.func4, Try.ntmps4
  go_wp2_with (go_at_call 5; refine (awake_any _).mono ?_; rintro e w1 ⟨rfl, hbel⟩)
  have HB := Lib.hid hbel
  clear hbel
  go_wp2_with fail
  go_ret
  exact ⟨rfl, HB.out⟩

set_option maxHeartbeats 1000000 in
set_option maxRecDepth 100000 in
theorem undone_short (v0 : Value) (l : List Nat) (c d : Nat) (w : World) (h0 : Bs w v0 l) (hc : c < 256) (hd : d < 256) (hn : l.length ≤ 1000) :
    Calls Try.prog 4 #[v0, .int .u8 (c : Int), .int .u8 (d : Int)] w (lawPost w) := by
  have h0' := h0
  obtain ⟨A0, c0, rfl, -, -, -, hc0⟩ := h0
  obtain ⟨n, en⟩ : ∃ n, l.length = n := ⟨_, rfl⟩
  rw [en] at hn hc0 h0' ⊢
  have H0 := Lib.hid h0'
  clear h0'
  have EN := Lib.hid en
  have HC0 := Lib.hid hc0
  obtain ⟨i0, hi, hz0, hz1, hz2⟩ := info_parts info_u8
  have I0 := Lib.hid (And.intro hi (And.intro hz0 (And.intro hz1 hz2)))
  have MB : i0.bytes * n ≤ 281474976710656 := by rw [hz2]; omega
  have ML : n ≤ maxLen := by unfold maxLen; omega
  have MM := Lib.hid (And.intro MB ML)
  clear hc0 en hi hz0 hz1 hz2 MB ML
  go_enter Try.func4, Try.ntmps4
  go_wp2_with (first
    | (go_at_call 5; refine (awake_any _).mono ?_; rintro e w1 ⟨rfl, hbel⟩; have HB := Lib.hid hbel; clear hbel)
    | (at_make; refine wpList_make_full _ rfl _ _ 22 rfl w1.heap.size 5 i0 (.int .u8 0) 1 Try.underlying22 I0.out.1 I0.out.2.1 I0.out.2.2.1 .i64 .i64 _ _ n rfl rfl rfl rfl MM.out.1 MM.out.2 (Nat.le_refl _) ?_; intro w2 hown hg))
  obtain ⟨cur, hrow, hcs⟩ : ∃ cur, Row w2 w1.heap.size 5 cur ∧ cur.size = n := by
    obtain ⟨-, hown⟩ := hown
    rcases hown with ⟨h, -⟩ | ⟨g, cap, cur, hv, -, hh, hle, -, hs, -⟩
    · cases h
    · injection hv with hv1 hv2 hv3
      injection hv1 with hv1
      injection hv1 with hv1
      subst hv1 hv3
      exact ⟨cur, hh, by simpa using hs⟩
  have hb2 : Below w1.heap.size w1 w2 := (Below.refl _ _).grown hg (Nat.le_refl _) (fun _ h => by cases h)
  have HR := Lib.hid hrow
  have HS := Lib.hid hcs
  have HB2 := Lib.hid hb2
  have H01 := Lib.hid (H0.out.below HB.out)
  clear hown hrow hcs hg hb2
  go_wp2
  go_loopw [8] (fun i wr => ∃ k : Nat, k ≤ n ∧ i = .int .i64 (k : Int) ∧ Hid (Below w1.heap.size w1 wr ∧ ∃ cs, Row wr w1.heap.size 5 cs ∧ cs.size = n ∧ ∀ j, j < k → cs[j]? = some (.int .u8 (((turned l).getD j 0 : Nat) : Int)))) (fun i _ => n - (intOf i).toNat)
  case atStart => exact ⟨0, Nat.zero_le _, rfl, Lib.hid ⟨HB2.out, cur, HR.out, HS.out, fun j hj => absurd hj (Nat.not_lt_zero j)⟩⟩
  case round =>
    obtain ⟨k, hk, rfl, H⟩ := hrel
    by_cases hlt : k < n
    · have hkI : (k : Int) < (n : Int) := by omega
      obtain ⟨b1, off1, rfl, q1⟩ := HC0.out (by omega)
      obtain ⟨hbel, cs, hrow, hcs, hdone⟩ := H.out
      have q0 := (HB.out.cell (p := ⟨b1, off1 + (n - 1 - k), none⟩) (World.block_lt_of_cell? w _ (q1 (n - 1 - k) (by omega)))).trans (q1 (n - 1 - k) (by omega))
      have q1' := (hbel.cell (p := ⟨b1, off1 + (n - 1 - k), none⟩) (World.block_lt_of_cell? w1 _ q0)).trans q0
      obtain ⟨x, hx⟩ : ∃ x, l.getD (n - 1 - k) 0 = x := ⟨_, rfl⟩
      have hx2 : x < 256 := hx ▸ H0.out.getD_lt _
      rw [hx] at q1'
      have hf : (turned l).getD k 0 = x ^^^ (k % 256) := by rw [turned_at l k (by rw [EN.out]; exact hlt), EN.out, hx]
      obtain ⟨old, hold⟩ : ∃ old, wr.cell? ⟨w1.heap.size, k, none⟩ = some old := by
        rw [hrow.cell]; exact ⟨cs[k], Array.getElem?_eq_getElem (by omega)⟩
      have hfz : wr.frozen? ⟨w1.heap.size, k, none⟩ = false := hrow.frozen k
      have hxor : bits BinOp.xor IntKind.u8 (x : Int) ((k : Int) % 256) = ((x ^^^ (k % 256) : Nat) : Int) := u8_xor_nat x (k % 256) hx2 (by omega)
      have HF := Lib.hid hf
      have HD := Lib.hid hdone
      have HB3 := Lib.hid hbel
      have HR2 := Lib.hid hrow
      have HS2 := Lib.hid hcs
      clear q1 q0 hx hf hdone hbel hrow hcs
      go_wp2
      go_roundw
      case rel =>
        refine ⟨k + 1, by omega, by go_num, Lib.hid ⟨HB3.out.setCell (Nat.le_refl _) _, _, HR2.out.store k _, by rw [Array.size_setIfInBounds]; exact HS2.out, fun j hj => ?_⟩⟩
        rcases Nat.lt_or_ge j k with h | h
        · rw [Array.getElem?_setIfInBounds_ne (by omega)]; exact HD.out j h
        · obtain rfl : j = k := by omega
          rw [Array.getElem?_setIfInBounds_self_of_lt (by rw [HS2.out]; exact hlt), HF.out]
      case measure => simp [intOf]; omega
    · obtain ⟨hbel, cs, hrow, hcs, hdone⟩ := H.out
      obtain rfl : k = n := by omega
      have S0 := Lib.hid (Bs.of_row (c := k) hrow ((turned_len l).trans EN.out) (by unfold maxLen; omega) (turned_bytes l H0.out.lt) hdone)
      have V0 := Lib.hid (H01.out.below hbel)
      have B0 := Lib.hid (HB.out.trans (hbel.mono HB.out.size))
      clear hbel hrow hcs hdone
      have T1 : Hid (l.length = (turned l).length) := Lib.hid (turned_len l).symm
      have T2 : Hid ((fused l (turned l) c).length = (turned l).length) := Lib.hid (by rw [fused_len, turned_len])
      have R1 : Hid (l.length ≤ 140737488351232) := Lib.hid (by rw [EN.out]; omega)
      have R2 : Hid ((fused l (turned l) c).length ≤ 140737488351232) := Lib.hid (by rw [fused_len]; exact R1.out)
      have hcd := Gf.xor_lt c d hc hd
      go_wp2_with fail
      refine (fused_any _ _ l (turned l) c _ V0.out S0.out T1.out hc R1.out).mono ?_
      rintro e wa ⟨x, rfl, hx, hba⟩
      have X1 := Lib.hid hx
      have S1 := Lib.hid (S0.out.below hba)
      have V1 := Lib.hid (V0.out.below hba)
      have B1 := Lib.hid (B0.out.trans (hba.mono B0.out.size))
      clear hx hba
      go_wp2_with fail
      refine (fused_any _ _ _ (turned l) c _ X1.out S1.out T2.out hc R2.out).mono ?_
      rintro e wb ⟨y, rfl, hy, hbb⟩
      rw [fused_twice] at hy
      have Y2 := Lib.hid hy
      have X2 := Lib.hid (X1.out.below hbb)
      have S2 := Lib.hid (S1.out.below hbb)
      have V2 := Lib.hid (V1.out.below hbb)
      have B2 := Lib.hid (B1.out.trans (hbb.mono B1.out.size))
      clear hy hbb
      go_wp2_with fail
      refine (fused_any _ _ _ (turned l) d _ X2.out S2.out T2.out hd R2.out).mono ?_
      rintro e wc ⟨z, rfl, hz, hbc⟩
      rw [fused_sum _ _ _ _ hc hd] at hz
      have Z3 := Lib.hid hz
      have Y3 := Lib.hid (Y2.out.below hbc)
      have S3 := Lib.hid (S2.out.below hbc)
      have V3 := Lib.hid (V2.out.below hbc)
      have B3 := Lib.hid (B2.out.trans (hbc.mono B2.out.size))
      clear hz hbc
      go_wp2_with (go_at_call 9; refine (add_any c d hc hd _).mono ?_; rintro e w' ⟨rfl, rfl⟩)
      refine (fused_any _ _ l (turned l) (c ^^^ d) _ V3.out S3.out T1.out hcd R1.out).mono ?_
      rintro e wd ⟨u, rfl, hu, hbd⟩
      have U4 := Lib.hid hu
      have Z4 := Lib.hid (Z3.out.below hbd)
      have Y4 := Lib.hid (Y3.out.below hbd)
      have V4 := Lib.hid (V3.out.below hbd)
      have B4 := Lib.hid (B3.out.trans (hbd.mono B3.out.size))
      clear hu hbd
      go_wp2_with (go_at_call 7; ((with_reducible first | refine (same_c _ _ _ _ Y4.out V4.out).mono ?_ | refine (same_c _ _ _ _ Z4.out U4.out).mono ?_); rintro e w' ⟨rfl, rfl⟩))
      go_ret
      exact ⟨rfl, B4.out⟩
theorem undone_walk (v0 : Value) (l : List Nat) (c d : Nat) (w : World) (h0 : Bs w v0 l) (hc : c < 256) (hd : d < 256) :
    Calls Try.prog 4 #[v0, .int .u8 (c : Int), .int .u8 (d : Int)] w (lawPost w) := by
  by_cases h : 1000 < l.length
  · exact undone_long v0 l c d w h0 h
  · exact undone_short v0 l c d w h0 hc hd (by omega)
end Go.Proofs.Ytlggemhgoipjmab
