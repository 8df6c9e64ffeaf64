/- The contracts of gf256's Add and Fused, and of the reference's Same and Fused. -/
import Derived.Test.YtfhgalfdlkdliaaGfc
import Derived.Test.YtfhgalfdlkdliaaMem
import Derived.Deep.QuietTactic
import Derived.BigQuiet
import Derived.StillTailTactics
import Derived.Deep.DeepMust
namespace Go.Proofs.Ytfhgalfdlkdliaa
open Go Go.RowKit

set_option maxHeartbeats 400000 in
theorem add_any (a b : Nat) (ha : a < 256) (hb : b < 256) (w : World) :
    Calls Try.prog 50 #[.int .u8 (a : Int), .int .u8 (b : Int)] w fun e w' => e = .returned (.int .u8 ((a ^^^ b : Nat) : Int)) ∧ w = w' := by
  have X := Lib.hid (u8_xor_nat a b ha hb)
  go_enter Try.func50, Try.ntmps50
  go_wp2
  go_ret
  exact ⟨ret_u8 X.out, rfl⟩

def fused (d s : List Nat) (c : Nat) : List Nat := (List.range d.length).map fun i => d.getD i 0 ^^^ Gf.mul c (s.getD i 0)
theorem fused_len (d s : List Nat) (c : Nat) : (fused d s c).length = d.length := by simp [fused]
theorem fused_at (d s : List Nat) (c k : Nat) (hk : k < d.length) : (fused d s c).getD k 0 = d.getD k 0 ^^^ Gf.mul c (s.getD k 0) := by
  rw [getD_in (by rw [fused_len]; exact hk)]
  simp [fused]

theorem fused_bytes (d s : List Nat) (c : Nat) (hd : ∀ x ∈ d, x < 256) (hc : c < 256) : ∀ x ∈ fused d s c, x < 256 := by
  intro x hx
  simp only [fused, List.mem_map, List.mem_range] at hx
  obtain ⟨i, hi, rfl⟩ := hx
  rw [getD_in hi]
  exact Gf.xor_lt _ _ (hd _ (List.getElem_mem hi)) (Gf.mul_lt _ _ hc)

theorem info_u8 : (Try.prog.info? 5).map (fun i => (i.zero, i.size, i.bytes)) = some (some (.int .u8 0), 1, 1) := by kernel_rfl

def fusedPost (d s : List Nat) (c : Nat) (w : World) (e : Ending) (w' : World) : Prop :=
  ∃ v, e = .returned (.tuple #[v, .int .i64 0]) ∧ Bs w' v (fused d s c) ∧ Below w.heap.size w w'
/-- .. and the list lies in new memory. -/
def fusedNew (d s : List Nat) (c : Nat) (w : World) (e : Ending) (w' : World) : Prop :=
  ∃ v, e = .returned (.tuple #[v, .int .i64 0]) ∧ Bs w' v (fused d s c) ∧ (∀ k, v.ownBlock = some k → w.heap.size ≤ k) ∧ Below w.heap.size w w'

set_option maxHeartbeats 1000000 in
set_option maxRecDepth 100000 in
theorem fused_new (v1 v2 : Value) (d s : List Nat) (c : Nat) (w : World) (h1 : Bs w v1 d) (h2 : Bs w v2 s) (hl : d.length = s.length) (hc : c < 256) (hr : d.length ≤ 140737488351232) :
    Calls Try.prog 47 #[v1, v2, .int .u8 (c : Int)] w (fusedNew d s c w) := by
  have H1 := Lib.hid h1
  have H2 := Lib.hid h2
  obtain ⟨A1, c1, rfl, -, -, -, hc1⟩ := h1
  obtain ⟨A2, c2, rfl, -, -, -, hc2⟩ := h2
  obtain ⟨n, hn⟩ : ∃ n, d.length = n := ⟨_, rfl⟩
  have hn2 : s.length = n := by omega
  rw [hn] at hc1 hr ⊢
  rw [hn2] at hc2 ⊢
  have HC1 := Lib.hid hc1
  have HC2 := Lib.hid hc2
  have N1 := Lib.hid hn
  have N2 := Lib.hid hn2
  obtain ⟨i0, hi, hz0, hz1, hz2⟩ := info_parts info_u8
  clear hc1 hc2 hl hn hn2
  have hm : (n : Int) ≤ 9223372036854775807 := by omega
  have MB : i0.bytes * n ≤ 281474976710656 := by rw [hz2]; omega
  have ML : n ≤ maxLen := by unfold maxLen; omega
  go_enter Try.func47, Try.ntmps47
  go_wp2_with (at_make; go_must (refine wpList_make_full _ rfl _ _ 27 rfl w.heap.size 5 i0 (.int .u8 0) 1 Try.underlying27 hi hz0 hz1 .i64 .i64 _ _ n rfl rfl rfl rfl MB ML (Nat.le_refl _) ?_); intro w1 hown hg)
  obtain ⟨hlen, hown⟩ := hown
  obtain ⟨cur, hrow, hcs⟩ : ∃ cur, Row w1 w.heap.size 5 cur ∧ cur.size = n := by
    rcases hown with ⟨h, -⟩ | ⟨g, cap, cur, hv, -, hh, hle, -, hs, -⟩
    · cases h
    · injection hv with hv1 hv2 hv3
      injection hv1 with hv1
      injection hv1 with hv1
      subst hv1 hv3
      exact ⟨cur, hh, by simpa using hs⟩
  have hb1 : Below w.heap.size w w1 := (Below.refl _ _).grown hg (Nat.le_refl _) (fun _ h => by cases h)
  have HR := Lib.hid hrow
  have HS := Lib.hid hcs
  have HB := Lib.hid hb1
  clear hlen hown hrow hcs hg hb1 MB ML hi hz0 hz1 hz2
  go_wp2
  go_loopw [9, 20] (fun _ i wr => ∃ k : Nat, k ≤ n ∧ i = .int .i64 (k : Int) ∧ Hid (Below w.heap.size w wr ∧ ∃ cs, Row wr w.heap.size 5 cs ∧ cs.size = n ∧ ∀ j, j < k → cs[j]? = some (.int .u8 (((fused d s c).getD j 0 : Nat) : Int)))) (fun _ i _ => n - (intOf i).toNat)
  case atStart => exact ⟨0, Nat.zero_le _, rfl, Lib.hid ⟨HB.out, cur, HR.out, HS.out, fun j hj => absurd hj (Nat.not_lt_zero j)⟩⟩
  case round =>
    obtain ⟨k, hk, rfl, H⟩ := hrel
    by_cases hlt : k < n
    · have hkI : (k : Int) < (n : Int) := by omega
      obtain ⟨b1, off1, rfl, q1⟩ := HC1.out (by omega)
      obtain ⟨b2, off2, rfl, q2⟩ := HC2.out (by omega)
      obtain ⟨hbel, cs, hrow, hcs, hdone⟩ := H.out
      have q1' := (hbel.cell (p := ⟨b1, off1 + k, none⟩) (World.block_lt_of_cell? w _ (q1 k hlt))).trans (q1 k hlt)
      have q2' := (hbel.cell (p := ⟨b2, off2 + k, none⟩) (World.block_lt_of_cell? w _ (q2 k hlt))).trans (q2 k hlt)
      obtain ⟨x, hx⟩ : ∃ x, d.getD k 0 = x := ⟨_, rfl⟩
      obtain ⟨y, hy⟩ : ∃ y, s.getD k 0 = y := ⟨_, rfl⟩
      have hx2 : x < 256 := hx ▸ H1.out.getD_lt k
      have hy2 : y < 256 := hy ▸ H2.out.getD_lt k
      rw [hx] at q1'
      rw [hy] at q2'
      have hf : (fused d s c).getD k 0 = x ^^^ Gf.mul c y := by rw [fused_at d s c k (by rw [N1.out]; exact hlt), hx, hy]
      have hmul := Gf.mul_lt c y hc
      obtain ⟨old, hold⟩ : ∃ old, wr.cell? ⟨w.heap.size, k, none⟩ = some old := by
        rw [hrow.cell]; exact ⟨cs[k], Array.getElem?_eq_getElem (by omega)⟩
      have hfz : wr.frozen? ⟨w.heap.size, k, none⟩ = false := hrow.frozen k
      have HF := Lib.hid hf
      have HD := Lib.hid hdone
      have HB2 := Lib.hid hbel
      have HR2 := Lib.hid hrow
      have HS2 := Lib.hid hcs
      clear q1 q2 hx hy hf hdone hbel hrow hcs
      go_wp2
      refine wp_region_still_tail 14 (by kernel_rfl) (by kernel_rfl) ?_
      simp only [List.take_succ_cons, List.take_zero, List.drop_succ_cons, List.drop_zero]
      repeat (first | still_step | still_call ((mul_any c y hc hy2 _).mono fun _ _ h => ⟨h.1, h.2.symm⟩) | still_call ((add_any x (Gf.mul c y) hx2 hmul _).mono fun _ _ h => ⟨h.1, h.2.symm⟩))
      refine wpStill_nil ?_
      change wpList _ _ _ _ _ wr.drew
      go_wp2
      go_roundw
      case rel => 
        refine ⟨k + 1, by omega, by go_num, Lib.hid ⟨(HB2.out.setCell (Nat.le_refl _) _).drew, _, HR2.out.store k _, by rw [Array.size_setIfInBounds]; exact HS2.out, fun j hj => ?_⟩⟩
        rcases Nat.lt_or_ge j k with h | h
        · rw [Array.getElem?_setIfInBounds_ne (by omega)]; exact HD.out j h
        · obtain rfl : j = k := by omega
          rw [Array.getElem?_setIfInBounds_self_of_lt (by rw [HS2.out]; exact hlt), HF.out]
      case measure => simp [intOf]; omega
    · go_wp2
      go_ret2
      obtain ⟨hbel, cs, hrow, hcs, hdone⟩ := H.out
      obtain rfl : k = n := by omega
      exact ⟨_, rfl, Bs.of_row hrow (by rw [fused_len]; exact N1.out) ⟨Nat.le_refl _, by unfold maxLen; omega⟩ (fused_bytes _ _ _ H1.out.lt hc) hdone, (fun k hk => by injection hk with hk; exact Nat.le_of_eq hk), hbel⟩
theorem fused_any (v1 v2 : Value) (d s : List Nat) (c : Nat) (w : World) (h1 : Bs w v1 d) (h2 : Bs w v2 s) (hl : d.length = s.length) (hc : c < 256) (hr : d.length ≤ 140737488351232) :
    Calls Try.prog 47 #[v1, v2, .int .u8 (c : Int)] w (fusedPost d s c w) :=
  (fused_new v1 v2 d s c w h1 h2 hl hc hr).mono fun _ _ ⟨v, he, hb, _, hw⟩ => ⟨v, he, hb, hw⟩

set_option maxHeartbeats 400000 in
theorem fused_err (v1 v2 : Value) (d s : List Nat) (c : Nat) (w : World) (h1 : Bs w v1 d) (h2 : Bs w v2 s) (hl : d.length ≠ s.length) :
    Calls Try.prog 47 #[v1, v2, .int .u8 (c : Int)] w fun e w' => e = .returned (.tuple #[.slice none 0 0, .int .i64 1]) ∧ w = w' := by
  obtain ⟨A1, c1, rfl, -, -, -, -⟩ := h1
  obtain ⟨A2, c2, rfl, -, -, -, -⟩ := h2
  have g0 : (((d.length : Nat) : Int) != ((s.length : Nat) : Int)) = true := by simp; omega
  clear hl
  generalize d.length = n at *
  generalize s.length = m at *
  go_enter Try.func47, Try.ntmps47
  go_wp2
  go_ret2
  exact ⟨rfl, rfl⟩

set_option maxHeartbeats 400000 in
theorem same_any (v1 v2 : Value) (d s : List Nat) (w : World) (h1 : Bs w v1 d) (h2 : Bs w v2 s) :
    Calls Try.prog 36 #[v1, v2] w fun e w' => e = .returned (.bool (decide (d = s))) ∧ w = w' := by
  have k1 := conv_bs 27 5 9 Try.underlying27 Try.underlying5 Try.underlying9 h1
  have k2 := conv_bs 27 5 9 Try.underlying27 Try.underlying5 Try.underlying9 h2
  have E := Lib.hid (strOf_eq d s h1.lt h2.lt)
  clear h1 h2
  generalize strOf d = S1 at *
  generalize strOf s = S2 at *
  go_enter Try.func36, Try.ntmps36
  go_wp2
  go_ret
  exact ⟨congrArg (fun b => Ending.returned (.bool b)) E.out, rfl⟩
end Go.Proofs.Ytfhgalfdlkdliaa
