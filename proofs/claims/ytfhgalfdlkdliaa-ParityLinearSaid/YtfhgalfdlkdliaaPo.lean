/- More contracts in the words of the laws; sums, multiples and shifts of blocks. -/
import Derived.Test.YtfhgalfdlkdliaaPl
namespace Go.Proofs.Ytfhgalfdlkdliaa
open Go Go.RowKit Lin
set_option linter.unusedVariables false

theorem scl_b (c : Nat) (a s : List Nat) (w : World) (hc : c < 256) (ha : B8 a) (hs : sclB c a = s) : Calls Try.prog 27 #[.int .u8 (c : Int), .agg (bcs a)] w (bPost (.agg (bcs s)) w) :=
  (scl_blk c a w hc ha).mono fun _ _ ⟨he, hb⟩ => ⟨by rw [he, hs]; rfl, hb⟩
theorem xor_b (a b s : List Nat) (w : World) (ha : B8 a) (hb : B8 b) (hs : xorB a b = s) : Calls Try.prog 26 #[.agg (bcs a), .agg (bcs b)] w (bPost (.agg (bcs s)) w) :=
  (xor_blk a b w ha hb).mono fun _ _ ⟨he, hb⟩ => ⟨by rw [he, hs]; rfl, hb⟩
theorem Bl.at8 {w : World} {b off n c : Nat} {D : List (List Nat)} (h : Bl w (.slice (some ⟨b, off, none⟩) n c) D) {i : Nat} (hi : i < D.length) : At8 w b (off + i * 8) (D.getD i []) := by
  obtain ⟨b', off', c', hv, -, -, hr⟩ := h.at_ (by omega)
  injection hv with e1 e2 e3
  injection e1 with e1
  injection e1 with e4 e5 e6
  subst e4 e5
  have := range_at8 hr h.ok hi
  rw [getD_in hi]
  exact this
theorem el_zero (k : Nat) (D : List (List Nat)) : el (zeroB.1 :: D) 0 k = 0 := by
  show zeroB.1.getD k 0 = 0
  rcases Nat.lt_or_ge k 8 with h | h
  · exact blk_at (fun _ => 0) h
  · rw [getD_out (by rw [zeroB.2.1]; exact h)]
theorem par_shift (D : List (List Nat)) (hD : ∀ d ∈ D, B8 d) (j k : Nat) : par (zeroB.1 :: D) j k = Gf.mul (Gf.gpow 2 j) (par D j k) := by
  unfold par
  rw [List.length_cons, xs_head, el_zero, Gf.mul_zero, Nat.zero_xor, mul_xs]
  refine xs_congr _ _ _ fun i _ => ?_
  show Gf.mul (Gf.gpow 2 (j * (i + 1))) (el D i k) = _
  rw [Nat.mul_succ, Nat.add_comm, Gf.gpow_add _ _ _ (by decide), Gf.mul_assoc _ _ _ (gp_lt _) (gp_lt _) (el_lt hD i k)]
theorem parL_shift (D : List (List Nat)) (hD : ∀ d ∈ D, B8 d) : parL (zeroB.1 :: D) = [parB D 0, sclB 2 (parB D 1), sclB 4 (parB D 2)] := by
  have e : ∀ j, parB (zeroB.1 :: D) j = sclB (Gf.gpow 2 j) (parB D j) := fun j => blk_congr fun k hk => by
    rw [par_shift D hD, parB, blk_at _ hk]
  have e0 : sclB 1 (parB D 0) = parB D 0 := B8.ext (sclB_ok (by decide) (parB_ok D 0)) (parB_ok D 0) fun k hk => by rw [sclB, blk_at _ hk, Gf.one_mul _ ((parB_ok D 0).lt k)]
  have g1 : Gf.gpow 2 1 = 2 := by decide
  have g2 : Gf.gpow 2 2 = 4 := by decide
  have g0 : Gf.gpow 2 0 = 1 := rfl
  unfold parL
  rw [e, e, e, g0, g1, g2, e0]
theorem parL_tail (D : List (List Nat)) : parL (D ++ [zeroB.1]) = parL D := by
  have e : ∀ j, parB (D ++ [zeroB.1]) j = parB D j := fun j => blk_congr fun k hk => by
    unfold par
    rw [List.length_append, List.length_singleton, xs_succ, el_app_r _ (Nat.le_refl _), Nat.sub_self, el_zero, Gf.mul_zero, Nat.xor_zero]
    exact xs_congr _ _ _ fun i hi => by rw [el_app_l k hi]
  unfold parL
  rw [e, e, e]
theorem zlit : (#[.int .u8 0, .int .u8 0, .int .u8 0, .int .u8 0, .int .u8 0, .int .u8 0, .int .u8 0, .int .u8 0] : Array Value) = bcs [zeroB.1].flatten := rfl
theorem own_lit {w : World} {base : Nat} (hb : base ≤ w.heap.size) (cs : Array Value) (hc : cs = bcs [zeroB.1].flatten) : OwnB (w.alloc (.cells cs 44)) base (.slice (some ⟨w.heap.size, 0, none⟩) 1 1) [zeroB.1] := by
  refine ⟨fun d hd => ?_, rfl, Or.inr ⟨w.heap.size, 1, cs, rfl, hb, heap_alloc_new w _, Nat.le_refl _, by decide, by rw [hc]; rfl, by rw [hc]; rfl⟩⟩
  rw [List.mem_singleton.1 hd]; exact zeroB.2
end Go.Proofs.Ytfhgalfdlkdliaa
