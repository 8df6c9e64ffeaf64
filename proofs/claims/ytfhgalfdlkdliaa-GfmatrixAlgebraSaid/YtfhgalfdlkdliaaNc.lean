/- What the laws on ranks and inverses need: plain mathematics, and contracts in their words. -/
import Derived.Test.YtfhgalfdlkdliaaNb
import Derived.Test.YtfhgalfdlkdliaaMxs
namespace Go.Proofs.Ytfhgalfdlkdliaa
open Go Go.RowKit Lin

theorem indF_len_le (C : Nat) (m : Nat → Nat → Nat) (p : Nat) : (indF C m p).length ≤ p := by
  have := List.length_filter_le (isInd C m) (List.range p)
  unfold indF
  simpa using this
theorem mul_inv_id {n : Nat} {m : List (List Nat)} (h : Rect n n m) (hr : (reduceF (augF n m) n).2.length = n) : mulL n n n m (invF n m) = idL n :=
  (mulL_rect h (invF n m)).ext (idL_rect n) fun i hi j hj => by
    rw [mulL_el hi hj, show el (idL n) i j = if j = i then 1 else 0 from gridL_el hi hj]
    have := (inv_ok h hr hi hj).2
    unfold mulE
    rw [this]
    by_cases e : i = j
    · rw [if_pos e, if_pos e.symm]
    · rw [if_neg e, if_neg fun e' => e e'.symm]
theorem inv_mul_id {n : Nat} {m : List (List Nat)} (h : Rect n n m) (hr : (reduceF (augF n m) n).2.length = n) : mulL n n n (invF n m) m = idL n :=
  (mulL_rect (inv_rect h) m).ext (idL_rect n) fun i hi j hj => by
    rw [mulL_el hi hj, show el (idL n) i j = if j = i then 1 else 0 from gridL_el hi hj]
    have := (inv_ok h hr hi hj).1
    unfold mulE
    rw [this]
    by_cases e : i = j
    · rw [if_pos e, if_pos e.symm]
    · rw [if_neg e, if_neg fun e' => e e'.symm]
/-- The matrix of the first independent rows has an inverse. -/
theorem square_ok {r n : Nat} {m : List (List Nat)} (h : Rect r n m) (hp : (pivT r n m).length = n) : (reduceF (augF n (rowsL m (pivT r n m))) n).2.length = n := by
  have hsq := rowsL_rect h hp (pivT_lt h)
  rw [aug_rank hsq]
  have hall : indF n (el (rowsL m (pivT r n m))) n = List.range n := by
    unfold indF
    refine List.filter_eq_self.2 fun k hk => ?_
    have hk' : k < n := List.mem_range.1 hk
    rw [isInd_iff]
    intro hs
    have hrow : ∀ j, j < n → el (rowsL m (pivT r n m)) j = el m ((pivT r n m).getD j 0) := fun j hj => by
      funext c
      unfold el
      rw [rowsL_at (by rw [hp]; exact hj)]
    have hinc := (reduce_inv (trans_rect (m := m) r n h.by) r).2.inc
    have hpk : (pivT r n m).getD k 0 ∈ indF n (el m) r := by
      rw [← reduce_trans h, getD_in (l := pivT r n m) (by rw [hp]; exact hk')]
      exact List.getElem_mem _
    have hn := ((indF_mem n (el m) r _).1 hpk).2
    apply hn
    rw [hrow k hk'] at hs
    exact hs.trans h.by fun i hi => by
      rw [hrow i (by omega)]
      exact Span.row h.by (hinc i k hi (by have e : (reduceF (transF r n m) r).2.length = n := hp
                                           omega))
  rw [hall, List.length_range]
theorem pivT_ind {r n : Nat} {m : List (List Nat)} (h : Rect r n m) : pivT r n m = indF n (el m) r := reduce_trans h

theorem rank_k (v : Value) (m : List (List Nat)) (w : World) {r n K : Nat} (h : Ms w v m) (hR : Rect r n m) (h0 : 0 < r) (hn0 : 0 < n) (hr64 : r ≤ 64) (hn64 : n ≤ 64) (hK : (reduceF m n).2.length = K) :
    Calls Try.prog 29 #[v] w (belowPost (.tuple #[.int .i64 (K : Int), .int .i64 0]) w) :=
  (rank_ok v m w h hR h0 hn0 hr64 hn64).mono fun _ _ ⟨he, hb⟩ => ⟨by rw [he, hK], hb⟩
def msTup (m : List (List Nat)) (w : World) (e : Ending) (w' : World) : Prop := ∃ v, e = .returned (.tuple #[v, .int .i64 0]) ∧ Ms w' v m ∧ Below w.heap.size w w'
theorem trans_new (v : Value) (m : List (List Nat)) (w : World) {r n : Nat} (h : Ms w v m) (hR : Rect r n m) (h0 : 0 < r) (hn0 : 0 < n) (hr64 : r ≤ 64) (hn64 : n ≤ 64) :
    Calls Try.prog 16 #[v] w (msTup (transF r n m) w) :=
  (transpose_ok v m w h hR h0 hn0 hr64 hn64).mono fun _ _ ⟨he, hg, hb⟩ => ⟨_, he, by
    have := (hg.wk (by unfold maxLen; omega) (by unfold maxLen; omega)).sl
    rw [(gridL_rect hg.byt).len] at this
    exact this, hb⟩
def isNewK (l : List Int) (K : Nat) (w : World) (e : Ending) (w' : World) : Prop := ∃ A c, e = .returned (.slice A K c) ∧ Is w' (.slice A K c) l ∧ Below w.heap.size w w'
/-- A new matrix of n rows. -/
def msNewN (m : List (List Nat)) (n : Nat) (f : Value → Value) (w : World) (e : Ending) (w' : World) : Prop := ∃ b c, e = .returned (f (.slice (some ⟨b, 0, none⟩) n c)) ∧ Ms w' (.slice (some ⟨b, 0, none⟩) n c) m ∧ Below w.heap.size w w'
theorem inverse_new (v : Value) (m : List (List Nat)) (w : World) {n : Nat} (h : Ms w v m) (hR : Rect n n m) (hn0 : 0 < n) (hn64 : n ≤ 64) (hp : (reduceF (augF n m) n).2.length = n) :
    Calls Try.prog 28 #[v] w (msNewN (invF n m) n (fun u => .tuple #[u, .int .i64 0]) w) :=
  (inverse_ok v m w h hR hn0 hn64 hp).mono fun _ _ ⟨g, cap, he, _, hw, hb⟩ => by
    have h1 := hw.sl
    have e : (invF n m).length = n := (inv_rect hR).len
    rw [e] at h1 he
    exact ⟨g, cap, he, h1, hb⟩
theorem Ms.row0 {w : World} {b off c r n : Nat} {m : List (List Nat)} (h : Ms w (.slice (some ⟨b, off, none⟩) r c) m) (hR : Rect r n m) (h0 : 0 < r) (hn0 : 0 < n) : ∃ b' o' c', w.cell? ⟨b, off, none⟩ = some (.slice (some ⟨b', o', none⟩) n c') := by
  obtain ⟨b2, o2, c2, hv, _, hat⟩ := Ms.open_ h hR h0 hn0
  injection hv with e1 e2 e3
  injection e1 with e1
  injection e1 with e1 e4
  subst e1 e4
  obtain ⟨b', o', c', h1, _⟩ := hat 0 h0
  rw [Nat.add_zero] at h1
  exact ⟨b', o', c', h1⟩
def leftNew (n : Nat) (sq : List (List Nat)) (rows : List Nat) (w : World) (e : Ending) (w' : World) : Prop :=
  ∃ b o c bp op cp, e = .returned (.tuple #[.slice (some ⟨b, o, none⟩) n c, .slice (some ⟨bp, op, none⟩) n cp, .int .i64 0]) ∧ Ms w' (.slice (some ⟨b, o, none⟩) n c) (invF n sq) ∧ Is w' (.slice (some ⟨bp, op, none⟩) n cp) (natsI rows) ∧ Below w.heap.size w w'
theorem left_new (v : Value) (m : List (List Nat)) (w : World) {r n : Nat} (h : Ms w v m) (hR : Rect r n m) (h0 : 0 < r) (hn0 : 0 < n) (hr64 : r ≤ 64) (hn64 : n ≤ 64) (hp : (pivT r n m).length = n) :
    Calls Try.prog 30 #[v] w (leftNew n (rowsL m (pivT r n m)) (pivT r n m) w) :=
  (left_ok v m w h hR h0 hn0 hr64 hn64 hp (square_ok hR hp)).mono fun _ _ ⟨u, vp, he, hm, hi, hb⟩ => by
    obtain ⟨b, o, c, rfl, _, _⟩ := Ms.open_ hm (inv_rect (rowsL_rect hR hp (pivT_lt hR))) hn0 hn0
    obtain ⟨bp, op, cp, rfl, _, _⟩ := Is.at_ hi (by rw [natsI_len, hp]; exact hn0)
    rw [natsI_len, hp] at hi he
    exact ⟨b, o, c, bp, op, cp, he, hm, hi, hb⟩
end Go.Proofs.Ytfhgalfdlkdliaa
