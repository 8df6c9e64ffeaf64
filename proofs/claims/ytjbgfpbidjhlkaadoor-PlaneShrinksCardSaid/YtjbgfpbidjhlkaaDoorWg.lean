/- A projective plane without a line: how often each point was counted. -/
import Derived.Test.YtjbgfpbidjhlkaaDoorUn
namespace Go.Proofs.YtjbgfpbidjhlkaaDoor
namespace Pl

theorem line_nodup (q n : Nat) : (line q n).Nodup := by
  unfold line lineTo; exact List.Pairwise.filter _ List.nodup_range
/-- What was counted for p before line h; before its j-th point. -/
def cf (q g h p : Nat) : Nat := if has (line q g) p = true then 0 else cnt (fun k => (k != g) && has (line q k) p) h
def cfi (q g h j p : Nat) : Nat := if has (line q g) p = true then 0 else cnt (fun k => (k != g) && has (line q k) p) h + (if p ∈ (line q h).take j then 1 else 0)
def lf (q g h j : Nat) : Nat := (((line q h).take j).filter fun p => !has (line q g) p).length
theorem lf_0 (q g h : Nat) : lf q g h 0 = 0 := rfl
theorem take_at {l : List Nat} {j x : Nat} (hj : j < l.length) (hx : l.getD j 0 = x) : l.take (j + 1) = l.take j ++ [x] := by
  rw [List.take_succ_eq_append_getElem hj, ← hx]; simp [List.getD, hj]
theorem lf_succ {q g h j x : Nat} (hj : j < (line q h).length) (hx : (line q h).getD j 0 = x) : lf q g h (j + 1) = lf q g h j + (bif has (line q g) x then 0 else 1) := by
  unfold lf
  rw [take_at hj hx, List.filter_append, List.length_append]
  cases h : has (line q g) x <;> simp [h]
theorem lf_le (q g h j : Nat) : lf q g h j ≤ j := by
  unfold lf; exact Nat.le_trans (List.length_filter_le _ _) (by rw [List.length_take]; omega)
theorem filter_two (p : Nat → Bool) : ∀ l : List Nat, (l.filter p).length + (l.filter fun x => !p x).length = l.length
  | [] => rfl
  | a :: l => by
    have := filter_two p l
    cases h : p a <;> simp [h] <;> omega
theorem lf_end {q g h : Nat} (hq : q ∈ szs) (hh : h < cN q) (hg : g < cN q) (hne : h ≠ g) : lf q g h (q + 1) = q := by
  have h1 := filter_two (fun x => has (line q g) x) (line q h)
  have h2 := line_one hq hh hg hne
  unfold common at h2
  rw [h2, line_len hq hh] at h1
  unfold lf
  rw [List.take_of_length_le (by rw [line_len hq hh]; omega)]
  have : [meet q h g].length = 1 := rfl
  omega
theorem cfi_0 (q g h p : Nat) : cfi q g h 0 p = cf q g h p := by unfold cfi cf; simp
theorem cfi_in {q g h j x : Nat} (hj : j < (line q h).length) (hx : (line q h).getD j 0 = x) (hi : has (line q g) x = true) (p : Nat) : cfi q g h (j + 1) p = cfi q g h j p := by
  unfold cfi
  by_cases hp : has (line q g) p = true
  · rw [if_pos hp, if_pos hp]
  · rw [if_neg hp, if_neg hp, take_at hj hx]
    have : p ≠ x := fun e => hp (by rw [e]; exact hi)
    simp [this]
theorem cfi_out {q g h j x : Nat} (hj : j < (line q h).length) (hx : (line q h).getD j 0 = x) (hi : has (line q g) x = false) (p : Nat) : cfi q g h (j + 1) p = if p = x then cfi q g h j x + 1 else cfi q g h j p := by
  have nd := line_nodup q h
  have hnx : x ∉ (line q h).take j := by
    intro hm
    have h2 : ((line q h).take (j + 1)).Nodup := nd.sublist (List.take_sublist _ _)
    rw [take_at hj hx, List.nodup_append] at h2
    exact h2.2.2 x hm x (by simp) rfl
  by_cases e : p = x
  · subst e
    rw [if_pos rfl]
    unfold cfi
    have e0 : ¬ (has (line q g) p = true) := by rw [hi]; decide
    rw [if_neg e0, if_neg e0, take_at hj hx, if_neg hnx]
    simp
  · rw [if_neg e]
    unfold cfi
    by_cases hp : has (line q g) p = true
    · rw [if_pos hp, if_pos hp]
    · rw [if_neg hp, if_neg hp, take_at hj hx]
      simp [e]
theorem cf_skip (q g p : Nat) : cf q g (g + 1) p = cf q g g p := by
  unfold cf
  by_cases hp : has (line q g) p = true
  · rw [if_pos hp, if_pos hp]
  · rw [if_neg hp, if_neg hp, cnt]; simp
theorem cfi_end {q g h : Nat} (hq : q ∈ szs) (hh : h < cN q) (hne : h ≠ g) (p : Nat) : cfi q g h (q + 1) p = cf q g (h + 1) p := by
  unfold cfi cf
  by_cases hp : has (line q g) p = true
  · rw [if_pos hp, if_pos hp]
  · rw [if_neg hp, if_neg hp, List.take_of_length_le (by rw [line_len hq hh]; omega), cnt]
    have hb : (h != g) = true := by simpa using hne
    rw [hb, Bool.true_and]
    by_cases hm : p ∈ line q h
    · rw [if_pos hm, has_iff.2 hm]; rfl
    · rw [if_neg hm, show has (line q h) p = false from Bool.eq_false_iff.2 fun e => hm (has_iff.1 e)]; rfl
theorem cf_le (q g h p : Nat) : cf q g h p ≤ h := by
  unfold cf; split
  · exact Nat.zero_le _
  · exact cnt_le _ _
theorem cfi_le (q g h j p : Nat) : cfi q g h j p ≤ h + 1 := by
  unfold cfi; split
  · exact Nat.zero_le _
  · have := cnt_le (fun k => (k != g) && has (line q k) p) h
    split <;> omega
theorem cf_all {q g p : Nat} (hq : q ∈ szs) (hg : g < cN q) (hp : p < cN q) : cf q g (cN q) p = bif has (line q g) p then 0 else q + 1 := by
  unfold cf
  cases h : has (line q g) p
  · rw [if_neg (show ¬ (false = true) by decide)]
    rw [cnt_congr (p' := fun k => has (line q k) p) fun j _ => ?_]
    · exact line_cnt hq hp
    · by_cases e : j = g
      · subst e; rw [h]; simp
      · have : (j != g) = true := by simpa using e
        rw [this]; rfl
  · rfl
theorem cf_zero (q g p : Nat) : cf q g 0 p = 0 := by unfold cf; split <;> rfl
end Pl
end Go.Proofs.YtjbgfpbidjhlkaaDoor
