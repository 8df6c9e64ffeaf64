/- Contracts: Has, Common, the law's size and wrong. -/
import Derived.Test.YtnnacofjogfkeaaDoorUr
import Derived.Test.YtnnacofjogfkeaaDoorGN
namespace Go.Proofs.YtnnacofjogfkeaaDoor
open Go Go.RowKit Pl
set_option linter.unusedVariables false
set_option linter.unusedSimpArgs false

/-- What lies in a slice of numbers. -/
theorem Ns.cells {w : World} {A : Option Addr} {n c : Nat} {l : List Nat} (h : Ns w (.slice A n c) l) : l.length = n ∧ n ≤ c ∧ c ≤ maxLen ∧ (0 < n → ∃ b off, A = some ⟨b, off, none⟩ ∧ ∀ k, k < n → w.cell? ⟨b, off + k, none⟩ = some (.int .i64 ((l.getD k 0 : Nat) : Int))) := by
  obtain ⟨A', c', he, hm, hz, hc⟩ := h
  injection he with h1 h2 h3
  subst h1 h3
  refine ⟨h2.symm, by omega, hm.2, fun hn => ?_⟩
  obtain ⟨b, off, hb, hcell⟩ := hc (by omega)
  refine ⟨b, off, hb, fun k hk => ?_⟩
  obtain ⟨u, hu, hr⟩ := hcell k (by omega)
  rw [hu, hr, getD_in (show k < l.length by omega)]
theorem has_no {l : List Nat} {x : Nat} (h : ∀ j, j < l.length → l.getD j 0 ≠ x) : has l x = false := by
  cases e : has l x
  · rfl
  · obtain ⟨j, hj, he⟩ := List.getElem_of_mem (has_iff.1 e)
    exact absurd (by rw [getD_in hj]; exact he) (h j hj)
theorem has_yes {l : List Nat} {x k : Nat} (hk : k < l.length) (h : l.getD k 0 = x) : has l x = true := by
  rw [has_iff, ← h, getD_in hk]; exact List.getElem_mem hk
set_option maxHeartbeats 1000000 in
set_option maxRecDepth 100000 in
theorem hasn_any (l : List Nat) (x : Nat) (v : Value) (w : World) (h : Ns w v l) : Calls Tryd.prog 20 #[v, .int .i64 (x : Int)] w (still (.bool (has l x)) w) := by
  obtain ⟨A, c, rfl⟩ := slform h
  obtain ⟨n, hn⟩ : ∃ n, l.length = n := ⟨_, rfl⟩
  rw [hn] at h ⊢
  obtain ⟨-, h1, h2, h3⟩ := h.cells
  unfold maxLen at h2
  have HC := Lib.hid h3
  have YES := Lib.hid fun k (hk : k < n) => has_yes (l := l) (x := x) (by rw [hn]; exact hk)
  have NO := Lib.hid (show (∀ j, j < n → l.getD j 0 ≠ x) → has l x = false from fun h => has_no (by rw [hn]; exact h))
  obtain ⟨b, hb⟩ : ∃ b, has l x = b := ⟨_, rfl⟩
  rw [hb] at YES NO ⊢
  clear h h3 hn hb
  go_enter Tryd.func20, Tryd.ntmps20
  go_wp2
  go_loop [5] (fun i => ∃ k : Nat, k ≤ n ∧ i = .int .i64 (k : Int) ∧ Hid (∀ j, j < k → l.getD j 0 ≠ x)) (fun i => n - (intOf i).toNat)
  case atStart => exact ⟨0, Nat.zero_le _, rfl, Lib.hid fun j hj => absurd hj (Nat.not_lt_zero j)⟩
  case round =>
    obtain ⟨k, hk, rfl, H⟩ := hrel
    by_cases hlt : k < n
    · have hkI : (k : Int) < (n : Int) := by omega
      obtain ⟨b0, off, rfl, hcell⟩ := HC.out (by omega)
      have c1 := hcell k hlt
      clear hcell
      have Y := Lib.hid (YES.out k hlt)
      have HX : Hid (l.getD k 0 ≠ x → ∀ j, j < k + 1 → l.getD j 0 ≠ x) := Lib.hid fun hx j hj => by
        rcases Nat.lt_or_eq_of_le (Nat.le_of_lt_succ hj) with h | h
        · exact H.out j h
        · rw [h]; exact hx
      obtain ⟨y, hy⟩ : ∃ y, l.getD k 0 = y := ⟨_, rfl⟩
      rw [hy] at c1 Y HX
      clear hy
      by_cases e : y = x
      · have E := Lib.hid (Y.out e)
        subst e
        clear HX Y H
        go_wp2
        go_ret
        exact ⟨by rw [E.out]; rfl, rfl⟩
      · have eI : ¬ ((y : Int) = (x : Int)) := by omega
        have E := Lib.hid (HX.out e)
        clear HX Y H e
        go_wp2
        go_round
        case rel => exact ⟨k + 1, by omega, by go_num, E⟩
        case measure => simp [intOf]; omega
    · obtain rfl : k = n := by omega
      have E := Lib.hid (NO.out H.out)
      clear H
      go_wp2
      go_ret
      exact ⟨by rw [E.out]; rfl, rfl⟩

theorem common_succ {a b : List Nat} {k : Nat} (hk : k < a.length) : common (a.take (k + 1)) b = if has b (a.getD k 0) = true then common (a.take k) b ++ [a.getD k 0] else common (a.take k) b := by
  rw [List.take_succ_eq_append_getElem hk, getD_in hk]
  unfold common
  rw [List.filter_append]
  by_cases h : has b a[k] = true
  · rw [if_pos h]; simp [h]
  · rw [if_neg h]; simp [h]
theorem common_le (a b : List Nat) (k : Nat) : (common (a.take k) b).length ≤ k := by
  unfold common
  exact Nat.le_trans (List.length_filter_le _ _) (by rw [List.length_take]; omega)
def newNs (l : List Nat) (w : World) (e : Ending) (w' : World) : Prop := ∃ v, e = .returned v ∧ Ns w' v l ∧ Below w.heap.size w w'
/-! ### size, wrong -/
def sz (n : Nat) : Nat := szs.getD (n % 5) 0
theorem sz_mem (n : Nat) : sz n ∈ szs := (show ∀ m, m < 5 → szs.getD m 0 ∈ szs by decide) _ (Nat.mod_lt _ (by decide))
theorem szs_lit (w : World) (t : TypeId) (m : Nat) (hm : m < 5) : (w.alloc (.cells #[.int .i64 2, .int .i64 3, .int .i64 4, .int .i64 5, .int .i64 7] t)).cell? ⟨w.heap.size, m, none⟩ = some (.int .i64 (szs.getD m 0 : Nat)) := by
  rw [cell_of_row _ _ _ _ _ _ (heap_alloc_new w _)]
  rcases (by omega : m = 0 ∨ m = 1 ∨ m = 2 ∨ m = 3 ∨ m = 4) with rfl | rfl | rfl | rfl | rfl <;> rfl
theorem rprime_no (q : Int) (w : World) (hq : ∀ k, k < 7 → (kS k : Int) ≠ q) : Calls Tryd.prog 54 #[.int .i64 q] w (still (.tuple #[.int .i64 0, .int .i64 0]) w) := by
  have h2 : ¬ q = 2 := fun e => hq 0 (by decide) e.symm
  have h3 : ¬ q = 3 := fun e => hq 1 (by decide) e.symm
  have h4 : ¬ q = 4 := fun e => hq 2 (by decide) e.symm
  have h5 : ¬ q = 5 := fun e => hq 3 (by decide) e.symm
  have h7 : ¬ q = 7 := fun e => hq 4 (by decide) e.symm
  have h8 : ¬ q = 8 := fun e => hq 5 (by decide) e.symm
  have h9 : ¬ q = 9 := fun e => hq 6 (by decide) e.symm
  clear hq
  go_enter Tryd.func54, Tryd.ntmps54
  go_wp2
  go_ret2
  exact ⟨rfl, rfl⟩
end Go.Proofs.YtnnacofjogfkeaaDoor
