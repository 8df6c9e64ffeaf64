/- Contracts: Has, Common, the law's size and wrong. -/
import Derived.Test.YtjbgfpbidjhlkaaDoorUr
import Derived.Test.YtjbgfpbidjhlkaaDoorSv
namespace Go.Proofs.YtjbgfpbidjhlkaaDoor
open Go Go.RowKit Pl
set_option linter.unusedVariables false
set_option linter.unusedSimpArgs false

/-- What lies in a slice of numbers. -/
theorem Ns.cells {w : World} {A : Option Addr} {n c : Nat} {l : List Nat} (h : Ns w (.slice A n c) l) : l.length = n ∧ n ≤ c ∧ c ≤ maxLen ∧ (0 < n → ∃ b off, A = some ⟨b, off, none⟩ ∧ ∀ k, k < n → w.cell? ⟨b, off + k, none⟩ = some (.int .i64 ((l.getD k 0 : Nat) : Int))) := by
  obtain ⟨A', c', he, hm, hz, hc⟩ := h
  injection he with h1 h2 h3
  subst h1 h3
  refine ⟨h2.symm, by omega, hm.2, fun hn => ?_⟩
  obtain ⟨b, off, hb, hcell⟩ := hc (by omega)
  refine ⟨b, off, hb, fun k hk => ?_⟩
  obtain ⟨u, hu, hr⟩ := hcell k (by omega)
  rw [hu, hr, getD_in (show k < l.length by omega)]
theorem has_no {l : List Nat} {x : Nat} (h : ∀ j, j < l.length → l.getD j 0 ≠ x) : has l x = false := by
  cases e : has l x
  · rfl
  · obtain ⟨j, hj, he⟩ := List.getElem_of_mem (has_iff.1 e)
    exact absurd (by rw [getD_in hj]; exact he) (h j hj)
theorem has_yes {l : List Nat} {x k : Nat} (hk : k < l.length) (h : l.getD k 0 = x) : has l x = true := by
  rw [has_iff, ← h, getD_in hk]; exact List.getElem_mem hk
set_option maxHeartbeats 1000000 in
set_option maxRecDepth 100000 in
theorem hasn_any (l : List Nat) (x : Nat) (v : Value) (w : World) (h : Ns w v l) : Calls Tryd.prog 22 #[v, .int .i64 (x : Int)] w (still (.bool (has l x)) w) := by
  obtain ⟨A, c, rfl⟩ := slform h
  obtain ⟨n, hn⟩ : ∃ n, l.length = n := ⟨_, rfl⟩
  rw [hn] at h ⊢
  obtain ⟨-, h1, h2, h3⟩ := h.cells
  unfold maxLen at h2
  have HC := Lib.hid h3
  have YES := Lib.hid fun k (hk : k < n) => has_yes (l := l) (x := x) (by rw [hn]; exact hk)
  have NO := Lib.hid (show (∀ j, j < n → l.getD j 0 ≠ x) → has l x = false from fun h => has_no (by rw [hn]; exact h))
  obtain ⟨b, hb⟩ : ∃ b, has l x = b := ⟨_, rfl⟩
  rw [hb] at YES NO ⊢
  clear h h3 hn hb
  go_enter Tryd.func22, Tryd.ntmps22
  go_wp2
  go_loop [5] (fun i => ∃ k : Nat, k ≤ n ∧ i = .int .i64 (k : Int) ∧ Hid (∀ j, j < k → l.getD j 0 ≠ x)) (fun i => n - (intOf i).toNat)
  case atStart => exact ⟨0, Nat.zero_le _, rfl, Lib.hid fun j hj => absurd hj (Nat.not_lt_zero j)⟩
  case round =>
    obtain ⟨k, hk, rfl, H⟩ := hrel
    by_cases hlt : k < n
    · have hkI : (k : Int) < (n : Int) := by omega
      obtain ⟨b0, off, rfl, hcell⟩ := HC.out (by omega)
      have c1 := hcell k hlt
      clear hcell
      have Y := Lib.hid (YES.out k hlt)
      have HX : Hid (l.getD k 0 ≠ x → ∀ j, j < k + 1 → l.getD j 0 ≠ x) := Lib.hid fun hx j hj => by
        rcases Nat.lt_or_eq_of_le (Nat.le_of_lt_succ hj) with h | h
        · exact H.out j h
        · rw [h]; exact hx
      obtain ⟨y, hy⟩ : ∃ y, l.getD k 0 = y := ⟨_, rfl⟩
      rw [hy] at c1 Y HX
      clear hy
      by_cases e : y = x
      · have E := Lib.hid (Y.out e)
        subst e
        clear HX Y H
        go_wp2
        go_ret
        exact ⟨by rw [E.out]; rfl, rfl⟩
      · have eI : ¬ ((y : Int) = (x : Int)) := by omega
        have E := Lib.hid (HX.out e)
        clear HX Y H e
        go_wp2
        go_round
        case rel => exact ⟨k + 1, by omega, by go_num, E⟩
        case measure => simp [intOf]; omega
    · obtain rfl : k = n := by omega
      have E := Lib.hid (NO.out H.out)
      clear H
      go_wp2
      go_ret
      exact ⟨by rw [E.out]; rfl, rfl⟩

theorem common_succ {a b : List Nat} {k : Nat} (hk : k < a.length) : common (a.take (k + 1)) b = if has b (a.getD k 0) = true then common (a.take k) b ++ [a.getD k 0] else common (a.take k) b := by
  rw [List.take_succ_eq_append_getElem hk, getD_in hk]
  unfold common
  rw [List.filter_append]
  by_cases h : has b a[k] = true
  · rw [if_pos h]; simp [h]
  · rw [if_neg h]; simp [h]
theorem common_le (a b : List Nat) (k : Nat) : (common (a.take k) b).length ≤ k := by
  unfold common
  exact Nat.le_trans (List.length_filter_le _ _) (by rw [List.length_take]; omega)
def newNs (l : List Nat) (w : World) (e : Ending) (w' : World) : Prop := ∃ v, e = .returned v ∧ Ns w' v l ∧ Below w.heap.size w w'
set_option maxHeartbeats 2000000 in
set_option maxRecDepth 100000 in
theorem common_any (a b : List Nat) (va vb : Value) (w : World) (ha : Ns w va a) (hb : Ns w vb b) (hl : a.length ≤ 1000) : Calls Tryd.prog 21 #[va, vb] w (newNs (common a b) w) := by
  have HA := Lib.hid fun W (h : Below w.heap.size w W) => ha.to h
  have HBB := Lib.hid fun W (h : Below w.heap.size w W) => hb.to h
  obtain ⟨A, c, rfl⟩ := slform ha
  obtain ⟨n, hn⟩ : ∃ n, a.length = n := ⟨_, rfl⟩
  have hc := ha.cells.2.1
  have hm := ha.cells.2.2.1
  unfold maxLen at hm
  rw [hn] at HA hl hc ⊢
  have AN : Hid (a.take n = a) := Lib.hid (by rw [← hn]; exact List.take_length)
  have CS := Lib.hid fun k (hk : k < n) => common_succ (a := a) (b := b) (k := k) (by rw [hn]; exact hk)
  clear ha hb hn
  go_enter Tryd.func21, Tryd.ntmps21
  go_wp2
  go_loopw [5, 6] (fun v i wr => ∃ k : Nat, k ≤ n ∧ i = .int .i64 (k : Int) ∧ Hid (Below w.heap.size w wr ∧ OwnL Nv wr w.heap.size 3 v (common (a.take k) b))) (fun _ i _ => n - (intOf i).toNat)
  case atStart => exact ⟨0, Nat.zero_le _, rfl, Lib.hid ⟨Below.refl _ _, OwnL.nil_ _ _ _⟩⟩
  case round =>
    obtain ⟨k, hk, rfl, H⟩ := hrel
    by_cases hlt : k < n
    · have hkI : (k : Int) < (n : Int) := by omega
      have NA := Lib.hid (HA.out wr H.out.1)
      obtain ⟨b0, off, rfl, hcell⟩ := NA.out.cells.2.2.2 (by omega)
      have c1 := hcell k hlt
      have SUC := Lib.hid (CS.out k hlt)
      have LE := common_le a b k
      have HB1 := Lib.hid H.out.1
      have HO := Lib.hid H.out.2
      obtain ⟨y, hy⟩ : ∃ y, a.getD k 0 = y := ⟨_, rfl⟩
      rw [hy] at c1 SUC
      have HH := Lib.hid (hasn_any b y vb wr (HBB.out wr HB1.out))
      clear hcell hy NA H
      obtain ⟨l, hl2⟩ : ∃ l, common (a.take k) b = l := ⟨_, rfl⟩
      rw [hl2] at SUC HO LE
      clear hl2
      obtain ⟨A5, c5, rfl⟩ := slform HO.out.sl
      obtain ⟨m, hm2⟩ : ∃ m, l.length = m := ⟨_, rfl⟩
      rw [hm2] at LE HO ⊢
      have LM := Lib.hid hm2
      clear hm2
      by_cases e : has b y = true
      · rw [e] at HH
        have E := Lib.hid (show common (a.take (k + 1)) b = l ++ [y] by rw [SUC.out, if_pos e])
        clear SUC e
        have LIT : Hid ((wr.alloc (.cells #[.int .i64 (y : Int)] 3)).cell? ⟨wr.heap.size, 0, none⟩ = some (.int .i64 (y : Int))) := Lib.hid ((row_new' _ _ _).cell 0)
        have hbx : Below wr.heap.size wr (wr.alloc (.cells #[.int .i64 (y : Int)] 3)) := (Below.refl _ _).alloc (Nat.le_refl _) _
        have O2 := Lib.hid (HO.out.gto hbx)
        have B2 := Lib.hid (HB1.out.trans (hbx.mono HB1.out.size))
        clear hbx
        go_wp2_with fail
        refine HH.out.mono ?_
        rintro e z ⟨rfl, hzz⟩
        obtain rfl := hzz.symm
        go_wp2_with (at_builtin; refine wpList_push_n rfl (.tmp 19) (.tmp 24) rfl w.heap.size (.slice A5 m c5) l m y wr.heap.size rfl O2.out LM.out rfl LIT.out (by omega) B2.out.size ?_; intro gs cq x9 ho hg hat hlt2; have ZO := Lib.hid ho; have ZB := Lib.hid (B2.out.grown hg B2.out.size (fun k e => (O2.out.own k e).1)); clear ho hg hat hlt2)
        go_roundw
        case rel => exact ⟨k + 1, by omega, by go_num, Lib.hid ⟨ZB.out, by rw [E.out]; exact ZO.out⟩⟩
        case measure => simp [intOf]; omega
      · have ef : has b y = false := by simpa using e
        rw [ef] at HH
        have E := Lib.hid (show common (a.take (k + 1)) b = l by rw [SUC.out, if_neg e])
        clear SUC e ef
        go_wp2_with fail
        refine HH.out.mono ?_
        rintro e z ⟨rfl, hzz⟩
        obtain rfl := hzz.symm
        go_wp2_with fail
        go_roundw
        case rel => exact ⟨k + 1, by omega, by go_num, Lib.hid ⟨HB1.out, by rw [E.out]; exact HO.out⟩⟩
        case measure => simp [intOf]; omega
    · have ek : k = n := by omega
      rw [ek, AN.out] at H
      have kI : ¬ (k : Int) < (n : Int) := by omega
      have SL := Lib.hid H.out.2.sl
      have HB1 := Lib.hid H.out.1
      clear H ek
      go_wp2
      go_ret
      exact ⟨_, rfl, SL.out, HB1.out⟩

/-! ### size, wrong -/
def sz (n : Nat) : Nat := szs.getD (n % 5) 0
theorem sz_mem (n : Nat) : sz n ∈ szs := (show ∀ m, m < 5 → szs.getD m 0 ∈ szs by decide) _ (Nat.mod_lt _ (by decide))
theorem szs_lit (w : World) (t : TypeId) (m : Nat) (hm : m < 5) : (w.alloc (.cells #[.int .i64 2, .int .i64 3, .int .i64 4, .int .i64 5, .int .i64 7] t)).cell? ⟨w.heap.size, m, none⟩ = some (.int .i64 (szs.getD m 0 : Nat)) := by
  rw [cell_of_row _ _ _ _ _ _ (heap_alloc_new w _)]
  rcases (by omega : m = 0 ∨ m = 1 ∨ m = 2 ∨ m = 3 ∨ m = 4) with rfl | rfl | rfl | rfl | rfl <;> rfl
set_option maxHeartbeats 1000000 in
set_option maxRecDepth 100000 in
theorem size6_any (n : Nat) (w : World) (hn : n < 256) : Calls Tryd.prog 20 #[.int .u8 (n : Int)] w (bel (.int .i64 (sz n : Nat)) w) := by
  have hm : n % 5 < 5 := Nat.mod_lt _ (by decide)
  obtain ⟨m, hme⟩ : ∃ m, n % 5 = m := ⟨_, rfl⟩
  have e1 : (n : Int) % 5 = (m : Int) := by rw [← hme]; rfl
  have c1 := szs_lit w 3 (n % 5) hm
  have SZ : Hid (szs.getD (n % 5) 0 = sz n) := Lib.hid rfl
  rw [SZ.out, hme] at c1
  rw [hme] at hm
  have hmI : (m : Int) < 5 := by omega
  have HB0 := fun o => Lib.hid ((Below.refl w.heap.size w).alloc (Nat.le_refl _) o)
  have HB := Lib.hid HB0
  obtain ⟨s, hs⟩ : ∃ s, sz n = s := ⟨_, rfl⟩
  rw [hs] at c1 ⊢
  clear HB0 hme SZ hs
  go_enter Tryd.func20, Tryd.ntmps20
  go_wp2
  go_ret
  exact ⟨rfl, (HB.out _).out⟩
theorem rprime_no (q : Int) (w : World) (hq : ∀ k, k < 7 → (kS k : Int) ≠ q) : Calls Tryd.prog 25 #[.int .i64 q] w (still (.tuple #[.int .i64 0, .int .i64 0]) w) := by
  have h2 : ¬ q = 2 := fun e => hq 0 (by decide) e.symm
  have h3 : ¬ q = 3 := fun e => hq 1 (by decide) e.symm
  have h4 : ¬ q = 4 := fun e => hq 2 (by decide) e.symm
  have h5 : ¬ q = 5 := fun e => hq 3 (by decide) e.symm
  have h7 : ¬ q = 7 := fun e => hq 4 (by decide) e.symm
  have h8 : ¬ q = 8 := fun e => hq 5 (by decide) e.symm
  have h9 : ¬ q = 9 := fun e => hq 6 (by decide) e.symm
  clear hq
  go_enter Tryd.func25, Tryd.ntmps25
  go_wp2
  go_ret2
  exact ⟨rfl, rfl⟩
theorem wrong_ok (q : Nat) (w : World) (hq : q ∈ szs) : Calls Tryd.prog 13 #[.int .i64 (q : Int)] w (still (.int .i64 0) w) := by
  have h7 := (szs_ok hq).2.2.1
  have P := Lib.hid (rprime_any q w (szs_ok hq).1)
  have p0 := (Sf.prm_ok (szs_ok hq).1).1
  obtain ⟨p, hp⟩ : ∃ p, Sf.prm q = p := ⟨_, rfl⟩
  rw [hp] at P p0
  have pI : ¬ (p : Int) = 0 := by omega
  clear hq hp
  go_enter Tryd.func13, Tryd.ntmps13
  go_wp2_with fail
  refine P.out.mono ?_
  rintro e z ⟨rfl, hzz⟩
  obtain rfl := hzz.symm
  go_wp2_with fail
  go_ret
  exact ⟨rfl, rfl⟩
theorem wrong_limit (q : Nat) (w : World) (hq : q ∈ Sf.sizes) (h8 : q ∉ szs) : Calls Tryd.prog 13 #[.int .i64 (q : Int)] w (still (.int .i64 7) w) := by
  have h7 : 7 < q := by rcases kS_big q hq h8 with rfl | rfl <;> decide
  have P := Lib.hid (rprime_any q w hq)
  have p0 := (Sf.prm_ok hq).1
  obtain ⟨p, hp⟩ : ∃ p, Sf.prm q = p := ⟨_, rfl⟩
  rw [hp] at P p0
  have pI : ¬ (p : Int) = 0 := by omega
  clear hq hp h8
  go_enter Tryd.func13, Tryd.ntmps13
  go_wp2_with fail
  refine P.out.mono ?_
  rintro e z ⟨rfl, hzz⟩
  obtain rfl := hzz.symm
  go_wp2_with fail
  go_ret
  exact ⟨rfl, rfl⟩
theorem wrong_arg (q : Int) (w : World) (hq : ∀ k, k < 7 → (kS k : Int) ≠ q) : Calls Tryd.prog 13 #[.int .i64 q] w (still (.int .i64 1) w) := by
  have P := Lib.hid (rprime_no q w hq)
  clear hq
  go_enter Tryd.func13, Tryd.ntmps13
  go_wp2_with fail
  refine P.out.mono ?_
  rintro e z ⟨rfl, hzz⟩
  obtain rfl := hzz.symm
  go_wp2_with fail
  go_ret
  exact ⟨rfl, rfl⟩
end Go.Proofs.YtjbgfpbidjhlkaaDoor
