/- Contracts: limitedField, newSpace. WRITTEN BY gen_Uf.py. -/
import Derived.Test.YtjbgfpbidjhlkaaDoorUe
namespace Go.Proofs.YtjbgfpbidjhlkaaDoor
open Go Go.RowKit Pl
set_option linter.unusedVariables false
set_option linter.unusedSimpArgs false

theorem kS_big (q : Nat) (hq : q ∈ Sf.sizes) (h : q ∉ szs) : q = 8 ∨ q = 9 := (show ∀ q ∈ Sf.sizes, q ∉ szs → q = 8 ∨ q = 9 by decide) q hq h
theorem lf_arg (q p : Int) (w : World) (hK : Kd w) (hq : ∀ k, k < 7 → (kS k : Int) ≠ q) : Calls Tryd.prog 29 #[.int .i64 q, .int .i64 p] w (bel (.tuple #[.pointer none, .int .i64 1]) w) := by
  have NE := Lib.hid (new_err q w hK hq)
  clear hq hK
  go_enter Tryd.func29, Tryd.ntmps29
  go_wp2_with fail
  refine NE.out.mono ?_
  rintro e w1 ⟨rfl, hb⟩
  have HB := Lib.hid hb
  clear hb
  go_wp2_with fail
  go_ret2
  exact ⟨rfl, HB.out⟩
theorem lf_limit (q : Nat) (p : Int) (w : World) (hK : Kd w) (hq : q ∈ Sf.sizes) (hp : 60 < p) : Calls Tryd.prog 29 #[.int .i64 (q : Int), .int .i64 p] w (bel (.tuple #[.pointer none, .int .i64 7]) w) := by
  have NE := Lib.hid (new_ok q w hK hq)
  clear hq hK
  go_enter Tryd.func29, Tryd.ntmps29
  go_wp2_with fail
  refine NE.out.mono ?_
  rintro e w1 ⟨u, rfl, -, hb⟩
  have HB := Lib.hid hb
  clear hb
  go_wp2_with fail
  go_ret2
  exact ⟨rfl, HB.out⟩
theorem lf_ok (q : Nat) (p : Int) (w : World) (hK : Kd w) (hq : q ∈ Sf.sizes) (hp : p ≤ 60) : Calls Tryd.prog 29 #[.int .i64 (q : Int), .int .i64 p] w (newPost q w) := by
  have NE := Lib.hid (new_ok q w hK hq)
  clear hq hK
  go_enter Tryd.func29, Tryd.ntmps29
  go_wp2_with fail
  refine NE.out.mono ?_
  rintro e w1 ⟨u, rfl, hf, hb⟩
  have HB := Lib.hid (And.intro hf hb)
  clear hb hf
  go_wp2_with fail
  go_ret2
  exact ⟨u, rfl, HB.out⟩

/-! ### newSpace -/
theorem Row.gr {w w' : World} {g : Nat} {t : TypeId} {cs : Array Value} {row : Option Nat} (h : Row w g t cs) (hg : w.grownBy w' row) (hne : some g ≠ row) : Row w' g t cs := (hg.block g h.lt hne).trans h
theorem At3.gr {w w' : World} {b o : Nat} {c : C3} {row : Option Nat} (h : At3 w b o c) (hg : w.grownBy w' row) (hne : some b ≠ row) : At3 w' b o c := fun j v hv => (World.cell?_of_block (hg.block b h.lt hne)).trans (h j v hv)
theorem grown_set (w : World) (g i : Nat) (u : Value) : w.grownBy (w.setCell ⟨g, i, none⟩ u) (some g) := ⟨rfl, rfl, rfl, by simp [World.setCell], fun b _ hb => Below.heap_setCell w ⟨g, i, none⟩ u b (fun e => hb (by rw [e]))⟩
theorem grown_set3 (w : World) (g : Nat) (c : C3) : w.grownBy (w.setCells g 0 (ka c).toList) (some g) := ⟨rfl, rfl, rfl, by simp [ka, World.setCells, World.setCell], fun b _ hb => by
  have hne : b ≠ g := fun e => hb (by rw [e])
  exact ((Below.heap_setCell _ ⟨g, 2, none⟩ _ b hne).trans (Below.heap_setCell _ ⟨g, 1, none⟩ _ b hne)).trans (Below.heap_setCell w ⟨g, 0, none⟩ _ b hne)⟩
theorem OwnC.own {e : TypeId} {w w' : World} {base : Nat} {v : Value} {L : List C3} {g : Nat} (h : OwnC e w base v L) (hg : w.grownBy w' (some g)) (hne : ∀ k, v.ownBlock = some k → k ≠ g) : OwnC e w' base v L := by
  obtain ⟨hl, h⟩ := h
  refine ⟨hl, ?_⟩
  rcases h with h | ⟨b, cap, cur, rfl, hb, hh, hr⟩
  · exact .inl h
  · exact .inr ⟨b, cap, cur, rfl, hb, (hg.block b (Array.getElem?_eq_some_iff.1 hh).1 (fun e => hne b rfl (Option.some.inj e))).trans hh, hr⟩
/-- A space in memory: its field, its coordinates, their numbers. -/
def Spc (w : World) (S q : Nat) : Prop := ∃ u g cap M, Fs w S u q ∧ w.cell? ⟨S, 1, none⟩ = some (.slice (some ⟨g, 0, none⟩) (cN q) cap) ∧ w.cell? ⟨S, 2, none⟩ = some (.map (some M)) ∧ (cN q ≤ cap ∧ cap ≤ maxLen) ∧ Cs w g (cN q) (pt q) ∧ Mp w M (all q)
theorem Spc.to {w w' : World} {S q : Nat} (h : Spc w S q) (hb : Below w.heap.size w w') : Spc w' S q := by
  obtain ⟨u, g, cap, M, h1, h2, h3, h4, h5, h6⟩ := h
  exact ⟨u, g, cap, M, h1.to hb, cell_to h2 hb, cell_to h3 hb, h4, h5.to hb, h6.to hb⟩
theorem Fd.ptr {w : World} {u : Value} {q : Nat} (h : Fd w u q) : ∃ b, u = .pointer (some ⟨b, 0, none⟩) := by obtain ⟨B, _, _, h, _⟩ := h; exact ⟨B, h⟩
def nsPost (q : Nat) (w : World) (e : Ending) (w' : World) : Prop := ∃ S, e = .returned (.tuple #[.pointer (some ⟨S, 0, none⟩), .int .i64 0]) ∧ Spc w' S q ∧ Below w.heap.size w w'
theorem cF_succ (q n : Nat) : cF q (n + 1) = if ld (co q n) = 1 then cF q n ++ [co q n] else cF q n := by
  unfold cF
  rw [List.range_succ, List.filter_append, List.map_append]
  by_cases h : ld (co q n) = 1
  · rw [if_pos h]; simp [h]
  · rw [if_neg h]; simp [h]
theorem cF_facts : ∀ q ∈ szs, ∀ n, n < q * q * q → (ld (co q n) = 1 → co q n ∉ cF q n) ∧ (cF q n).length ≤ 57 := by decide +kernel
theorem cF_el {q : Nat} (hq : q ∈ szs) {n : Nat} (hn : n ≤ q * q * q) : ∀ c ∈ cF q n, El q c := by
  intro c hc
  unfold cF at hc
  obtain ⟨m, hm, rfl⟩ := List.mem_map.1 hc
  have := List.mem_range.1 (List.mem_filter.1 hm).1
  exact co_el hq (by omega)
theorem all_at {q : Nat} (hq : q ∈ szs) {i : Nat} (hi : i < cN q) : (all q).getD i (0, 0, 0) = pt q i := by
  rw [all_pt hq]; simp [List.getD, hi]

theorem ns_arg (q : Int) (w : World) (hK : Kd w) (hq : ∀ k, k < 7 → (kS k : Int) ≠ q) : Calls Tryd.prog 23 #[.int .i64 q] w (bel (.tuple #[.pointer none, .int .i64 1]) w) := by
  have NE := Lib.hid (fun p => lf_arg q p w hK hq)
  clear hq hK
  go_enter Tryd.func23, Tryd.ntmps23
  go_wp2_with fail
  refine (NE.out _).mono ?_
  rintro e w1 ⟨rfl, hb⟩
  have HB := Lib.hid hb
  clear hb
  go_wp2_with fail
  go_ret2
  exact ⟨rfl, HB.out⟩
theorem ns_limit (q : Nat) (w : World) (hK : Kd w) (hq : q ∈ Sf.sizes) (h8 : q ∉ szs) : Calls Tryd.prog 23 #[.int .i64 (q : Int)] w (bel (.tuple #[.pointer none, .int .i64 7]) w) := by
  have NE := Lib.hid (fun p (hp : (60 : Int) < p) => lf_limit q p w hK hq hp)
  obtain ⟨p, hp⟩ : ∃ p : Nat, q * q = p := ⟨_, rfl⟩
  have e8 := kS_big q hq h8
  have p60 : 60 < p ∧ p ≤ 81 ∧ q ≤ 9 := by rcases e8 with rfl | rfl <;> omega
  have ep : (q : Int) * (q : Int) = (p : Int) := by rw [← hp]; rfl
  have NE' := NE.out (((p + q + 1 : Nat)) : Int) (by omega)
  have NE2 := Lib.hid NE'
  have e1 : ((p + q + 1 : Nat) : Int) = (p : Int) + (q : Int) + 1 := by omega
  rw [e1] at NE2
  clear NE NE' hq hK h8 hp e8 e1
  go_enter Tryd.func23, Tryd.ntmps23
  go_wp2_with fail
  refine NE2.out.mono ?_
  rintro e w1 ⟨rfl, hb⟩
  have HB := Lib.hid hb
  clear hb
  go_wp2_with fail
  go_ret2
  exact ⟨rfl, HB.out⟩
set_option maxHeartbeats 4000000 in
set_option maxRecDepth 100000 in
theorem ns_ok (q : Nat) (w : World) (hK : Kd w) (hq : q ∈ szs) : Calls Tryd.prog 23 #[.int .i64 (q : Int)] w (nsPost q w) := by
  have so := szs_ok hq
  obtain ⟨p, hp⟩ : ∃ p : Nat, q * q = p := ⟨_, rfl⟩
  obtain ⟨r, hr⟩ : ∃ r : Nat, q * q * q = r := ⟨_, rfl⟩
  have ep : (q : Int) * (q : Int) = (p : Int) := by rw [← hp]; rfl
  have er : (p : Int) * (q : Int) = (r : Int) := by rw [← hr, ← hp]; rfl
  have r343 : r ≤ 343 := by omega
  have p60 : p + q + 1 ≤ 57 := by have := so.2.2.2.1; unfold cN at this; omega
  have NE := Lib.hid (lf_ok q ((p : Int) + (q : Int) + 1) w hK so.1 (by omega))
  have q2 := so.2.1
  have q7 := so.2.2.1
  have QS := Lib.hid hq
  have HR := Lib.hid hr
  clear so hK hq hp hr
  have hmm := @run_makeMap Tryd.prog
  go_enter Tryd.func23, Tryd.ntmps23
  go_wp2_with fail
  refine NE.out.mono ?_
  rintro e w1 ⟨u, rfl, hf, hb⟩
  have FD := Lib.hid hf
  have B1 := Lib.hid hb
  obtain ⟨bf, rfl⟩ := hf.ptr
  clear hf hb
  obtain ⟨B, hB⟩ : ∃ B, w1.heap.size = B := ⟨_, rfl⟩
  have HE := Lib.hid hB
  clear hB
  go_wp2_with fail
  rw [HE.out]
  go_loopw [7, 8, 32] (fun _ _ i wr => ∃ n : Nat, n ≤ r ∧ i = .int .i64 (n : Int) ∧ ∃ v, Hid (Below w1.heap.size w1 wr ∧ Row wr (B + 1) 51 #[.pointer (some ⟨bf, 0, none⟩), v, .map (some B)] ∧ OwnC 53 wr (B + 2) v (cF q n) ∧ Mp wr B (cF q n))) (fun _ _ i _ => r - (intOf i).toNat)
  case atStart =>
    refine ⟨0, by omega, rfl, .slice none 0 0, Lib.hid ⟨((Below.refl _ _).alloc (Nat.le_refl _) _).alloc (by simp) _, ?_, OwnC.nil_ _ _ _, ?_⟩⟩
    · have := row_new' (w1.alloc (.map #[] 0)) #[.pointer (some ⟨bf, 0, none⟩), .slice none 0 0, .map (some B)] 51
      rw [World.size_alloc, HE.out] at this
      exact this
    · have := Mp.made w1
      rw [HE.out] at this
      exact this.to ((Below.refl _ _).alloc (Nat.le_refl _) _)
  case round =>
    obtain ⟨n, hn, rfl, v, H⟩ := hrel
    by_cases hlt : n < r
    · have hkI : (n : Int) < (r : Int) := by omega
      have HB := Lib.hid H.out.1
      have HR1 := Lib.hid H.out.2.1
      have HL1 := Lib.hid H.out.2.2.1
      have HM1 := Lib.hid H.out.2.2.2
      have hnr : n < q * q * q := by rw [HR.out]; exact hlt
      obtain ⟨hnew, h57⟩ := cF_facts q QS.out n hnr
      have hsucc := cF_succ q n
      have hel := cF_el QS.out (Nat.le_of_lt hnr)
      have hce := co_el QS.out hnr
      obtain ⟨a, ha⟩ : ∃ a, n / q = a := ⟨_, rfl⟩
      obtain ⟨x, hx⟩ : ∃ x, a / q = x := ⟨_, rfl⟩
      obtain ⟨y, hy⟩ : ∃ y, a % q = y := ⟨_, rfl⟩
      obtain ⟨z, hz⟩ : ∃ z, n % q = z := ⟨_, rfl⟩
      have hco : co q n = (x, y, z) := by unfold co; rw [ha, hx, hy, hz]
      rw [hco] at hnew hsucc hce
      have an : a ≤ 343 := by rw [← ha]; have := Nat.div_le_self n q; omega
      have xn : x ≤ 343 := by rw [← hx]; have := Nat.div_le_self a q; omega
      have yn : y ≤ 343 := by rw [← hy]; have := Nat.mod_le a q; omega
      have zn : z ≤ 343 := by rw [← hz]; have := Nat.mod_le n q; omega
      have q0 : ¬ q = 0 := by omega
      have d1 : (n : Int).tdiv (q : Int) = (a : Int) := by rw [← ha]; exact (Int.ofNat_tdiv n q).symm
      have d2 : (a : Int).tdiv (q : Int) = (x : Int) := by rw [← hx]; exact (Int.ofNat_tdiv a q).symm
      have m1 : (a : Int).tmod (q : Int) = (y : Int) := by rw [← hy]; exact (Int.ofNat_tmod a q).symm
      have m2 : (n : Int).tmod (q : Int) = (z : Int) := by rw [← hz]; exact (Int.ofNat_tmod n q).symm
      have e1 : (n : Int) / (q : Int) = (a : Int) := by rw [← ha]; rfl
      have e2 : (a : Int) / (q : Int) = (x : Int) := by rw [← hx]; rfl
      have e3 : (a : Int) % (q : Int) = (y : Int) := by rw [← hy]; rfl
      have e4 : (n : Int) % (q : Int) = (z : Int) := by rw [← hz]; rfl
      have w1' : IntKind.i64.wrap (a : Int) = (a : Int) := by rw [IntKind.wrap_i64]; omega
      have w2' : IntKind.i64.wrap (x : Int) = (x : Int) := by rw [IntKind.wrap_i64]; omega
      have w3' : IntKind.i64.wrap (y : Int) = (y : Int) := by rw [IntKind.wrap_i64]; omega
      have w4' : IntKind.i64.wrap (z : Int) = (z : Int) := by rw [IntKind.wrap_i64]; omega
      obtain ⟨c, hc⟩ : ∃ c : C3, (x, y, z) = c := ⟨_, rfl⟩
      have KC : Hid ((#[.int .i64 (x : Int), .int .i64 (y : Int), .int .i64 (z : Int)] : Array Value) = ka c) := Lib.hid (by rw [← hc]; rfl)
      rw [hc] at hnew hsucc hce
      have NEW := Lib.hid hnew
      have SUC := Lib.hid hsucc
      have EL := Lib.hid hel
      have CE := Lib.hid hce
      have L57 := Lib.hid h57
      have LD := Lib.hid (leading_any c)
      clear hnew hsucc hel hce h57 hnr ha hx hy hz hco hc H
      obtain ⟨L, hL⟩ : ∃ L, cF q n = L := ⟨_, rfl⟩
      rw [hL] at NEW SUC EL L57 HL1 HM1
      clear hL
      obtain ⟨A, cp, rfl⟩ := HL1.out.form
      obtain ⟨m, hm⟩ : ∃ m, L.length = m := ⟨_, rfl⟩
      rw [hm] at HR1 HL1
      have m57 : m ≤ 57 := by rw [← hm]; exact L57.out
      have LM := Lib.hid hm
      clear hm L57
      obtain ⟨l, hl⟩ : ∃ l, ld c = l := ⟨_, rfl⟩
      rw [hl] at LD NEW SUC
      clear hl
      go_wp2_with fail
      refine wp_region_held (P := Tryd.prog) (S := (fun w' : World => True)) rfl ?_
      change wpAnyH _ _ _ _ _ _ _ _ wr.drew
      have hz2 : Below wr.heap.size wr wr.drew := (Below.refl wr.heap.size wr).drew
      generalize wr.drew = wz1 at hz2 ⊢
      have hq3 : Below wr.heap.size wr wz1 := hz2
      have R_4 := Lib.hid (Row.go HR1.out hq3)
      have L_5 := Lib.hid (OwnC.to HL1.out hq3)
      have M_6 := Lib.hid (Mp.to HM1.out hq3)
      have HB_7 : Hid (Below w1.heap.size w1 wz1) := Lib.hid (HB.out.trans (hq3.mono HB.out.size))
      clear hq3
      clear hz2
      have hS8 : (fun w' : World => True) wz1 := trivial
      refine takeD (i := 0) (v := .int .i64 (n : Int)) (some 35) rfl rfl (by kernel_rfl) (by kernel_rfl) (by kernel_rfl) (fun _ _ _ h => h) (Or.inl ⟨by rfl, by rintro w' -; go_simp⟩) hS8 ?_
      simp only [Act.put, List.setIfInBounds_toArray, List.set_cons_zero, List.set_cons_succ]
      refine takeD (i := 1) (v := .int .i64 (q : Int)) (some 36) rfl rfl (by kernel_rfl) (by kernel_rfl) (by kernel_rfl) (fun _ _ _ h => h) (Or.inl ⟨by rfl, by rintro w' -; go_simp⟩) hS8 ?_
      simp only [Act.put, List.setIfInBounds_toArray, List.set_cons_zero, List.set_cons_succ]
      refine takeD (i := 2) (v := .int .i64 (a : Int)) (some 37) rfl rfl (by kernel_rfl) (by kernel_rfl) (by kernel_rfl) (fun _ _ _ h => h) (Or.inl ⟨by rfl, by rintro w' -; go_simp⟩) hS8 ?_
      simp only [Act.put, List.setIfInBounds_toArray, List.set_cons_zero, List.set_cons_succ]
      refine takeD (i := 3) (v := .int .i64 (q : Int)) (some 38) rfl rfl (by kernel_rfl) (by kernel_rfl) (by kernel_rfl) (fun _ _ _ h => h) (Or.inl ⟨by rfl, by rintro w' -; go_simp⟩) hS8 ?_
      simp only [Act.put, List.setIfInBounds_toArray, List.set_cons_zero, List.set_cons_succ]
      refine takeD (i := 4) (v := .int .i64 (x : Int)) (some 39) rfl rfl (by kernel_rfl) (by kernel_rfl) (by kernel_rfl) (fun _ _ _ h => h) (Or.inl ⟨by rfl, by rintro w' -; go_simp⟩) hS8 ?_
      simp only [Act.put, List.setIfInBounds_toArray, List.set_cons_zero, List.set_cons_succ]
      refine takeD (i := 5) (v := .int .i64 (n : Int)) (some 40) rfl rfl (by kernel_rfl) (by kernel_rfl) (by kernel_rfl) (fun _ _ _ h => h) (Or.inl ⟨by rfl, by rintro w' -; go_simp⟩) hS8 ?_
      simp only [Act.put, List.setIfInBounds_toArray, List.set_cons_zero, List.set_cons_succ]
      refine takeD (i := 6) (v := .int .i64 (q : Int)) (some 41) rfl rfl (by kernel_rfl) (by kernel_rfl) (by kernel_rfl) (fun _ _ _ h => h) (Or.inl ⟨by rfl, by rintro w' -; go_simp⟩) hS8 ?_
      simp only [Act.put, List.setIfInBounds_toArray, List.set_cons_zero, List.set_cons_succ]
      refine takeD (i := 7) (v := .int .i64 (a : Int)) (some 42) rfl rfl (by kernel_rfl) (by kernel_rfl) (by kernel_rfl) (fun _ _ _ h => h) (Or.inl ⟨by rfl, by rintro w' -; go_simp⟩) hS8 ?_
      simp only [Act.put, List.setIfInBounds_toArray, List.set_cons_zero, List.set_cons_succ]
      refine takeD (i := 8) (v := .int .i64 (q : Int)) (some 43) rfl rfl (by kernel_rfl) (by kernel_rfl) (by kernel_rfl) (fun _ _ _ h => h) (Or.inl ⟨by rfl, by rintro w' -; go_simp⟩) hS8 ?_
      simp only [Act.put, List.setIfInBounds_toArray, List.set_cons_zero, List.set_cons_succ]
      refine takeD (i := 9) (v := .int .i64 (y : Int)) (some 44) rfl rfl (by kernel_rfl) (by kernel_rfl) (by kernel_rfl) (fun _ _ _ h => h) (Or.inl ⟨by rfl, by rintro w' -; go_simp⟩) hS8 ?_
      simp only [Act.put, List.setIfInBounds_toArray, List.set_cons_zero, List.set_cons_succ]
      refine takeD (i := 10) (v := .int .i64 (n : Int)) (some 45) rfl rfl (by kernel_rfl) (by kernel_rfl) (by kernel_rfl) (fun _ _ _ h => h) (Or.inl ⟨by rfl, by rintro w' -; go_simp⟩) hS8 ?_
      simp only [Act.put, List.setIfInBounds_toArray, List.set_cons_zero, List.set_cons_succ]
      refine takeD (i := 11) (v := .int .i64 (q : Int)) (some 46) rfl rfl (by kernel_rfl) (by kernel_rfl) (by kernel_rfl) (fun _ _ _ h => h) (Or.inl ⟨by rfl, by rintro w' -; go_simp⟩) hS8 ?_
      simp only [Act.put, List.setIfInBounds_toArray, List.set_cons_zero, List.set_cons_succ]
      refine takeD (i := 12) (v := .int .i64 (z : Int)) (some 47) rfl rfl (by kernel_rfl) (by kernel_rfl) (by kernel_rfl) (fun _ _ _ h => h) (Or.inl ⟨by rfl, by rintro w' -; go_simp⟩) hS8 ?_
      simp only [Act.put, List.setIfInBounds_toArray, List.set_cons_zero, List.set_cons_succ]
      refine takeD (i := 13) (v := .agg #[.int .i64 (x : Int), .int .i64 (y : Int), .int .i64 (z : Int)]) (some 48) rfl rfl (by kernel_rfl) (by kernel_rfl) (by kernel_rfl) (fun _ _ _ h => h) (Or.inl ⟨by rfl, by rintro w' -; go_simp⟩) hS8 ?_
      simp only [Act.put, List.setIfInBounds_toArray, List.set_cons_zero, List.set_cons_succ]
      refine wpAnyH_ready (rs := [14]) (by kernel_rfl) (by simp) ?_
      refine AllReadyH.cons rfl (fun K9 hK9 => ?_) AllReadyH.nil
      have HK9 := Lib.hid hK9
      clear hK9
      rw [if_pos (by rfl)]
      go_simp
      obtain ⟨nb, hnb⟩ : ∃ nb, wz1.heap.size = nb := ⟨_, rfl⟩
      obtain ⟨wa, hwa⟩ : ∃ wa, wz1.alloc (.cells #[.int .i64 0, .int .i64 0, .int .i64 0] 53) = wa := ⟨_, rfl⟩
      have R0 := row_new' wz1 #[.int .i64 0, .int .i64 0, .int .i64 0] 53
      have hqa : Below wz1.heap.size wz1 wa := by rw [← hwa]; exact (Below.refl _ _).alloc (Nat.le_refl _) _
      have NBA : Hid (∀ k, (Value.slice A m cp).ownBlock = some k → k ≠ nb) := Lib.hid fun k e h => by have := (L_5.out.lt k e).2; omega
      have NB : Hid (nb ≠ B ∧ nb ≠ B + 1 ∧ w1.heap.size ≤ nb) := Lib.hid (by have h1 := HB_7.out.size; have h2 := R_4.out.lt; have h3 := M_6.out.lt; omega)
      rw [hnb, hwa] at R0
      rw [hnb, hwa]
      have ZN := Lib.hid R0
      have hq10 : Below wz1.heap.size wz1 wa := hqa
      have R_11 := Lib.hid (Row.go R_4.out hq10)
      have L_12 := Lib.hid (OwnC.to L_5.out hq10)
      have M_13 := Lib.hid (Mp.to M_6.out hq10)
      have HB_14 : Hid (Below w1.heap.size w1 wa) := Lib.hid (HB_7.out.trans (hq10.mono HB_7.out.size))
      clear hq10
      clear R0 hqa hwa hnb
      have hS15 : (fun w' : World => True) wa := trivial
      refine HK9.out _ _ hS15 fun _ => ?_
      try simp only [Act.put, List.setIfInBounds_toArray, List.set_cons_zero, List.set_cons_succ]
      refine wpAnyH_ready (rs := [15]) (by kernel_rfl) (by simp) ?_
      refine AllReadyH.cons rfl (fun K16 hK16 => ?_) AllReadyH.nil
      have HK16 := Lib.hid hK16
      clear hK16
      rw [if_pos (by rfl)]
      rw [KC.out]
      refine wp_store_mid _ _ _ rfl nb 0 (ka c) rfl rfl (ZN.out.thr (n := 3) (by simp)) (si3 c) (ka_one _) ?_
      have hG := grown_set3 wa nb c
      have ZB := Lib.hid (below_set3 HB_14.out (g := nb) NB.out.2.2 c)
      have ZR := Lib.hid (R_11.out.gr hG (by simpa using Ne.symm NB.out.2.1))
      have ZL := Lib.hid (L_12.out.own hG (fun k e h => NBA.out k e h))
      have ZM := Lib.hid (M_13.out.block (hG.block B M_13.out.lt (by simpa using Ne.symm NB.out.1)))
      have RN := Lib.hid (ZN.out.put3 rfl c).at3
      obtain ⟨W7, hW7⟩ : ∃ W7, wa.setCells nb 0 (ka c).toList = W7 := ⟨_, rfl⟩
      rw [hW7] at ZB ZR ZL ZM RN ⊢
      clear hW7 hG
      have hS17 : (fun w' : World => True) W7 := trivial
      refine HK16.out _ _ hS17 fun _ => ?_
      refine wpAnyH_done (by kernel_rfl) ?_ _
      have RL : Hid (W7.rangeAt nb 0 (kl c)) := RN
      go_wp2_with (first | (refine wpList_load_mid rfl _ _ rfl nb 0 rfl (kl c) _ RL.out Tryd.underlying53 rfl (si3 c) ?_))
      clear RL
      by_cases l1 : l = 1
      · subst l1
        refine (LD.out _).mono ?_
        rintro e x18 ⟨rfl, hb⟩
        have hq19 : Below W7.heap.size W7 x18 := hb
        have R_20 := Lib.hid (Row.go ZR.out hq19)
        have L_21 := Lib.hid (OwnC.to ZL.out hq19)
        have M_22 := Lib.hid (Mp.to ZM.out hq19)
        have A_23 := Lib.hid (At3.to RN.out hq19)
        have HB_24 : Hid (Below w1.heap.size w1 x18) := Lib.hid (ZB.out.trans (hq19.mono ZB.out.size))
        clear hq19
        clear hb
        go_wp2_with fail
        refine wp_region_held (P := Tryd.prog) (S := (fun w' : World => w'.cell? ⟨B + 1, 1, none⟩ = some (.slice A m cp) ∧ w'.cell? ⟨B + 1, 2, none⟩ = some (.map (some B)) ∧ At3 w' nb 0 c)) rfl ?_
        change wpAnyH _ _ _ _ _ _ _ _ x18.drew
        have hz26 : Below x18.heap.size x18 x18.drew := (Below.refl x18.heap.size x18).drew
        generalize x18.drew = wz25 at hz26 ⊢
        have hq27 : Below x18.heap.size x18 wz25 := hz26
        have R_28 := Lib.hid (Row.go R_20.out hq27)
        have L_29 := Lib.hid (OwnC.to L_21.out hq27)
        have M_30 := Lib.hid (Mp.to M_22.out hq27)
        have A_31 := Lib.hid (At3.to A_23.out hq27)
        have HB_32 : Hid (Below w1.heap.size w1 wz25) := Lib.hid (HB_24.out.trans (hq27.mono HB_24.out.size))
        clear hq27
        clear hz26
        have hS33 : (fun w' : World => w'.cell? ⟨B + 1, 1, none⟩ = some (.slice A m cp) ∧ w'.cell? ⟨B + 1, 2, none⟩ = some (.map (some B)) ∧ At3 w' nb 0 c) wz25 := ⟨(show _ = some _ from R_28.out.cell 1), (show _ = some _ from R_28.out.cell 2), A_31.out⟩
        refine takeD (i := 0) (v := .pointer (some ⟨B + 1, 0, none⟩)) (some 52) rfl rfl (by kernel_rfl) (by kernel_rfl) (by kernel_rfl) (fun _ _ _ h => h) (Or.inl ⟨by rfl, by rintro w' -; go_simp⟩) hS33 ?_
        simp only [Act.put, List.setIfInBounds_toArray, List.set_cons_zero, List.set_cons_succ]
        refine takeD (i := 1) (v := .pointer (some ⟨B + 1, 0, none⟩)) (some 53) rfl rfl (by kernel_rfl) (by kernel_rfl) (by kernel_rfl) (fun _ _ _ h => h) (Or.inl ⟨by rfl, by rintro w' -; go_simp⟩) hS33 ?_
        simp only [Act.put, List.setIfInBounds_toArray, List.set_cons_zero, List.set_cons_succ]
        refine takeD (i := 2) (v := .pointer (some ⟨B + 1, 2, none⟩)) (some 54) rfl rfl (by kernel_rfl) (by kernel_rfl) (by kernel_rfl) (fun _ _ _ h => h) (Or.inl ⟨by rfl, by rintro w' -; go_simp⟩) hS33 ?_
        simp only [Act.put, List.setIfInBounds_toArray, List.set_cons_zero, List.set_cons_succ]
        refine takeD (i := 3) (v := .map (some B)) (some 55) rfl rfl (by kernel_rfl) (by kernel_rfl) (by kernel_rfl) (fun _ _ _ h => h) (Or.inl ⟨by rfl, by rintro w' h; have hc := h.2.1; go_simp⟩) hS33 ?_
        simp only [Act.put, List.setIfInBounds_toArray, List.set_cons_zero, List.set_cons_succ]
        refine takeD (i := 4) (v := .agg (ka c)) (some 56) rfl rfl (by kernel_rfl) (by kernel_rfl) (by kernel_rfl) (fun _ _ _ h => h) (yieldsIf_load_mid (by rfl) _ _ rfl _ _ rfl (kl c) _ (fun w' h => h.2.2) Tryd.underlying53 rfl (si3 c)) hS33 ?_
        simp only [Act.put, List.setIfInBounds_toArray, List.set_cons_zero, List.set_cons_succ]
        refine takeD (i := 5) (v := .pointer (some ⟨B + 1, 0, none⟩)) (some 57) rfl rfl (by kernel_rfl) (by kernel_rfl) (by kernel_rfl) (fun _ _ _ h => h) (Or.inl ⟨by rfl, by rintro w' -; go_simp⟩) hS33 ?_
        simp only [Act.put, List.setIfInBounds_toArray, List.set_cons_zero, List.set_cons_succ]
        refine takeD (i := 6) (v := .pointer (some ⟨B + 1, 0, none⟩)) (some 58) rfl rfl (by kernel_rfl) (by kernel_rfl) (by kernel_rfl) (fun _ _ _ h => h) (Or.inl ⟨by rfl, by rintro w' -; go_simp⟩) hS33 ?_
        simp only [Act.put, List.setIfInBounds_toArray, List.set_cons_zero, List.set_cons_succ]
        refine takeD (i := 7) (v := .pointer (some ⟨B + 1, 1, none⟩)) (some 59) rfl rfl (by kernel_rfl) (by kernel_rfl) (by kernel_rfl) (fun _ _ _ h => h) (Or.inl ⟨by rfl, by rintro w' -; go_simp⟩) hS33 ?_
        simp only [Act.put, List.setIfInBounds_toArray, List.set_cons_zero, List.set_cons_succ]
        refine takeD (i := 8) (v := .slice A m cp) (some 60) rfl rfl (by kernel_rfl) (by kernel_rfl) (by kernel_rfl) (fun _ _ _ h => h) (Or.inl ⟨by rfl, by rintro w' h; have hc := h.1; go_simp⟩) hS33 ?_
        simp only [Act.put, List.setIfInBounds_toArray, List.set_cons_zero, List.set_cons_succ]
        refine takeD (i := 9) (v := .int .i64 (m : Int)) (some 61) rfl rfl (by kernel_rfl) (by kernel_rfl) (by kernel_rfl) (fun _ _ _ h => h) (Or.inl ⟨by rfl, by rintro w' -; go_simp⟩) hS33 ?_
        simp only [Act.put, List.setIfInBounds_toArray, List.set_cons_zero, List.set_cons_succ]
        refine wpAnyH_ready (rs := [10]) (by kernel_rfl) (by simp) ?_
        refine AllReadyH.cons rfl (fun K34 hK34 => ?_) AllReadyH.nil
        have HK34 := Lib.hid hK34
        clear hK34
        rw [if_pos (by rfl)]
        refine wp_mapPut _ _ _ rfl B q m L c M_30.out (by omega) EL.out CE.out (NEW.out trivial) (by rw [LM.out]; omega) LM.out rfl rfl rfl ?_
        intro W9 hM hG
        have ZB := Lib.hid (HB_32.out.grown hG HB_32.out.size (fun k e => by cases e; exact Nat.le_of_eq HE.out))
        have ZR := Lib.hid (R_28.out.gr hG (by simp))
        have ZL := Lib.hid (L_29.out.off (fun b hb hlt => hG.block b hlt (by simpa using hb)) (by omega))
        have ZA := Lib.hid (A_31.out.gr hG (by simpa using NB.out.1))
        have ZM := Lib.hid hM
        clear hM hG
        have hS35 : (fun w' : World => w'.cell? ⟨B + 1, 1, none⟩ = some (.slice A m cp) ∧ w'.cell? ⟨B + 1, 2, none⟩ = some (.map (some B)) ∧ At3 w' nb 0 c) W9 := ⟨(show _ = some _ from ZR.out.cell 1), (show _ = some _ from ZR.out.cell 2), ZA.out⟩
        refine HK34.out _ _ hS35 fun _ => ?_
        refine wpAnyH_done (by kernel_rfl) ?_ _
        go_wp2_with fail
        have AP : Hid (∀ k, (Value.slice A m cp).ownBlock = some k → k ≠ nb) := NBA
        refine wp_region_held (P := Tryd.prog) (S := (fun w' : World => At3 w' nb 0 c)) rfl ?_
        change wpAnyH _ _ _ _ _ _ _ _ W9.drew
        have hz37 : Below W9.heap.size W9 W9.drew := (Below.refl W9.heap.size W9).drew
        generalize W9.drew = wz36 at hz37 ⊢
        have hq38 : Below W9.heap.size W9 wz36 := hz37
        have R_39 := Lib.hid (Row.go ZR.out hq38)
        have L_40 := Lib.hid (OwnC.to ZL.out hq38)
        have M_41 := Lib.hid (Mp.to ZM.out hq38)
        have A_42 := Lib.hid (At3.to ZA.out hq38)
        have HB_43 : Hid (Below w1.heap.size w1 wz36) := Lib.hid (ZB.out.trans (hq38.mono ZB.out.size))
        clear hq38
        clear hz37
        have hS44 : (fun w' : World => At3 w' nb 0 c) wz36 := A_42.out
        refine takeD (i := 0) (v := .pointer (some ⟨B + 1, 0, none⟩)) (some 62) rfl rfl (by kernel_rfl) (by kernel_rfl) (by kernel_rfl) (fun _ _ _ h => h) (Or.inl ⟨by rfl, by rintro w' -; go_simp⟩) hS44 ?_
        simp only [Act.put, List.setIfInBounds_toArray, List.set_cons_zero, List.set_cons_succ]
        refine takeD (i := 1) (v := .pointer (some ⟨B + 1, 0, none⟩)) (some 63) rfl rfl (by kernel_rfl) (by kernel_rfl) (by kernel_rfl) (fun _ _ _ h => h) (Or.inl ⟨by rfl, by rintro w' -; go_simp⟩) hS44 ?_
        simp only [Act.put, List.setIfInBounds_toArray, List.set_cons_zero, List.set_cons_succ]
        refine takeD (i := 2) (v := .pointer (some ⟨B + 1, 0, none⟩)) (some 64) rfl rfl (by kernel_rfl) (by kernel_rfl) (by kernel_rfl) (fun _ _ _ h => h) (Or.inl ⟨by rfl, by rintro w' -; go_simp⟩) hS44 ?_
        simp only [Act.put, List.setIfInBounds_toArray, List.set_cons_zero, List.set_cons_succ]
        refine takeD (i := 3) (v := .pointer (some ⟨B + 1, 1, none⟩)) (some 65) rfl rfl (by kernel_rfl) (by kernel_rfl) (by kernel_rfl) (fun _ _ _ h => h) (Or.inl ⟨by rfl, by rintro w' -; go_simp⟩) hS44 ?_
        simp only [Act.put, List.setIfInBounds_toArray, List.set_cons_zero, List.set_cons_succ]
        refine takeD (i := 5) (v := .agg (ka c)) (some 67) rfl rfl (by kernel_rfl) (by kernel_rfl) (by kernel_rfl) (fun _ _ _ h => h) (yieldsIf_load_mid (by rfl) _ _ rfl _ _ rfl (kl c) _ (fun w' h => h) Tryd.underlying53 rfl (si3 c)) hS44 ?_
        simp only [Act.put, List.setIfInBounds_toArray, List.set_cons_zero, List.set_cons_succ]
        refine wpAnyH_ready (rs := [4, 6]) (by kernel_rfl) (by simp) ?_
        refine AllReadyH.cons rfl (fun K hK => ?_) (AllReadyH.cons rfl (fun K hK => ?_) AllReadyH.nil)
        · have HK45 := Lib.hid hK
          clear hK
          rw [if_pos (by rfl)]
          have cc := (show _ = some _ from R_39.out.cell 1)
          go_simp
          clear cc
          skip
          refine HK45.out _ _ hS44 fun _ => ?_
          try simp only [Act.put, List.setIfInBounds_toArray, List.set_cons_zero, List.set_cons_succ]
          refine wpAnyH_ready (rs := [6]) (by kernel_rfl) (by simp) ?_
          refine AllReadyH.cons rfl (fun K46 hK46 => ?_) AllReadyH.nil
          have HK46 := Lib.hid hK46
          clear hK46
          rw [if_pos (by rfl)]
          refine wp_build_c _ rfl c rfl ?_
          obtain ⟨x47, hxb⟩ : ∃ q, wz36.alloc (.cells (ka c) 53) = q := ⟨_, rfl⟩
          have hbx : Below wz36.heap.size wz36 x47 := by rw [← hxb]; exact (Below.refl _ _).alloc (Nat.le_refl _) _
          have LIT : Hid (At3 x47 wz36.heap.size 0 c) := Lib.hid (by rw [← hxb]; exact (row_new' _ _ _).at3)
          obtain ⟨lb, hlb⟩ : ∃ q, wz36.heap.size = q := ⟨_, rfl⟩
          rw [hlb] at LIT
          rw [hxb, hlb]
          have hq48 : Below wz36.heap.size wz36 x47 := hbx
          have R_49 := Lib.hid (Row.go R_39.out hq48)
          have L_50 := Lib.hid (OwnC.to L_40.out hq48)
          have M_51 := Lib.hid (Mp.to M_41.out hq48)
          have A_52 := Lib.hid (At3.to A_42.out hq48)
          have HB_53 : Hid (Below w1.heap.size w1 x47) := Lib.hid (HB_43.out.trans (hq48.mono HB_43.out.size))
          clear hq48
          clear hbx hxb hlb
          have hS54 : (fun w' : World => At3 w' nb 0 c) x47 := A_52.out
          refine HK46.out _ _ hS54 fun _ => ?_
          try simp only [Act.put, List.setIfInBounds_toArray, List.set_cons_zero, List.set_cons_succ]
          refine wpAnyH_ready (rs := [7]) (by kernel_rfl) (by simp) ?_
          refine AllReadyH.cons rfl (fun K55 hK55 => ?_) AllReadyH.nil
          have HK55 := Lib.hid hK55
          clear hK55
          rw [if_pos (by rfl)]
          refine wp_push_c (.tmp 66) (.tmp 68) rfl (B + 2) (.slice A m cp) L m c lb 1 rfl L_50.out LM.out rfl LIT.out (by omega) (by have := R_49.out.lt; omega) ?_
          intro gs cs x56 ho hg hat hlt2
          have ZB2 : Hid (Below w1.heap.size w1 x56) := Lib.hid (HB_53.out.grown hg HB_53.out.size (fun k e => by have h1 := (L_50.out.lt k e).1; have h2 := HE.out; omega))
          have ZR2 := Lib.hid (R_49.out.gr hg (fun e => by have := (L_50.out.lt _ e.symm).1; omega))
          have ZM2 := Lib.hid (M_51.out.block (hg.block B M_51.out.lt (fun e => by have := (L_50.out.lt _ e.symm).1; omega)))
          have ZL2 := Lib.hid ho
          have ZG2 := Lib.hid (ho.lt gs rfl).1
          have ZA2 := Lib.hid (A_52.out.gr hg (fun e => by
            have := (L_50.out.lt _ e.symm).1
            have := AP.out nb e.symm
            exact this rfl))
          clear ho hg hat hlt2
          have hS57 : (fun w' : World => At3 w' nb 0 c) x56 := ZA2.out
          refine HK55.out _ _ hS57 fun _ => ?_
          try simp only [Act.put, List.setIfInBounds_toArray, List.set_cons_zero, List.set_cons_succ]
          refine takeD (i := 8) (v := .pointer (some ⟨B + 1, 0, none⟩)) (some 70) rfl rfl (by kernel_rfl) (by kernel_rfl) (by kernel_rfl) (fun _ _ _ h => h) (Or.inl ⟨by rfl, by rintro w' -; go_simp⟩) hS57 ?_
          simp only [Act.put, List.setIfInBounds_toArray, List.set_cons_zero, List.set_cons_succ]
          refine takeD (i := 9) (v := .pointer (some ⟨B + 1, 1, none⟩)) (some 71) rfl rfl (by kernel_rfl) (by kernel_rfl) (by kernel_rfl) (fun _ _ _ h => h) (Or.inl ⟨by rfl, by rintro w' -; go_simp⟩) hS57 ?_
          simp only [Act.put, List.setIfInBounds_toArray, List.set_cons_zero, List.set_cons_succ]
          refine wpAnyH_ready (rs := [10]) (by kernel_rfl) (by simp) ?_
          refine AllReadyH.cons rfl (fun K58 hK58 => ?_) AllReadyH.nil
          have HK58 := Lib.hid hK58
          clear hK58
          rw [if_pos (by rfl)]
          have cc := (show _ = some _ from ZR2.out.cell 1)
          have ff := ZR2.out.frozen 1
          go_simp
          clear cc ff
          have ZB3 := Lib.hid (ZB2.out.setCell (p := ⟨B + 1, 1, none⟩) (by have := HE.out; show _ ≤ B + 1; omega) (.slice (some ⟨gs, 0, none⟩) (m + 1) cs))
          have ZR3 := Lib.hid (ZR2.out.store 1 (.slice (some ⟨gs, 0, none⟩) (m + 1) cs))
          have ZL3 := Lib.hid (ZL2.out.off (k := B + 1) (fun b hb hlt => Below.heap_setCell x56 ⟨B + 1, 1, none⟩ (.slice (some ⟨gs, 0, none⟩) (m + 1) cs) b hb) (by omega))
          have ZM3 := Lib.hid (ZM2.out.block (Below.heap_setCell x56 ⟨B + 1, 1, none⟩ (.slice (some ⟨gs, 0, none⟩) (m + 1) cs) B (by show B ≠ B + 1; omega)))
          have ZA3 := Lib.hid (At3.gr (row := some (B + 1)) ZA2.out (grown_set x56 (B + 1) 1 (.slice (some ⟨gs, 0, none⟩) (m + 1) cs)) (by simpa using NB.out.2.1))
          have hS59 : (fun w' : World => At3 w' nb 0 c) (x56.setCell ⟨B + 1, 1, none⟩ (.slice (some ⟨gs, 0, none⟩) (m + 1) cs)) := ZA3.out
          refine HK58.out _ _ hS59 fun _ => ?_
          refine wpAnyH_done (by kernel_rfl) ?_ _
          go_wp2_with fail
          go_roundw
          case rel => exact ⟨n + 1, by omega, by go_num, _, Lib.hid ⟨ZB3.out, ZR3.out, by rw [SUC.out, if_pos trivial]; exact ZL3.out, by rw [SUC.out, if_pos trivial]; exact ZM3.out⟩⟩
          case measure => simp [intOf]; omega
        · have HK45 := Lib.hid hK
          clear hK
          rw [if_pos (by rfl)]
          refine wp_build_c _ rfl c rfl ?_
          obtain ⟨x46, hxb⟩ : ∃ q, wz36.alloc (.cells (ka c) 53) = q := ⟨_, rfl⟩
          have hbx : Below wz36.heap.size wz36 x46 := by rw [← hxb]; exact (Below.refl _ _).alloc (Nat.le_refl _) _
          have LIT : Hid (At3 x46 wz36.heap.size 0 c) := Lib.hid (by rw [← hxb]; exact (row_new' _ _ _).at3)
          obtain ⟨lb, hlb⟩ : ∃ q, wz36.heap.size = q := ⟨_, rfl⟩
          rw [hlb] at LIT
          rw [hxb, hlb]
          have hq47 : Below wz36.heap.size wz36 x46 := hbx
          have R_48 := Lib.hid (Row.go R_39.out hq47)
          have L_49 := Lib.hid (OwnC.to L_40.out hq47)
          have M_50 := Lib.hid (Mp.to M_41.out hq47)
          have A_51 := Lib.hid (At3.to A_42.out hq47)
          have HB_52 : Hid (Below w1.heap.size w1 x46) := Lib.hid (HB_43.out.trans (hq47.mono HB_43.out.size))
          clear hq47
          clear hbx hxb hlb
          have hS53 : (fun w' : World => At3 w' nb 0 c) x46 := A_51.out
          refine HK45.out _ _ hS53 fun _ => ?_
          try simp only [Act.put, List.setIfInBounds_toArray, List.set_cons_zero, List.set_cons_succ]
          refine wpAnyH_ready (rs := [4]) (by kernel_rfl) (by simp) ?_
          refine AllReadyH.cons rfl (fun K54 hK54 => ?_) AllReadyH.nil
          have HK54 := Lib.hid hK54
          clear hK54
          rw [if_pos (by rfl)]
          have cc := (show _ = some _ from R_48.out.cell 1)
          go_simp
          clear cc
          skip
          refine HK54.out _ _ hS53 fun _ => ?_
          try simp only [Act.put, List.setIfInBounds_toArray, List.set_cons_zero, List.set_cons_succ]
          refine wpAnyH_ready (rs := [7]) (by kernel_rfl) (by simp) ?_
          refine AllReadyH.cons rfl (fun K55 hK55 => ?_) AllReadyH.nil
          have HK55 := Lib.hid hK55
          clear hK55
          rw [if_pos (by rfl)]
          refine wp_push_c (.tmp 66) (.tmp 68) rfl (B + 2) (.slice A m cp) L m c lb 1 rfl L_49.out LM.out rfl LIT.out (by omega) (by have := R_48.out.lt; omega) ?_
          intro gs cs x56 ho hg hat hlt2
          have ZB2 : Hid (Below w1.heap.size w1 x56) := Lib.hid (HB_52.out.grown hg HB_52.out.size (fun k e => by have h1 := (L_49.out.lt k e).1; have h2 := HE.out; omega))
          have ZR2 := Lib.hid (R_48.out.gr hg (fun e => by have := (L_49.out.lt _ e.symm).1; omega))
          have ZM2 := Lib.hid (M_50.out.block (hg.block B M_50.out.lt (fun e => by have := (L_49.out.lt _ e.symm).1; omega)))
          have ZL2 := Lib.hid ho
          have ZG2 := Lib.hid (ho.lt gs rfl).1
          have ZA2 := Lib.hid (A_51.out.gr hg (fun e => by
            have := (L_49.out.lt _ e.symm).1
            have := AP.out nb e.symm
            exact this rfl))
          clear ho hg hat hlt2
          have hS57 : (fun w' : World => At3 w' nb 0 c) x56 := ZA2.out
          refine HK55.out _ _ hS57 fun _ => ?_
          try simp only [Act.put, List.setIfInBounds_toArray, List.set_cons_zero, List.set_cons_succ]
          refine takeD (i := 8) (v := .pointer (some ⟨B + 1, 0, none⟩)) (some 70) rfl rfl (by kernel_rfl) (by kernel_rfl) (by kernel_rfl) (fun _ _ _ h => h) (Or.inl ⟨by rfl, by rintro w' -; go_simp⟩) hS57 ?_
          simp only [Act.put, List.setIfInBounds_toArray, List.set_cons_zero, List.set_cons_succ]
          refine takeD (i := 9) (v := .pointer (some ⟨B + 1, 1, none⟩)) (some 71) rfl rfl (by kernel_rfl) (by kernel_rfl) (by kernel_rfl) (fun _ _ _ h => h) (Or.inl ⟨by rfl, by rintro w' -; go_simp⟩) hS57 ?_
          simp only [Act.put, List.setIfInBounds_toArray, List.set_cons_zero, List.set_cons_succ]
          refine wpAnyH_ready (rs := [10]) (by kernel_rfl) (by simp) ?_
          refine AllReadyH.cons rfl (fun K58 hK58 => ?_) AllReadyH.nil
          have HK58 := Lib.hid hK58
          clear hK58
          rw [if_pos (by rfl)]
          have cc := (show _ = some _ from ZR2.out.cell 1)
          have ff := ZR2.out.frozen 1
          go_simp
          clear cc ff
          have ZB3 := Lib.hid (ZB2.out.setCell (p := ⟨B + 1, 1, none⟩) (by have := HE.out; show _ ≤ B + 1; omega) (.slice (some ⟨gs, 0, none⟩) (m + 1) cs))
          have ZR3 := Lib.hid (ZR2.out.store 1 (.slice (some ⟨gs, 0, none⟩) (m + 1) cs))
          have ZL3 := Lib.hid (ZL2.out.off (k := B + 1) (fun b hb hlt => Below.heap_setCell x56 ⟨B + 1, 1, none⟩ (.slice (some ⟨gs, 0, none⟩) (m + 1) cs) b hb) (by omega))
          have ZM3 := Lib.hid (ZM2.out.block (Below.heap_setCell x56 ⟨B + 1, 1, none⟩ (.slice (some ⟨gs, 0, none⟩) (m + 1) cs) B (by show B ≠ B + 1; omega)))
          have ZA3 := Lib.hid (At3.gr (row := some (B + 1)) ZA2.out (grown_set x56 (B + 1) 1 (.slice (some ⟨gs, 0, none⟩) (m + 1) cs)) (by simpa using NB.out.2.1))
          have hS59 : (fun w' : World => At3 w' nb 0 c) (x56.setCell ⟨B + 1, 1, none⟩ (.slice (some ⟨gs, 0, none⟩) (m + 1) cs)) := ZA3.out
          refine HK58.out _ _ hS59 fun _ => ?_
          refine wpAnyH_done (by kernel_rfl) ?_ _
          go_wp2_with fail
          go_roundw
          case rel => exact ⟨n + 1, by omega, by go_num, _, Lib.hid ⟨ZB3.out, ZR3.out, by rw [SUC.out, if_pos trivial]; exact ZL3.out, by rw [SUC.out, if_pos trivial]; exact ZM3.out⟩⟩
          case measure => simp [intOf]; omega
      · have l1I : ¬ ((l : Int) = 1) := by omega
        refine (LD.out _).mono ?_
        rintro e x18 ⟨rfl, hb⟩
        have hq19 : Below W7.heap.size W7 x18 := hb
        have R_20 := Lib.hid (Row.go ZR.out hq19)
        have L_21 := Lib.hid (OwnC.to ZL.out hq19)
        have M_22 := Lib.hid (Mp.to ZM.out hq19)
        have A_23 := Lib.hid (At3.to RN.out hq19)
        have HB_24 : Hid (Below w1.heap.size w1 x18) := Lib.hid (ZB.out.trans (hq19.mono ZB.out.size))
        clear hq19
        clear hb
        go_wp2_with fail
        go_roundw
        case rel => exact ⟨n + 1, by omega, by go_num, _, Lib.hid ⟨HB_24.out, R_20.out, by rw [SUC.out, if_neg l1]; exact L_21.out, by rw [SUC.out, if_neg l1]; exact M_22.out⟩⟩
        case measure => simp [intOf]; omega
    · obtain rfl : n = r := by omega
      have SP : Hid (Spc wr (B + 1) q ∧ Below w.heap.size w wr) := Lib.hid (by
        obtain ⟨hb, hr, hl, hm⟩ := H.out
        rw [← HR.out] at hl hm
        have hlen : (all q).length = cN q := by rw [all_pt QS.out]; simp
        have hl : OwnC 53 wr (B + 2) v (all q) := hl
        obtain ⟨g, cap, rfl, -, hc, hcs⟩ := hl.cs (by rw [hlen]; unfold cN; omega)
        rw [hlen] at hcs hc hr
        refine ⟨⟨_, g, cap, B, ⟨hr.cell 0, FD.out.to hb⟩, hr.cell 1, hr.cell 2, hc, fun i hi => ?_, hm⟩, B1.out.trans (hb.mono B1.out.size)⟩
        have := hcs i hi
        have e := all_at QS.out hi
        simp only [e] at this
        exact this)
      clear H
      go_wp2_with fail
      go_ret2
      exact ⟨B + 1, rfl, SP.out⟩

end Go.Proofs.YtjbgfpbidjhlkaaDoor
