/- Planes are balanced; a balanced design twice; without a group. -/
import Derived.Test.YtnnacofjogfkeaaDoorGP
import Derived.Test.YtnnacofjogfkeaaDoorUn
namespace Go.Proofs.YtnnacofjogfkeaaDoor
namespace Co
open Pl
set_option linter.unusedVariables false
set_option linter.unusedSimpArgs false

theorem inc_range (p : Nat → Bool) : ∀ m s, inc s ((List.range' s m).filter p)
  | 0, s => trivial
  | m + 1, s => by
    rw [List.range'_succ, List.filter_cons]
    split
    · exact ⟨Nat.le_refl _, inc_range p m (s + 1)⟩
    · exact inc_mono (Nat.le_succ s) (inc_range p m (s + 1))
theorem inc_filter (p : Nat → Bool) (m : Nat) : inc 0 ((List.range m).filter p) := by
  rw [List.range_eq_range']; exact inc_range p m 0
theorem deg_map (f : Nat → List Nat) (m a : Nat) : deg ((List.range m).map f) a = cnt (fun g => has (f g) a) m := by
  unfold deg; rw [filter_map_len, cnt_len]
theorem prs_map (f : Nat → List Nat) (m a b : Nat) : prs ((List.range m).map f) a b = cnt (fun g => has (f g) a && has (f g) b) m := by
  unfold prs; rw [filter_map_len, cnt_len]
theorem bal_proj {q : Nat} (hq : q ∈ szs) : Bal (cN q) ((List.range (cN q)).map (line q)) (q + 1) (q + 1) 1 := by
  have so := szs_ok hq
  have h2 := so.2.1
  have h4 := so.2.2.2.1
  have h7 : 7 ≤ cN q := by unfold cN; have := Nat.mul_le_mul h2 h2; omega
  refine ⟨⟨by omega, by omega⟩, ⟨by simp; omega, by simp; omega⟩, by omega, fun l hl => ?_, fun a ha => ?_, fun a b ha hb hne => ?_, Nat.le_refl 1⟩
  · obtain ⟨n, hn, rfl⟩ := List.mem_map.1 hl
    exact ⟨line_len hq (by simpa using hn), inc_filter _ _, fun a ha => line_lt ha⟩
  · rw [deg_map]; exact line_cnt hq ha
  · rw [prs_map, ← cnt_len, join_one hq ha hb hne]; rfl
theorem aff_to {q n : Nat} (hq : q ∈ szs) (hn : n < q * q + q) : aff q n = affTo q n (q * q) := by
  have h := (aff_tb hq).1.trans (aff_tb hq).2.symm
  have := congrArg (fun L => L.getD n []) h
  simpa [List.getD, hn] using this
theorem bal_aff {q : Nat} (hq : q ∈ szs) : Bal (q * q) ((List.range (q * q + q)).map (aff q)) q (q + 1) 1 := by
  have so := szs_ok hq
  have h2 := so.2.1
  have h4 := so.2.2.2.1
  have h3 := Nat.mul_le_mul h2 h2
  unfold cN at h4
  refine ⟨⟨by omega, by omega⟩, ⟨by simp; omega, by simp; omega⟩, by omega, fun l hl => ?_, fun a ha => ?_, fun a b ha hb hne => ?_, Nat.le_refl 1⟩
  · obtain ⟨n, hn, rfl⟩ := List.mem_map.1 hl
    refine ⟨aff_len, ?_, fun a ha => ?_⟩
    · rw [aff_to hq (by simpa using hn)]; exact inc_filter _ _
    · rw [aff_to hq (by simpa using hn)] at ha
      unfold affTo at ha
      simpa using (List.mem_filter.1 ha).1
  · rw [deg_map, cnt_congr (p' := fun g => has (aff q g) a && has (aff q g) a) fun j _ => (Bool.and_self _).symm, aff_join hq ha ha, if_pos rfl]
  · rw [prs_map, aff_join hq ha hb, if_neg hne]

/-! ### Twice; without a group -/
theorem bal_twice {D k r lam : Nat} {G : List (List Nat)} (h : Bal D G k r lam) (hl : 2 * G.length ≤ 4096) : Bal D (G ++ G) k (2 * r) (2 * lam) := by
  refine ⟨h.disks, ⟨by have := h.groups; rw [List.length_append]; omega, by rw [List.length_append]; omega⟩, h.width, fun l hl => ?_, fun a ha => ?_, fun a b ha hb hne => ?_, by have := h.pos; omega⟩
  · rcases List.mem_append.1 hl with hl | hl <;> exact h.form l hl
  · rw [deg_append, h.deg a ha]; omega
  · rw [prs_append, h.prs a b ha hb hne]; omega
theorem deg_cons (l : List Nat) (G : List (List Nat)) (a : Nat) : deg (l :: G) a = (bif has l a then 1 else 0) + deg G a := by
  unfold deg
  rw [List.filter_cons]
  cases has l a <;> simp <;> omega
theorem deg_split {G : List (List Nat)} {i : Nat} (hi : i < G.length) (a : Nat) : deg G a = deg (G.take i ++ G.drop (i + 1)) a + (bif has G[i] a then 1 else 0) := by
  have e : G = G.take i ++ G[i] :: G.drop (i + 1) := by rw [List.getElem_cons_drop, List.take_append_drop]
  conv => lhs; rw [e]
  rw [deg_append, deg_append, deg_cons]; omega
theorem full_len : ∀ {l : List Nat} {x D : Nat}, inc x l → (∀ b, x ≤ b → b < D → b ∈ l) → D ≤ x + l.length
  | [], x, D, _, h => by
    rcases Nat.lt_or_ge x D with hlt | hge
    · exact absurd (h x (Nat.le_refl _) hlt) (by simp)
    · exact hge
  | a :: t, x, D, ⟨h1, h2⟩, h => by
    rcases Nat.lt_or_ge x D with hlt | hge
    · have hx : x = a := by
        rcases List.mem_cons.1 (h x (Nat.le_refl _) hlt) with e | e
        · exact e
        · have := inc_mem h2 e; omega
      subst hx
      have := full_len (D := D) h2 fun b hb1 hb2 => by
        rcases List.mem_cons.1 (h b (by omega) hb2) with e | e
        · omega
        · exact e
      rw [List.length_cons]; omega
    · omega
theorem has_not {l : List Nat} {D : Nat} (hi : inc 0 l) (hlen : l.length < D) : ∃ b, b < D ∧ has l b = false := by
  apply Classical.byContradiction
  intro h
  have := full_len (D := D) hi fun b _ hb => by
    cases e : has l b
    · exact absurd ⟨b, hb, e⟩ h
    · exact has_iff.1 e
  omega
/-- Without one group, a balanced design with fewer disks in a group than there are is not balanced. -/
theorem not_bal {D k r lam : Nat} {G : List (List Nat)} (h : Bal D G k r lam) {i : Nat} (hi : i < G.length) (hk : k < D) {k' r' lam' : Nat} : ¬ Bal D (G.take i ++ G.drop (i + 1)) k' r' lam' := by
  intro hb
  obtain ⟨f1, f2, f3⟩ := h.form G[i] (List.getElem_mem hi)
  obtain ⟨b, hb1, hb2⟩ := has_not (D := D) f2 (by omega)
  have hpos : 0 < G[i].length := by have := h.width; omega
  have ha : G[i][0] < D := f3 _ (List.getElem_mem hpos)
  have ha2 : has G[i] G[i][0] = true := has_iff.2 (List.getElem_mem hpos)
  have d1 := deg_split hi G[i][0]
  have d2 := deg_split hi b
  rw [h.deg _ ha, hb.deg _ ha, ha2] at d1
  rw [h.deg _ hb1, hb.deg _ hb1, hb2] at d2
  simp at d1 d2
  omega
end Co
end Go.Proofs.YtnnacofjogfkeaaDoor
