/- Caches in memory, the program's and the reference's. -/
import Derived.Test.YtbaclcpnnompnaaCca
namespace Go.Proofs.Ytbaclcpnnompnaa
open Go Go.RowKit Med
set_option linter.unusedVariables false
set_option linter.unusedSimpArgs false
/-- The types of blocks that a cache of the program changes. -/
def tyP : List TypeId := [76, 81, 79]
/-- The types of blocks that a cache of the reference changes. -/
def tyR : List TypeId := [44, 92]
/-- A cache of the program: block K; its mutable blocks lie at B or above; sectors l, pending operations ops. -/
structure Ca (B : Nat) (w : World) (K D X c C Y d R Bn T S O : Nat) (v : Value) (l : List Sec) (ops : List Med.Op) : Prop where
  row : Row w K 76 #[.pointer (some ⟨D, 0, none⟩), v, .pointer (some ⟨C, 0, none⟩)]
  du : PMd w D X c R Bn T S O l
  co : PMd w C Y d R Bn T S O (Med.play R Bn T S O l ops)
  ne : X ≠ Y
  fl : Fl B w v ops
  low : B ≤ K ∧ B ≤ X ∧ B ≤ Y
def Ce (B : Nat) (w : World) (K R Bn T S O : Nat) (l : List Sec) (ops : List Med.Op) : Prop := ∃ D X c C Y d v, Ca B w K D X c C Y d R Bn T S O v l ops
section
variable {A B : Nat} {L : List TypeId} {w w' : World} {K D X c C Y d R Bn T S O : Nat} {v : Value} {l : List Sec} {ops : List Med.Op}
theorem Ca.ex (h : Ca B w K D X c C Y d R Bn T S O v l ops) : Ce B w K R Bn T S O l ops := ⟨_, _, _, _, _, _, _, h⟩
theorem Ca.tch (h : Ca A w K D X c C Y d R Bn T S O v l ops) (hc : Tch B L w w') (hn : NoCap L) (h1 : 76 ∉ L) (h2 : 84 ∉ L) (h3 : 81 ∉ L) (h4 : 79 ∉ L) : Ca A w' K D X c C Y d R Bn T S O v l ops :=
  ⟨h.row.tch hc h1, Md.tch hc h.du h2 h3, Md.tch hc h.co h2 h3, h.ne, h.fl.tch hc hn h4, h.low⟩
theorem Ca.fw (h : Ca A w K D X c C Y d R Bn T S O v l ops) (hb : Below w.heap.size w w') : Ca A w' K D X c C Y d R Bn T S O v l ops :=
  h.tch (Tch.of_below hb 0 []) ⟨by simp, by simp, by simp⟩ (by simp) (by simp) (by simp) (by simp)
/-- What the reference does leaves the program's cache. -/
theorem Ca.ref (h : Ca A w K D X c C Y d R Bn T S O v l ops) (hc : Tch B tyR w w') : Ca A w' K D X c C Y d R Bn T S O v l ops :=
  h.tch hc (by unfold NoCap; decide) (by decide) (by decide) (by decide) (by decide)
theorem Ca.low' (h : Ca A w K D X c C Y d R Bn T S O v l ops) (hA : B ≤ A) : Ca B w K D X c C Y d R Bn T S O v l ops :=
  ⟨h.row, h.du, h.co, h.ne, h.fl.low hA, by have := h.low; omega⟩
theorem Ca.cells (h : Ca A w K D X c C Y d R Bn T S O v l ops) : w.cell? ⟨K, 0, none⟩ = some (.pointer (some ⟨D, 0, none⟩)) ∧ w.cell? ⟨K, 1, none⟩ = some v ∧ w.cell? ⟨K, 2, none⟩ = some (.pointer (some ⟨C, 0, none⟩)) := by
  refine ⟨?_, ?_, ?_⟩ <;> (rw [h.row.cell]; rfl)
theorem Ce.fw (h : Ce A w K R Bn T S O l ops) (hb : Below w.heap.size w w') : Ce A w' K R Bn T S O l ops := by obtain ⟨D, X, c, C, Y, d, v, h⟩ := h; exact ⟨D, X, c, C, Y, d, v, h.fw hb⟩
theorem Ce.ref (h : Ce A w K R Bn T S O l ops) (hc : Tch B tyR w w') : Ce A w' K R Bn T S O l ops := by obtain ⟨D, X, c, C, Y, d, v, h⟩ := h; exact ⟨D, X, c, C, Y, d, v, h.ref hc⟩
theorem Ce.low (h : Ce A w K R Bn T S O l ops) (hA : B ≤ A) : Ce B w K R Bn T S O l ops := by obtain ⟨D, X, c, C, Y, d, v, h⟩ := h; exact ⟨D, X, c, C, Y, d, v, h.low' hA⟩
end
/-- A list of operations: nil, or a block of its own (at B or above); the bytes of its elements read by Q. -/
def Olx (Q : World → Value → List Nat → Prop) (B : Nat) (w : World) (v : Value) (L : List Med.Op) : Prop :=
  (v = .slice none 0 0 ∧ L = []) ∨ ∃ g cap cs, v = .slice (some ⟨g, 0, none⟩) L.length cap ∧ B ≤ g ∧ Row w g 38 cs ∧ cs.size = cap * 3 ∧ cap ≤ maxLen ∧ L.length ≤ cap ∧
    ∀ k (h : k < L.length), cs[k * 3]? = some (.bool L[k].erase) ∧ cs[k * 3 + 1]? = some (.int .i64 L[k].pos) ∧ ∃ u, cs[k * 3 + 2]? = some u ∧ Q w u L[k].bytes ∧ u.oneCell' = true
section
variable {Q : World → Value → List Nat → Prop} {A B : Nat} {Ls : List TypeId} {w w' : World} {v : Value} {L : List Med.Op}
theorem Olx.nil_ (B : Nat) (w : World) : Olx Q B w (.slice none 0 0) [] := Or.inl ⟨rfl, rfl⟩
theorem Olx.move (h : Olx Q A w v L) (hc : Tch B Ls w w') (h1 : 38 ∉ Ls) (hQ : ∀ u l, Q w u l → Q w' u l) : Olx Q A w' v L := by
  rcases h with h | ⟨g, cap, cs, rfl, hg, hr, hs, hm, hl, hk⟩
  · exact Or.inl h
  · refine Or.inr ⟨g, cap, cs, rfl, hg, hr.tch hc h1, hs, hm, hl, fun k h => ?_⟩
    obtain ⟨h3, h4, u, h5, h6, h7⟩ := hk k h
    exact ⟨h3, h4, u, h5, hQ _ _ h6, h7⟩
theorem Olx.low (h : Olx Q A w v L) (hA : B ≤ A) : Olx Q B w v L := by
  rcases h with h | ⟨g, cap, cs, rfl, hg, h⟩
  · exact Or.inl h
  · exact Or.inr ⟨g, cap, cs, rfl, Nat.le_trans hA hg, h⟩
theorem Olx.ols (h : Olx Q A w v L) (hQ : ∀ u l, Q w u l → Bs w u l) : Ols w v L := by
  rcases h with ⟨rfl, rfl⟩ | ⟨g, cap, cs, rfl, hg, hr, hs, hm, hl, hk⟩
  · exact ⟨none, 0, rfl, ⟨Nat.le_refl _, by decide⟩, fun h => absurd h (Nat.lt_irrefl 0)⟩
  · refine ⟨_, cap, rfl, ⟨hl, hm⟩, fun _ => ⟨g, 0, rfl, fun k h => ?_⟩⟩
    obtain ⟨h3, h4, u, h5, h6, h7⟩ := hk k h
    rw [Nat.zero_add, hr.cell, hr.cell, hr.cell]
    exact ⟨h3, h4, u, h5, hQ _ _ h6⟩
theorem Olx.own (h : Olx Q A w v L) : ∀ k, v.ownBlock = some k → A ≤ k ∧ Ty w k 38 := by
  rintro k hk
  rcases h with ⟨rfl, rfl⟩ | ⟨g, cap, cs, rfl, hb, h, _⟩
  · cases hk
  · injection hk with hk; subst hk; exact ⟨hb, h.ty⟩
theorem Olx.form (h : Olx Q A w v L) : ∃ p c, v = .slice p L.length c ∧ L.length ≤ c ∧ c ≤ maxLen := by
  rcases h with ⟨rfl, rfl⟩ | ⟨g, cap, cs, rfl, hg, hr, hs, hm, hl, hk⟩
  · exact ⟨_, _, rfl, Nat.le_refl _, Nat.zero_le _⟩
  · exact ⟨_, _, rfl, hl, hm⟩
end
abbrev OlT := Olx BsT
theorem OlT.tch {A B : Nat} {Ls : List TypeId} {w w' : World} {v : Value} {L : List Med.Op} (h : OlT A w v L) (hc : Tch B Ls w w') (h1 : 38 ∉ Ls) (h2 : 5 ∉ Ls) : OlT A w' v L := h.move hc h1 fun _ _ k => k.tch hc h2
/-- A cache of the reference. -/
structure Ra (B : Nat) (w : World) (K M X c R Bn T S O : Nat) (v : Value) (l : List Sec) (ops : List Med.Op) : Prop where
  row : Row w K 44 #[.pointer (some ⟨M, 0, none⟩), v]
  md : RMd w M X c R Bn T S O l
  ol : OlT 0 w v ops
  low : B ≤ K ∧ B ≤ X
def Re (B : Nat) (w : World) (K R Bn T S O : Nat) (l : List Sec) (ops : List Med.Op) : Prop := ∃ M X c v, Ra B w K M X c R Bn T S O v l ops
section
variable {A B : Nat} {L : List TypeId} {w w' : World} {K M X c R Bn T S O : Nat} {v : Value} {l : List Sec} {ops : List Med.Op}
theorem Ra.ex (h : Ra B w K M X c R Bn T S O v l ops) : Re B w K R Bn T S O l ops := ⟨_, _, _, _, h⟩
theorem Ra.tch (h : Ra A w K M X c R Bn T S O v l ops) (hc : Tch B L w w') (h1 : 44 ∉ L) (h2 : 73 ∉ L) (h3 : 92 ∉ L) (h4 : 38 ∉ L) (h5 : 5 ∉ L) : Ra A w' K M X c R Bn T S O v l ops :=
  ⟨h.row.tch hc h1, Md.tch hc h.md h2 h3, h.ol.tch hc h4 h5, h.low⟩
theorem Ra.fw (h : Ra A w K M X c R Bn T S O v l ops) (hb : Below w.heap.size w w') : Ra A w' K M X c R Bn T S O v l ops :=
  h.tch (Tch.of_below hb 0 []) (by simp) (by simp) (by simp) (by simp) (by simp)
theorem Ra.prog (h : Ra A w K M X c R Bn T S O v l ops) (hc : Tch B tyP w w') : Ra A w' K M X c R Bn T S O v l ops :=
  h.tch hc (by decide) (by decide) (by decide) (by decide) (by decide)
theorem Ra.low' (h : Ra A w K M X c R Bn T S O v l ops) (hA : B ≤ A) : Ra B w K M X c R Bn T S O v l ops := ⟨h.row, h.md, h.ol, by have := h.low; omega⟩
theorem Ra.cells (h : Ra A w K M X c R Bn T S O v l ops) : w.cell? ⟨K, 0, none⟩ = some (.pointer (some ⟨M, 0, none⟩)) ∧ w.cell? ⟨K, 1, none⟩ = some v := by
  refine ⟨?_, ?_⟩ <;> (rw [h.row.cell]; rfl)
theorem Re.fw (h : Re A w K R Bn T S O l ops) (hb : Below w.heap.size w w') : Re A w' K R Bn T S O l ops := by obtain ⟨M, X, c, v, h⟩ := h; exact ⟨M, X, c, v, h.fw hb⟩
theorem Re.prog (h : Re A w K R Bn T S O l ops) (hc : Tch B tyP w w') : Re A w' K R Bn T S O l ops := by obtain ⟨M, X, c, v, h⟩ := h; exact ⟨M, X, c, v, h.prog hc⟩
theorem Re.low (h : Re A w K R Bn T S O l ops) (hA : B ≤ A) : Re B w K R Bn T S O l ops := by obtain ⟨M, X, c, v, h⟩ := h; exact ⟨M, X, c, v, h.low' hA⟩
end
end Go.Proofs.Ytbaclcpnnompnaa
