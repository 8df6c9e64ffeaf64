/- Layer 14: what is left of a list of faults; lists of faults whose block is known by its type. -/
import Derived.Test.YtdjjihppaobbcaaDkg
import Derived.Test.YtdjjihppaobbcaaDkh
import Derived.Test.YtdjjihppaobbcaaFrc
namespace Go.Proofs.Ytdjjihppaobbcaa
open Go Go.RowKit Med Flt
set_option linter.unusedVariables false
set_option linter.unusedSimpArgs false
namespace Dsk
/-- The faults of operations that are still to come. -/
def rest (L : List F) (c : Nat) : List F := L.filter fun f => decide ((c : Int) ≤ f.pos)
theorem vldP_lo : ∀ (L : List F) (p : Int), vldP p L = true → ∀ f ∈ L, p < f.pos
  | [], _, _, _, hf => by cases hf
  | g :: L, p, h, f, hf => by
    rw [vldP] at h
    simp only [Bool.and_eq_true, decide_eq_true_eq] at h
    rcases List.mem_cons.1 hf with rfl | hf
    · exact h.1.1
    · exact Int.lt_trans h.1.1 (vldP_lo L g.pos h.2 f hf)
theorem rest_all {L : List F} {c : Nat} (h : ∀ f ∈ L, (c : Int) ≤ f.pos) : rest L c = L := List.filter_eq_self.2 fun f hf => decide_eq_true (h f hf)
theorem rest_zero {L : List F} (h : vld L = true) : rest L 0 = L := rest_all fun f hf => by
  have := vldP_lo L (-1) h f hf
  omega
theorem rest_le (L : List F) (c : Nat) : (rest L c).length ≤ L.length := List.length_filter_le _ _
theorem rest_fits {L : List F} (c : Nat) (h : fits L) : fits (rest L c) := fun f hf => h f (List.mem_filter.1 hf).1
/-- One operation more: its fault is the first that is left, or it has none. -/
theorem rest_next : ∀ (L : List F) (p : Int) (c : Nat), vldP p L = true →
    (∀ f M, rest L c = f :: M → f.pos = (c : Int) → fnd (c : Int) L = some f ∧ rest L (c + 1) = M) ∧
    ((∀ f M, rest L c = f :: M → f.pos ≠ (c : Int)) → fnd (c : Int) L = none ∧ rest L (c + 1) = rest L c)
  | [], p, c, _ => ⟨fun f M h => (by cases h), fun _ => ⟨rfl, rfl⟩⟩
  | g :: L, p, c, h => by
    rw [vldP] at h
    simp only [Bool.and_eq_true, decide_eq_true_eq] at h
    have lo := vldP_lo L g.pos h.2
    have ih := rest_next L g.pos c h.2
    by_cases hc : (c : Int) ≤ g.pos
    · have e : rest (g :: L) c = g :: L := by
        rw [rest, List.filter_cons, if_pos (decide_eq_true hc)]
        congr 1
        exact rest_all fun f hf => by have := lo f hf; omega
      have e1 : rest L (c + 1) = L := rest_all fun f hf => by have := lo f hf; omega
      rw [e]
      refine ⟨fun f M he hp => ?_, fun hn => ?_⟩
      · injection he with h1 h2
        subst h1 h2
        refine ⟨by rw [fnd, List.find?_cons_of_pos (by simpa using hp)], ?_⟩
        rw [rest, List.filter_cons, if_neg (by simp; omega)]
        exact e1
      · have hne := hn g L rfl
        have hcl : ((c + 1 : Nat) : Int) ≤ g.pos := by omega
        refine ⟨?_, ?_⟩
        · rw [fnd, List.find?_cons_of_neg (by simpa using hne)]
          exact List.find?_eq_none.2 fun f hf => by have := lo f hf; simp; omega
        · rw [rest, List.filter_cons, if_pos (decide_eq_true hcl)]
          congr 1
    · have e : ∀ k, (c : Int) ≤ (k : Nat) → rest (g :: L) k = rest L k := fun k hk => by
        rw [rest, List.filter_cons, if_neg (by simp; omega)]; rfl
      have e2 : fnd (c : Int) (g :: L) = fnd (c : Int) L := by
        rw [fnd, List.find?_cons_of_neg (by simp; omega)]; rfl
      rw [e c (by omega), e (c + 1) (by omega), e2]
      exact ih
theorem rest_hit {L : List F} {c : Nat} {f : F} {M : List F} (hv : vld L = true) (h : rest L c = f :: M) (hp : f.pos = (c : Int)) : fF (fnd (c : Int) L) = f ∧ rest L (c + 1) = M := by
  obtain ⟨a, b⟩ := (rest_next L (-1) c hv).1 f M h hp
  exact ⟨by rw [a]; rfl, b⟩
theorem rest_miss {L : List F} {c : Nat} (hv : vld L = true) (h : ∀ f M, rest L c = f :: M → f.pos ≠ (c : Int)) : fF (fnd (c : Int) L) = ⟨0, 0, 0⟩ ∧ rest L (c + 1) = rest L c := by
  obtain ⟨a, b⟩ := (rest_next L (-1) c hv).2 h
  exact ⟨by rw [a]; rfl, b⟩
end Dsk
/-- A list of faults whose block is one of faults. -/
def FtT (w : World) (v : Value) (L : List F) : Prop := Fts w v L ∧ ∀ g, v.ownBlock = some g → Ty w g 80
theorem FtT.tch {B : Zn} {Ls : List TypeId} {w w' : World} {v : Value} {L : List F} (h : FtT w v L) (hc : Tch B Ls w w') (hL : 80 ∉ Ls) : FtT w' v L := by
  obtain ⟨⟨A, c, rfl, hm, hf, hq⟩, ht⟩ := h
  refine ⟨⟨A, c, rfl, hm, hf, fun hn => ?_⟩, fun g hg => (ht g hg).tch hc hL⟩
  obtain ⟨b, off, rfl, hk⟩ := hq hn
  have e : w'.heap[b]? = w.heap[b]? := hc.block (ht b rfl) hL
  refine ⟨b, off, rfl, fun k hkl j u hj => ?_⟩
  have := hk k hkl j u hj
  unfold World.cell? at this ⊢
  rw [e]; exact this
theorem FtT.fw {w w' : World} {v : Value} {L : List F} (h : FtT w v L) (hb : Below w.heap.size w w') : FtT w' v L := h.tch (Tch.of_below hb (0 : Nat) []) (by simp)
theorem FtT.form {w : World} {v : Value} {L : List F} (h : FtT w v L) : ∃ A c, v = .slice A L.length c := h.1.form
theorem Owf.ftt {B : Nat} {w : World} {v : Value} {L : List F} (h : Owf B w v L) : FtT w v L := by
  refine ⟨h.fts, fun g hg => ?_⟩
  rcases h.1.2 with ⟨rfl, _⟩ | ⟨g', cap, cur, rfl, _, h3, _⟩
  · cases hg
  · injection hg with hg; subst hg; exact ⟨_, _, h3⟩
end Go.Proofs.Ytdjjihppaobbcaa
