/- Layer 14: caches of the program: the blocks of their own as a zone; what a call over a disjoint zone leaves. -/
import Derived.Test.YtdjjihppaobbcaaGW
namespace Go.Proofs.Ytdjjihppaobbcaa
open Go Go.RowKit Med
set_option linter.unusedVariables false
set_option linter.unusedSimpArgs false
section
variable {A B : Zn} {Ls : List TypeId} {w w' : World} {K D X c C Y d R Bn T S O : Nat} {v : Value} {l : List Sec} {ops : List Med.Op}
theorem Fl.frame (h : Fl A w v ops) (hc : Tch B Ls w w') (hL : NoCap Ls) (hA : ∀ k, A.fr k → ¬ B.fr k) : Fl A w' v ops := by
  rcases h with h | ⟨g, cap, cs, rfl, hg, hr, hs, hm, hl, hk⟩
  · exact Or.inl h
  · refine Or.inr ⟨g, cap, cs, rfl, hg, (hc.low hr.lt (hA g hg)).trans hr, hs, hm, hl, fun k h => ?_⟩
    obtain ⟨u, h3, h4⟩ := hk k h
    exact ⟨u, h3, h4.tch hc hL⟩
theorem Fl.foot (h : Fl A w v ops) (hB : ∀ k, v.ownBlock = some k → B.fr k) : Fl B w v ops := by
  rcases h with h | ⟨g, cap, cs, rfl, hg, h⟩
  · exact Or.inl h
  · exact Or.inr ⟨g, cap, cs, rfl, hB g rfl, h⟩
theorem Md.frame {tm ts : TypeId} {M : Nat} (h : Md tm ts w M X c R Bn T S O l) (hc : Tch B Ls w w') (hM : tm ∉ Ls) (hX : ¬ B.fr X) : Md tm ts w' M X c R Bn T S O l :=
  ⟨h.v, h.len, h.row.tch hc hM, h.sx.block (hc.low h.sx.ty.lt hX), h.ne, h.sh⟩
theorem Ca.frame (h : Ca A w K D X c C Y d R Bn T S O v l ops) (hc : Tch B Ls w w') (hn : NoCap Ls) (hM : 112 ∉ Ls) (hA : ∀ k, A.fr k → ¬ B.fr k) : Ca A w' K D X c C Y d R Bn T S O v l ops :=
  ⟨(hc.low h.row.lt (hA _ h.low.1)).trans h.row, h.du.frame hc hM (hA _ h.low.2.1), h.co.frame hc hM (hA _ h.low.2.2), h.ne, h.fl.frame hc hn hA, h.low⟩
/-- What another cache does leaves it. -/
theorem Ce.frame (h : Ce A w K R Bn T S O l ops) (hc : Tch B Ls w w') (hn : NoCap Ls) (hM : 112 ∉ Ls) (hA : ∀ k, A.fr k → ¬ B.fr k) : Ce A w' K R Bn T S O l ops := by
  obtain ⟨D, X, c, C, Y, d, v, h⟩ := h; exact ⟨D, X, c, C, Y, d, v, h.frame hc hn hM hA⟩
/-- The blocks that the cache itself may change. -/
theorem Ce.foot (h : Ce B w K R Bn T S O l ops) : ∃ A : Zn, (∀ k, A.fr k → B.fr k ∧ ∃ t ∈ tyP, Ty w k t) ∧ A.fr K ∧ Ce A w K R Bn T S O l ops := by
  obtain ⟨D, X, c, C, Y, d, v, h⟩ := h
  refine ⟨⟨fun k => k = K ∨ k = X ∨ k = Y ∨ v.ownBlock = some k⟩, ?_, Or.inl rfl, ⟨D, X, c, C, Y, d, v, h.row, h.du, h.co, h.ne, h.fl.foot fun k hk => Or.inr (Or.inr (Or.inr hk)), Or.inl rfl, Or.inr (Or.inl rfl), Or.inr (Or.inr (Or.inl rfl))⟩⟩
  rintro k (rfl | rfl | rfl | hk)
  · exact ⟨h.low.1, _, by simp [tyP], h.row.ty⟩
  · exact ⟨h.low.2.1, _, by simp [tyP], h.du.sx.ty⟩
  · exact ⟨h.low.2.2, _, by simp [tyP], h.co.sx.ty⟩
  · exact ⟨(h.fl.own k hk).1, _, by simp [tyP], (h.fl.own k hk).2⟩
end
end Go.Proofs.Ytdjjihppaobbcaa
