/- Layer 13: what the row lists is what lies in memory. -/
import Derived.Test.YtffdmpicjhaniaaDoorRows
import Derived.Test.YtffdmpicjhaniaaDoorFrb
import Derived.ProofKit
import Derived.LaidMore
import Derived.OpenShut
import Derived.Lay
import Derived.Lib.LaidTab
import Derived.Stop.LaidErr
namespace Go.Proofs.YtffdmpicjhaniaaDoor
open Go Go.RowKit Flt
set_option linter.unusedVariables false
set_option linter.unusedSimpArgs false
theorem g_words : Tryd.prog.globalNamed "tegula/fault.words" = some 0 := by kernel_rfl
theorem t_words : (Tryd.prog.globals[0]?).map (·.type) = some 51 := by kernel_rfl
theorem words_at : ∀ (j : Nat), j < 8 → ∃ bs : List UInt8, (match (Rows.laid_tegula_fault_words : DataW Unit) with | .agg ps => ps[j]? | _ => none) = some (.lit (.string bs)) ∧ wds.getD j ByteArray.empty = ⟨bs.toArray⟩
  | 0, _ => ⟨[], rfl, s_nil⟩
  | 1, _ => ⟨[100, 114, 111, 112], rfl, word_str (by decide)⟩
  | 2, _ => ⟨[116, 101, 97, 114], rfl, word_str (by decide)⟩
  | 3, _ => ⟨[115, 116, 114, 97, 121], rfl, word_str (by decide)⟩
  | 4, _ => ⟨[102, 97, 105, 108], rfl, word_str (by decide)⟩
  | 5, _ => ⟨[111, 116, 104, 101, 114], rfl, word_str (by decide)⟩
  | 6, _ => ⟨[115, 108, 111, 119], rfl, word_str (by decide)⟩
  | 7, _ => ⟨[100, 105, 101], rfl, word_str (by decide)⟩
set_option maxRecDepth 100000 in
theorem words_core {W : World} {g0 : Nat} {t0 : TypeId} {cs0 : Array Value} {f0 : Nat} {p0 : List MemPlace} (hg0 : Tryd.prog.globalNamed "tegula/fault.words" = some g0) (ht0 : (Tryd.prog.globals[g0]?).map (·.type) = some t0) (hv0 : W.var? Tryd.prog "tegula/fault.words" = some cs0)
    (hd0 : DataW.trod (fun _ => ()) Tryd.prog W 0 (fun _ => true) false f0 t0 cs0.toList = some (Rows.laid_tegula_fault_words, p0)) : ∀ j : Nat, j < 8 → W.cell? ⟨0, j, none⟩ = some (.string (wds.getD j ByteArray.empty)) := by
  obtain rfl := Option.some.inj (g_words.symm.trans hg0)
  obtain rfl := Option.some.inj (t_words.symm.trans ht0)
  obtain ⟨xs, n, -, hx, hl, hn, hf⟩ := DataW.trod_array Tryd.underlying51 hd0
  have c1 : Tryd.prog.cellsOf 9 = 1 := by kernel_rfl
  have c8 : Tryd.prog.cellsOf 51 = 8 := by kernel_rfl
  rw [c8] at hl
  rw [c1] at hf
  simp only [Prod.mk.injEq] at hx
  obtain ⟨hx, -⟩ := hx
  intro j hj
  obtain ⟨bs, hb, hw⟩ := words_at j hj
  rw [hx] at hb
  have hb' : (xs.map (·.1))[j]? = some (.lit (.string bs)) := hb
  rw [List.getElem?_map] at hb'
  obtain ⟨x, hxj, hx1⟩ := Option.map_eq_some_iff.1 hb'
  have h := hf j hj
  rw [hxj] at h
  obtain ⟨c, hc, hy, -⟩ := DataW.trod_string Tryd.underlying9 h
  rw [World.var?_cell hg0 hv0 j]
  rw [hy] at hx1
  simp only [DataW.lit.injEq, Lit.string.injEq] at hx1
  obtain ⟨L⟩ := cs0
  have h1 : L[j]? = some (.string c) := by
    have := congrArg (·[0]?) hc
    simpa [List.getElem?_take, List.getElem?_drop] using this
  rw [List.getElem?_toArray, h1, hw, ← hx1]
theorem g_pow : Tryd.prog.globalNamed "internal/strconv.uint64pow10" = some 2 := by kernel_rfl
theorem t_pow : (Tryd.prog.globals[2]?).map (·.type) = some 92 := by kernel_rfl
theorem d_pow : (Rows.laid_internal_strconv_uint64pow10 : DataW Unit) = Lib.tabData .u64 Lib.pow10Tab := by kernel_rfl
set_option maxRecDepth 100000 in
/-- What the row lists. -/
theorem tab_of_laid {W : World} (h : laidMetH Tryd.prog [("math/bits.deBruijn32tab", Rows.laid_math_bits_deBruijn32tab), ("math/bits.deBruijn64tab", Rows.laid_math_bits_deBruijn64tab), ("internal/strconv.uint64pow10", Rows.laid_internal_strconv_uint64pow10), ("strconv.ErrRange", Rows.laid_strconv_ErrRange), ("strconv.ErrSyntax", Rows.laid_strconv_ErrSyntax), ("tegula/fault.words", Rows.laid_tegula_fault_words)] W) (hs : W.ShapedOpen Tryd.prog) : Tab W := by
  rw [MakeChecks.laidMetH_plain _ _ _ (by kernel_rfl)] at h
  have h1 := h.tail.tail
  have h2 := h1.tail
  have h3 := h2.tail
  have h4 := h3.tail
  have hm : ∃ m, W.cell? ⟨1, 0, none⟩ = some (.int .i64 m) := cell_of_shapedOpen_int (zero := #[.int .i64 0]) (t := 3) hs (of_decide_eq_true (by kernel_rfl)) (by kernel_rfl) rfl (by kernel_rfl) (by kernel_rfl) Tryd.underlying3
  refine ⟨?_, ?_, hm, ?_, ?_⟩
  · obtain ⟨ps, ⟨g0, t0, cs0, f0, p0, q0, hg0, ht0, hv0, hd0, _, _⟩, _, _⟩ := h4
    exact words_core hg0 ht0 hv0 hd0
  · have h1' : laidMet Tryd.prog (("internal/strconv.uint64pow10", Lib.tabData .u64 Lib.pow10Tab) :: [("strconv.ErrRange", Rows.laid_strconv_ErrRange), ("strconv.ErrSyntax", Rows.laid_strconv_ErrSyntax), ("tegula/fault.words", Rows.laid_tegula_fault_words)]) W := by rw [← d_pow]; exact h1
    exact Lib.tabIs_of_head g_pow t_pow Tryd.underlying92 Tryd.underlying77 (by kernel_rfl) (by kernel_rfl) h1'
  · obtain ⟨ps, ⟨g0, t0, cs0, f0, p0, q0, hg0, ht0, hv0, hd0, _, _⟩, _, _⟩ := h3
    have ht : (Tryd.prog.globals[g0]?).map (·.type) = some 59 := by
      obtain rfl := Option.some.inj ((show Tryd.prog.globalNamed "strconv.ErrSyntax" = some 3 by kernel_rfl).symm.trans hg0)
      kernel_rfl
    obtain rfl := Option.some.inj (ht.symm.trans ht0)
    obtain ⟨fu, u, v, hc, -, -⟩ := iface_of_trod Tryd.underlying59 hd0
    obtain ⟨L⟩ := cs0
    exact ⟨u, v, by rw [hv0]; exact congrArg (fun l => some (Array.mk l)) hc⟩
  · obtain ⟨ps, ⟨g0, t0, cs0, f0, p0, q0, hg0, ht0, hv0, hd0, _, _⟩, _, _⟩ := h2
    have ht : (Tryd.prog.globals[g0]?).map (·.type) = some 59 := by
      obtain rfl := Option.some.inj ((show Tryd.prog.globalNamed "strconv.ErrRange" = some 4 by kernel_rfl).symm.trans hg0)
      kernel_rfl
    obtain rfl := Option.some.inj (ht.symm.trans ht0)
    obtain ⟨fu, u, v, hc, -, -⟩ := iface_of_trod Tryd.underlying59 hd0
    obtain ⟨L⟩ := cs0
    exact ⟨u, v, by rw [hv0]; exact congrArg (fun l => some (Array.mk l)) hc⟩
end Go.Proofs.YtffdmpicjhaniaaDoor
