/- Layer 13: the tables in memory; the library's calls in this layer's words. -/
import Derived.Test.YtffdmpicjhaniaaDoorFra
import Derived.Test.YtffdmpicjhaniaaDoorZsh
import Derived.Lib.AtoiErrMem
namespace Go.Proofs.YtffdmpicjhaniaaDoor
open Go Go.RowKit Flt
set_option linter.unusedVariables false
set_option linter.unusedSimpArgs false
/-- What the listed variables hold. -/
structure Tab (w : World) : Prop where
  wd : ∀ j : Nat, j < 8 → w.cell? ⟨0, j, none⟩ = some (.string (wds.getD j ByteArray.empty))
  tb : Lib.TabIs Tryd.prog w "internal/strconv.uint64pow10" .u64 Lib.pow10Tab
  mx : ∃ m, w.cell? ⟨1, 0, none⟩ = some (.int .i64 m)
  es : ∃ tp p, w.var? Tryd.prog "strconv.ErrSyntax" = some #[.iface tp p]
  er : ∃ tp p, w.var? Tryd.prog "strconv.ErrRange" = some #[.iface tp p]
theorem var_fw {P : Program} {w w' : World} {n : String} {cs : Array Value} (h : w.var? P n = some cs) (hb : Below w.heap.size w w') : w'.var? P n = some cs := by
  unfold World.var? at h ⊢
  obtain ⟨g, hg, hc⟩ := Option.bind_eq_some_iff.1 h
  rw [hg]
  show (match w'.heap[g]? with | some (.cells cs _ _) => some cs | _ => none) = _
  have lt : g < w.heap.size := by
    by_cases h : g < w.heap.size
    · exact h
    · rw [Array.getElem?_eq_none (by omega)] at hc; cases hc
  rw [hb.block g lt]
  exact hc
theorem Tab.fw {w w' : World} (h : Tab w) (hb : Below w.heap.size w w') : Tab w' := by
  obtain ⟨m, hm⟩ := h.mx
  obtain ⟨t1, p1, h1⟩ := h.es
  obtain ⟨t2, p2, h2⟩ := h.er
  exact ⟨fun j hj => ce13 (h.wd j hj) hb, var_fw h.tb hb, ⟨m, ce13 hm hb⟩, ⟨t1, p1, var_fw h1 hb⟩, ⟨t2, p2, var_fw h2 hb⟩⟩
theorem below_drewN13 (w : World) (n : Nat) : Below w.heap.size w (w.drewN n) := ⟨rfl, rfl, rfl, Nat.le_refl _, fun _ _ => rfl⟩
theorem below_grow13 (w : World) (k : Nat) (os : Array Obj) : Below w.heap.size w (Sort.grow (w.drewN k) os) := by
  refine ⟨rfl, rfl, rfl, ?_, fun i hi => ?_⟩
  · show w.heap.size ≤ (w.heap ++ os).size
    rw [Array.size_append]; omega
  · show (w.heap ++ os)[i]? = _
    rw [Array.getElem?_append_left hi]
theorem itoa_any (n : Nat) (hn : n < 9223372036854775808) (w : World) (T : Tab w) : Calls Tryd.prog 32 #[.int .i64 (n : Int)] w (mPost (.string (strOf (dig n))) w) := by
  refine (Tryd.strconv_Itoa (n : Int) (by omega) (by omega) w T.tb).mono ?_
  rintro e w' ⟨rfl, k, os, rfl⟩
  exact ⟨by rw [itoa_dig, str_ub], below_grow13 _ _ _⟩
/-- What Cut returns. -/
def cuV (s sep : List UInt8) : Value := .tuple #[.string ⟨(Lib.cut s sep).1.toArray⟩, .string ⟨(Lib.cut s sep).2.1.toArray⟩, .bool (Lib.cut s sep).2.2]
theorem cut_any (s sep : ByteArray) (hs : s.size < 4294967281) (w : World) (T : Tab w) : Calls Tryd.prog 28 #[.string s, .string sep] w (mPost (cuV s.data.toList sep.data.toList) w) := by
  obtain ⟨m, hm⟩ := T.mx
  refine (Tryd.strings_Cut s sep m w hs hm).mono ?_
  rintro e w' ⟨rfl, k, rfl⟩
  exact ⟨rfl, below_drewN13 _ _⟩
theorem idx_any (x : ByteArray) (w : World) (T : Tab w) : Calls Tryd.prog 40 #[.slice (some ⟨0, 0, none⟩) 8 8, .string x] w (kPost (.int .i64 (Lib.idxOfS wds x)) w) := by
  refine (Tryd.slices_Index_string 0 0 8 8 wds x w (by decide) (by decide) (fun j hj => by rw [Nat.zero_add]; exact T.wd j hj)).mono ?_
  rintro e w' ⟨rfl, rfl⟩
  exact ⟨rfl, rfl⟩
set_option maxHeartbeats 2000000 in
set_option maxRecDepth 100000 in
theorem pnum_any (s : ByteArray) (hs : s.size ≤ 281474976710656) (w : World) (T : Tab w) : Calls Tryd.prog 39 #[.string s] w (mPost (.int .i64 (num s.data.toList)) w) := by
  obtain ⟨t1, p1, h1⟩ := T.es
  obtain ⟨t2, p2, h2⟩ := T.er
  unfold num
  rcases ha : Lib.atoiAll s.data.toList with v | _ | _
  · have C := Lib.hid (Tryd.strconv_Atoi_ok s (by omega) v ha w)
    clear ha h1 h2 T
    go_enter Tryd.func39, Tryd.ntmps39
    go_wp2_with fail
    refine C.out.mono ?_
    rintro e w' ⟨rfl, hw⟩
    have hb : Hid (Below w.heap.size w w') := Lib.hid (by
      rcases hw with rfl | ⟨t, rfl⟩
      · exact Below.refl _ _
      · exact Lib.bytesWorld_below _ _ _)
    clear hw
    go_wp2_with fail
    go_ret
    exact ⟨rfl, hb.out⟩
  · have C := Lib.hid (Any.strconv_Atoi_syntax_var Tryd.laysC172 s hs ha t1 p1 w h1)
    clear ha h1 h2 T
    go_enter Tryd.func39, Tryd.ntmps39
    go_wp2_with fail
    refine C.out.mono ?_
    rintro e w' ⟨N, rfl, -, -, hw⟩
    have hb := Lib.hid hw
    clear hw
    go_wp2_with fail
    go_ret
    exact ⟨rfl, hb.out⟩
  · have C := Lib.hid (Tryd.strconv_Atoi_range_var s hs ha t2 p2 w h2)
    clear ha h1 h2 T
    obtain ⟨q, hq⟩ : ∃ q, Lib.atoiSat s.data.toList = q := ⟨_, rfl⟩
    rw [hq] at C
    show Calls _ _ _ _ (mPost (.int .i64 (Lib.atoiSat s.data.toList)) w)
    rw [hq]
    clear hq
    go_enter Tryd.func39, Tryd.ntmps39
    go_wp2_with fail
    refine C.out.mono ?_
    rintro e w' ⟨N, rfl, -, -, hw⟩
    have hb := Lib.hid hw
    clear hw
    go_wp2_with fail
    go_ret
    exact ⟨rfl, hb.out⟩
end Go.Proofs.YtffdmpicjhaniaaDoor
