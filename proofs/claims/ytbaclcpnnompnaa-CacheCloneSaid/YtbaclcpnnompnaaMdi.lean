/- Media: Geometry; the methods at nil; operations. WRITTEN BY gen_Mdi.py. -/
import Derived.Test.YtbaclcpnnompnaaMdh
import Derived.Laws.Rows
namespace Go.Proofs.Ytbaclcpnnompnaa
open Go Go.RowKit Med
set_option linter.unusedVariables false
set_option linter.unusedSimpArgs false
set_option maxHeartbeats 4000000 in
set_option maxRecDepth 100000 in
theorem pst_nil (a : Int) (w : World) : Calls Try.prog 48 #[.pointer none, .int .i64 a] w (qPost (.int .i64 0) w) := by
  go_enter Try.func48, Try.ntmps48
  go_wp2_with fail
  go_ret
  exact ⟨rfl, rfl⟩
set_option maxHeartbeats 4000000 in
set_option maxRecDepth 100000 in
theorem prd_nil (a : Int) (w : World) : Calls Try.prog 47 #[.pointer none, .int .i64 a] w (qPost (.tuple #[.slice none 0 0, .int .i64 8]) w) := by
  go_enter Try.func47, Try.ntmps47
  go_wp2_with fail
  refine bodyPost_ret (results_tmp2 rfl _ _ _) rfl ?_
  exact ⟨rfl, rfl⟩
set_option maxHeartbeats 4000000 in
set_option maxRecDepth 100000 in
theorem pwr_nil (a : Int) (v : Value) (w : World) : Calls Try.prog 26 #[.pointer none, .int .i64 a, v] w (qPost (.int .i64 8) w) := by
  go_enter Try.func26, Try.ntmps26
  go_wp2_with fail
  go_ret
  exact ⟨rfl, rfl⟩
set_option maxHeartbeats 4000000 in
set_option maxRecDepth 100000 in
theorem per_nil (a : Int) (w : World) : Calls Try.prog 30 #[.pointer none, .int .i64 a] w (qPost (.int .i64 8) w) := by
  go_enter Try.func30, Try.ntmps30
  go_wp2_with fail
  go_ret
  exact ⟨rfl, rfl⟩
set_option maxHeartbeats 4000000 in
set_option maxRecDepth 100000 in
theorem pcl_nil  (w : World) : Calls Try.prog 43 #[.pointer none] w (qPost (.pointer none) w) := by
  go_enter Try.func43, Try.ntmps43
  go_wp2_with fail
  go_ret
  exact ⟨rfl, rfl⟩
set_option maxHeartbeats 4000000 in
set_option maxRecDepth 100000 in
theorem rdo_any {w : World} {M X c R B T S O : Nat} {l : List Sec} (h : RMd w M X c R B T S O l) (o : Med.Op) (v : Value) (hb : Bs w v o.bytes) : Calls Try.prog 18 #[.pointer (some ⟨M, 0, none⟩), .agg #[.bool o.erase, .int .i64 o.pos, v]] w (wrPost 73 92 M X c R B T S O (opE B l o) (opL R B T S O l o) w) := by
  obtain ⟨er0, p, b⟩ := o
  obtain ⟨B0, hB0⟩ : ∃ B, w.heap.size = B := ⟨_, rfl⟩
  obtain ⟨A, cc, hv⟩ := hb.form
  obtain ⟨W0, hW0⟩ : ∃ W, w.alloc (.cells #[.bool er0, .int .i64 p, v] 38) = W := ⟨_, rfl⟩
  have BW : Below w.heap.size w W0 := by subst hW0; exact (Below.refl _ _).alloc (Nat.le_refl _) _
  have R0 : Row W0 B0 38 #[.bool er0, .int .i64 p, v] := by subst hW0; exact gr_new w _ _ hB0
  have c0 := R0.cell 0
  have c1 := R0.cell 1
  have c2 := R0.cell 2
  simp only [List.getElem?_toArray, List.getElem?_cons_zero, List.getElem?_cons_succ] at c0 c1 c2
  have M0 := h.fw BW
  have b0 := hb.below BW
  have C0 := Lib.hid (below_chg BW (fun j => j = X))
  have HB0 := Lib.hid hB0
  have HW0 := Lib.hid hW0
  cases er0 with
  | true =>
    have E := Lib.hid (rer_any M0 p)
    unfold opE opL
    rw [if_pos rfl, if_pos rfl]
    show Calls _ _ #[_, .agg #[.bool true, .int .i64 p, v]] w _
    clear h hb BW R0 M0 b0 hB0 hW0
    subst hv
    generalize b.length = m at *
    go_enter Try.func18, Try.ntmps18
    go_wp2_with (first | rw [HB0.out] | rw [HW0.out])
    refine E.out.mono ?_
    rintro e w1 ⟨rfl, hm, hc⟩
    have Q := Lib.hid (And.intro hm (C0.out.trans hc))
    clear hm hc
    go_wp2_with fail
    go_ret
    exact ⟨rfl, Q.out⟩
  | false =>
    have E := Lib.hid (rwr_any M0 p v b b0)
    unfold opE opL
    rw [if_neg Bool.false_ne_true, if_neg Bool.false_ne_true]
    show Calls _ _ #[_, .agg #[.bool false, .int .i64 p, v]] w _
    clear h hb BW R0 M0 b0 hB0 hW0
    have wv : wrPost 73 92 M X c R B T S O (wrE l p (Med.Op.mk false p b).bytes.length) (wr (Geo.shadow R B T S O (Med.Op.mk false p b).pos) l p (Med.Op.mk false p b).bytes.length (strOf (Med.Op.mk false p b).bytes)) w = wrPost 73 92 M X c R B T S O (wrE l p b.length) (wr (Geo.shadow R B T S O p) l p b.length (strOf b)) w := rfl
    show Calls _ _ _ w (wrPost 73 92 M X c R B T S O (wrE l p b.length) (wr (Geo.shadow R B T S O p) l p b.length (strOf b)) w)
    clear wv
    subst hv
    obtain ⟨LE, hLE⟩ : ∃ x, wrE l p b.length = x := ⟨_, rfl⟩
    obtain ⟨LL, hLL⟩ : ∃ x, wr (Geo.shadow R B T S O p) l p b.length (strOf b) = x := ⟨_, rfl⟩
    rw [hLE, hLL] at E ⊢
    clear hLE hLL
    generalize b.length = m at *
    go_enter Try.func18, Try.ntmps18
    go_wp2_with (first | rw [HB0.out] | rw [HW0.out])
    refine E.out.mono ?_
    rintro e w1 ⟨rfl, hm, hc⟩
    have Q := Lib.hid (And.intro hm (C0.out.trans hc))
    clear hm hc
    go_wp2_with fail
    go_ret
    exact ⟨rfl, Q.out⟩
end Go.Proofs.Ytbaclcpnnompnaa
