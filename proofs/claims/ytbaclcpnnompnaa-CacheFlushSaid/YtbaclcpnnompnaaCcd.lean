/- Caches: New, State, Read, Pending, Durable, and all methods at nil. -/
import Derived.Test.YtbaclcpnnompnaaCcc
namespace Go.Proofs.Ytbaclcpnnompnaa
open Go Go.RowKit Med
set_option linter.unusedVariables false
set_option linter.unusedSimpArgs false
set_option maxHeartbeats 2000000 in
theorem cst_any {B : Nat} {w : World} {K R Bn T S O : Nat} {l : List Sec} {ops : List Med.Op} (h : Ce B w K R Bn T S O l ops) (a : Int) : Calls Try.prog 34 #[.pointer (some ⟨K, 0, none⟩), .int .i64 a] w (qPost (.int .i64 (st (Med.play R Bn T S O l ops) a)) w) := by
  obtain ⟨D, X, c, C, Y, d, v, h⟩ := h
  have E := Lib.hid (pst_any h.co a)
  obtain ⟨c0, c1, c2⟩ := h.cells
  clear h
  generalize st (Med.play R Bn T S O l ops) a = z at *
  clear c0 c1
  go_enter Try.func34, Try.ntmps34
  go_wp2_with fail
  refine E.out.mono ?_
  rintro e w' ⟨rfl, rfl⟩
  go_wp2_with fail
  go_ret
  exact ⟨rfl, rfl⟩
set_option maxHeartbeats 2000000 in
theorem crd_any {B : Nat} {w : World} {K R Bn T S O : Nat} {l : List Sec} {ops : List Med.Op} (h : Ce B w K R Bn T S O l ops) (a : Int) : Calls Try.prog 33 #[.pointer (some ⟨K, 0, none⟩), .int .i64 a] w (rdPost (rdE (Med.play R Bn T S O l ops) a) (rdB (Med.play R Bn T S O l ops) a) w) := by
  obtain ⟨D, X, c, C, Y, d, v, h⟩ := h
  have E := Lib.hid (prd_any h.co a)
  obtain ⟨c0, c1, c2⟩ := h.cells
  clear h
  generalize rdE (Med.play R Bn T S O l ops) a = z at *
  generalize rdB (Med.play R Bn T S O l ops) a = y at *
  clear c0 c1
  go_enter Try.func33, Try.ntmps33
  go_wp2_with fail
  refine E.out.mono ?_
  rintro e w1 ⟨u, rfl, hu, hb⟩
  have Q := Lib.hid (And.intro hu hb)
  obtain ⟨A, cc, rfl⟩ := hu.1.form
  clear hu hb
  go_wp2_with fail
  refine bodyPost_ret (results_tmp2 rfl _ _ _) rfl ?_
  exact ⟨_, rfl, Q.out.1, Q.out.2⟩
set_option maxHeartbeats 2000000 in
theorem cpe_any {B : Nat} {w : World} {K R Bn T S O : Nat} {l : List Sec} {ops : List Med.Op} (h : Ce B w K R Bn T S O l ops) : Calls Try.prog 20 #[.pointer (some ⟨K, 0, none⟩)] w (qPost (.int .i64 (ops.length : Int)) w) := by
  obtain ⟨D, X, c, C, Y, d, v, h⟩ := h
  obtain ⟨c0, c1, c2⟩ := h.cells
  obtain ⟨p, cc, rfl, _, _⟩ := h.fl.form
  clear h c0 c2
  generalize ops.length = n at *
  go_enter Try.func20, Try.ntmps20
  go_wp2_with fail
  go_ret
  exact ⟨rfl, rfl⟩
set_option maxHeartbeats 2000000 in
theorem cdu_any {B : Nat} {w : World} {K R Bn T S O : Nat} {l : List Sec} {ops : List Med.Op} (h : Ce B w K R Bn T S O l ops) : Calls Try.prog 22 #[.pointer (some ⟨K, 0, none⟩)] w (clPost 84 81 R Bn T S O l w) := by
  obtain ⟨D, X, c, C, Y, d, v, h⟩ := h
  have E := Lib.hid (pcl_any h.du)
  obtain ⟨c0, c1, c2⟩ := h.cells
  clear h c1 c2
  go_enter Try.func22, Try.ntmps22
  go_wp2_with fail
  refine E.out.mono ?_
  rintro e w1 ⟨M, X, c, rfl, hq⟩
  have Q := Lib.hid hq
  clear hq
  go_wp2_with fail
  go_ret
  exact ⟨M, X, c, rfl, Q.out⟩
/-- What New and Clone return. -/
def cnPost (R Bn T S O : Nat) (l : List Sec) (ops : List Med.Op) (w : World) (e : Ending) (w' : World) : Prop := ∃ K, e = .returned (.pointer (some ⟨K, 0, none⟩)) ∧ Ce w.heap.size w' K R Bn T S O l ops ∧ Below w.heap.size w w'
set_option maxHeartbeats 2000000 in
theorem cnew_any {w : World} {M X c R B T S O : Nat} {l : List Sec} (h : PMd w M X c R B T S O l) : Calls Try.prog 31 #[.pointer (some ⟨M, 0, none⟩)] w (cnPost R B T S O l [] w) := by
  have E := Lib.hid (pcl_any h)
  have H := Lib.hid h
  clear h
  go_enter Try.func31, Try.ntmps31
  go_wp2_with fail
  refine E.out.mono ?_
  rintro e w1 ⟨M1, X1, c1, rfl, hm1, hb1, hw1⟩
  have P1 := Lib.hid (And.intro hm1 (And.intro hb1 hw1))
  have E2 := Lib.hid (pcl_any (H.out.fw hw1))
  clear hm1 hb1 hw1 E
  go_wp2_with fail
  refine E2.out.mono ?_
  rintro e w2 ⟨M2, X2, c2, rfl, hm2, hb2, hw2⟩
  have P2 := Lib.hid (And.intro hm2 (And.intro hb2 hw2))
  clear hm2 hb2 hw2 E2
  go_wp2_with fail
  go_ret
  obtain ⟨hm1, hb1, hw1⟩ := P1.out
  obtain ⟨hm2, hb2, hw2⟩ := P2.out
  have ba : Below w2.heap.size w2 (w2.alloc (.cells #[.pointer (some ⟨M1, 0, none⟩), .slice none 0 0, .pointer (some ⟨M2, 0, none⟩)] 76)) := (Below.refl _ _).alloc (Nat.le_refl _) _
  have s1 := hw1.size
  have s2 := hw2.size
  have l1 := hm1.sx.lt
  exact ⟨w2.heap.size, rfl, Ca.ex ⟨gr_new w2 _ _ rfl, (hm1.fw hw2).fw ba, hm2.fw ba, by omega, Fl.nil_ _ _, by omega⟩, (hw1.trans (hw2.mono s1)).trans (ba.mono (by omega))⟩
set_option maxHeartbeats 2000000 in
theorem cst_nil (a : Int) (w : World) : Calls Try.prog 34 #[.pointer none, .int .i64 a] w (qPost (.int .i64 0) w) := by
  go_enter Try.func34, Try.ntmps34
  go_wp2_with fail
  go_ret
  exact ⟨rfl, rfl⟩
set_option maxHeartbeats 2000000 in
theorem crd_nil (a : Int) (w : World) : Calls Try.prog 33 #[.pointer none, .int .i64 a] w (qPost (.tuple #[.slice none 0 0, .int .i64 8]) w) := by
  go_enter Try.func33, Try.ntmps33
  go_wp2_with fail
  refine bodyPost_ret (results_tmp2 rfl _ _ _) rfl ?_
  exact ⟨rfl, rfl⟩
set_option maxHeartbeats 2000000 in
theorem cpe_nil (w : World) : Calls Try.prog 20 #[.pointer none] w (qPost (.int .i64 0) w) := by
  go_enter Try.func20, Try.ntmps20
  go_wp2_with fail
  go_ret
  exact ⟨rfl, rfl⟩
set_option maxHeartbeats 2000000 in
theorem cdu_nil (w : World) : Calls Try.prog 22 #[.pointer none] w (qPost (.pointer none) w) := by
  go_enter Try.func22, Try.ntmps22
  go_wp2_with fail
  go_ret
  exact ⟨rfl, rfl⟩
set_option maxHeartbeats 2000000 in
theorem ccl_nil (w : World) : Calls Try.prog 24 #[.pointer none] w (qPost (.pointer none) w) := by
  go_enter Try.func24, Try.ntmps24
  go_wp2_with fail
  go_ret
  exact ⟨rfl, rfl⟩
set_option maxHeartbeats 2000000 in
theorem cnew_nil (w : World) : Calls Try.prog 31 #[.pointer none] w (qPost (.pointer none) w) := by
  go_enter Try.func31, Try.ntmps31
  go_wp2_with fail
  go_ret
  exact ⟨rfl, rfl⟩
/-- Nothing is returned, and nothing changes. -/
def q0Post (w : World) (e : Ending) (w' : World) : Prop := (∃ u, e = .returned u) ∧ w = w'
set_option maxHeartbeats 2000000 in
theorem cfl_nil (w : World) : Calls Try.prog 14 #[.pointer none] w (q0Post w) := by
  go_enter Try.func14, Try.ntmps14
  go_wp2_with fail
  go_end0
  exact ⟨⟨_, rfl⟩, rfl⟩
set_option maxHeartbeats 2000000 in
theorem ccu_nil (a : Int) (w : World) : Calls Try.prog 17 #[.pointer none, .int .i64 a] w (q0Post w) := by
  go_enter Try.func17, Try.ntmps17
  go_wp2_with fail
  go_end0
  exact ⟨⟨_, rfl⟩, rfl⟩
set_option maxHeartbeats 2000000 in
theorem cad_nil (u : Value) (hu : ∃ f a c, u = .func f a c) (w : World) : Calls Try.prog 57 #[.pointer none, u] w (qPost (.int .i64 8) w) := by
  obtain ⟨f, a, c, rfl⟩ := hu
  go_enter Try.func57, Try.ntmps57
  go_wp2_with fail
  go_ret
  exact ⟨rfl, rfl⟩
end Go.Proofs.Ytbaclcpnnompnaa
