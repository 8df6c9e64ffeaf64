/- Caches: Write, Erase; the law's do. -/
import Derived.Test.YtbaclcpnnompnaaCce
namespace Go.Proofs.Ytbaclcpnnompnaa
open Go Go.RowKit Med
set_option linter.unusedVariables false
set_option linter.unusedSimpArgs false
theorem adPost.from {B K R Bn T S O : Nat} {l : List Sec} {ops : List Med.Op} {o : Med.Op} {w0 w : World} (hb : Below w0.heap.size w0 w) {e : Ending} {w' : World} (h : adPost B K R Bn T S O l ops o w e w') : adPost B K R Bn T S O l ops o w0 e w' :=
  ⟨h.1, h.2.1, (Tch.of_below hb _ _).trans h.2.2⟩
set_option maxHeartbeats 4000000 in
set_option maxRecDepth 100000 in
theorem cer_any {B : Nat} {w : World} {K R Bn T S O : Nat} {l : List Sec} {ops : List Med.Op} (h : Ce B w K R Bn T S O l ops) (x : Int) (b : List Nat) (hn : ops.length ≤ 1000) :
    Calls Try.prog 35 #[.pointer (some ⟨K, 0, none⟩), .int .i64 x] w (adPost B K R Bn T S O l ops ⟨true, x, b⟩ w) := by
  obtain ⟨B0, hB0⟩ : ∃ B, w.heap.size = B := ⟨_, rfl⟩
  obtain ⟨W0, hW0⟩ : ∃ W, w.alloc (.cells #[.int .i64 x] 3) = W := ⟨_, rfl⟩
  have BW : Below w.heap.size w W0 := by subst hW0; exact (Below.refl _ _).alloc (Nat.le_refl _) _
  have R0 : Row W0 B0 3 #[.int .i64 x] := by subst hW0; exact gr_new w _ _ hB0
  have E := Lib.hid (cad_er (h.fw BW) ⟨true, x, b⟩ B0 rfl R0 hn)
  have HBW := Lib.hid BW
  have HB0 := Lib.hid hB0
  have HW0 := Lib.hid hW0
  clear h hn hB0 hW0 BW R0
  go_enter Try.func35, Try.ntmps35
  go_wp2_with (first | rw [HB0.out] | rw [HW0.out])
  refine E.out.mono ?_
  rintro e w1 hq
  obtain ⟨rfl, hq2⟩ := id hq
  have Q := Lib.hid (adPost.from HBW.out hq)
  clear hq hq2
  generalize opE Bn (Med.play R Bn T S O l ops) ⟨true, x, b⟩ = z at *
  go_wp2_with fail
  go_ret
  exact Q.out
set_option maxHeartbeats 4000000 in
set_option maxRecDepth 100000 in
theorem cwr_any {B : Nat} {w : World} {K R Bn T S O : Nat} {l : List Sec} {ops : List Med.Op} (h : Ce B w K R Bn T S O l ops) (x : Int) (v : Value) (b : List Nat) (hv : Bs w v b) (hl : b.length ≤ 1000) (hn : ops.length ≤ 1000) :
    Calls Try.prog 32 #[.pointer (some ⟨K, 0, none⟩), .int .i64 x, v] w (adPost B K R Bn T S O l ops ⟨false, x, b⟩ w) := by
  obtain ⟨B0, hB0⟩ : ∃ B, w.heap.size = B := ⟨_, rfl⟩
  obtain ⟨W0, hW0⟩ : ∃ W, w.alloc (.cells #[.int .i64 x] 3) = W := ⟨_, rfl⟩
  have BW : Below w.heap.size w W0 := by subst hW0; exact (Below.refl _ _).alloc (Nat.le_refl _) _
  have R0 : Row W0 B0 3 #[.int .i64 x] := by subst hW0; exact gr_new w _ _ hB0
  have C := Lib.hid (bclone_any v b W0 (hv.below BW) hl)
  have H := Lib.hid (h.fw BW)
  have HR := Lib.hid R0
  have HN := Lib.hid hn
  have HBW := Lib.hid BW
  have HB0 := Lib.hid hB0
  have HW0 := Lib.hid hW0
  obtain ⟨A, cc, rfl⟩ := hv.form
  clear h hn hB0 hW0 BW R0 hv
  go_enter Try.func32, Try.ntmps32
  go_wp2_with (first | rw [HB0.out] | rw [HW0.out])
  refine C.out.mono ?_
  rintro e w1 ⟨u, rfl, hu, hb⟩
  obtain ⟨A2, c2, rfl⟩ := hu.bs.form
  obtain ⟨m, hm⟩ : ∃ m, b.length = m := ⟨_, rfl⟩
  have HU := Lib.hid hu.bst
  have HB1 := Lib.hid hb
  rw [hm] at HU ⊢
  have HK : Hid (Row (w1.alloc (.cells #[.slice A2 m c2] 36)) w1.heap.size 36 #[.slice A2 m c2]) := Lib.hid (gr_new w1 _ _ rfl)
  have HB2 : Hid (Below w1.heap.size w1 (w1.alloc (.cells #[.slice A2 m c2] 36))) := Lib.hid ((Below.refl _ _).alloc (Nat.le_refl _) _)
  have E := Lib.hid (cad_wr ((H.out.fw hb).fw HB2.out) ⟨false, x, b⟩ B0 w1.heap.size (.slice A2 m c2) rfl ((HR.out.go hb).go HB2.out) HK.out (HU.out.tch (Tch.of_below HB2.out 0 []) (by simp)) HN.out)
  have HBB := Lib.hid ((HBW.out.trans (hb.mono HBW.out.size)).trans (HB2.out.mono (Nat.le_trans HBW.out.size hb.size)))
  clear hu hb hm C HU
  go_wp2_with fail
  refine E.out.mono ?_
  rintro e w3 hq
  obtain ⟨rfl, hq2⟩ := id hq
  have Q := Lib.hid (adPost.from HBB.out hq)
  clear hq hq2
  generalize opE Bn (Med.play R Bn T S O l ops) ⟨false, x, b⟩ = z at *
  go_wp2_with fail
  go_ret
  exact Q.out
set_option maxHeartbeats 4000000 in
set_option maxRecDepth 100000 in
theorem cer_nil (x : Int) (w : World) : Calls Try.prog 35 #[.pointer none, .int .i64 x] w (gPost (.int .i64 8) w) := by
  have BW : Hid (Below w.heap.size w (w.alloc (.cells #[.int .i64 x] 3))) := Lib.hid ((Below.refl _ _).alloc (Nat.le_refl _) _)
  have E := Lib.hid (cad_nil (.func (.func 59) #[] #[.pointer (some ⟨w.heap.size, 0, none⟩)]) ⟨_, _, _, rfl⟩ (w.alloc (.cells #[.int .i64 x] 3)))
  go_enter Try.func35, Try.ntmps35
  go_wp2_with fail
  refine E.out.mono ?_
  rintro e w' ⟨rfl, rfl⟩
  go_wp2_with fail
  go_ret
  exact ⟨rfl, BW.out⟩
set_option maxHeartbeats 4000000 in
set_option maxRecDepth 100000 in
theorem cwr_nil (x : Int) (w : World) : Calls Try.prog 32 #[.pointer none, .int .i64 x, .slice none 0 0] w (gPost (.int .i64 8) w) := by
  have BW : Hid (Below w.heap.size w (w.alloc (.cells #[.int .i64 x] 3))) := Lib.hid ((Below.refl _ _).alloc (Nat.le_refl _) _)
  have C := Lib.hid (bclone_any (.slice none 0 0) [] (w.alloc (.cells #[.int .i64 x] 3)) (Bs.nil_ _) (by decide))
  go_enter Try.func32, Try.ntmps32
  go_wp2_with fail
  refine C.out.mono ?_
  rintro e w1 ⟨u, rfl, hu, hb⟩
  obtain ⟨A2, c2, rfl⟩ := hu.bs.form
  have B1 := Lib.hid ((BW.out.trans (hb.mono BW.out.size)).alloc (Nat.le_trans BW.out.size hb.size) (.cells #[.slice A2 ([] : List Nat).length c2] 36))
  have E := Lib.hid (cad_nil (.func (.func 58) #[] #[.pointer (some ⟨w.heap.size, 0, none⟩), .pointer (some ⟨w1.heap.size, 0, none⟩)]) ⟨_, _, _, rfl⟩ (w1.alloc (.cells #[.slice A2 ([] : List Nat).length c2] 36)))
  clear hu hb C
  generalize ([] : List Nat).length = m at *
  go_wp2_with fail
  refine E.out.mono ?_
  rintro e w' ⟨rfl, rfl⟩
  go_wp2_with fail
  go_ret
  exact ⟨rfl, B1.out⟩
set_option maxHeartbeats 4000000 in
set_option maxRecDepth 100000 in
theorem cdo_any {B : Nat} {w : World} {K R Bn T S O : Nat} {l : List Sec} {ops : List Med.Op} (h : Ce B w K R Bn T S O l ops) (o : Med.Op) (v : Value) (hb : Bs w v o.bytes) (hl : o.bytes.length ≤ 1000) (hn : ops.length ≤ 1000) :
    Calls Try.prog 16 #[.pointer (some ⟨K, 0, none⟩), .agg #[.bool o.erase, .int .i64 o.pos, v]] w (adPost B K R Bn T S O l ops o w) := by
  obtain ⟨er0, p, b⟩ := o
  obtain ⟨B0, hB0⟩ : ∃ B, w.heap.size = B := ⟨_, rfl⟩
  obtain ⟨m, A, cc, rfl⟩ : ∃ m A cc, v = .slice A m cc := by obtain ⟨A, cc, hv⟩ := hb.form; exact ⟨_, A, cc, hv⟩
  obtain ⟨W0, hW0⟩ : ∃ W, w.alloc (.cells #[.bool er0, .int .i64 p, .slice A m cc] 38) = W := ⟨_, rfl⟩
  have BW : Below w.heap.size w W0 := by subst hW0; exact (Below.refl _ _).alloc (Nat.le_refl _) _
  have R0 : Row W0 B0 38 #[.bool er0, .int .i64 p, .slice A m cc] := by subst hW0; exact gr_new w _ _ hB0
  have c0 := R0.cell 0
  have c1 := R0.cell 1
  have c2 := R0.cell 2
  simp only [List.getElem?_toArray, List.getElem?_cons_zero, List.getElem?_cons_succ] at c0 c1 c2
  have M0 := h.fw BW
  have b0 := hb.below BW
  have HBW := Lib.hid BW
  have HB0 := Lib.hid hB0
  have HW0 := Lib.hid hW0
  cases er0 with
  | true =>
    have E := Lib.hid (cer_any M0 p b hn)
    show Calls _ _ #[_, .agg #[.bool true, .int .i64 p, .slice A m cc]] w _
    clear h hb BW R0 M0 b0 hB0 hW0 hl
    go_enter Try.func16, Try.ntmps16
    go_wp2_with (first | rw [HB0.out] | rw [HW0.out])
    refine E.out.mono ?_
    rintro e w3 hq
    obtain ⟨rfl, hq2⟩ := id hq
    have Q := Lib.hid (adPost.from HBW.out hq)
    clear hq hq2 E
    generalize opE Bn (Med.play R Bn T S O l ops) ⟨true, p, b⟩ = z at *
    go_wp2_with fail
    go_ret
    exact Q.out
  | false =>
    have E := Lib.hid (cwr_any M0 p _ b b0 hl hn)
    show Calls _ _ #[_, .agg #[.bool false, .int .i64 p, .slice A m cc]] w _
    clear h hb BW R0 M0 b0 hB0 hW0 hl
    go_enter Try.func16, Try.ntmps16
    go_wp2_with (first | rw [HB0.out] | rw [HW0.out])
    refine E.out.mono ?_
    rintro e w3 hq
    obtain ⟨rfl, hq2⟩ := id hq
    have Q := Lib.hid (adPost.from HBW.out hq)
    clear hq hq2 E
    generalize opE Bn (Med.play R Bn T S O l ops) ⟨false, p, b⟩ = z at *
    go_wp2_with fail
    go_ret
    exact Q.out
end Go.Proofs.Ytbaclcpnnompnaa
