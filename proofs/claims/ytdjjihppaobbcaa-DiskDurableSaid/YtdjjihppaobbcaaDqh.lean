/- Layer 14: opening arguments: a case (a geometry, two lists of faults, acts). -/
import Derived.Test.YtdjjihppaobbcaaHB
import Derived.Test.YtdjjihppaobbcaaKl
import Derived.Test.YtdjjihppaobbcaaFq
namespace Go.Proofs.Ytdjjihppaobbcaa
open Go Go.RowKit Go.ChangeShapes Go.WideShapes Go.ChangeAt Med Flt
set_option linter.unusedVariables false
theorem i64_fits {z : Int} (h : (Lit.int .i64 z).wf = true) : -9223372036854775808 ≤ z ∧ z < 9223372036854775808 := by
  have h1 : IntKind.i64.min = -9223372036854775808 := rfl
  have h2 : IntKind.i64.max = 9223372036854775807 := rfl
  simp only [Lit.wf, Bool.and_eq_true, decide_eq_true_eq] at h
  omega
theorem u64_fits {z : Int} (h : (Lit.int .u64 z).wf = true) : ∃ n : Nat, z = n ∧ n < 2 ^ 64 := by
  have h1 : IntKind.u64.min = 0 := rfl
  have h2 : IntKind.u64.max = 18446744073709551615 := rfl
  simp only [Lit.wf, Bool.and_eq_true, decide_eq_true_eq] at h
  exact ⟨z.toNat, by omega, by omega⟩
theorem struct_form {P : Program} {w : World} {r : Reach} {b0 : Nat} {t : TypeId} {v : Value} {fs : Array Field} {n : Nat} (ht : P.underlying t = some (.struct fs)) (hn : P.cellsOf t = n) (hv : Value.okWide P w r b0 t v) : ∃ cs : List Value, v = .agg (Array.mk cs) ∧ cs.length = n := by
  obtain ⟨⟨cs⟩, e, h⟩ := okWide_struct ht hv
  exact ⟨cs, e, h.trans hn⟩
theorem trod_array2 {H : Type} {enc : TypeId × Value → H} {P : Program} {w : World} {base : Nat} {spare : Nat → Bool} {held : Bool} {t e : TypeId} {fuel : Nat} {c0 c1 : Value} {x : DataW H × List MemPlace} (ht : P.underlying t = some (.array 2 e)) (hce : P.cellsOf e = 1)
    (h : DataW.trod enc P w base spare held fuel t [c0, c1] = some x) : ∃ y0 y1 n, DataW.trod enc P w base spare held n e [c0] = some y0 ∧ DataW.trod enc P w base spare held n e [c1] = some y1 := by
  cases fuel with
  | zero => simp [DataW.trod] at h
  | succ n =>
    unfold DataW.trod at h
    rw [ht] at h
    have r2 : List.range 2 = [0, 1] := rfl
    simp [r2, hce] at h
    obtain ⟨_, h⟩ := h
    cases h0 : DataW.trod enc P w base spare held n e [c0] with
    | none => simp [h0] at h
    | some y0 =>
      cases h1 : DataW.trod enc P w base spare held n e [c1] with
      | none => simp [h0, h1] at h
      | some y1 => exact ⟨y0, y1, n, h0, h1⟩
theorem slice_cell {H : Type} {enc : TypeId × Value → H} {P : Program} {w : World} {base : Nat} {spare : Nat → Bool} {held : Bool} {t e : TypeId} {fuel : Nat} {c : Value} {x : DataW H × List MemPlace} (ht : P.underlying t = some (.slice e))
    (h : DataW.trod enc P w base spare held fuel t [c] = some x) : ∃ a n cap, c = .slice a n cap := by
  rcases Go.Deep.open_slice ht h with ⟨hcs, _⟩ | ⟨ad, len, cap, m, k, D, Pl, hcs, _⟩
  · exact ⟨none, 0, 0, by simpa using hcs⟩
  · exact ⟨some ad, len, cap, by simpa using hcs⟩
theorem act_cells {H : Type} {en : TypeId × Value → H} {P : Program} {w : World} {base fuel : Nat} {spare : Nat → Bool} {held : Bool} {e q : TypeId} {fs : Array Field} {f0 f1 f2 f3 f4 f5 : Field} {cs : List Value} {x : DataW H × List MemPlace}
    (he : P.underlying e = some (.struct fs)) (h0 : fs[0]? = some f0) (o0 : f0.offset = 0) (h1 : fs[1]? = some f1) (o1 : f1.offset = 1) (h2 : fs[2]? = some f2) (o2 : f2.offset = 2) (h3 : fs[3]? = some f3) (o3 : f3.offset = 3) (h4 : fs[4]? = some f4) (o4 : f4.offset = 4) (h5 : fs[5]? = some f5) (o5 : f5.offset = 5)
    (t0 : P.underlying f0.type = some (.int .u8)) (c0 : P.cellsOf f0.type = 1) (t1 : P.underlying f1.type = some (.int .u8)) (c1 : P.cellsOf f1.type = 1)
    (t2 : P.underlying f2.type = some (.int .u64)) (c2 : P.cellsOf f2.type = 1) (t3 : P.underlying f3.type = some (.int .i64)) (c3 : P.cellsOf f3.type = 1) (t4 : P.underlying f4.type = some (.slice q)) (c4 : P.cellsOf f4.type = 1) (hq : P.underlying q = some (.int .u8)) (cq : P.cellsOf q = 1) (t5 : P.underlying f5.type = some .bool) (c5 : P.cellsOf f5.type = 1) (ce : P.cellsOf e = 6)
    (h : DataW.trod en P w base spare held fuel e cs = some x) : ∃ a : Ac, cs = acs a ∧ AcOk w a := by
  obtain ⟨xs, n, _, _, hlen, hl, hel⟩ := DataW.trod_struct he h
  rw [ce] at hlen
  have a0 := hel 0 f0 h0
  have a1 := hel 1 f1 h1
  have a2 := hel 2 f2 h2
  have a3 := hel 3 f3 h3
  have a4 := hel 4 f4 h4
  have a5 := hel 5 f5 h5
  have l5 : 5 < xs.length := by
    have := (Array.getElem?_eq_some_iff.1 h5).1
    omega
  match cs, hlen with
  | [x0, x1, x2, x3, x4, x5], _ =>
    rw [o0, c0, List.getElem?_eq_getElem (by omega)] at a0
    rw [o1, c1, List.getElem?_eq_getElem (by omega)] at a1
    rw [o2, c2, List.getElem?_eq_getElem (by omega)] at a2
    rw [o3, c3, List.getElem?_eq_getElem (by omega)] at a3
    rw [o4, c4, List.getElem?_eq_getElem (by omega)] at a4
    rw [o5, c5, List.getElem?_eq_getElem (by omega)] at a5
    simp only [List.drop_zero, List.drop_succ_cons, List.take_succ_cons, List.take_zero] at a0 a1 a2 a3 a4 a5
    obtain ⟨z0, e0, _, w0⟩ := DataW.trod_int t0 a0
    obtain ⟨z1, e1, _, w1⟩ := DataW.trod_int t1 a1
    obtain ⟨z2, e2, _, w2⟩ := DataW.trod_int t2 a2
    obtain ⟨z3, e3, _, w3⟩ := DataW.trod_int t3 a3
    obtain ⟨b, e5, _⟩ := DataW.trod_bool t5 a5
    obtain ⟨ua, un, uc, l, rfl, hb⟩ : ∃ ua un uc l, x4 = .slice ua un uc ∧ Bs w x4 l := by
      rcases Go.Deep.open_slice t4 a4 with ⟨hcs, _⟩ | ⟨ad, len, cap, m, k, D, Pl, hcs, _⟩
      · obtain rfl : x4 = .slice none 0 0 := by simpa using hcs
        exact ⟨none, 0, 0, [], rfl, Bs.nil_ w⟩
      · obtain rfl : x4 = .slice (some ad) len cap := by simpa using hcs
        obtain ⟨l, hb⟩ := bs_in t4 hq cq ⟨_, a4⟩
        exact ⟨_, _, _, l, rfl, hb⟩
    obtain rfl : x0 = .int .u8 z0 := by simpa using e0
    obtain rfl : x1 = .int .u8 z1 := by simpa using e1
    obtain rfl : x2 = .int .u64 z2 := by simpa using e2
    obtain rfl : x3 = .int .i64 z3 := by simpa using e3
    obtain rfl : x5 = .bool b := by simpa using e5
    obtain ⟨n0, rfl, k0⟩ := u8_nat w0
    obtain ⟨n1, rfl, k1⟩ := u8_nat w1
    obtain ⟨n2, rfl, k2⟩ := u64_fits w2
    exact ⟨⟨n0, n1, n2, z3, ua, un, uc, l, b⟩, rfl, k0, k1, k2, i64_fits w3, hb⟩
theorem geo_cells {H : Type} {enc : TypeId × Value → H} {P : Program} {w : World} {base fuel : Nat} {spare : Nat → Bool} {held : Bool} {e : TypeId} {fs : Array Field} {cs : List Value} {x : DataW H × List MemPlace}
    (he : P.underlying e = some (.struct fs)) (ce : P.cellsOf e = 5) (hf : ∀ i, i < 5 → ∃ f, fs[i]? = some f ∧ f.offset = i ∧ P.underlying f.type = some (.int .i64) ∧ P.cellsOf f.type = 1)
    (h : DataW.trod enc P w base spare held fuel e cs = some x) : ∃ x0 x1 x2 x3 x4 : Int, cs = [.int .i64 x0, .int .i64 x1, .int .i64 x2, .int .i64 x3, .int .i64 x4] := by
  obtain ⟨xs, n, _, _, hlen, hl, hel⟩ := DataW.trod_struct he h
  rw [ce] at hlen
  have key : ∀ i (hi : i < 5), ∃ x : Int, cs[i]'(by omega) = .int .i64 x := fun i hi => by
    obtain ⟨f, h1, h2, h3, h4⟩ := hf i hi
    have q := hel i f h1
    rw [h2, h4, List.drop_eq_getElem_cons (by omega)] at q
    have hx : i < xs.length := by
      have := (Array.getElem?_eq_some_iff.1 h1).1
      omega
    simp only [List.take_succ_cons, List.take_zero] at q
    rw [List.getElem?_eq_getElem hx] at q
    obtain ⟨z, ez, _, _⟩ := DataW.trod_int h3 q
    exact ⟨z, by simpa using ez⟩
  match cs, hlen, key with
  | [c0, c1, c2, c3, c4], _, key =>
    obtain ⟨x0, e0⟩ := key 0 (by omega)
    obtain ⟨x1, e1⟩ := key 1 (by omega)
    obtain ⟨x2, e2⟩ := key 2 (by omega)
    obtain ⟨x3, e3⟩ := key 3 (by omega)
    obtain ⟨x4, e4⟩ := key 4 (by omega)
    refine ⟨x0, x1, x2, x3, x4, ?_⟩
    simp at e0 e1 e2 e3 e4
    rw [e0, e1, e2, e3, e4]
theorem fld {H : Type} {enc : TypeId × Value → H} {P : Program} {w : World} {base n : Nat} {spare : Nat → Bool} {held : Bool} {f : Field} {T : TypeId} {o c i : Nat} {cs cs' : List Value} {xs : List (DataW H × List MemPlace)} (h : DataW.trod enc P w base spare held n f.type ((cs.drop f.offset).take (P.cellsOf f.type)) = xs[i]?)
    (eo : f.offset = o) (et : f.type = T) (ec : P.cellsOf T = c) (hx : i < xs.length) (e : (cs.drop o).take c = cs') : DataW.trod enc P w base spare held n T cs' = some xs[i] := by
  rw [eo, et, ec, e, List.getElem?_eq_getElem hx] at h
  exact h
theorem list8 {cl : List Value} (h : cl.length = 8) : ∃ c0 c1 c2 c3 c4 c5 c6 c7, cl = [c0, c1, c2, c3, c4, c5, c6, c7] := by
  match cl, h with
  | [c0, c1, c2, c3, c4, c5, c6, c7], _ => exact ⟨c0, c1, c2, c3, c4, c5, c6, c7, rfl⟩
/-- Opening a case. -/
theorem case_open {H : Type} {enc : TypeId × Value → H} {P : Program} {w : World} {base b0 : Nat} {spare : Nat → Bool} {held : Bool} {r : Reach} {v : Value} {d : DataW H} {p : List MemPlace} {t : TypeId} {fs : Array Field} (uC' : P.underlying t = some (.struct fs)) (cC' : P.cellsOf t = 8) (eP : P = Try.prog) (et : t = 45)
    (hv : Value.okWide P w r b0 t v) (h : DataW.Trod enc P w base spare held t v d p) :
    ∃ (x0 x1 x2 x3 x4 : Int) (v0 v1 va : Value) (L0 L1 : List F) (L : List Ac), v = .agg (csc x0 x1 x2 x3 x4 v0 v1 va) ∧ Fts w v0 L0 ∧ Fts w v1 L1 ∧ Acl w va L := by
  obtain ⟨cl, ev, hsz'⟩ := struct_form uC' cC' hv
  clear hv
  subst eP et
  clear uC' cC'
  have uC := Try.underlying45
  have cC : Try.prog.cellsOf 45 = 8 := by kernel_rfl
  have cG : Try.prog.cellsOf 23 = 5 := by kernel_rfl
  have cA : Try.prog.cellsOf 42 = 2 := by kernel_rfl
  have cF : Try.prog.cellsOf 24 = 1 := by kernel_rfl
  have cL : Try.prog.cellsOf 43 = 1 := by kernel_rfl
  subst ev
  obtain ⟨fuel, hq⟩ := h
  obtain ⟨xs, m, _, _, _, hl, hel⟩ := DataW.trod_struct uC hq
  have hl' : xs.length = 3 := hl
  have E : (Value.agg (Array.mk cl)).cells.toList = cl := rfl
  rw [E] at hel
  clear E hq
  obtain ⟨c0, c1, c2, c3, c4, c5, c6, c7, rfl⟩ := list8 hsz'
  have a0 := fld (hel 0 _ rfl) (o := 0) (T := 23) rfl rfl cG (by omega) rfl
  have a1 := fld (hel 1 _ rfl) (o := 5) (T := 42) rfl rfl cA (by omega) rfl
  have a2 := fld (hel 2 _ rfl) (o := 7) (T := 43) rfl rfl cL (by omega) rfl
  obtain ⟨x0, x1, x2, x3, x4, eg⟩ := geo_cells Try.underlying23 cG (fun j hj => by rcases (by omega : j = 0 ∨ j = 1 ∨ j = 2 ∨ j = 3 ∨ j = 4) with rfl | rfl | rfl | rfl | rfl <;> exact ⟨_, rfl, rfl, Try.underlying3, by kernel_rfl⟩) a0
  obtain ⟨y0, y1, n, b0, b1⟩ := trod_array2 Try.underlying42 cF a1
  obtain ⟨A0, n0, k0, rfl⟩ := slice_cell Try.underlying24 b0
  obtain ⟨A1, n1, k1, rfl⟩ := slice_cell Try.underlying24 b1
  obtain ⟨A2, n2, k2, rfl⟩ := slice_cell Try.underlying43 a2
  obtain ⟨L0, f0, -⟩ := fts_in Try.underlying24 Try.underlying80 rfl rfl rfl rfl rfl rfl Try.underlying3 (by kernel_rfl) Try.underlying3 (by kernel_rfl) Try.underlying3 (by kernel_rfl) (by kernel_rfl) ⟨_, b0⟩
  obtain ⟨L1, f1, -⟩ := fts_in Try.underlying24 Try.underlying80 rfl rfl rfl rfl rfl rfl Try.underlying3 (by kernel_rfl) Try.underlying3 (by kernel_rfl) Try.underlying3 (by kernel_rfl) (by kernel_rfl) ⟨_, b1⟩
  haveI : Inhabited Ac := ⟨⟨0, 0, 0, 0, none, 0, 0, [], false⟩⟩
  obtain ⟨L, hL, hok, -⟩ := St.rd_in (α := Ac) (Q := AcOk w) acs_enc (by decide) Try.underlying43 (by kernel_rfl) (fun _ _ _ hy => act_cells Try.underlying62 rfl rfl rfl rfl rfl rfl rfl rfl rfl rfl rfl rfl Try.underlying5 (by kernel_rfl) Try.underlying5 (by kernel_rfl) Try.underlying59 (by kernel_rfl) Try.underlying3 (by kernel_rfl) Try.underlying60 (by kernel_rfl) Try.underlying5 (by kernel_rfl) Try.underlying4 (by kernel_rfl) (by kernel_rfl) hy) ⟨_, a2⟩
  injection eg with e0 eg
  injection eg with e1 eg
  injection eg with e2 eg
  injection eg with e3 eg
  injection eg with e4 eg
  subst e0 e1 e2 e3 e4
  exact ⟨x0, x1, x2, x3, x4, _, _, _, L0, L1, L, rfl, f0, f1, hL, hok⟩
end Go.Proofs.Ytdjjihppaobbcaa
