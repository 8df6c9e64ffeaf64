/- Layer 15: opening arguments: entries, arrays of bytes. -/
import Derived.Test.YtfihiihakgcikaaNtm
namespace Go.Proofs.Ytfihiihakgcikaa
open Go Go.RowKit Go.ChangeShapes Go.WideShapes Go.ChangeAt Ent
set_option linter.unusedVariables false
theorem ent_i64 {z : Int} (h : (Lit.int .i64 z).wf = true) : I64 z := by
  have h1 : IntKind.i64.min = -9223372036854775808 := rfl
  have h2 : IntKind.i64.max = 9223372036854775807 := rfl
  simp only [Lit.wf, Bool.and_eq_true, decide_eq_true_eq] at h
  unfold I64; omega
theorem ent_u64 {z : Int} (h : (Lit.int .u64 z).wf = true) : ∃ n : Nat, z = n ∧ n < 2 ^ 64 := by
  have h1 : IntKind.u64.min = 0 := rfl
  have h2 : IntKind.u64.max = 18446744073709551615 := rfl
  simp only [Lit.wf, Bool.and_eq_true, decide_eq_true_eq] at h
  exact ⟨z.toNat, by omega, by omega⟩
/-- The cells of an array of bytes. -/
theorem bytes_cells {H : Type} {enc : TypeId × Value → H} {P : Program} {w : World} {base n fuel : Nat} {spare : Nat → Bool} {held : Bool} {t e : TypeId} {cl : List Value} {x : DataW H × List MemPlace}
    (ht : P.underlying t = some (.array n e)) (he : P.underlying e = some (.int .u8)) (hc : P.cellsOf e = 1) (hn : cl.length = n) (h : DataW.trod enc P w base spare held fuel t cl = some x) :
    ∃ xs : List Nat, xs.length = n ∧ (∀ x ∈ xs, x < 256) ∧ cl = xs.map bv := by
  obtain ⟨ys, m, _, _, _, hl, hel⟩ := DataW.trod_array ht h
  have key : ∀ i (hi : i < n), ∃ x : Nat, x < 256 ∧ cl[i]'(by omega) = bv x := fun i hi => by
    have q := hel i hi
    rw [hc, Nat.mul_one, List.drop_eq_getElem_cons (by omega), List.getElem?_eq_getElem (by omega)] at q
    simp only [List.take_succ_cons, List.take_zero] at q
    obtain ⟨z, ez, _, wz⟩ := DataW.trod_int he q
    obtain ⟨x, rfl, hx⟩ := u8_nat wz
    exact ⟨x, hx, by simpa [bv] using ez⟩
  clear hel
  induction cl generalizing n with
  | nil => exact ⟨[], hn, by simp, rfl⟩
  | cons a r _ =>
    refine ⟨(List.range n).map fun i => (intOf ((a :: r).getD i (.bool false))).toNat, by simp, fun x hx => ?_, ?_⟩
    · obtain ⟨i, hi, rfl⟩ := List.mem_map.1 hx
      have hi' : i < n := List.mem_range.1 hi
      obtain ⟨y, hy, e⟩ := key i hi'
      rw [List.getD_eq_getElem?_getD, List.getElem?_eq_getElem (by omega), Option.getD_some, e]
      simpa [bv, intOf] using hy
    · refine List.ext_getElem (by simp; exact hn) fun i h1 h2 => ?_
      obtain ⟨y, hy, e⟩ := key i (by omega)
      rw [e]
      simp only [List.getElem_map, List.getElem_range]
      rw [List.getD_eq_getElem?_getD, List.getElem?_eq_getElem (by omega), Option.getD_some, e]
      simp [bv, intOf]
theorem bytes_in {H : Type} {enc : TypeId × Value → H} {P : Program} {w : World} {base b0 n : Nat} {spare : Nat → Bool} {held : Bool} {r : Reach} {t e : TypeId} {v : Value} {d : DataW H} {p : List MemPlace}
    (ht : P.underlying t = some (.array n e)) (he : P.underlying e = some (.int .u8)) (hc : P.cellsOf e = 1) (hC : P.cellsOf t = n) (hv : Value.okWide P w r b0 t v) (h : DataW.Trod enc P w base spare held t v d p) :
    ∃ xs : List Nat, xs.length = n ∧ (∀ x ∈ xs, x < 256) ∧ v = .agg (dcs xs) := by
  obtain ⟨cs, rfl, hsz⟩ : ∃ cs, v = .agg cs ∧ cs.size = P.cellsOf t := by
    simp only [Value.okWide, ht] at hv
    obtain ⟨cs, h1, h2, _⟩ := hv
    exact ⟨cs, h1, h2⟩
  obtain ⟨fuel, hf⟩ := h
  obtain ⟨xs, h1, h2, h3⟩ := bytes_cells ht he hc (by have : (Value.agg cs).cells.toList.length = cs.size := rfl; omega) hf
  refine ⟨xs, h1, h2, ?_⟩
  have e : cs.toList = xs.map bv := h3
  unfold dcs
  rw [← e]
theorem pair_in {H : Type} {enc : TypeId × Value → H} {P : Program} {w : World} {base b0 : Nat} {spare : Nat → Bool} {held : Bool} {r : Reach} {t e : TypeId} {v : Value} {d : DataW H} {p : List MemPlace}
    (ht : P.underlying t = some (.array 2 e)) (he : P.underlying e = some (.int .u8)) (hc : P.cellsOf e = 1) (hC : P.cellsOf t = 2) (hv : Value.okWide P w r b0 t v) (h : DataW.Trod enc P w base spare held t v d p) :
    ∃ x y : Nat, x < 256 ∧ y < 256 ∧ v = .agg #[.int .u8 (x : Int), .int .u8 (y : Int)] := by
  obtain ⟨xs, h1, h2, rfl⟩ := bytes_in ht he hc hC hv h
  match xs, h1 with
  | [x, y], _ => exact ⟨x, y, h2 x (by simp), h2 y (by simp), rfl⟩
theorem ent_fld {H : Type} {enc : TypeId × Value → H} {P : Program} {w : World} {base n : Nat} {spare : Nat → Bool} {held : Bool} {f : Field} {T : TypeId} {o c i : Nat} {cs cs' : List Value} {xs : List (DataW H × List MemPlace)} (h : DataW.trod enc P w base spare held n f.type ((cs.drop f.offset).take (P.cellsOf f.type)) = xs[i]?)
    (eo : f.offset = o) (et : f.type = T) (ec : P.cellsOf T = c) (hx : i < xs.length) (e : (cs.drop o).take c = cs') : DataW.trod enc P w base spare held n T cs' = some xs[i] := by
  rw [eo, et, ec, e, List.getElem?_eq_getElem hx] at h
  exact h
/-- The cells of an entry. -/
theorem ent_cells {H : Type} {enc : TypeId × Value → H} {P : Program} {w : World} {base fuel : Nat} {spare : Nat → Bool} {held : Bool} {t : TypeId} {fs : Array Field} {cl : List Value} {x : DataW H × List MemPlace} (uE' : P.underlying t = some (.struct fs)) (eP : P = Try.prog) (et : t = 26)
    (h : DataW.trod enc P w base spare held fuel t cl = some x) : ∃ e : E, cl = ecs e ∧ Fit e ∧ I64 e.kind ∧ I64 e.block := by
  subst eP et
  clear uE'
  have uE := Try.underlying26
  have cI : Try.prog.cellsOf 3 = 1 := by kernel_rfl
  have cU : Try.prog.cellsOf 22 = 1 := by kernel_rfl
  have cB : Try.prog.cellsOf 24 = 8 := by kernel_rfl
  have c8 : Try.prog.cellsOf 5 = 1 := by kernel_rfl
  have cE : Try.prog.cellsOf 26 = 11 := by kernel_rfl
  obtain ⟨xs, m, _, _, hlen, hl, hel⟩ := DataW.trod_struct uE h
  have hl' : xs.length = 4 := hl
  rw [cE] at hlen
  obtain ⟨c0, c1, c2, d, rfl, hd⟩ : ∃ c0 c1 c2 d, cl = c0 :: c1 :: c2 :: d ∧ d.length = 8 := by
    match cl, hlen with
    | c0 :: c1 :: c2 :: d, hlen => exact ⟨c0, c1, c2, d, rfl, by simpa using hlen⟩
  have a0 := ent_fld (hel 0 _ rfl) (o := 0) (T := 3) rfl rfl cI (by omega) (cs' := [c0]) rfl
  have a1 := ent_fld (hel 1 _ rfl) (o := 1) (T := 3) rfl rfl cI (by omega) (cs' := [c1]) rfl
  have a2 := ent_fld (hel 2 _ rfl) (o := 2) (T := 22) rfl rfl cU (by omega) (cs' := [c2]) rfl
  have a3 := ent_fld (hel 3 _ rfl) (o := 3) (T := 24) rfl rfl cB (by omega) (cs' := d) (by
    show d.take 8 = d
    exact List.take_of_length_le (by omega))
  obtain ⟨z0, e0, _, w0⟩ := DataW.trod_int Try.underlying3 a0
  obtain ⟨z1, e1, _, w1⟩ := DataW.trod_int Try.underlying3 a1
  obtain ⟨z2, e2, _, w2⟩ := DataW.trod_int Try.underlying22 a2
  obtain ⟨ys, y1, y2, rfl⟩ := bytes_cells Try.underlying24 Try.underlying5 c8 hd a3
  obtain rfl : c0 = .int .i64 z0 := by simpa using e0
  obtain rfl : c1 = .int .i64 z1 := by simpa using e1
  obtain rfl : c2 = .int .u64 z2 := by simpa using e2
  obtain ⟨n2, rfl, k2⟩ := ent_u64 w2
  exact ⟨⟨z0, z1, n2, ys⟩, rfl, ⟨k2, y1, y2⟩, ent_i64 w0, ent_i64 w1⟩
theorem ent_in {H : Type} {enc : TypeId × Value → H} {P : Program} {w : World} {base b0 : Nat} {spare : Nat → Bool} {held : Bool} {r : Reach} {t : TypeId} {fs : Array Field} {v : Value} {d : DataW H} {p : List MemPlace}
    (ht : P.underlying t = some (.struct fs)) (eP : P = Try.prog) (et : t = 26) (hv : Value.okWide P w r b0 t v) (h : DataW.Trod enc P w base spare held t v d p) : ∃ e : E, v = ev e ∧ Fit e ∧ I64 e.kind ∧ I64 e.block := by
  obtain ⟨cs, rfl, hsz⟩ := okWide_struct ht hv
  obtain ⟨fuel, hq⟩ := h
  obtain ⟨e, h1, h2⟩ := ent_cells ht eP et hq
  refine ⟨e, ?_, h2⟩
  have h3 : cs.toList = ecs e := h1
  unfold ev
  rw [← h3]
end Go.Proofs.Ytfihiihakgcikaa
