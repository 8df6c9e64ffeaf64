/- Layer 8: the walk of Crc64Short. -/
import Derived.Test.YtbdabpijhacpdaaHi
import Derived.Test.YtbdabpijhacpdaaGK
namespace Go.Proofs.Ytbdabpijhacpdaa
open Go Go.RowKit Go.ChangeShapes Go.WideShapes Go.ChangeAt
set_option linter.unusedVariables false
set_option linter.unusedSimpArgs false
/-- An array of bytes that comes in by value. -/
theorem arr8_in {H : Type} {enc : TypeId × Value → H} {P : Program} {w : World} {base b0 n : Nat} {spare : Nat → Bool} {held : Bool} {r : Reach} {t e : TypeId} {v : Value} {d : DataW H} {p : List MemPlace}
    (ht : P.underlying t = some (.array n e)) (he : P.underlying e = some (.int .u8)) (hc : P.cellsOf e = 1) (hC : P.cellsOf t = n) (hv : Value.okWide P w r b0 t v) (h : DataW.Trod enc P w base spare held t v d p) :
    ∃ xs : List Nat, xs.length = n ∧ (∀ x ∈ xs, x < 256) ∧ v = .agg (xs.map bv).toArray := by
  obtain ⟨cs, rfl, hsz⟩ : ∃ cs, v = .agg cs ∧ cs.size = P.cellsOf t := by
    simp only [Value.okWide, ht] at hv
    obtain ⟨cs, h1, h2, _⟩ := hv
    exact ⟨cs, h1, h2⟩
  rw [hC] at hsz
  obtain ⟨fuel, hf⟩ := h
  obtain ⟨ys, m, _, _, _, hl, hel⟩ := DataW.trod_array ht hf
  have key : ∀ i (hi : i < n), ∃ x : Nat, x < 256 ∧ cs[i]'(by omega) = bv x := fun i hi => by
    have q := hel i hi
    rw [hc, Nat.mul_one] at q
    have e1 : ((Value.agg cs).cells.toList.drop i).take 1 = [cs[i]'(by omega)] := by
      have : (Value.agg cs).cells = cs := rfl
      rw [this, List.drop_eq_getElem_cons (by simpa using (by omega : i < cs.size))]
      simp
    rw [e1, List.getElem?_eq_getElem (by omega)] at q
    obtain ⟨z, ez, _, wz⟩ := DataW.trod_int he q
    obtain ⟨x, rfl, hx⟩ := u8_nat wz
    exact ⟨x, hx, by simpa [bv] using ez⟩
  refine ⟨(List.range n).map fun i => (intOf (cs.getD i (.bool false))).toNat, by simp, fun x hx => ?_, ?_⟩
  · obtain ⟨i, hi, rfl⟩ := List.mem_map.1 hx
    have hi' := List.mem_range.1 hi
    obtain ⟨y, hy, e⟩ := key i hi'
    rw [show cs.getD i (.bool false) = cs[i]'(by omega) by simp [Array.getD, show i < cs.size by omega], e]
    simp [intOf, bv]
    exact hy
  · congr 1
    refine Array.ext (by simp [hsz]) fun i h1 h2 => ?_
    obtain ⟨y, hy, e⟩ := key i (by omega)
    simp only [List.getElem_toArray, List.getElem_map, List.getElem_range]
    rw [show cs.getD i (.bool false) = cs[i] by simp [Array.getD, h1], e]
    simp [intOf, bv]
theorem bs_row8 {w : World} {g : Nat} {t : TypeId} {l : List Nat} {n : Nat} (h : Row w g t (l.map bv).toArray) (hl : l.length = 8) (hn : n ≤ 8) (h8 : ∀ x ∈ l, x < 256) : Bs w (.slice (some ⟨g, 0, none⟩) n 8) (l.take n) := by
  refine Bs.of_row h (by rw [List.length_take]; omega) ⟨hn, by decide⟩ (fun x hx => h8 x (List.mem_of_mem_take hx)) fun k hk => ?_
  rw [List.getElem?_toArray, getD_bv (by omega), getD_in (by omega), getD_in (by rw [List.length_take]; omega), List.getElem_take]
theorem part8 (g z n : Nat) (hn : z % 9 = n) : ∀ w, (Instr.sliceAt 34 (.pointer (some ⟨g, 0, none⟩)) none (some (.int .u8 ((z : Int).tmod 9))) none).run Try.prog w = .ok (.slice (some ⟨g, 0, none⟩) n 8) w := by
  intro w
  have hl : Try.prog.arrayLen 34 = 8 := by kernel_rfl
  obtain ⟨i, hi, hzz⟩ := Option.map_eq_some_iff.1 info_u8
  simp only [Prod.mk.injEq] at hzz
  have hel : Try.prog.elem 34 = 5 := by kernel_rfl
  have e : (z : Int).tmod 9 = (n : Int) := by rw [← hn]; exact (Int.ofNat_tmod z 9).symm
  have n9 : n < 9 := by rw [← hn]; exact Nat.mod_lt _ (by decide)
  rw [e, run_sliceAt_array_h w 34 ⟨g, 0, none⟩ (by rw [hl, hel]; exact Try.underlying34) .u8 (n : Int) (by omega) (by rw [hl]; omega), hel, hl]
  simp [sizeOf, typeInfo, hi, hzz.2.1, Result.andThen, slicedAt]
  rfl
set_option maxHeartbeats 2000000 in
set_option maxRecDepth 100000 in
theorem shortlaw_walk (a b : List Nat) (z : Nat) (w : World) (la : a.length = 8) (lb : b.length = 8) (ha : ∀ x ∈ a, x < 256) (hb : ∀ x ∈ b, x < 256) (hz : z < 256) :
    Calls Try.prog 9 #[.agg (a.map bv).toArray, .agg (b.map bv).toArray, .int .u8 (z : Int)] w (lawPost w) := by
  obtain ⟨n, hn⟩ : ∃ n, z % 9 = n := ⟨_, rfl⟩
  have n8 : n ≤ 8 := by omega
  obtain ⟨B, hB⟩ : ∃ B, w.heap.size = B := ⟨_, rfl⟩
  obtain ⟨CA, hCA⟩ : ∃ C, (a.map bv).toArray = C := ⟨_, rfl⟩
  obtain ⟨CB, hCB⟩ : ∃ C, (b.map bv).toArray = C := ⟨_, rfl⟩
  obtain ⟨W, hW⟩ : ∃ W, (w.alloc (.cells CA 34)).alloc (.cells CB 34) = W := ⟨_, rfl⟩
  rw [hCA, hCB]
  have b1 : Below w.heap.size w W := by subst hW; exact ((Below.refl w.heap.size w).alloc (Nat.le_refl _) _).alloc (by simp) _
  have ra : Row W B 34 CA := by
    subst hW hB; exact mx_to (mx_new w CA _ rfl) ((Below.refl _ _).alloc (Nat.le_refl _) _) (by simp)
  have rb : Row W (B + 1) 34 CB := by
    have := mx_new (w.alloc (.cells CA 34)) CB 34 rfl
    rw [World.size_alloc, hB] at this
    subst hW; exact this
  have SA := Lib.hid (bs_row8 (n := n) (hCA ▸ ra) la n8 ha)
  have SB := Lib.hid (bs_row8 (n := n) (hCB ▸ rb) lb n8 hb)
  have BW := Lib.hid b1
  have HB := Lib.hid hB
  have HW := Lib.hid hW
  have EQ := Lib.hid (Crc.crc_short (a := a.take n) (b := b.take n) (by rw [List.length_take, List.length_take, la, lb]) (by rw [List.length_take]; omega) SA.out.lt SB.out.lt)
  have ST := Lib.hid (strOf_eq (a.take n) (b.take n) SA.out.lt SB.out.lt)
  generalize a.take n = p at *
  generalize b.take n = q at *
  have NN := Lib.hid hn
  clear b1 ra rb hB hW hCA hCB la lb ha hb hn
  go_enter Try.func9, Try.ntmps9
  go_wp2_with fail
  rw [HB.out, HW.out]
  refine (awake_any W).mono ?_
  rintro e w1 ⟨rfl, hbel⟩
  have TA := Lib.hid (SA.out.below hbel)
  have TB := Lib.hid (SB.out.below hbel)
  have B1 := Lib.hid (BW.out.trans (hbel.mono BW.out.size))
  clear hbel
  have pa := part8 B z n NN.out
  have pb := part8 (B + 1) z n NN.out
  go_wp2_with fail
  go_quiet (fail)
  have UA := Lib.hid (show Bs (w1.drewN nq) _ p from TA.out.keep fun _ _ => rfl)
  have UB := Lib.hid (show Bs (w1.drewN nq) _ q from TB.out.keep fun _ _ => rfl)
  have B2 := Lib.hid (below_drewN B1.out nq)
  clear pa pb TA TB
  generalize w1.drewN nq = w2 at *
  have Q0 := Lib.hid fun m => crcsum_quiet _ _ w2 m UA.out
  have Q1 := Lib.hid fun m => crcsum_quiet _ _ w2 m UB.out
  have k1 := fun m => conv_bs 22 5 9 Try.underlying22 Try.underlying5 Try.underlying9 (show Bs (w2.drewN m) _ p from UA.out.keep fun _ _ => rfl)
  have k2 := fun m => conv_bs 22 5 9 Try.underlying22 Try.underlying5 Try.underlying9 (show Bs (w2.drewN m) _ q from UB.out.keep fun _ _ => rfl)
  generalize Crc.crc p = s0 at *
  generalize Crc.crc q = s1 at *
  generalize strOf p = t0 at *
  generalize strOf q = t1 at *
  go_wp2_with fail
  go_quiet (first | (go_at_call 12; exact Q0.out _) | (go_at_call 12; exact Q1.out _))
  go_wp2_with fail
  go_ret
  refine ⟨congrArg (fun t => Ending.returned (.bool t)) ?_, below_drewN B2.out nq⟩
  have E := EQ.out
  have T := ST.out
  by_cases h : p = q
  · have h2 := E.2 h
    rw [T, decide_eq_true h, h2]; simp
  · have h2 : ¬ ((s0 : Int) = (s1 : Int)) := fun h2 => h (E.1 (by omega))
    rw [T, decide_eq_false h]; simp [h2]
end Go.Proofs.Ytbdabpijhacpdaa
