/- Layer 15: Decode: the program's. -/
import Derived.Test.YtfihiihakgcikaaNtf
import Derived.Test.YtfihiihakgcikaaIk
namespace Go.Proofs.Ytfihiihakgcikaa
open Go Go.RowKit Ent
set_option linter.unusedVariables false
set_option linter.unusedSimpArgs false
theorem dec_fin {b : List Nat} {w w' : World} {r : Ending} {x : Int} (hx : x ≠ 0) (he : decE b = x) (h : r = .returned (.tuple #[ev ez, .int .u64 0, .int .i64 x]) ∧ Below w.heap.size w w') : decPost b w r w' := by
  obtain ⟨h1, h2⟩ := h
  obtain ⟨e1, e2⟩ := decV_bad (b := b) (by rw [he]; exact hx)
  exact ⟨by rw [h1, e1, e2, he]; rfl, h2⟩
theorem results_cell3 {P : Program} {fn : Func} {p u v : Tmp} {ty : TypeId} (h : fn.results = #[.cell p ty, .tmp u, .tmp v]) (tmps : Array Value) (w : World) (g : Nat) (t : TypeId) (cs : Array Value) (fr : Nat × Nat) (d : TypeDesc)
    (hp : tmps.getD p undef = .pointer (some ⟨g, 0, none⟩)) (hg : w.heap[g]? = some (.cells cs t fr))
    (hu : P.underlying ty = some d) (hd : (match d with | .struct _ | .array _ _ => true | _ => false) = true) (hi : (P.info? ty).map (·.size) = some cs.size) :
    (results fn tmps).run P w = .ok (.tuple #[.agg cs, tmps.getD u undef, tmps.getD v undef]) w := by
  have hp' : tmps[p]?.getD undef = .pointer (some ⟨g, 0, none⟩) := by simpa using hp
  simp [results, h, hp', asAddr, run_loadVar_row w g t ty cs fr d hg hu hd hi]
/-- The entry's block, as it is made. -/
theorem eb_zero (w : World) {b : Nat} (h : w.heap.size = b) : Eb (w.alloc (.cells #[.int .i64 0, .int .i64 0, .int .u64 0, .int .u8 0, .int .u8 0, .int .u8 0, .int .u8 0, .int .u8 0, .int .u8 0, .int .u8 0, .int .u8 0] 26)) b ez := eb_new w ez h
theorem Eb.there {w : World} {b : Nat} {e : E} (h : Eb w b e) (hf : Fit e) : w.there b 0 11 := fun j hj => by
  have hr : Row w b 26 (ecs e).toArray := h
  refine ⟨?_, hr.frozen _⟩
  rw [Nat.zero_add, hr.cell, List.getElem?_toArray, List.getElem?_eq_getElem (by rw [ecs_len hf]; exact hj)]; rfl
/-- A whole entry over another. -/
theorem Eb.put {w : World} {b : Nat} {e : E} (h : Eb w b e) (hf : Fit e) {e' : E} (hf' : Fit e') : Eb (w.setCells b 0 (ecs e')) b e' := by
  have hr : Row w b 26 (ecs e).toArray := h
  obtain ⟨cs', h1, h2, h3⟩ := rw_puts (vs := ecs e') (o := 0) hr
  have hl := ecs_len hf
  have hl' := ecs_len hf'
  have e1 : cs' = (ecs e').toArray := by
    refine Array.ext_getElem? fun i => ?_
    by_cases hi : i < 11
    · rw [h3 i (by simp [hl]; exact hi), if_pos ⟨Nat.zero_le _, by omega⟩]; simp
    · rw [Array.getElem?_eq_none (by simp at h2; omega), List.getElem?_toArray, List.getElem?_eq_none (by omega)]
  subst e1
  exact h1
theorem cut_l (b off N c lo : Nat) (h1 : lo ≤ N) (h3 : lo < c) : (∀ w, (Instr.slice 27 (.slice (some ⟨b, off, none⟩) N c) (some (.int .i64 (lo : Int))) none none).run Try.prog w = .ok (.slice (some ⟨b, off + lo, none⟩) (N - lo) (c - lo)) w) ∧ (∀ w, (Instr.sliceAt 27 (.slice (some ⟨b, off, none⟩) N c) (some (.int .i64 (lo : Int))) none none).run Try.prog w = .ok (.slice (some ⟨b, off + lo, none⟩) (N - lo) (c - lo)) w) := by
  have hel : Try.prog.elem 27 = 5 := by kernel_rfl
  have hu : Try.prog.underlying 27 = some (.slice (Try.prog.elem 27)) := by rw [hel]; exact Try.underlying27
  obtain ⟨i, hi', hzz⟩ := Option.map_eq_some_iff.1 info_u8
  simp only [Prod.mk.injEq] at hzz
  have key : ∀ w, (Instr.slice 27 (.slice (some ⟨b, off, none⟩) N c) (some (.int .i64 (lo : Int))) none none).run Try.prog w = .ok (.slice (some ⟨b, off + lo, none⟩) (N - lo) (c - lo)) w := fun w => by
    rw [run_slice_l w 27 _ _ _ hu .i64 (lo : Int) (by omega) (by omega), hel]
    have hne : ¬ c = lo := by omega
    simp [sizeOf, typeInfo, hi', hzz.2.1, Result.andThen, sliced, hne, Addr.add]
  exact ⟨key, fun w => by rw [run_sliceAt_slice w _ _ _ _ _ hu]; exact key w⟩
theorem cut_h (A : Option Addr) (m c k : Nat) (hk : k ≤ m) (hm : m ≤ c) : (∀ w, (Instr.slice 27 (.slice A m c) none (some (.int .i64 (k : Int))) none).run Try.prog w = .ok (.slice A k c) w) ∧ (∀ w, (Instr.sliceAt 27 (.slice A m c) none (some (.int .i64 (k : Int))) none).run Try.prog w = .ok (.slice A k c) w) := by
  have hel : Try.prog.elem 27 = 5 := by kernel_rfl
  have hu : Try.prog.underlying 27 = some (.slice (Try.prog.elem 27)) := by rw [hel]; exact Try.underlying27
  obtain ⟨i, hi, hzz⟩ := Option.map_eq_some_iff.1 info_u8
  simp only [Prod.mk.injEq] at hzz
  have key : ∀ w, (Instr.slice 27 (.slice A m c) none (some (.int .i64 (k : Int))) none).run Try.prog w = .ok (.slice A k c) w := fun w => by
    rw [run_slice_h w 27 A m c hu .i64 (k : Int) (by omega) (by omega), hel]
    simp [sizeOf, typeInfo, hi, hzz.2.1, Result.andThen, sliced]
    rcases A with _ | ⟨b, off, sp⟩
    · simp
    · simp [Addr.add]
  exact ⟨key, fun w => by rw [run_sliceAt_slice w _ _ _ _ _ hu]; exact key w⟩
theorem below_drew15 (w : World) (n : Nat) : Below w.heap.size w (w.drewN n) := ⟨rfl, rfl, rfl, Nat.le_refl _, fun _ _ => rfl⟩
theorem below_setCells15 {B : Nat} {w w' : World} (h : Below B w w') : ∀ (vs : List Value) (g o : Nat), B ≤ g → Below B w (w'.setCells g o vs) := by
  intro vs
  induction vs generalizing w' with
  | nil => exact fun g o _ => h
  | cons v r ih => exact fun g o hg => ih (h.setCell (p := ⟨g, o, none⟩) hg v) g (o + 1) hg
/-- The cells of no entry, as a letter. -/
def ZeroCells (Z : Array Value) : Prop := Z = (ecs ez).toArray
theorem zero_cells : ∃ Z : Array Value, #[.int .i64 0, .int .i64 0, .int .u64 0, .int .u8 0, .int .u8 0, .int .u8 0, .int .u8 0, .int .u8 0, .int .u8 0, .int .u8 0, .int .u8 0] = Z ∧ ZeroCells Z := ⟨_, rfl, rfl⟩
theorem ZeroCells.size {Z : Array Value} (h : ZeroCells Z) : Z.size = 11 := by rw [h]; rfl
theorem ZeroCells.info {Z : Array Value} (h : ZeroCells Z) : (Try.prog.info? 26).map (·.size) = some Z.size := by rw [h.size]; kernel_rfl
theorem ZeroCells.one {Z : Array Value} (h : ZeroCells Z) : Z.all (·.oneCell') = true := by rw [h]; exact all_oneCell_toArray (ecs_one ez)
theorem Eb.zero {w : World} {b : Nat} {e : E} (h : Eb w b e) (hf : Fit e) {Z : Array Value} (hz : ZeroCells Z) : (w.setCells b 0 Z.toList).heap[b]? = some (.cells Z 26 (0, 0)) := by
  have := h.put hf ez_fit
  rw [hz]
  exact this
theorem ZeroCells.ez {Z : Array Value} (h : ZeroCells Z) : ev ez = .agg Z := by rw [h]; rfl
theorem dec_ok {b : List Nat} {w w' : World} {r : Ending} (he : decE b = 0) (h : r = .returned (.tuple #[ev (rdE b), .int .u64 (rdT b : Nat), .int .i64 0]) ∧ Below w.heap.size w w') : decPost b w r w' := by
  obtain ⟨h1, h2⟩ := h
  obtain ⟨e1, e2⟩ := decV_good he
  exact ⟨by rw [h1, e1, e2, he], h2⟩
theorem i64_small {p : Nat} (h : p < 256 ^ 4) : IntKind.i64.wrap (p : Int) = (p : Int) := by
  have h' : p < 4294967296 := h
  rw [IntKind.wrap_i64]; omega
/-- A load of a row in a region that only reads ahead of its store. -/
theorem still_load {P : Program} {ops : Array Oper} {w : World} {Q : Act → Prop} {a : Act} {o : Oper} {rest : List Oper} (hw : Region.wanted o (yielded ops a.tmps) = true) (ty : TypeId) (x : Operand) (ho : o.op = .load ty x)
    (b k : Nat) (hx : a.eval x = .pointer (some ⟨b, k, none⟩)) (cs : List Value) (d : TypeDesc) (hc : w.rangeAt b k cs)
    (hu : P.underlying ty = some d) (hd : d.isRow = true) (hi : (P.info? ty).map (·.size) = some cs.length)
    (h : wpStill P ops w Q rest (a.put o.dst (.agg cs.toArray))) : wpStill P ops w Q (o :: rest) a := by
  refine wpStill_step (fun K hK => ?_)
  rw [if_pos hw]
  unfold Oper.still execOp
  simp only [ho, hx, Instr.loadAt, Instr.sureAddr, Sem.run_bind, Sem.run_pure, Result.andThen_ok, run_loadVar_mid w b k ty cs d hc hu hd hi]
  rw [Oper.stillUpon_value]
  exact hK _ h
theorem Bs.rng {w : World} {g off N c lo n : Nat} {l : List Nat} (h : Bs w (.slice (some ⟨g, off, none⟩) N c) l) (hn : lo + n ≤ N) (hp : 0 < n) : w.rangeAt g (off + lo) ((sub l lo n).map bv) := fun j v hv => by
  have hj : j < n := by
    have := (List.getElem?_eq_some_iff.1 hv).1
    obtain ⟨e, -, -⟩ := h.cap
    rw [List.length_map, sub_len (by omega)] at this
    exact this
  obtain ⟨b', o', e1, hc⟩ := Bs.nth (bs_sub h hn hp) rfl hj
  injection e1 with e1
  injection e1 with e2 e3
  subst e2 e3
  rw [hc, ← hv]
  obtain ⟨e, -, -⟩ := h.cap
  exact (getD_bv (by rw [sub_len (by omega)]; exact hj)).symm
set_option maxHeartbeats 4000000 in
set_option maxRecDepth 100000 in
theorem pdec_len (v : Value) (b : List Nat) (w : World) (hb : Bs w v b) (h37 : b.length ≠ 37) : Calls Try.prog 12 #[v] w (decPost b w) := by
  refine Calls.mono ?_ fun r w' h => dec_fin (x := 5) (by decide) (decE_len h37) h
  obtain ⟨A, c, rfl⟩ := hb.form
  have hI : ((b.length : Int) != 37) = true := by simp; omega
  generalize b.length = n at *
  clear hb h37
  go_enter Try.func12, Try.ntmps12
  go_wp2_with fail
  refine bodyPost_ret (results_cell3 (g := w.heap.size) (t := 26) (fr := (0, 0)) rfl _ _ _ _ rfl (eb_zero w rfl) Try.underlying26 rfl (by kernel_rfl)) rfl ?_
  exact ⟨rfl, (Below.refl _ _).alloc (Nat.le_refl _) _⟩
set_option maxHeartbeats 4000000 in
set_option maxRecDepth 100000 in
theorem pdec_sum (v : Value) (b : List Nat) (w : World) (hb : Bs w v b) (h37 : b.length = 37) (hs : Crc.crc (b.take 29) ≠ Crc.num (sub b 29 8)) : Calls Try.prog 12 #[v] w (decPost b w) := by
  refine Calls.mono ?_ fun r w' h => dec_fin (x := 6) (by decide) (decE_sum h37 hb.lt hs) h
  obtain ⟨g, off, c, rfl, hc⟩ := form37 hb h37
  obtain ⟨B0, hB0⟩ : ∃ B, w.heap.size = B := ⟨_, rfl⟩
  obtain ⟨W, hW⟩ : ∃ W, w.alloc (.cells #[.int .i64 0, .int .i64 0, .int .u64 0, .int .u8 0, .int .u8 0, .int .u8 0, .int .u8 0, .int .u8 0, .int .u8 0, .int .u8 0, .int .u8 0] 26) = W := ⟨_, rfl⟩
  have BW : Below w.heap.size w W := by rw [← hW]; exact (Below.refl _ _).alloc (Nat.le_refl _) _
  have R : Eb W B0 ez := by rw [← hW]; exact eb_zero w hB0
  have BS := hb.below BW
  have D1 := Lib.hid fun w' (h : Below W.heap.size W w') => pcrcsum_eq (.slice (some ⟨g, off, none⟩) 29 c) (b.take 29) w' (bs_take (BS.below h) (k := 29) (by omega))
  have D2 := Lib.hid fun w' (h : Below W.heap.size W w') => pnumr_any (.slice (some ⟨g, off + 29, none⟩) 8 (c - 29)) (sub b 29 8) w' (bs_sub (BS.below h) (lo := 29) (n := 8) (by omega) (by omega)) (by rw [sub_len (by omega)]; omega)
  have K1 := (cut_h (some ⟨g, off, none⟩) 37 c 29 (by omega) hc)
  have k1 : ∀ w, (Instr.slice 27 (.slice (some ⟨g, off, none⟩) 37 c) none (some (.int .i64 29)) none).run Try.prog w = .ok (.slice (some ⟨g, off, none⟩) 29 c) w := K1.1
  have k1' : ∀ w, (Instr.sliceAt 27 (.slice (some ⟨g, off, none⟩) 37 c) none (some (.int .i64 29)) none).run Try.prog w = .ok (.slice (some ⟨g, off, none⟩) 29 c) w := K1.2
  have K2 := cut_l g off 37 c 29 (by omega) (by omega)
  have k2 : ∀ w, (Instr.slice 27 (.slice (some ⟨g, off, none⟩) 37 c) (some (.int .i64 29)) none none).run Try.prog w = .ok (.slice (some ⟨g, off + 29, none⟩) 8 (c - 29)) w := K2.1
  have k2' : ∀ w, (Instr.sliceAt 27 (.slice (some ⟨g, off, none⟩) 37 c) (some (.int .i64 29)) none none).run Try.prog w = .ok (.slice (some ⟨g, off + 29, none⟩) 8 (c - 29)) w := K2.2
  obtain ⟨x, hx⟩ : ∃ x, Crc.crc (b.take 29) = x := ⟨_, rfl⟩
  obtain ⟨y, hy⟩ : ∃ y, Crc.num (sub b 29 8) = y := ⟨_, rfl⟩
  rw [hx] at D1 hs
  rw [hy] at D2 hs
  have hI : ((x : Int) != (y : Int)) = true := by simp; omega
  obtain ⟨Z, hZ, hz⟩ := zero_cells
  rw [hZ] at hW
  rw [hz.ez]
  have EZ := Lib.hid hZ
  have HZ := Lib.hid hz
  clear hZ hz
  have HB1 := Lib.hid hB0
  have HW1 := Lib.hid hW
  have RH := Lib.hid R
  have BL := Lib.hid BW
  clear hb h37 hs hB0 hW R BW BS K1 K2 hx hy
  go_enter Try.func12, Try.ntmps12
  go_wp2_with (first | rw [EZ.out] | rw [HB1.out] | rw [HW1.out])
  have Q1 := Lib.hid fun m => Calls.quiet_of_same ((D1.out _ (below_drew15 W m)).mono fun _ _ h => ⟨h.1, h.2.symm⟩)
  have Q2 := Lib.hid fun m => Calls.quiet_of_same ((D2.out _ (below_drew15 W m)).mono fun _ _ h => ⟨h.1, h.2.symm⟩)
  clear D1 D2
  go_quiet (first | (go_at_call 18; exact Q1.out _) | (go_at_call 20; exact Q2.out _))
  have TH := Lib.hid (show (W.drewN nq).there B0 0 Z.size by rw [HZ.out.size]; exact (RH.out.below (below_drew15 W nq)).there ez_fit)
  have FIN := Lib.hid ((RH.out.below (below_drew15 W nq)).zero ez_fit HZ.out)
  have BF := Lib.hid (below_setCells15 (BL.out.trans ((below_drew15 W nq).mono BL.out.size)) Z.toList B0 0 (by rw [HB1.out]; exact Nat.le_refl _))
  go_wp2_with (first | rw [EZ.out] | (refine wpList_store_mid rfl _ _ _ rfl B0 0 Z rfl rfl TH.out HZ.out.info HZ.out.one ?_))
  refine bodyPost_ret (results_cell3 (g := B0) (t := 26) (fr := (0, 0)) rfl _ _ _ _ rfl FIN.out Try.underlying26 rfl HZ.out.info) rfl ?_
  exact ⟨rfl, BF.out⟩
set_option maxHeartbeats 4000000 in
set_option maxRecDepth 100000 in
theorem pdec_val (v : Value) (b : List Nat) (w : World) (hb : Bs w v b) (h37 : b.length = 37) (hs : Crc.crc (b.take 29) = Crc.num (sub b 29 8)) : Calls Try.prog 12 #[v] w (decPost b w) := by
  have HE := Lib.hid (decE_val h37 hb.lt hs)
  have FT := Lib.hid (rdE_fit h37 hb.lt)
  obtain ⟨g, off, c, rfl, hc⟩ := form37 hb h37
  obtain ⟨B0, hB0⟩ : ∃ B, w.heap.size = B := ⟨_, rfl⟩
  obtain ⟨W, hW⟩ : ∃ W, w.alloc (.cells #[.int .i64 0, .int .i64 0, .int .u64 0, .int .u8 0, .int .u8 0, .int .u8 0, .int .u8 0, .int .u8 0, .int .u8 0, .int .u8 0, .int .u8 0] 26) = W := ⟨_, rfl⟩
  have BW : Below w.heap.size w W := by rw [← hW]; exact (Below.refl _ _).alloc (Nat.le_refl _) _
  have R : Eb W B0 ez := by rw [← hW]; exact eb_zero w hB0
  have BS := hb.below BW
  have D1 := Lib.hid fun w' (h : Below W.heap.size W w') => pcrcsum_eq (.slice (some ⟨g, off, none⟩) 29 c) (b.take 29) w' (bs_take (BS.below h) (k := 29) (by omega))
  have D2 := Lib.hid fun w' (h : Below W.heap.size W w') => pnumr_any (.slice (some ⟨g, off + 29, none⟩) 8 (c - 29)) (sub b 29 8) w' (bs_sub (BS.below h) (lo := 29) (n := 8) (by omega) (by omega)) (by rw [sub_len (by omega)]; omega)
  have D3 := Lib.hid fun w' (h : Below W.heap.size W w') => pnumr_any (.slice (some ⟨g, off + 1, none⟩) 4 (c - 1)) (sub b 1 4) w' (bs_sub (BS.below h) (lo := 1) (n := 4) (by omega) (by omega)) (by rw [sub_len (by omega)]; omega)
  have D4 := Lib.hid fun w' (h : Below W.heap.size W w') => pnumr_any (.slice (some ⟨g, off + 5, none⟩) 8 (c - 5)) (sub b 5 8) w' (bs_sub (BS.below h) (lo := 5) (n := 8) (by omega) (by omega)) (by rw [sub_len (by omega)]; omega)
  have D5 := Lib.hid fun w' (h : Below w.heap.size w w') => pnumr_any (.slice (some ⟨g, off + 21, none⟩) 8 (c - 21)) (sub b 21 8) w' (bs_sub (hb.below h) (lo := 21) (n := 8) (by omega) (by omega)) (by rw [sub_len (by omega)]; omega)
  have D6 := Lib.hid fun w' (h : Below W.heap.size W w') => Bs.rng (BS.below h) (lo := 13) (n := 8) (by omega) (by omega)
  have D0 := Lib.hid fun w' (h : Below W.heap.size W w') => (show w'.cell? ⟨g, off, none⟩ = some (.int .u8 ((b.getD 0 0 : Nat) : Int)) from by
    obtain ⟨g', o', e1, hq⟩ := Bs.nth (BS.below h) rfl (k := 0) (by omega)
    injection e1 with e1
    injection e1 with e2 e3
    subst e2 e3
    exact hq)
  have K1 := (cut_h (some ⟨g, off, none⟩) 37 c 29 (by omega) hc)
  have k1 : ∀ w, (Instr.slice 27 (.slice (some ⟨g, off, none⟩) 37 c) none (some (.int .i64 29)) none).run Try.prog w = .ok (.slice (some ⟨g, off, none⟩) 29 c) w := K1.1
  have k1' : ∀ w, (Instr.sliceAt 27 (.slice (some ⟨g, off, none⟩) 37 c) none (some (.int .i64 29)) none).run Try.prog w = .ok (.slice (some ⟨g, off, none⟩) 29 c) w := K1.2
  have K2 := cut_l g off 37 c 29 (by omega) (by omega)
  have k2 : ∀ w, (Instr.slice 27 (.slice (some ⟨g, off, none⟩) 37 c) (some (.int .i64 29)) none none).run Try.prog w = .ok (.slice (some ⟨g, off + 29, none⟩) 8 (c - 29)) w := K2.1
  have k2' : ∀ w, (Instr.sliceAt 27 (.slice (some ⟨g, off, none⟩) 37 c) (some (.int .i64 29)) none none).run Try.prog w = .ok (.slice (some ⟨g, off + 29, none⟩) 8 (c - 29)) w := K2.2
  have M0 := cut_lh g off 37 c 1 5 (by omega) (by omega) (by omega)
  have m0 : ∀ w, (Instr.slice 27 (.slice (some ⟨g, off, none⟩) 37 c) (some (.int .i64 1)) (some (.int .i64 5)) none).run Try.prog w = .ok (.slice (some ⟨g, off + 1, none⟩) 4 (c - 1)) w := M0.1
  have m0' : ∀ w, (Instr.sliceAt 27 (.slice (some ⟨g, off, none⟩) 37 c) (some (.int .i64 1)) (some (.int .i64 5)) none).run Try.prog w = .ok (.slice (some ⟨g, off + 1, none⟩) 4 (c - 1)) w := M0.2
  clear M0
  have M1 := cut_lh g off 37 c 5 13 (by omega) (by omega) (by omega)
  have m1 : ∀ w, (Instr.slice 27 (.slice (some ⟨g, off, none⟩) 37 c) (some (.int .i64 5)) (some (.int .i64 13)) none).run Try.prog w = .ok (.slice (some ⟨g, off + 5, none⟩) 8 (c - 5)) w := M1.1
  have m1' : ∀ w, (Instr.sliceAt 27 (.slice (some ⟨g, off, none⟩) 37 c) (some (.int .i64 5)) (some (.int .i64 13)) none).run Try.prog w = .ok (.slice (some ⟨g, off + 5, none⟩) 8 (c - 5)) w := M1.2
  clear M1
  have M2 := cut_lh g off 37 c 13 21 (by omega) (by omega) (by omega)
  have m2 : ∀ w, (Instr.slice 27 (.slice (some ⟨g, off, none⟩) 37 c) (some (.int .i64 13)) (some (.int .i64 21)) none).run Try.prog w = .ok (.slice (some ⟨g, off + 13, none⟩) 8 (c - 13)) w := M2.1
  have m2' : ∀ w, (Instr.sliceAt 27 (.slice (some ⟨g, off, none⟩) 37 c) (some (.int .i64 13)) (some (.int .i64 21)) none).run Try.prog w = .ok (.slice (some ⟨g, off + 13, none⟩) 8 (c - 13)) w := M2.2
  clear M2
  have M3 := cut_lh g off 37 c 21 29 (by omega) (by omega) (by omega)
  have m3 : ∀ w, (Instr.slice 27 (.slice (some ⟨g, off, none⟩) 37 c) (some (.int .i64 21)) (some (.int .i64 29)) none).run Try.prog w = .ok (.slice (some ⟨g, off + 21, none⟩) 8 (c - 21)) w := M3.1
  have m3' : ∀ w, (Instr.sliceAt 27 (.slice (some ⟨g, off, none⟩) 37 c) (some (.int .i64 21)) (some (.int .i64 29)) none).run Try.prog w = .ok (.slice (some ⟨g, off + 21, none⟩) 8 (c - 21)) w := M3.2
  clear M3
  have AT : ∀ w, (Instr.arrayAt 24 (.slice (some ⟨g, off + 13, none⟩) 8 (c - 13))).run Try.prog w = .ok (.pointer (some ⟨g, off + 13, none⟩)) w := fun w => run_arrayAt _ _ _ 8 _ 8 (c - 13) Try.underlying24 (Nat.le_refl _)
  have k0 : b.getD 0 0 = Crc.num (sub b 0 1) := (num_one hb.lt (by omega)).symm
  have n4 := Crc.num_lt (sub_lt hb.lt 1 4)
  rw [sub_len (by omega)] at n4
  have dl : (sub b 13 8).length = 8 := sub_len (by omega)
  obtain ⟨x, hx⟩ : ∃ x, Crc.crc (b.take 29) = x := ⟨_, rfl⟩
  rw [← hs, hx] at D2
  rw [hx] at D1
  have x0 : b.getD 0 0 < 256 := hb.getD_lt 0
  rw [k0] at D0 x0
  have HR := Lib.hid (show ecs (rdE b) = .int .i64 ((Crc.num (sub b 0 1) : Nat) : Int) :: .int .i64 ((Crc.num (sub b 1 4) : Nat) : Int) :: .int .u64 ((Crc.num (sub b 5 8) : Nat) : Int) :: (sub b 13 8).map bv from rfl)
  have HT := Lib.hid (show rdT b = Crc.num (sub b 21 8) from rfl)
  obtain ⟨p0, hp0⟩ : ∃ x, Crc.num (sub b 0 1) = x := ⟨_, rfl⟩
  obtain ⟨p1, hp1⟩ : ∃ x, Crc.num (sub b 1 4) = x := ⟨_, rfl⟩
  obtain ⟨p2, hp2⟩ : ∃ x, Crc.num (sub b 5 8) = x := ⟨_, rfl⟩
  obtain ⟨p3, hp3⟩ : ∃ x, Crc.num (sub b 21 8) = x := ⟨_, rfl⟩
  obtain ⟨d0, d1, d2, d3, d4, d5, d6, d7, hd⟩ := nat8 dl
  rw [hp0] at D0 x0 HR
  rw [hp1] at D3 n4 HR
  rw [hp2] at D4 HR
  rw [hp3] at D5 HT
  rw [hd] at D6 HR
  obtain ⟨Z, hZ, hz⟩ := zero_cells
  have EZ := Lib.hid hZ
  have HZ := Lib.hid hz
  obtain ⟨Y, hY⟩ : ∃ Y : Array Value, #[.int .i64 (IntKind.i64.wrap (p0 : Int)), .int .i64 (IntKind.i64.wrap (p1 : Int)), .int .u64 (p2 : Int), bv d0, bv d1, bv d2, bv d3, bv d4, bv d5, bv d6, bv d7] = Y := ⟨_, rfl⟩
  have wp0 : IntKind.i64.wrap (p0 : Int) = (p0 : Int) := i64_small (Nat.lt_trans x0 (by decide))
  have wp1 : IntKind.i64.wrap (p1 : Int) = (p1 : Int) := i64_small n4
  have EY := Lib.hid hY
  have HY : Hid (Y = (ecs (rdE b)).toArray) := Lib.hid (by rw [HR.out, ← hY, wp0, wp1]; rfl)
  rw [hZ] at hW
  have VA := Lib.hid fun w => pvalid_any (rdE b) w FT.out
  unfold ev at VA
  rw [← HY.out] at VA
  have HB1 := Lib.hid hB0
  have HW1 := Lib.hid hW
  have RH := Lib.hid R
  have BL := Lib.hid BW
  clear wp0 wp1 hb h37 hs hB0 hW R BW BS K1 K2 hx hp0 hp1 hp2 hp3 hd hZ hz hY k0 dl HR x0 n4
  go_enter Try.func12, Try.ntmps12
  go_wp2_with (first | rw [EZ.out] | rw [HB1.out] | rw [HW1.out])
  have Q1 := Lib.hid fun m => Calls.quiet_of_same ((D1.out _ (below_drew15 W m)).mono fun _ _ h => ⟨h.1, h.2.symm⟩)
  have Q2 := Lib.hid fun m => Calls.quiet_of_same ((D2.out _ (below_drew15 W m)).mono fun _ _ h => ⟨h.1, h.2.symm⟩)
  clear D1 D2
  go_quiet (first | (go_at_call 18; exact Q1.out _) | (go_at_call 20; exact Q2.out _))
  have hI : ((x : Int) != (x : Int)) = false := by simp
  obtain ⟨W1, hW1⟩ : ∃ W1, W.drewN (nq + 1) = W1 := ⟨_, rfl⟩
  have BB := below_drew15 W (nq + 1)
  rw [hW1] at BB
  have y0 := D0.out _ BB
  have C3 := Lib.hid (D3.out _ BB)
  have C4 := Lib.hid (D4.out _ BB)
  have C6 := Lib.hid (D6.out _ BB)
  have R1 := Lib.hid (RH.out.below BB)
  have HW2 := Lib.hid hW1
  have BB1 := Lib.hid BB
  clear BB hW1
  go_wp2_with fail
  refine wp_region_still_tail 16 (by kernel_rfl) (by kernel_rfl) ?_
  simp only [List.take_succ_cons, List.take_zero, List.drop_succ_cons, List.drop_zero]
  change wpStill _ _ (W.drewN (nq + 1)) _ _ _
  rw [HW2.out]
  iterate 6 still_step
  still_call (C3.out.mono fun _ _ h => ⟨h.1, h.2.symm⟩)
  iterate 3 still_step
  still_call (C4.out.mono fun _ _ h => ⟨h.1, h.2.symm⟩)
  iterate 3 still_step
  refine still_load (by rfl) _ _ rfl g (off + 13) rfl [bv d0, bv d1, bv d2, bv d3, bv d4, bv d5, bv d6, bv d7] _ C6.out Try.underlying24 rfl (by kernel_rfl) ?_
  still_step
  refine wpStill_nil ?_
  change wpList _ _ _ _ _ (W.drewN (nq + 1))
  rw [HW2.out, EY.out]
  have TH1 := Lib.hid (show W1.there B0 0 Y.size by rw [HY.out, List.size_toArray, ecs_len FT.out]; exact R1.out.there ez_fit)
  have SY : Hid ((Try.prog.info? 26).map (·.size) = some Y.size) := Lib.hid (by rw [HY.out, List.size_toArray, ecs_len FT.out]; kernel_rfl)
  have OY : Hid (Y.all (·.oneCell') = true) := Lib.hid (by rw [HY.out]; exact all_oneCell_toArray (ecs_one _))
  obtain ⟨W2, hW2⟩ : ∃ W2, W1.setCells B0 0 Y.toList = W2 := ⟨_, rfl⟩
  have R2 : Hid (Eb W2 B0 (rdE b)) := Lib.hid (by rw [← hW2, HY.out]; exact R1.out.put ez_fit FT.out)
  have BL2 : Hid (Below w.heap.size w W2) := Lib.hid (by rw [← hW2]; exact below_setCells15 (BL.out.trans (BB1.out.mono BL.out.size)) _ _ _ (by rw [HB1.out]; exact Nat.le_refl _))
  have BS2 := Lib.hid hW2
  have RY : Hid (W2.rangeAt B0 0 Y.toList) := Lib.hid (by rw [HY.out]; exact R2.out.rng)
  have SY2 : Hid ((Try.prog.info? 26).map (·.size) = some Y.toList.length) := SY
  clear hW2
  go_wp2_with (first | (refine wpList_store_mid rfl _ _ _ rfl B0 0 Y rfl rfl TH1.out SY.out OY.out ?_; rw [BS2.out]) | (refine wpList_load_mid rfl _ _ rfl B0 0 rfl Y.toList _ RY.out Try.underlying26 rfl SY2.out ?_))
  refine (VA.out _).mono ?_
  rintro r w3 ⟨rfl, hb3⟩
  have BL3 : Hid (Below w.heap.size w w3) := Lib.hid (BL2.out.trans (hb3.mono BL2.out.size))
  have R3 := Lib.hid (R2.out.below hb3)
  clear hb3
  have FY := Lib.hid fun w' (h : Eb w' B0 (rdE b)) => (show (w'.setCells B0 0 Y.toList).heap[B0]? = some (.cells Y 26 (0, 0)) from by rw [HY.out]; exact h.put FT.out FT.out)
  have EVY : Hid (ev (rdE b) = .agg Y) := Lib.hid (by rw [HY.out]; rfl)
  by_cases ho : ok (rdE b)
  · rw [show decide (ok (rdE b)) = true from decide_eq_true ho]
    have E0 : Hid (decE b = 0) := Lib.hid (by rw [HE.out, if_pos ho])
    clear ho HE EZ HZ D0 D3 D4 D6 C3 C4 C6 TH1 RY VA
    go_wp2_with fail
    have B3 := below_drew15 w3 1
    have R4 := Lib.hid (R3.out.below B3)
    have BL4 : Hid (Below w.heap.size w (w3.drewN 1)) := Lib.hid (BL3.out.trans (B3.mono BL3.out.size))
    have C5 := Lib.hid (D5.out (w3.drewN 1) BL4.out)
    have RY4 : Hid ((w3.drewN 1).rangeAt B0 0 Y.toList) := Lib.hid (by rw [HY.out]; exact R4.out.rng)
    have TH4 := Lib.hid (show (w3.drewN 1).there B0 0 Y.size by rw [HY.out, List.size_toArray, ecs_len FT.out]; exact R4.out.there FT.out)
    have FIN := Lib.hid (FY.out _ R4.out)
    have BF := Lib.hid (below_setCells15 BL4.out Y.toList B0 0 (by rw [HB1.out]; exact Nat.le_refl _))
    clear B3
    refine wp_region_still_tail 4 (by kernel_rfl) (by kernel_rfl) ?_
    simp only [List.take_succ_cons, List.take_zero, List.drop_succ_cons, List.drop_zero]
    change wpStill _ _ (w3.drewN 1) _ _ _
    refine still_load (by rfl) _ _ rfl B0 0 rfl Y.toList _ RY4.out Try.underlying26 rfl SY2.out ?_
    iterate 2 still_step
    still_call (C5.out.mono fun _ _ h => ⟨h.1, h.2.symm⟩)
    refine wpStill_nil ?_
    change wpList _ _ _ _ _ (w3.drewN 1)
    go_wp2_with (first | (refine wpList_store_mid rfl _ _ _ rfl B0 0 Y rfl rfl TH4.out SY.out OY.out ?_))
    refine bodyPost_ret (results_cell3 (g := B0) (t := 26) (fr := (0, 0)) rfl _ _ _ _ rfl FIN.out Try.underlying26 rfl SY.out) rfl ?_
    refine dec_ok E0.out ⟨?_, BF.out⟩
    rw [EVY.out, HT.out]; rfl
  · rw [show decide (ok (rdE b)) = false from decide_eq_false ho]
    have E0 : Hid (decE b = 5) := Lib.hid (by rw [HE.out, if_neg ho])
    clear ho HE D0 D3 D4 D6 C3 C4 C6 TH1 RY VA D5
    have TH4 := Lib.hid (show w3.there B0 0 Z.size by rw [HZ.out.size]; exact R3.out.there FT.out)
    have FIN := Lib.hid (R3.out.zero FT.out HZ.out)
    have BF := Lib.hid (below_setCells15 BL3.out Z.toList B0 0 (by rw [HB1.out]; exact Nat.le_refl _))
    go_wp2_with (first | rw [EZ.out] | (refine wpList_store_mid rfl _ _ _ rfl B0 0 Z rfl rfl TH4.out HZ.out.info HZ.out.one ?_))
    refine bodyPost_ret (results_cell3 (g := B0) (t := 26) (fr := (0, 0)) rfl _ _ _ _ rfl FIN.out Try.underlying26 rfl HZ.out.info) rfl ?_
    refine dec_fin (x := 5) (by decide) E0.out ⟨?_, BF.out⟩
    rw [HZ.out.ez]; rfl
theorem pdec_any (v : Value) (b : List Nat) (w : World) (hb : Bs w v b) : Calls Try.prog 12 #[v] w (decPost b w) := by
  by_cases h37 : b.length = 37
  · by_cases hs : Crc.crc (b.take 29) = Crc.num (sub b 29 8)
    · exact pdec_val v b w hb h37 hs
    · exact pdec_sum v b w hb h37 hs
  · exact pdec_len v b w hb h37
end Go.Proofs.Ytfihiihakgcikaa
