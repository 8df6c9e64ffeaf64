/- The reference's Block. WRITTEN BY gen_Ik.py. -/
import Derived.Test.YtajeboigkpelgaaIj
import Derived.Deep.MidRow
namespace Go.Proofs.Ytajeboigkpelgaa
open Go Go.RowKit
set_option linter.unusedVariables false
set_option linter.unusedSimpArgs false
theorem rw_new (w : World) (cs : Array Value) (t : TypeId) {g : Nat} (h : w.heap.size = g) : Row (w.alloc (.cells cs t)) g t cs := h ▸ heap_alloc_new w _
theorem rw_other {w : World} {g : Nat} {t : TypeId} {cs : Array Value} (h : Row w g t cs) {k : Nat} (hk : g ≠ k) (i : Nat) (u : Value) : Row (w.setCell ⟨k, i, none⟩ u) g t cs := (Below.heap_setCell w ⟨k, i, none⟩ u g hk).trans h
theorem rw_others {g : Nat} {t : TypeId} {cs : Array Value} {k : Nat} (hk : g ≠ k) : ∀ (vs : List Value) (o : Nat) {w : World}, Row w g t cs → Row (w.setCells k o vs) g t cs
  | [], _, _, h => h
  | v :: r, o, _, h => rw_others hk r (o + 1) (rw_other h hk o v)
theorem rw_fw {w w' : World} {g : Nat} {t : TypeId} {cs : Array Value} (h : Row w g t cs) (hb : Below w.heap.size w w') : Row w' g t cs := h.below hb h.lt
theorem rw_ch {o : Nat → Prop} {w w' : World} {g : Nat} {t : TypeId} {cs : Array Value} (h : Row w g t cs) (hc : Chg o w w') (hn : ¬ o g) : Row w' g t cs := (hc.block g h.lt hn).trans h
theorem rw_there {w : World} {g : Nat} {t : TypeId} {cs : Array Value} (h : Row w g t cs) {n : Nat} (hs : n ≤ cs.size) : w.there g 0 n := fun j hj =>
  ⟨by rw [Nat.zero_add, h.cell, Array.getElem?_eq_getElem (by omega)]; rfl, h.frozen _⟩
theorem rw_range {w : World} {g : Nat} {t : TypeId} {l : List Value} (h : Row w g t l.toArray) : w.rangeAt g 0 l := fun j v hv => by
  rw [Nat.zero_add, h.cell, List.getElem?_toArray]; exact hv
theorem rw_puts {w : World} {g : Nat} {t : TypeId} : ∀ {vs : List Value} {cs : Array Value} {o : Nat}, Row w g t cs → ∃ cs', Row (w.setCells g o vs) g t cs' ∧ cs'.size = cs.size ∧ ∀ i, i < cs.size → cs'[i]? = if o ≤ i ∧ i < o + vs.length then vs[i - o]? else cs[i]? := by
  intro vs
  induction vs generalizing w with
  | nil => exact fun {cs o} h => ⟨cs, h, rfl, fun i _ => by rw [if_neg (by simp only [List.length_nil]; omega)]⟩
  | cons v r ih =>
    intro cs o h
    obtain ⟨cs', h1, h2, h3⟩ := ih (o := o + 1) (h.store o v)
    refine ⟨cs', h1, by rw [h2]; simp, fun i hi => ?_⟩
    rw [h3 i (by simpa using hi)]
    by_cases e : i = o
    · subst e
      rw [if_neg (by omega), if_pos (by simp)]
      simp [Array.getElem?_setIfInBounds_self_of_lt hi]
    · by_cases e2 : o + 1 ≤ i ∧ i < o + 1 + r.length
      · rw [if_pos e2, if_pos (by simp; omega)]
        obtain ⟨d, hd⟩ : ∃ d, i - o = d + 1 := ⟨i - o - 1, by omega⟩
        rw [hd, List.getElem?_cons_succ]; congr 1; omega
      · rw [if_neg e2, if_neg (by simp; omega), Array.getElem?_setIfInBounds_ne (by omega)]
theorem rw_put {w : World} {g : Nat} {t : TypeId} {cs ds : Array Value} (h : Row w g t cs) (hs : cs.size = ds.size) : Row (w.setCells g 0 ds.toList) g t ds := by
  obtain ⟨cs', h1, h2, h3⟩ := rw_puts (vs := ds.toList) (o := 0) h
  have : cs' = ds := by
    refine Array.ext_getElem? fun i => ?_
    rcases Nat.lt_or_ge i ds.size with hi | hi
    · rw [h3 i (by omega), if_pos (by simp; omega), Nat.sub_zero, Array.getElem?_toList]
    · rw [Array.getElem?_eq_none (by omega), Array.getElem?_eq_none (by omega)]
  subst this; exact h1
theorem rw_chg {o : Nat → Prop} {a b : World} (h : Chg o a b) {g : Nat} (hg : o g) : ∀ (vs : List Value) (i : Nat), Chg o a (b.setCells g i vs) := by
  intro vs
  induction vs generalizing b with
  | nil => exact fun i => h
  | cons v r ih => exact fun i => ih (h.setCell (p := ⟨g, i, none⟩) hg v) (i + 1)
theorem rw_below {B : Nat} {w w' : World} (h : Below B w w') : ∀ (vs : List Value) (g o : Nat), B ≤ g → Below B w (w'.setCells g o vs) := by
  intro vs
  induction vs generalizing w' with
  | nil => exact fun g o _ => h
  | cons v r ih => exact fun g o hg => ih (h.setCell (p := ⟨g, o, none⟩) hg v) g (o + 1) hg
theorem res_row_tmp {P : Program} {fn : Func} {p q : Tmp} {ty : TypeId} (h : fn.results = #[.cell p ty, .tmp q]) (tmps : Array Value) (w : World) (g : Nat) (t : TypeId) (cs : Array Value) (fr : Nat × Nat) (d : TypeDesc)
    (hp : tmps.getD p undef = .pointer (some ⟨g, 0, none⟩)) (hg : w.heap[g]? = some (.cells cs t fr))
    (hu : P.underlying ty = some d) (hd : (match d with | .struct _ | .array _ _ => true | _ => false) = true) (hi : (P.info? ty).map (·.size) = some cs.size) :
    (results fn tmps).run P w = .ok (.tuple #[.agg cs, tmps.getD q undef]) w := by
  have hp' : tmps[p]?.getD undef = .pointer (some ⟨g, 0, none⟩) := by simpa using hp
  simp [results, h, hp', asAddr, run_loadVar_row w g t ty cs fr d hg hu hd hi]
/-- The cells of a block. -/
def bkc (l : List Nat) : Array Value := (l.map bv).toArray
theorem bkc_size (l : List Nat) : (bkc l).size = l.length := by simp [bkc]
theorem bkc_one (l : List Nat) : (bkc l).all (·.oneCell') = true := by simp [bkc, bv, Value.oneCell']
theorem bkc_info {l : List Nat} (h : l.length = 8) : (Try.prog.info? 25).map (·.size) = some (bkc l).size := by rw [bkc_size, h]; kernel_rfl
theorem bkc_at {l : List Nat} {k : Nat} (h : k < l.length) : (bkc l)[k]? = some (.int .u8 ((l.getD k 0 : Nat) : Int)) := by
  simp only [bkc, List.getElem?_toArray]; exact getD_bv h
theorem bkc_nil : (#[.int .u8 0, .int .u8 0, .int .u8 0, .int .u8 0, .int .u8 0, .int .u8 0, .int .u8 0, .int .u8 0] : Array Value) = bkc [0, 0, 0, 0, 0, 0, 0, 0] := rfl
def kPost (l : List Nat) (bad : Bool) (R : World → List Nat → Bool → Prop) (o : Nat → Prop) (w : World) (e : Ending) (w' : World) : Prop :=
  e = .returned (.tuple #[.agg (bkc (Cod.rK l bad).1), .int .i64 ((Cod.rK l bad).2.1 : Int)]) ∧ R w' (Cod.rK l bad).2.2.1 (Cod.rK l bad).2.2.2 ∧ Chg o w w'
namespace Cod
theorem rK_out {l : List Nat} {bad : Bool} (h : l.length < 8) : rK l bad = ([0, 0, 0, 0, 0, 0, 0, 0], 5, [], true) := if_pos h
theorem rK_in {l : List Nat} {bad : Bool} (h : ¬ l.length < 8) : rK l bad = (l.take 8, 0, l.drop 8, bad) := if_neg h
end Cod
/-- Changes of a world with more blocks, of which some are new. -/
theorem chg_down {o p : Nat → Prop} {w W v : World} (h : Below w.heap.size w W) (hc : Chg p W v) (hp : ∀ k, k < w.heap.size → p k → o k) : Chg o w v :=
  ⟨hc.os.trans h.os, hc.tape.trans h.tape, hc.output.trans h.output, Nat.le_trans h.size hc.size, fun k hk hn => (hc.block k (Nat.lt_of_lt_of_le hk h.size) fun h2 => hn (hp k hk h2)).trans (h.block k hk)⟩

set_option maxHeartbeats 4000000 in
set_option maxRecDepth 100000 in
theorem rblock_out (S : Nat) (l : List Nat) (bad : Bool) (o : Nat → Prop) (w : World) (h : RdR w S l bad o) (hl : l.length < 8) : Calls Try.prog 38 #[.pointer (some ⟨S, 0, none⟩)] w (kPost l bad (fun w' r b => RdR w' S r b o) o w) := by
  have FL0 := Lib.hid fun w' (h : RdR w' S l bad o) => rfail_any S l bad o w' h
  obtain ⟨A, c, hc, -, -⟩ := h.c0
  obtain ⟨B, hB⟩ : ∃ B, w.heap.size = B := ⟨_, rfl⟩
  obtain ⟨z, hz⟩ : ∃ z, ([0, 0, 0, 0, 0, 0, 0, 0] : List Nat) = z := ⟨_, rfl⟩
  have Z8 := Lib.hid (show z.length = 8 by rw [← hz]; rfl)
  have EZ : Hid ((#[.int .u8 0, .int .u8 0, .int .u8 0, .int .u8 0, .int .u8 0, .int .u8 0, .int .u8 0, .int .u8 0] : Array Value) = bkc z) := Lib.hid (by rw [← hz]; rfl)
  obtain ⟨W, hW⟩ : ∃ W, (w.alloc (.cells (bkc z) 25)).alloc (.cells (bkc z) 25) = W := ⟨_, rfl⟩
  have BW : Hid (Below w.heap.size w W) := Lib.hid (by subst hW; exact ((Below.refl w.heap.size w).alloc (Nat.le_refl _) _).alloc (by simp) _)
  have R0 : Row W B 25 (bkc z) := by
    subst hW hB; exact (rw_new w _ _ rfl).below ((Below.refl _ _).alloc (Nat.le_refl _) _) (by simp)
  have R1 : Row W (B + 1) 25 (bkc z) := by
    have := rw_new (w.alloc (.cells (bkc z) 25)) (bkc z) 25 rfl
    rw [World.size_alloc, hB] at this
    subst hW; exact this
  have oB : ∀ k, o k → k < B := fun k hk => by rw [← hB]; exact h.2.1 k hk
  obtain ⟨oo, hoo⟩ : ∃ oo : Nat → Prop, ∀ k, oo k ↔ (o k ∨ k = B) := ⟨fun k => o k ∨ k = B, fun k => Iff.rfl⟩
  have n1 : ¬ oo (B + 1) := fun h => by
    rcases (hoo _).1 h with h | h
    · have := oB _ h; omega
    · omega
  have FX := Lib.hid fun w' (h : Chg oo W w') => (show Row w' (B + 1) 25 (bkc z) from (h.block _ R1.lt n1).trans R1)
  have FR := Lib.hid (h.below BW.out)
  have R0H := Lib.hid R0
  have hc2 := (BW.out.cell (p := ⟨S, 0, none⟩) (World.block_lt_of_cell? w _ hc)).trans hc
  have EI := Lib.hid (Cod.rK_out (bad := bad) hl)
  rw [hz] at EI
  have HO := Lib.hid oB
  have HOO := Lib.hid hoo
  have HB0 := Lib.hid hB
  have HW1 := Lib.hid hW
  have hI : (l.length : Int) < 8 := by omega
  clear hl R0 R1 h oB hoo n1 hB hW hc hz
  generalize l.length = n at *
  go_enter Try.func38, Try.ntmps38
  go_wp2_with (first | rw [EZ.out] | rw [HB0.out] | rw [HW1.out])
  refine wp_region_held (P := Try.prog) (S := (fun w' : World => Chg oo W w')) rfl ?_
  change wpAnyH _ _ _ _ _ _ _ _ W.drew
  have hz2 : Below W.heap.size W W.drew := (Below.refl W.heap.size W).drew
  generalize W.drew = wz1 at hz2 ⊢
  have FR_3 := Lib.hid (RdR.below FR.out (hz2))
  have RB_4 := Lib.hid (rw_fw R0H.out (hz2))
  have HB_5 : Hid (Chg oo W wz1) := Lib.hid (below_chg (hz2) oo)
  clear hz2
  have hS6 : (fun w' : World => Chg oo W w') wz1 := HB_5.out
  refine takeD (i := 0) (v := .agg (bkc z)) (some 12) rfl rfl (by kernel_rfl) (by kernel_rfl) (by kernel_rfl) (fun _ _ _ h => h) (yieldsIf_load_mid (by rfl) _ _ rfl (B + 1) 0 rfl (z.map bv) _ (fun w' h => rw_range (FX.out w' h)) Try.underlying25 rfl (by rw [List.length_map, Z8.out]; kernel_rfl)) hS6 ?_
  simp only [Act.put, List.setIfInBounds_toArray, List.set_cons_zero, List.set_cons_succ]
  refine takeD (i := 1) (v := .pointer (some ⟨S, 0, none⟩)) (some 13) rfl rfl (by kernel_rfl) (by kernel_rfl) (by kernel_rfl) (fun _ _ _ h => h) (Or.inl ⟨by rfl, by rintro w' -; go_simp⟩) hS6 ?_
  simp only [Act.put, List.setIfInBounds_toArray, List.set_cons_zero, List.set_cons_succ]
  refine wpAnyH_ready (rs := [2]) (by kernel_rfl) (by simp) ?_
  refine AllReadyH.cons rfl (fun K7 hK7 => ?_) AllReadyH.nil
  have HK7 := Lib.hid hK7
  clear hK7
  rw [if_pos (by rfl)]
  go_simp
  refine (FL0.out _ FR_3.out).mono ?_
  rintro e x8 ⟨rfl, hr, hch⟩
  have FR_9 := Lib.hid ((fun _ => hr) FR_3)
  have RB_10 := Lib.hid (rw_ch RB_4.out hch (fun h => by have := HO.out _ h; omega))
  have HB_11 : Hid (Chg oo W x8) := Lib.hid (HB_5.out.trans (hch.mono fun k hk => (HOO.out k).2 (Or.inl hk)))
  clear hr hch
  have hS12 : (fun w' : World => Chg oo W w') x8 := HB_11.out
  refine HK7.out _ _ hS12 fun _ => ?_
  try simp only [Act.put, List.setIfInBounds_toArray, List.set_cons_zero, List.set_cons_succ]
  refine wpAnyH_ready (rs := [3]) (by kernel_rfl) (by simp) ?_
  refine AllReadyH.cons rfl (fun K13 hK13 => ?_) AllReadyH.nil
  have HK13 := Lib.hid hK13
  clear hK13
  rw [if_pos (by rfl)]
  refine wp_store_mid _ _ _ rfl B 0 (bkc z) rfl rfl (rw_there RB_10.out (n := (bkc z).size) (Nat.le_refl _)) (bkc_info Z8.out) (bkc_one _) ?_
  have PB := Lib.hid (rw_put RB_10.out (ds := bkc z) rfl)
  have RR2 := Lib.hid (RdR.chg FR_9.out (p := fun k => k = B) (rw_chg (Chg.refl (fun k => k = B) x8) (g := B) rfl (bkc z).toList 0) fun k hk e => by have := HO.out k hk; omega)
  have hst := rw_chg (Chg.refl oo x8) (g := B) ((HOO.out B).2 (Or.inr rfl)) (bkc z).toList 0
  generalize hww : x8.setCells B 0 (bkc z).toList = x14 at PB RR2 hst ⊢
  clear hww
  have HB_15 : Hid (Chg oo W x14) := Lib.hid (HB_11.out.trans (hst))
  clear hst
  have hS16 : (fun w' : World => Chg oo W w') x14 := HB_15.out
  refine HK13.out _ _ hS16 fun _ => ?_
  refine takeD (i := 4) (v := .int .i64 5) (some 3) rfl rfl (by kernel_rfl) (by kernel_rfl) (by kernel_rfl) (fun _ _ _ h => h) (Or.inl ⟨by rfl, by rintro w' -; go_simp⟩) hS16 ?_
  simp only [Act.put, List.setIfInBounds_toArray, List.set_cons_zero, List.set_cons_succ]
  refine wpAnyH_done (by kernel_rfl) ?_ _
  go_wp2_with fail
  refine bodyPost_ret (res_row_tmp (g := B) (t := 25) (fr := (0, 0)) rfl _ _ _ _ rfl PB.out Try.underlying25 rfl (bkc_info Z8.out)) rfl ?_
  exact ⟨by rw [EI.out]; rfl, by rw [EI.out]; exact RR2.out, chg_down BW.out HB_15.out fun k hk h => by
    rcases (HOO.out k).1 h with h | h
    · exact h
    · rw [HB0.out] at hk; omega⟩
/-- The state of the copying loop. -/
def CpSt (w wr : World) (B k : Nat) (z l : List Nat) : Prop := Below B w wr ∧ Row wr B 25 (bkc z) ∧ ∃ cs, Row wr (B + 1) 25 cs ∧ cs.size = 8 ∧ ∀ j, j < k → cs[j]? = some (.int .u8 ((l.getD j 0 : Nat) : Int))
theorem CpSt.next {w wr : World} {B k : Nat} {z l : List Nat} (h : CpSt w wr B k z l) (hk : k < 8) {x : Nat} (hx : l.getD k 0 = x) : CpSt w (wr.setCell ⟨B + 1, k, none⟩ (.int .u8 (x : Int))) B (k + 1) z l := by
  obtain ⟨h1, h2, cs, h3, h4, h5⟩ := h
  refine ⟨h1.setCell (p := ⟨B + 1, k, none⟩) (Nat.le_succ B) _, rw_other h2 (by omega) _ _, cs.setIfInBounds k (.int .u8 (x : Int)), h3.store k _, by rw [Array.size_setIfInBounds]; exact h4, fun j hj => ?_⟩
  by_cases e : j = k
  · subst e; rw [Array.getElem?_setIfInBounds_self_of_lt (by omega), hx]
  · rw [Array.getElem?_setIfInBounds_ne (fun h => e h.symm)]; exact h5 j (by omega)
theorem bkc_of {cs : Array Value} {l : List Nat} (h8 : cs.size = 8) (hl : ¬ l.length < 8) (h : ∀ j, j < 8 → cs[j]? = some (.int .u8 ((l.getD j 0 : Nat) : Int))) : cs = bkc (l.take 8) := by
  refine Array.ext_getElem? fun i => ?_
  rcases Nat.lt_or_ge i 8 with hi | hi
  · rw [h i hi, bkc_at (by rw [List.length_take]; omega), getD_in (by omega), getD_in (by rw [List.length_take]; omega), List.getElem_take]
  · rw [Array.getElem?_eq_none (by omega), Array.getElem?_eq_none (by rw [bkc_size, List.length_take]; omega)]
set_option maxHeartbeats 4000000 in
set_option maxRecDepth 100000 in
theorem rblock_in (S : Nat) (l : List Nat) (bad : Bool) (o : Nat → Prop) (w : World) (h : RdR w S l bad o) (hl : ¬ l.length < 8) : Calls Try.prog 38 #[.pointer (some ⟨S, 0, none⟩)] w (kPost l bad (fun w' r b => RdR w' S r b o) o w) := by
  obtain ⟨A, c, hc, hbs, hown⟩ := h.c0
  have ltS := World.block_lt_of_cell? w _ hc
  have hcap := hbs.cap.2
  obtain ⟨B, hB⟩ : ∃ B, w.heap.size = B := ⟨_, rfl⟩
  obtain ⟨z, hz⟩ : ∃ z, ([0, 0, 0, 0, 0, 0, 0, 0] : List Nat) = z := ⟨_, rfl⟩
  have Z8 := Lib.hid (show z.length = 8 by rw [← hz]; rfl)
  have EZ : Hid ((#[.int .u8 0, .int .u8 0, .int .u8 0, .int .u8 0, .int .u8 0, .int .u8 0, .int .u8 0, .int .u8 0] : Array Value) = bkc z) := Lib.hid (by rw [← hz]; rfl)
  obtain ⟨W, hW⟩ : ∃ W, (w.alloc (.cells (bkc z) 25)).alloc (.cells (bkc z) 25) = W := ⟨_, rfl⟩
  have BW : Below w.heap.size w W := by subst hW; exact ((Below.refl w.heap.size w).alloc (Nat.le_refl _) _).alloc (by simp) _
  have R0 : Row W B 25 (bkc z) := by
    subst hW hB; exact (rw_new w _ _ rfl).below ((Below.refl _ _).alloc (Nat.le_refl _) _) (by simp)
  have R1 : Row W (B + 1) 25 (bkc z) := by
    have := rw_new (w.alloc (.cells (bkc z) 25)) (bkc z) 25 rfl
    rw [World.size_alloc, hB] at this
    subst hW; exact this
  have ST := Lib.hid (show CpSt w W B 0 z l from ⟨hB ▸ BW, R0, _, R1, by rw [bkc_size, Z8.out], fun j hj => absurd hj (Nat.not_lt_zero j)⟩)
  have hc2 := (BW.cell (p := ⟨S, 0, none⟩) ltS).trans hc
  have H := Lib.hid h
  have HBS := Lib.hid hbs
  have HOW := Lib.hid hown
  have EI := Lib.hid (Cod.rK_in (bad := bad) hl)
  have HL := Lib.hid hl
  have FZ := Lib.hid (h.frz 0)
  have LS := Lib.hid ltS
  have HC := Lib.hid hc
  have HB0 := Lib.hid hB
  have HW1 := Lib.hid hW
  obtain ⟨n, hn⟩ : ∃ n, l.length = n := ⟨_, rfl⟩
  have HN := Lib.hid hn
  rw [hn] at hc2 hcap hl
  have hI : decide ((n : Int) < 8) = false := decide_eq_false (by omega)
  have nle : n ≤ 9223372036854775807 := by have := hcap.2; unfold maxLen at this; omega
  have cle : n ≤ c := hcap.1
  clear h hbs hown hc ltS R0 R1 BW hB hW hz hn hcap
  go_enter Try.func38, Try.ntmps38
  go_wp2_with (first | rw [EZ.out] | rw [HB0.out] | rw [HW1.out])
  clear hc2
  go_loopw [5] (fun i wr => ∃ k : Nat, k ≤ 8 ∧ i = .int .i64 (k : Int) ∧ Hid (CpSt w wr B k z l)) (fun i _ => 8 - (intOf i).toNat)
  case atStart => exact ⟨0, by omega, rfl, ST⟩
  case round =>
    obtain ⟨k, hk, rfl, V⟩ := hrel
    by_cases hlt : k < 8
    · have kI : (k : Int) < 8 := by omega
      have kN : (k : Int) < (n : Int) := by omega
      have hB2 := HB0.out
      have bel : Below w.heap.size w wr := hB2 ▸ V.out.1
      obtain ⟨b1, o1, rfl, q⟩ := Bs.nth (HBS.out.below bel) rfl (k := k) (by rw [HN.out]; omega)
      have hcS := (bel.cell (p := ⟨S, 0, none⟩) LS.out).trans HC.out
      rw [HN.out] at hcS
      obtain ⟨x, hx⟩ : ∃ x, l.getD k 0 = x := ⟨_, rfl⟩
      rw [hx] at q
      have x256 : x < 256 := by rw [← hx]; exact HBS.out.getD_lt k
      obtain ⟨old, hold⟩ : ∃ old, wr.cell? ⟨B + 1, k, none⟩ = some old := by obtain ⟨-, -, cs, h3, h4, -⟩ := V.out; exact ⟨_, by rw [h3.cell, Array.getElem?_eq_getElem (by omega)]⟩
      have fz : wr.frozen? ⟨B + 1, k, none⟩ = false := by obtain ⟨-, -, cs, h3, h4, -⟩ := V.out; exact h3.frozen k
      have NX := Lib.hid (V.out.next hlt hx)
      clear hx V bel hB2
      go_wp2_with fail
      go_roundw
      case rel => exact ⟨k + 1, by omega, by go_num, NX⟩
      case measure => simp [intOf]; omega
    · obtain rfl : k = 8 := by omega
      obtain ⟨bel0, r0, cs, r1, h8, hcs⟩ := V.out
      obtain rfl := bkc_of h8 HL.out hcs
      have bel : Below w.heap.size w wr := HB0.out ▸ bel0
      have L8 := Lib.hid (show (l.take 8).length = 8 by rw [List.length_take]; have := HL.out; omega)
      have hSB : S < B := by rw [← HB0.out]; exact LS.out
      have RX := Lib.hid fun u => rw_other (k := S) r1 (by omega) 0 u
      have RB := Lib.hid fun u => rw_other (k := S) r0 (by omega) 0 u
      have hcS := (bel.cell (p := ⟨S, 0, none⟩) LS.out).trans HC.out
      rw [HN.out] at hcS
      have fzS := (bel.frozen (p := ⟨S, 0, none⟩) LS.out).trans FZ.out
      have BF := Lib.hid (bs_from (k := 8) (HBS.out.below bel) (by have := HL.out; omega))
      rw [HN.out] at BF
      have HR := Lib.hid (H.out.below bel)
      have FIN := Lib.hid fun (A' : Option Addr) (c' : Nat) (he : A' = A ∨ A' = A.map (fun a => a.add 8)) (hu : Bs wr (.slice A' (n - 8) c') (l.drop 8)) =>
        (show kPost l bad (fun w' r b => RdR w' S r b o) o w (.returned (.tuple #[.agg (bkc (l.take 8)), .int .i64 0])) ((wr.setCell ⟨S, 0, none⟩ (.slice A' (n - 8) c')).setCells B 0 (bkc (l.take 8)).toList) from by
          have hS : o S := H.out.1
          have ob : ∀ k, o k → k < B := fun k hk => by rw [← HB0.out]; exact H.out.2.1 k hk
          have h1 := HR.out.set hu (fun g hg => HOW.out g (own_same he hg))
          have h2 := RdR.chg h1 (p := fun k => k = B) (rw_chg (Chg.refl (fun k => k = B) (wr.setCell ⟨S, 0, none⟩ (.slice A' (n - 8) c'))) (g := B) rfl (bkc (l.take 8)).toList 0) fun k hk e => by have := ob k hk; omega
          have c1 : Chg o w (wr.setCell ⟨S, 0, none⟩ (.slice A' (n - 8) c')) := (below_chg bel o).setCell (p := ⟨S, 0, none⟩) hS _
          have c2 := c1.mono (p := fun k => o k ∨ k = B) fun k hk => Or.inl hk
          have c3 := rw_chg c2 (g := B) (Or.inr rfl) (bkc (l.take 8)).toList 0
          refine ⟨by rw [EI.out]; rfl, by rw [EI.out]; exact h2, ⟨c3.os, c3.tape, c3.output, c3.size, fun k hk hn => c3.block k hk fun h => ?_⟩⟩
          rcases h with h | h
          · exact hn h
          · have := HB0.out; omega)
      clear V bel0 r0 r1 h8 hcs bel EI HR HOW H
      have TH := Lib.hid fun u => rw_there (RB.out u) (n := (bkc (l.take 8)).size) (by rw [bkc_size, bkc_size, L8.out, Z8.out]; exact Nat.le_refl _)
      have PB := Lib.hid fun u => rw_put (RB.out u) (ds := bkc (l.take 8)) (by rw [bkc_size, bkc_size, L8.out, Z8.out])
      have NI := Lib.hid (bkc_info L8.out)
      have ON := Lib.hid (bkc_one (l.take 8))
      obtain ⟨C, hC⟩ : ∃ C, bkc (l.take 8) = C := ⟨_, rfl⟩
      rw [hC] at RX FIN TH PB NI ON
      clear hC
      have e8 : (8 : Int) ≤ (n : Int) := by omega
      go_wp2_with (first | (refine wpList_load_row rfl _ _ rfl _ rfl _ _ (0, 0) _ (RX.out _) Try.underlying25 rfl NI.out ?_) | (refine wpList_store_mid rfl _ _ _ rfl _ 0 _ rfl rfl (TH.out _) NI.out ON.out ?_))
      · rw [if_pos (by assumption), show c - 8 = 0 by omega] at BF
        refine bodyPost_ret (res_row_tmp (g := B) (t := 25) (fr := (0, 0)) rfl _ _ _ _ rfl (PB.out _) Try.underlying25 rfl NI.out) rfl ?_
        exact FIN.out A 0 (Or.inl rfl) BF.out
      · rw [if_neg (by assumption)] at BF
        refine bodyPost_ret (res_row_tmp (g := B) (t := 25) (fr := (0, 0)) rfl _ _ _ _ rfl (PB.out _) Try.underlying25 rfl NI.out) rfl ?_
        have ea : A.map (fun a => a.add 8) = A.map (fun x => { block := x.block, off := x.off + 8, spot := none }) := by cases A <;> rfl
        rw [ea] at BF
        exact FIN.out _ _ (Or.inr ea.symm) BF.out
theorem rblock_any (S : Nat) (l : List Nat) (bad : Bool) (o : Nat → Prop) (w : World) (h : RdR w S l bad o) : Calls Try.prog 38 #[.pointer (some ⟨S, 0, none⟩)] w (kPost l bad (fun w' r b => RdR w' S r b o) o w) := by
  by_cases hl : l.length < 8
  · exact rblock_out S l bad o w h hl
  · exact rblock_in S l bad o w h hl

end Go.Proofs.Ytajeboigkpelgaa
