/- parity's parityOf. -/
import Derived.Test.YtheijobnmdbodaaPc
namespace Go.Proofs.Ytheijobnmdbodaa
open Go Go.RowKit Go.Shelf
set_option linter.unusedVariables false
set_option linter.unusedSimpArgs false
attribute [local go_sem] Oper.semAt_some

theorem zero24 : cat3 (fun _ => zeroB) = (List.range 24).map fun _ => 0 := by decide
def parPost (D : List (List Nat)) (w : World) (e : Ending) (w' : World) : Prop := ∃ hD : ∀ d ∈ D, B8 d, e = .returned (.agg (bcs (cat3 (parS D hD)))) ∧ Below w.heap.size w w'
theorem upd_parS (D : List (List Nat)) (hD : ∀ d ∈ D, B8 d) : upd (upd (upd (fun _ => zeroB) 0 (parS D hD 0)) 1 (parS D hD 1)) 2 (parS D hD 2) 0 = parS D hD 0 ∧ upd (upd (upd (fun _ => zeroB) 0 (parS D hD 0)) 1 (parS D hD 1)) 2 (parS D hD 2) 1 = parS D hD 1 ∧ upd (upd (upd (fun _ => zeroB) 0 (parS D hD 0)) 1 (parS D hD 1)) 2 (parS D hD 2) 2 = parS D hD 2 := ⟨rfl, rfl, rfl⟩
theorem Row.ownFrom {β : Type} (B g : Nat) (t : TypeId) (f : β → Array Value) : OwnFrom B (fun s W => Row W g t (f s)) := fun s X Y row hs hg hr =>
  (grownBy_keeps_cells hg (fun r e => (hr r e).2) hs rfl).trans hs
theorem hold_ownFrom {β : Type} (B d : Nat) (ob : Obj) (hd : d < B) : OwnFrom B (fun (_ : β) W => W.heap[d]? = some ob) := fun s X Y row hs hg hr =>
  (hg.block d (Array.getElem?_eq_some_iff.1 hs).1 (fun e => by have := (hr d e.symm).1; omega)).trans hs

/-- The lists of deferred calls of loops that are over. -/
def Held (Ds : List Nat) (W : World) : Prop := ∀ d ∈ Ds, W.heap[d]? = some (.deferred (some []))
theorem Held.ko {Ds : List Nat} {W W' : World} (h : Held Ds W) (k : KeepsOthers W W') : Held Ds W' := fun d hd => k.same d _ (h d hd) rfl
theorem held_ownFrom {β : Type} (B : Nat) (Ds : List Nat) (W₀ : World) (h₀ : Held Ds W₀) (hB : W₀.heap.size ≤ B) : OwnFrom B (fun (_ : β) W => Held Ds W) := fun s X Y row hs hg hr d hd =>
  (hg.block d (Array.getElem?_eq_some_iff.1 (hs d hd)).1 (fun e => by have := (hr d e.symm).1; have := (Array.getElem?_eq_some_iff.1 (h₀ d hd)).1; omega)).trans (hs d hd)

/-- Leaving a function behind loops over iterators whose rounds deferred nothing. -/
theorem leaves_held {F : Fence} {n : Nat} {P : Program} {fn : Func} {tmps : Array Value} {R : Ending → World → Prop} : ∀ (Ds : List Nat) (w : World), Ds.Pairwise (· ≠ ·) → Held Ds w →
    (∀ w' : World, (∀ B, B ≤ w.heap.size → (∀ d ∈ Ds, B ≤ d) → Below B w w') → (∀ i, i ∉ Ds → w'.heap[i]? = w.heap[i]?) → LeavesIn F n P fn tmps R [] .returning w') →
    LeavesInM F n P fn tmps R (Ds.map fun d => { target := .collected d, args := #[] }) .returning w
  | [], w, _, _, h => h w (fun B _ _ => Below.refl B w) fun _ _ => rfl
  | d :: Ds, w, hp, hh, h => by
    have hp' := List.pairwise_cons.1 hp
    refine ⟨by simp, .inl ⟨d, _, rfl, run_takeDeferred (hh d List.mem_cons_self), leaves_held Ds _ hp'.2 (fun e he => ?_) fun w' hs hk => ?_⟩⟩
    · exact (World.putObj_heap_other (fun x => hp'.1 e he x.symm)).trans (hh e (List.mem_cons_of_mem _ he))
    · refine h w' (fun B hB hd => ((Below.refl B w).grown (grownBy_putObj' w d _) hB (fun k e => by cases e; exact hd d List.mem_cons_self)).trans (hs B (by simpa [World.putObj] using hB) fun e he => hd e (List.mem_cons_of_mem _ he))) fun i hi => (hk i fun hx => hi (List.mem_cons_of_mem _ hx)).trans ?_
      exact World.putObj_heap_other (fun x => hi (by rw [x]; exact List.mem_cons_self))

theorem size_ownFrom {β : Type} (B k : Nat) : OwnFrom B (fun (_ : β) W => k ≤ W.heap.size) := fun _ _ _ _ hs hg _ => Nat.le_trans hs hg.size

set_option maxHeartbeats 8000000 in
set_option maxRecDepth 100000 in
theorem parityOf_any (v : Value) (D : List (List Nat)) (w : World) (h : Bl w v D) (h1 : 1 ≤ D.length) (h13 : D.length ≤ 13) :
    Calls Try.prog 54 #[v] w (parPost D w) := by
  obtain ⟨b, off, cap, rfl, hm, hb, hr⟩ := h.at_ h1
  have hD := h.ok
  obtain ⟨n, hn⟩ : ∃ n, D.length = n := ⟨_, rfl⟩
  have HN := Lib.hid hn
  have HI := Lib.hid hr
  rw [hn] at hm h1 h13 ⊢
  clear hn h hr hm
  refine (callsIn_wide (n := 5)).1 ?_
  refine callsIn_of_wp_marks Try.func54 rfl trivial ?_ rfl
  simp only [Try.ntmps54, List.size_toArray, List.length_cons, List.length_nil, Nat.reduceAdd, Nat.reduceSub, Array.replicate_succ, Array.replicate_zero, List.push_toArray, List.append_toArray, List.nil_append, List.cons_append]
  gi_wp2
  obtain ⟨P0, hP0⟩ : ∃ P0, (w.alloc (.cells (bcs (cat3 fun _ => zeroB)) 49)).alloc (.cells (bcs (cat3 fun _ => zeroB)) 49) = P0 := ⟨_, rfl⟩
  have hz : bcs (cat3 fun _ => zeroB) = #[.int .u8 0, .int .u8 0, .int .u8 0, .int .u8 0, .int .u8 0, .int .u8 0, .int .u8 0, .int .u8 0, .int .u8 0, .int .u8 0, .int .u8 0, .int .u8 0, .int .u8 0, .int .u8 0, .int .u8 0, .int .u8 0, .int .u8 0, .int .u8 0, .int .u8 0, .int .u8 0, .int .u8 0, .int .u8 0, .int .u8 0, .int .u8 0] := by rw [zero24]; rfl
  have pB0 : Below w.heap.size w P0 := by rw [← hP0]; exact ((Below.refl w.heap.size w).alloc (Nat.le_refl _) _).alloc (by simp) _
  have pS0 : w.heap.size + 2 ≤ P0.heap.size := by rw [← hP0]; simp
  have pR0 : Row P0 w.heap.size 49 (bcs (cat3 fun _ => zeroB)) := by rw [← hP0]; exact (row_new _ _ _).alloc _
  have pQ0 : Row P0 (w.heap.size + 1) 49 (bcs (cat3 fun _ => zeroB)) := by rw [← hP0]; exact row_at (by simp) _ _
  rw [hz] at hP0
  rw [hP0]
  clear hz hP0
  have PB0 := Lib.hid pB0
  have PR0 := Lib.hid pR0
  have PQ0 := Lib.hid pQ0
  have HE0 : Hid (Held [] P0) := Lib.hid fun d hd => by cases hd
  clear pB0 pR0 pQ0
  refine wpIn_loop_rounds 4 ?_
  rw [roundsIn_succ]
  gi_wp2_with (first | (refine ⟨trivial, ?_⟩; gi_at_call 64; refine (callsIn_wide.2 (exp_any _ _)).mono ?_; rintro e w' ⟨rfl, rfl⟩) | (refine ⟨trivial, ?_⟩; gi_at_call 65; refine (callsIn_wide.2 (back_in _ _ _ _)).mono ?_; rintro e w' ⟨rfl, rfl⟩))
  obtain ⟨x0, hx0⟩ : ∃ x, Gf.gpow 2 (red 0) = x := ⟨_, rfl⟩
  rw [hx0]
  have hxb0 : x0 < 256 := by rw [← hx0]; exact Gf.gpow_lt _ _ (by decide)
  have X0 := Lib.hid hx0
  clear hx0
  have bJ0 := ((row_new P0 #[.int .i64 0] 3).alloc (.cells #[.int .u8 (x0 : Int)] 5)).alloc (.cells #[.slice (some ⟨b, off, none⟩) n cap] 31)
  have bE0 := (row_at (w := P0.alloc (.cells #[.int .i64 0] 3)) (k := P0.heap.size + 1) (by simp) #[.int .u8 (x0 : Int)] 5).alloc (.cells #[.slice (some ⟨b, off, none⟩) n cap] 31)
  have bN0 := row_at (w := (P0.alloc (.cells #[.int .i64 0] 3)).alloc (.cells #[.int .u8 (x0 : Int)] 5)) (k := P0.heap.size + 2) (by simp) #[.slice (some ⟨b, off, none⟩) n cap] 31
  have hB0 : Below P0.heap.size P0 (((P0.alloc (.cells #[.int .i64 0] 3)).alloc (.cells #[.int .u8 (x0 : Int)] 5)).alloc (.cells #[.slice (some ⟨b, off, none⟩) n cap] 31)) := (((Below.refl P0.heap.size P0).alloc (Nat.le_refl _) _).alloc (by simp) _).alloc (by simp; omega) _
  have hsz0 : (((P0.alloc (.cells #[.int .i64 0] 3)).alloc (.cells #[.int .u8 (x0 : Int)] 5)).alloc (.cells #[.slice (some ⟨b, off, none⟩) n cap] 31)).heap.size = P0.heap.size + 3 := by simp
  obtain ⟨W0, hW0⟩ : ∃ W0, ((P0.alloc (.cells #[.int .i64 0] 3)).alloc (.cells #[.int .u8 (x0 : Int)] 5)).alloc (.cells #[.slice (some ⟨b, off, none⟩) n cap] 31) = W0 := ⟨_, rfl⟩
  rw [hW0] at bJ0 bE0 bN0 hB0 hsz0 ⊢
  clear hW0
  have hBw0 : Below w.heap.size w W0 := PB0.out.trans (hB0.mono PB0.out.size)
  have bR0 : Row W0 w.heap.size 49 (bcs (cat3 fun _ => zeroB)) := PR0.out.below hB0 (by omega)
  have bQ0 : Row W0 (w.heap.size + 1) 49 (bcs (cat3 (fun _ => zeroB))) := PQ0.out.below hB0 (by omega)
  have hH0 : Held [] W0 := HE0.out.ko (ko_below hB0)
  refine wpIn_rangeFunc_ownH rfl (by omega) (gf := 72) (lb := #[.pointer (some ⟨P0.heap.size + 2, 0, none⟩)]) rfl trivial (enters_of Try.func72 (by kernel_rfl) rfl)
    (back_stops (P0.heap.size + 3) (w.heap.size + 1) (P0.heap.size + 2) b off cap D hD (by rw [HN.out]; omega) W0 (by omega) (by omega) (by omega) (by omega) (by omega) (by rw [bN0.cell, HN.out]; rfl) (fun j u hu => by have := HI.out j u hu; exact (hBw0.cell (p := ⟨b, off + j, none⟩) hb).trans this)) Kpt.trans (Kpt.put (w := W0) (by omega)) (Below.refl _ _) (fun _ => rfl)
    (fun pre W => ((Row W (w.heap.size + 1) 49 (bcs (cat3 (upd (fun _ => zeroB) 0 (hof x0 pre)))) ∧ Row W w.heap.size 49 (bcs (cat3 fun _ => zeroB))) ∧ (Row W P0.heap.size 3 #[.int .i64 0] ∧ Row W (P0.heap.size + 1) 5 #[.int .u8 (x0 : Int)])) ∧ (P0.heap.size + 3 ≤ W.heap.size ∧ (Below w.heap.size w W ∧ Held [] W)))
    (fun _ _ _ => False)
    (OwnFrom.and (OwnFrom.and (OwnFrom.and (Row.ownFrom _ _ _ _) (Row.ownFrom _ _ _ _)) (OwnFrom.and (Row.ownFrom _ _ _ _) (Row.ownFrom _ _ _ _))) (OwnFrom.and (size_ownFrom _ _) (OwnFrom.and (ownFrom_below (Nat.le_refl _) (by omega)) (held_ownFrom _ _ _ hH0 (by omega)))))
    (fun _ _ _ _ _ hs _ _ => hs)
    ⟨⟨⟨by rw [upd_zero rfl]; exact bQ0, bR0⟩, bJ0, bE0⟩, by omega, hBw0, hH0⟩
    (fun x a' W => ∃ Bx, P0.heap.size + 3 ≤ Bx ∧ Row W Bx 33 (bcs x.2.1) ∧ a' = { tmps := #[.slice (some ⟨b, off, none⟩) n cap, undef, .pointer (some ⟨w.heap.size, 0, none⟩), .pointer (some ⟨w.heap.size + 1, 0, none⟩), .pointer (some ⟨P0.heap.size, 0, none⟩), .pointer (some ⟨P0.heap.size + 1, 0, none⟩), undef, .pointer (some ⟨Bx, 0, none⟩), .int .i64 0, .bool true, .int .i64 0, .int .i64 0, .int .u8 (x0 : Int), .slice (some ⟨b, off, none⟩) n cap, .func (.func 72) #[] #[.pointer (some ⟨P0.heap.size + 2, 0, none⟩)], .int .i64 (x.1 : Int), .agg (bcs x.2.1), undef, undef, undef, undef, undef, undef, undef, undef, undef, undef], defers := [] })
    (fun x a' _ X Y row hs hg hr => by obtain ⟨Bx, h1, h2, h3⟩ := hs; exact ⟨Bx, h1, (grownBy_keeps_cells hg (fun r e => (hr r e).2) h2 rfl).trans h2, h3⟩)
    ?assign0 ?body0 ?done0 ?stop0
  case assign0 =>
    rintro l pre x W K ⟨⟨⟨i1, i2⟩, i3, i4⟩, i5, i6, i7⟩ hK
    have rn := row_new W #[.int .u8 0, .int .u8 0, .int .u8 0, .int .u8 0, .int .u8 0, .int .u8 0, .int .u8 0, .int .u8 0] 33
    have th := Lib.hid (rn.there (n := (bcs x.2.1).size) (by rw [bcs_size, x.2.2.1]; exact Nat.le_refl _))
    have si := Lib.hid (size8 x.2.2.1)
    have RN := Lib.hid (rn.put rfl x.2.2.1)
    clear rn
    unfold enc2
    gi_wp2_with (refine wpListIn_store8 rfl _ _ _ rfl _ 0 _ rfl rfl th.out si.out ?_)
    exact hK _ _ (((KeepsOthers.alloc _ _).trans (ko_setCells _ _ _ _)).from _) (Kpt.of_below (below_setCells ((Below.refl _ W).alloc i5 _) _ _ _ i5))
      ⟨⟨⟨(i1.alloc _).otherCells (by omega) _ _, (i2.alloc _).otherCells (by omega) _ _⟩, (i3.alloc _).otherCells (by omega) _ _, (i4.alloc _).otherCells (by omega) _ _⟩, Nat.le_trans i5 (((KeepsOthers.alloc W _).trans (ko_setCells _ _ _ _)).size), below_setCells (i6.alloc i6.size _) _ _ _ (by omega), i7.ko ((KeepsOthers.alloc W _).trans (ko_setCells _ _ _ _))⟩ ⟨W.heap.size, i5, RN.out, rfl⟩
  case body0 =>
    rintro l pre x a' W hl hrec ⟨⟨⟨i1, i2⟩, i3, i4⟩, i5, i6, i7⟩ ⟨Bx, q1, q2, rfl⟩ hlt
    gi_wp2_with fail
    obtain ⟨s, hs⟩ : ∃ s, hof x0 pre = s := ⟨_, rfl⟩
    rw [hs] at i1
    have a1 : At8 W (w.heap.size + 1) (0 * 8) s.1 := i1.at3 (by decide)
    have hS : (fun w' : World => (w'.cell? ⟨P0.heap.size, 0, none⟩ = some (.int .i64 0) ∧ w'.cell? ⟨P0.heap.size + 1, 0, none⟩ = some (.int .u8 (x0 : Int))) ∧ At8 w' Bx 0 x.2.1) W.drew := ⟨⟨i3.cell 0, i4.cell 0⟩, q2.at8⟩
    refine region_round (S := fun w' : World => (w'.cell? ⟨P0.heap.size, 0, none⟩ = some (.int .i64 0) ∧ w'.cell? ⟨P0.heap.size + 1, 0, none⟩ = some (.int .u8 (x0 : Int))) ∧ At8 w' Bx 0 x.2.1) (by rintro ⟨a, w, h⟩; exact h) (by kernel_rfl) rfl ?_
    refine wpAnyH_take (i := 0) (v := .int .i64 0) rfl (by kernel_rfl) (by kernel_rfl) (by kernel_rfl) (fun _ _ _ h => h) (Or.inl ⟨by rfl, by rintro w' ⟨⟨s1, s2⟩, s3⟩; go_simp⟩) hS ?_
    simp only [Act.put, List.setIfInBounds_toArray, List.set_cons_zero, List.set_cons_succ]
    refine wpAnyH_take (i := 1) (v := .agg (bcs x.2.1)) rfl (by kernel_rfl) (by kernel_rfl) (by kernel_rfl) (fun _ _ _ h => h) (yieldsIf_load8 (by rfl) _ _ rfl _ _ rfl _ _ (fun w' h => h.2) Try.underlying33 rfl (size8 x.2.2.1)) hS ?_
    simp only [Act.put, List.setIfInBounds_toArray, List.set_cons_zero, List.set_cons_succ]
    refine wpAnyH_take (i := 2) (v := .int .i64 0) rfl (by kernel_rfl) (by kernel_rfl) (by kernel_rfl) (fun _ _ _ h => h) (Or.inl ⟨by rfl, by rintro w' ⟨⟨s1, s2⟩, s3⟩; go_simp⟩) hS ?_
    simp only [Act.put, List.setIfInBounds_toArray, List.set_cons_zero, List.set_cons_succ]
    refine wpAnyH_take (i := 3) (v := .pointer (some ⟨w.heap.size + 1, 0 * 8, none⟩)) rfl (by kernel_rfl) (by kernel_rfl) (by kernel_rfl) (fun _ _ _ h => h) (Or.inl ⟨by rfl, by rintro w' ⟨⟨s1, s2⟩, s3⟩; go_simp⟩) hS ?_
    simp only [Act.put, List.setIfInBounds_toArray, List.set_cons_zero, List.set_cons_succ]
    refine wpAnyH_take (i := 5) (v := .int .u8 (x0 : Int)) rfl (by kernel_rfl) (by kernel_rfl) (by kernel_rfl) (fun _ _ _ h => h) (Or.inl ⟨by rfl, by rintro w' ⟨⟨s1, s2⟩, s3⟩; go_simp⟩) hS ?_
    simp only [Act.put, List.setIfInBounds_toArray, List.set_cons_zero, List.set_cons_succ]
    refine wpAnyH_ready (rs := [4]) (by kernel_rfl) (by simp) ?_
    refine AllReadyH.cons rfl (fun K4 hK4 => ?_) AllReadyH.nil
    have HK4 := Lib.hid hK4
    clear hK4
    rw [if_pos (by rfl)]
    refine wp_load8 _ _ rfl _ _ rfl s.1 _ a1 Try.underlying33 rfl (size8 s.2.1) ?_
    refine HK4.out _ _ hS fun _ => ?_
    simp only [Act.put, List.setIfInBounds_toArray, List.set_cons_zero, List.set_cons_succ]
    refine wpAnyH_ready (rs := [6]) (by kernel_rfl) (by simp) ?_
    refine AllReadyH.cons rfl (fun K6 hK6 => ?_) AllReadyH.nil
    have HK6 := Lib.hid hK6
    clear hK6
    rw [if_pos (by rfl)]
    go_simp
    go_at_call 66
    refine (pm_any x.2.1 s.1 x0 _ x.2.2 s.2 hxb0).mono ?_
    rintro e w' ⟨rfl, hpm⟩
    have hpm := (Below.refl W.heap.size W).drew.trans hpm
    have hlB := q2.lt
    have hlP := i4.lt
    have hlG := i1.lt
    have hS2 : (fun w' : World => (w'.cell? ⟨P0.heap.size, 0, none⟩ = some (.int .i64 0) ∧ w'.cell? ⟨P0.heap.size + 1, 0, none⟩ = some (.int .u8 (x0 : Int))) ∧ At8 w' Bx 0 x.2.1) w' := ⟨⟨(hpm.cell (p := ⟨P0.heap.size, 0, none⟩) (by show P0.heap.size < W.heap.size; omega)).trans (i3.cell 0), (hpm.cell (p := ⟨P0.heap.size + 1, 0, none⟩) (by show P0.heap.size + 1 < W.heap.size; omega)).trans (i4.cell 0)⟩, q2.at8.below hpm (by show _ < W.heap.size; omega)⟩
    refine HK6.out _ _ hS2 fun _ => ?_
    obtain ⟨nb, hnb⟩ : ∃ nb : Blk, nb = ⟨pmB x.2.1 s.1 x0, pmB_ok x.2.2 s.2 hxb0⟩ := ⟨_, rfl⟩
    have hbk : bk (pmB x.2.1 s.1 x0) = .agg (bcs nb.1) := by rw [hnb]; rfl
    have hst : stepB x0 s x = nb := by rw [hnb]; exact Subtype.ext (by show pmB _ _ (x0 % 256) = _; rw [Nat.mod_eq_of_lt hxb0])
    rw [hbk]
    have j1 := i1.below hpm (show _ < W.heap.size from hlG)
    have j2 := i2.below hpm (show _ < W.heap.size from i2.lt)
    have j3 := i3.below hpm (show _ < W.heap.size from i3.lt)
    have j4 := i4.below hpm (show _ < W.heap.size from i4.lt)
    have th : w'.there (w.heap.size + 1) (0 * 8) (bcs nb.1).size := by rw [bcs_size, nb.2.1]; exact j1.there3 (by decide)
    refine wpAnyH_take (i := 7) (v := .pointer (some ⟨w.heap.size + 1, 0 * 8, none⟩)) rfl (by kernel_rfl) (by kernel_rfl) (by kernel_rfl) (fun _ _ _ h => h) (Or.inl ⟨by rfl, by rintro w' ⟨⟨s1, s2⟩, s3⟩; go_simp⟩) hS2 ?_
    simp only [Act.put, List.setIfInBounds_toArray, List.set_cons_zero, List.set_cons_succ]
    refine wpAnyH_ready (rs := [8]) (by kernel_rfl) (by simp) ?_
    refine AllReadyH.cons rfl (fun K8 hK8 => ?_) AllReadyH.nil
    have HK8 := Lib.hid hK8
    clear hK8
    rw [if_pos (by rfl)]
    refine wp_store8 _ _ _ rfl _ _ nb.1 rfl rfl th (size8 nb.2.1) ?_
    have hS3 : (fun w' : World => (w'.cell? ⟨P0.heap.size, 0, none⟩ = some (.int .i64 0) ∧ w'.cell? ⟨P0.heap.size + 1, 0, none⟩ = some (.int .u8 (x0 : Int))) ∧ At8 w' Bx 0 x.2.1) (w'.setCells (w.heap.size + 1) (0 * 8) (nb.1.map bv)) := ⟨⟨(j3.otherCells (by omega) _ _).cell 0, (j4.otherCells (by omega) _ _).cell 0⟩, ((q2.below hpm (show _ < W.heap.size from hlB)).otherCells (by omega) _ _).at8⟩
    refine HK8.out _ _ hS3 fun _ => ?_
    refine wpAnyH_done (by kernel_rfl) ?_ _
    refine ⟨((ko_below hpm).trans (ko_setCells _ _ _ _)).from _, (Kpt.of_below (hpm.mono (show _ ≤ W.heap.size from i5))).setCells _ _, ⟨⟨?_, j2.otherCells (by omega) _ _⟩, j3.otherCells (by omega) _ _, j4.otherCells (by omega) _ _⟩, Nat.le_trans i5 (Nat.le_trans hpm.size (ko_setCells _ _ _ _).size), below_setCells (i6.trans (hpm.mono i6.size)) _ _ _ (by omega), i7.ko ((ko_below hpm).trans (ko_setCells _ _ _ _))⟩
    rw [hof_snoc, hs, hst]
    have := j1.put3 (j := 0) (by decide) nb
    rw [upd_upd] at this
    exact this
  case stop0 =>
    rintro D c pre W _ _ h _
    exact h.elim
  rintro D0 ys P1 hD0 rfl ⟨⟨⟨i1, i2⟩, i3, i4⟩, i5, i6, i7⟩ hK0
  have e0 : hof x0 (upto (fun j => (D.length - 1 - j, nth D hD (D.length - 1 - j))) D.length) = parS D hD 0 := by rw [← X0.out]; exact parS_of hD 0
  rw [e0] at i1
  have pS1 : w.heap.size + 2 ≤ P1.heap.size := by omega
  have PB1 := Lib.hid i6
  have PR1 := Lib.hid i2
  have PQ1 := Lib.hid i1
  have HE1 : Hid (Held [D0] P1) := Lib.hid fun d hd => by
    rcases List.mem_cons.1 hd with rfl | hd
    · exact hK0
    · exact i7 d hd
  clear i1 i2 i3 i4 i5 i6 i7 bN0 bE0 bJ0 bR0 bQ0 hBw0 hH0 hB0 e0
  gi_wp2
  rw [roundsIn_succ]
  gi_wp2_with (first | (refine ⟨trivial, ?_⟩; gi_at_call 64; refine (callsIn_wide.2 (exp_any _ _)).mono ?_; rintro e w' ⟨rfl, rfl⟩) | (refine ⟨trivial, ?_⟩; gi_at_call 65; refine (callsIn_wide.2 (back_in _ _ _ _)).mono ?_; rintro e w' ⟨rfl, rfl⟩))
  obtain ⟨x1, hx1⟩ : ∃ x, Gf.gpow 2 (red 1) = x := ⟨_, rfl⟩
  rw [hx1]
  have hxb1 : x1 < 256 := by rw [← hx1]; exact Gf.gpow_lt _ _ (by decide)
  have X1 := Lib.hid hx1
  clear hx1
  have bJ1 := ((row_new P1 #[.int .i64 1] 3).alloc (.cells #[.int .u8 (x1 : Int)] 5)).alloc (.cells #[.slice (some ⟨b, off, none⟩) n cap] 31)
  have bE1 := (row_at (w := P1.alloc (.cells #[.int .i64 1] 3)) (k := P1.heap.size + 1) (by simp) #[.int .u8 (x1 : Int)] 5).alloc (.cells #[.slice (some ⟨b, off, none⟩) n cap] 31)
  have bN1 := row_at (w := (P1.alloc (.cells #[.int .i64 1] 3)).alloc (.cells #[.int .u8 (x1 : Int)] 5)) (k := P1.heap.size + 2) (by simp) #[.slice (some ⟨b, off, none⟩) n cap] 31
  have hB1 : Below P1.heap.size P1 (((P1.alloc (.cells #[.int .i64 1] 3)).alloc (.cells #[.int .u8 (x1 : Int)] 5)).alloc (.cells #[.slice (some ⟨b, off, none⟩) n cap] 31)) := (((Below.refl P1.heap.size P1).alloc (Nat.le_refl _) _).alloc (by simp) _).alloc (by simp; omega) _
  have hsz1 : (((P1.alloc (.cells #[.int .i64 1] 3)).alloc (.cells #[.int .u8 (x1 : Int)] 5)).alloc (.cells #[.slice (some ⟨b, off, none⟩) n cap] 31)).heap.size = P1.heap.size + 3 := by simp
  obtain ⟨W1, hW1⟩ : ∃ W1, ((P1.alloc (.cells #[.int .i64 1] 3)).alloc (.cells #[.int .u8 (x1 : Int)] 5)).alloc (.cells #[.slice (some ⟨b, off, none⟩) n cap] 31) = W1 := ⟨_, rfl⟩
  rw [hW1] at bJ1 bE1 bN1 hB1 hsz1 ⊢
  clear hW1
  have hBw1 : Below w.heap.size w W1 := PB1.out.trans (hB1.mono PB1.out.size)
  have bR1 : Row W1 w.heap.size 49 (bcs (cat3 fun _ => zeroB)) := PR1.out.below hB1 (by omega)
  have bQ1 : Row W1 (w.heap.size + 1) 49 (bcs (cat3 (upd (fun _ => zeroB) 0 (parS D hD 0)))) := PQ1.out.below hB1 (by omega)
  have hH1 : Held [D0] W1 := HE1.out.ko (ko_below hB1)
  refine wpIn_rangeFunc_ownH rfl (by omega) (gf := 72) (lb := #[.pointer (some ⟨P1.heap.size + 2, 0, none⟩)]) rfl trivial (enters_of Try.func72 (by kernel_rfl) rfl)
    (back_stops (P1.heap.size + 3) (w.heap.size + 1) (P1.heap.size + 2) b off cap D hD (by rw [HN.out]; omega) W1 (by omega) (by omega) (by omega) (by omega) (by omega) (by rw [bN1.cell, HN.out]; rfl) (fun j u hu => by have := HI.out j u hu; exact (hBw1.cell (p := ⟨b, off + j, none⟩) hb).trans this)) Kpt.trans (Kpt.put (w := W1) (by omega)) (Below.refl _ _) (fun _ => rfl)
    (fun pre W => ((Row W (w.heap.size + 1) 49 (bcs (cat3 (upd (upd (fun _ => zeroB) 0 (parS D hD 0)) 1 (hof x1 pre)))) ∧ Row W w.heap.size 49 (bcs (cat3 fun _ => zeroB))) ∧ (Row W P1.heap.size 3 #[.int .i64 1] ∧ Row W (P1.heap.size + 1) 5 #[.int .u8 (x1 : Int)])) ∧ (P1.heap.size + 3 ≤ W.heap.size ∧ (Below w.heap.size w W ∧ Held [D0] W)))
    (fun _ _ _ => False)
    (OwnFrom.and (OwnFrom.and (OwnFrom.and (Row.ownFrom _ _ _ _) (Row.ownFrom _ _ _ _)) (OwnFrom.and (Row.ownFrom _ _ _ _) (Row.ownFrom _ _ _ _))) (OwnFrom.and (size_ownFrom _ _) (OwnFrom.and (ownFrom_below (Nat.le_refl _) (by omega)) (held_ownFrom _ _ _ hH1 (by omega)))))
    (fun _ _ _ _ _ hs _ _ => hs)
    ⟨⟨⟨by rw [upd_zero rfl]; exact bQ1, bR1⟩, bJ1, bE1⟩, by omega, hBw1, hH1⟩
    (fun x a' W => ∃ Bx, P1.heap.size + 3 ≤ Bx ∧ Row W Bx 33 (bcs x.2.1) ∧ a' = { tmps := #[.slice (some ⟨b, off, none⟩) n cap, undef, .pointer (some ⟨w.heap.size, 0, none⟩), .pointer (some ⟨w.heap.size + 1, 0, none⟩), .pointer (some ⟨P1.heap.size, 0, none⟩), .pointer (some ⟨P1.heap.size + 1, 0, none⟩), undef, .pointer (some ⟨Bx, 0, none⟩), .int .i64 1, .bool true, .int .i64 1, .int .i64 1, .int .u8 (x1 : Int), .slice (some ⟨b, off, none⟩) n cap, .func (.func 72) #[] #[.pointer (some ⟨P1.heap.size + 2, 0, none⟩)], .int .i64 (x.1 : Int), .agg (bcs x.2.1), undef, undef, undef, undef, undef, undef, undef, undef, .int .i64 1, undef], defers := [] })
    (fun x a' _ X Y row hs hg hr => by obtain ⟨Bx, h1, h2, h3⟩ := hs; exact ⟨Bx, h1, (grownBy_keeps_cells hg (fun r e => (hr r e).2) h2 rfl).trans h2, h3⟩)
    ?assign1 ?body1 ?done1 ?stop1
  case assign1 =>
    rintro l pre x W K ⟨⟨⟨i1, i2⟩, i3, i4⟩, i5, i6, i7⟩ hK
    have rn := row_new W #[.int .u8 0, .int .u8 0, .int .u8 0, .int .u8 0, .int .u8 0, .int .u8 0, .int .u8 0, .int .u8 0] 33
    have th := Lib.hid (rn.there (n := (bcs x.2.1).size) (by rw [bcs_size, x.2.2.1]; exact Nat.le_refl _))
    have si := Lib.hid (size8 x.2.2.1)
    have RN := Lib.hid (rn.put rfl x.2.2.1)
    clear rn
    unfold enc2
    gi_wp2_with (refine wpListIn_store8 rfl _ _ _ rfl _ 0 _ rfl rfl th.out si.out ?_)
    exact hK _ _ (((KeepsOthers.alloc _ _).trans (ko_setCells _ _ _ _)).from _) (Kpt.of_below (below_setCells ((Below.refl _ W).alloc i5 _) _ _ _ i5))
      ⟨⟨⟨(i1.alloc _).otherCells (by omega) _ _, (i2.alloc _).otherCells (by omega) _ _⟩, (i3.alloc _).otherCells (by omega) _ _, (i4.alloc _).otherCells (by omega) _ _⟩, Nat.le_trans i5 (((KeepsOthers.alloc W _).trans (ko_setCells _ _ _ _)).size), below_setCells (i6.alloc i6.size _) _ _ _ (by omega), i7.ko ((KeepsOthers.alloc W _).trans (ko_setCells _ _ _ _))⟩ ⟨W.heap.size, i5, RN.out, rfl⟩
  case body1 =>
    rintro l pre x a' W hl hrec ⟨⟨⟨i1, i2⟩, i3, i4⟩, i5, i6, i7⟩ ⟨Bx, q1, q2, rfl⟩ hlt
    gi_wp2_with fail
    obtain ⟨s, hs⟩ : ∃ s, hof x1 pre = s := ⟨_, rfl⟩
    rw [hs] at i1
    have a1 : At8 W (w.heap.size + 1) (1 * 8) s.1 := i1.at3 (by decide)
    have hS : (fun w' : World => (w'.cell? ⟨P1.heap.size, 0, none⟩ = some (.int .i64 1) ∧ w'.cell? ⟨P1.heap.size + 1, 0, none⟩ = some (.int .u8 (x1 : Int))) ∧ At8 w' Bx 0 x.2.1) W.drew := ⟨⟨i3.cell 0, i4.cell 0⟩, q2.at8⟩
    refine region_round (S := fun w' : World => (w'.cell? ⟨P1.heap.size, 0, none⟩ = some (.int .i64 1) ∧ w'.cell? ⟨P1.heap.size + 1, 0, none⟩ = some (.int .u8 (x1 : Int))) ∧ At8 w' Bx 0 x.2.1) (by rintro ⟨a, w, h⟩; exact h) (by kernel_rfl) rfl ?_
    refine wpAnyH_take (i := 0) (v := .int .i64 1) rfl (by kernel_rfl) (by kernel_rfl) (by kernel_rfl) (fun _ _ _ h => h) (Or.inl ⟨by rfl, by rintro w' ⟨⟨s1, s2⟩, s3⟩; go_simp⟩) hS ?_
    simp only [Act.put, List.setIfInBounds_toArray, List.set_cons_zero, List.set_cons_succ]
    refine wpAnyH_take (i := 1) (v := .agg (bcs x.2.1)) rfl (by kernel_rfl) (by kernel_rfl) (by kernel_rfl) (fun _ _ _ h => h) (yieldsIf_load8 (by rfl) _ _ rfl _ _ rfl _ _ (fun w' h => h.2) Try.underlying33 rfl (size8 x.2.2.1)) hS ?_
    simp only [Act.put, List.setIfInBounds_toArray, List.set_cons_zero, List.set_cons_succ]
    refine wpAnyH_take (i := 2) (v := .int .i64 1) rfl (by kernel_rfl) (by kernel_rfl) (by kernel_rfl) (fun _ _ _ h => h) (Or.inl ⟨by rfl, by rintro w' ⟨⟨s1, s2⟩, s3⟩; go_simp⟩) hS ?_
    simp only [Act.put, List.setIfInBounds_toArray, List.set_cons_zero, List.set_cons_succ]
    refine wpAnyH_take (i := 3) (v := .pointer (some ⟨w.heap.size + 1, 1 * 8, none⟩)) rfl (by kernel_rfl) (by kernel_rfl) (by kernel_rfl) (fun _ _ _ h => h) (Or.inl ⟨by rfl, by rintro w' ⟨⟨s1, s2⟩, s3⟩; go_simp⟩) hS ?_
    simp only [Act.put, List.setIfInBounds_toArray, List.set_cons_zero, List.set_cons_succ]
    refine wpAnyH_take (i := 5) (v := .int .u8 (x1 : Int)) rfl (by kernel_rfl) (by kernel_rfl) (by kernel_rfl) (fun _ _ _ h => h) (Or.inl ⟨by rfl, by rintro w' ⟨⟨s1, s2⟩, s3⟩; go_simp⟩) hS ?_
    simp only [Act.put, List.setIfInBounds_toArray, List.set_cons_zero, List.set_cons_succ]
    refine wpAnyH_ready (rs := [4]) (by kernel_rfl) (by simp) ?_
    refine AllReadyH.cons rfl (fun K4 hK4 => ?_) AllReadyH.nil
    have HK4 := Lib.hid hK4
    clear hK4
    rw [if_pos (by rfl)]
    refine wp_load8 _ _ rfl _ _ rfl s.1 _ a1 Try.underlying33 rfl (size8 s.2.1) ?_
    refine HK4.out _ _ hS fun _ => ?_
    simp only [Act.put, List.setIfInBounds_toArray, List.set_cons_zero, List.set_cons_succ]
    refine wpAnyH_ready (rs := [6]) (by kernel_rfl) (by simp) ?_
    refine AllReadyH.cons rfl (fun K6 hK6 => ?_) AllReadyH.nil
    have HK6 := Lib.hid hK6
    clear hK6
    rw [if_pos (by rfl)]
    go_simp
    go_at_call 66
    refine (pm_any x.2.1 s.1 x1 _ x.2.2 s.2 hxb1).mono ?_
    rintro e w' ⟨rfl, hpm⟩
    have hpm := (Below.refl W.heap.size W).drew.trans hpm
    have hlB := q2.lt
    have hlP := i4.lt
    have hlG := i1.lt
    have hS2 : (fun w' : World => (w'.cell? ⟨P1.heap.size, 0, none⟩ = some (.int .i64 1) ∧ w'.cell? ⟨P1.heap.size + 1, 0, none⟩ = some (.int .u8 (x1 : Int))) ∧ At8 w' Bx 0 x.2.1) w' := ⟨⟨(hpm.cell (p := ⟨P1.heap.size, 0, none⟩) (by show P1.heap.size < W.heap.size; omega)).trans (i3.cell 0), (hpm.cell (p := ⟨P1.heap.size + 1, 0, none⟩) (by show P1.heap.size + 1 < W.heap.size; omega)).trans (i4.cell 0)⟩, q2.at8.below hpm (by show _ < W.heap.size; omega)⟩
    refine HK6.out _ _ hS2 fun _ => ?_
    obtain ⟨nb, hnb⟩ : ∃ nb : Blk, nb = ⟨pmB x.2.1 s.1 x1, pmB_ok x.2.2 s.2 hxb1⟩ := ⟨_, rfl⟩
    have hbk : bk (pmB x.2.1 s.1 x1) = .agg (bcs nb.1) := by rw [hnb]; rfl
    have hst : stepB x1 s x = nb := by rw [hnb]; exact Subtype.ext (by show pmB _ _ (x1 % 256) = _; rw [Nat.mod_eq_of_lt hxb1])
    rw [hbk]
    have j1 := i1.below hpm (show _ < W.heap.size from hlG)
    have j2 := i2.below hpm (show _ < W.heap.size from i2.lt)
    have j3 := i3.below hpm (show _ < W.heap.size from i3.lt)
    have j4 := i4.below hpm (show _ < W.heap.size from i4.lt)
    have th : w'.there (w.heap.size + 1) (1 * 8) (bcs nb.1).size := by rw [bcs_size, nb.2.1]; exact j1.there3 (by decide)
    refine wpAnyH_take (i := 7) (v := .pointer (some ⟨w.heap.size + 1, 1 * 8, none⟩)) rfl (by kernel_rfl) (by kernel_rfl) (by kernel_rfl) (fun _ _ _ h => h) (Or.inl ⟨by rfl, by rintro w' ⟨⟨s1, s2⟩, s3⟩; go_simp⟩) hS2 ?_
    simp only [Act.put, List.setIfInBounds_toArray, List.set_cons_zero, List.set_cons_succ]
    refine wpAnyH_ready (rs := [8]) (by kernel_rfl) (by simp) ?_
    refine AllReadyH.cons rfl (fun K8 hK8 => ?_) AllReadyH.nil
    have HK8 := Lib.hid hK8
    clear hK8
    rw [if_pos (by rfl)]
    refine wp_store8 _ _ _ rfl _ _ nb.1 rfl rfl th (size8 nb.2.1) ?_
    have hS3 : (fun w' : World => (w'.cell? ⟨P1.heap.size, 0, none⟩ = some (.int .i64 1) ∧ w'.cell? ⟨P1.heap.size + 1, 0, none⟩ = some (.int .u8 (x1 : Int))) ∧ At8 w' Bx 0 x.2.1) (w'.setCells (w.heap.size + 1) (1 * 8) (nb.1.map bv)) := ⟨⟨(j3.otherCells (by omega) _ _).cell 0, (j4.otherCells (by omega) _ _).cell 0⟩, ((q2.below hpm (show _ < W.heap.size from hlB)).otherCells (by omega) _ _).at8⟩
    refine HK8.out _ _ hS3 fun _ => ?_
    refine wpAnyH_done (by kernel_rfl) ?_ _
    refine ⟨((ko_below hpm).trans (ko_setCells _ _ _ _)).from _, (Kpt.of_below (hpm.mono (show _ ≤ W.heap.size from i5))).setCells _ _, ⟨⟨?_, j2.otherCells (by omega) _ _⟩, j3.otherCells (by omega) _ _, j4.otherCells (by omega) _ _⟩, Nat.le_trans i5 (Nat.le_trans hpm.size (ko_setCells _ _ _ _).size), below_setCells (i6.trans (hpm.mono i6.size)) _ _ _ (by omega), i7.ko ((ko_below hpm).trans (ko_setCells _ _ _ _))⟩
    rw [hof_snoc, hs, hst]
    have := j1.put3 (j := 1) (by decide) nb
    rw [upd_upd] at this
    exact this
  case stop1 =>
    rintro D c pre W _ _ h _
    exact h.elim
  rintro D1 ys P2 hD1 rfl ⟨⟨⟨i1, i2⟩, i3, i4⟩, i5, i6, i7⟩ hK1
  have e1 : hof x1 (upto (fun j => (D.length - 1 - j, nth D hD (D.length - 1 - j))) D.length) = parS D hD 1 := by rw [← X1.out]; exact parS_of hD 1
  rw [e1] at i1
  have pS2 : w.heap.size + 2 ≤ P2.heap.size := by omega
  have PB2 := Lib.hid i6
  have PR2 := Lib.hid i2
  have PQ2 := Lib.hid i1
  have HE2 : Hid (Held [D1, D0] P2) := Lib.hid fun d hd => by
    rcases List.mem_cons.1 hd with rfl | hd
    · exact hK1
    · exact i7 d hd
  clear i1 i2 i3 i4 i5 i6 i7 bN1 bE1 bJ1 bR1 bQ1 hBw1 hH1 hB1 e1
  gi_wp2
  rw [roundsIn_succ]
  gi_wp2_with (first | (refine ⟨trivial, ?_⟩; gi_at_call 64; refine (callsIn_wide.2 (exp_any _ _)).mono ?_; rintro e w' ⟨rfl, rfl⟩) | (refine ⟨trivial, ?_⟩; gi_at_call 65; refine (callsIn_wide.2 (back_in _ _ _ _)).mono ?_; rintro e w' ⟨rfl, rfl⟩))
  obtain ⟨x2, hx2⟩ : ∃ x, Gf.gpow 2 (red 2) = x := ⟨_, rfl⟩
  rw [hx2]
  have hxb2 : x2 < 256 := by rw [← hx2]; exact Gf.gpow_lt _ _ (by decide)
  have X2 := Lib.hid hx2
  clear hx2
  have bJ2 := ((row_new P2 #[.int .i64 2] 3).alloc (.cells #[.int .u8 (x2 : Int)] 5)).alloc (.cells #[.slice (some ⟨b, off, none⟩) n cap] 31)
  have bE2 := (row_at (w := P2.alloc (.cells #[.int .i64 2] 3)) (k := P2.heap.size + 1) (by simp) #[.int .u8 (x2 : Int)] 5).alloc (.cells #[.slice (some ⟨b, off, none⟩) n cap] 31)
  have bN2 := row_at (w := (P2.alloc (.cells #[.int .i64 2] 3)).alloc (.cells #[.int .u8 (x2 : Int)] 5)) (k := P2.heap.size + 2) (by simp) #[.slice (some ⟨b, off, none⟩) n cap] 31
  have hB2 : Below P2.heap.size P2 (((P2.alloc (.cells #[.int .i64 2] 3)).alloc (.cells #[.int .u8 (x2 : Int)] 5)).alloc (.cells #[.slice (some ⟨b, off, none⟩) n cap] 31)) := (((Below.refl P2.heap.size P2).alloc (Nat.le_refl _) _).alloc (by simp) _).alloc (by simp; omega) _
  have hsz2 : (((P2.alloc (.cells #[.int .i64 2] 3)).alloc (.cells #[.int .u8 (x2 : Int)] 5)).alloc (.cells #[.slice (some ⟨b, off, none⟩) n cap] 31)).heap.size = P2.heap.size + 3 := by simp
  obtain ⟨W2, hW2⟩ : ∃ W2, ((P2.alloc (.cells #[.int .i64 2] 3)).alloc (.cells #[.int .u8 (x2 : Int)] 5)).alloc (.cells #[.slice (some ⟨b, off, none⟩) n cap] 31) = W2 := ⟨_, rfl⟩
  rw [hW2] at bJ2 bE2 bN2 hB2 hsz2 ⊢
  clear hW2
  have hBw2 : Below w.heap.size w W2 := PB2.out.trans (hB2.mono PB2.out.size)
  have bR2 : Row W2 w.heap.size 49 (bcs (cat3 fun _ => zeroB)) := PR2.out.below hB2 (by omega)
  have bQ2 : Row W2 (w.heap.size + 1) 49 (bcs (cat3 (upd (upd (fun _ => zeroB) 0 (parS D hD 0)) 1 (parS D hD 1)))) := PQ2.out.below hB2 (by omega)
  have hH2 : Held [D1, D0] W2 := HE2.out.ko (ko_below hB2)
  refine wpIn_rangeFunc_ownH rfl (by omega) (gf := 72) (lb := #[.pointer (some ⟨P2.heap.size + 2, 0, none⟩)]) rfl trivial (enters_of Try.func72 (by kernel_rfl) rfl)
    (back_stops (P2.heap.size + 3) (w.heap.size + 1) (P2.heap.size + 2) b off cap D hD (by rw [HN.out]; omega) W2 (by omega) (by omega) (by omega) (by omega) (by omega) (by rw [bN2.cell, HN.out]; rfl) (fun j u hu => by have := HI.out j u hu; exact (hBw2.cell (p := ⟨b, off + j, none⟩) hb).trans this)) Kpt.trans (Kpt.put (w := W2) (by omega)) (Below.refl _ _) (fun _ => rfl)
    (fun pre W => ((Row W (w.heap.size + 1) 49 (bcs (cat3 (upd (upd (upd (fun _ => zeroB) 0 (parS D hD 0)) 1 (parS D hD 1)) 2 (hof x2 pre)))) ∧ Row W w.heap.size 49 (bcs (cat3 fun _ => zeroB))) ∧ (Row W P2.heap.size 3 #[.int .i64 2] ∧ Row W (P2.heap.size + 1) 5 #[.int .u8 (x2 : Int)])) ∧ (P2.heap.size + 3 ≤ W.heap.size ∧ (Below w.heap.size w W ∧ Held [D1, D0] W)))
    (fun _ _ _ => False)
    (OwnFrom.and (OwnFrom.and (OwnFrom.and (Row.ownFrom _ _ _ _) (Row.ownFrom _ _ _ _)) (OwnFrom.and (Row.ownFrom _ _ _ _) (Row.ownFrom _ _ _ _))) (OwnFrom.and (size_ownFrom _ _) (OwnFrom.and (ownFrom_below (Nat.le_refl _) (by omega)) (held_ownFrom _ _ _ hH2 (by omega)))))
    (fun _ _ _ _ _ hs _ _ => hs)
    ⟨⟨⟨by rw [upd_zero rfl]; exact bQ2, bR2⟩, bJ2, bE2⟩, by omega, hBw2, hH2⟩
    (fun x a' W => ∃ Bx, P2.heap.size + 3 ≤ Bx ∧ Row W Bx 33 (bcs x.2.1) ∧ a' = { tmps := #[.slice (some ⟨b, off, none⟩) n cap, undef, .pointer (some ⟨w.heap.size, 0, none⟩), .pointer (some ⟨w.heap.size + 1, 0, none⟩), .pointer (some ⟨P2.heap.size, 0, none⟩), .pointer (some ⟨P2.heap.size + 1, 0, none⟩), undef, .pointer (some ⟨Bx, 0, none⟩), .int .i64 2, .bool true, .int .i64 2, .int .i64 2, .int .u8 (x2 : Int), .slice (some ⟨b, off, none⟩) n cap, .func (.func 72) #[] #[.pointer (some ⟨P2.heap.size + 2, 0, none⟩)], .int .i64 (x.1 : Int), .agg (bcs x.2.1), undef, undef, undef, undef, undef, undef, undef, undef, .int .i64 2, undef], defers := [] })
    (fun x a' _ X Y row hs hg hr => by obtain ⟨Bx, h1, h2, h3⟩ := hs; exact ⟨Bx, h1, (grownBy_keeps_cells hg (fun r e => (hr r e).2) h2 rfl).trans h2, h3⟩)
    ?assign2 ?body2 ?done2 ?stop2
  case assign2 =>
    rintro l pre x W K ⟨⟨⟨i1, i2⟩, i3, i4⟩, i5, i6, i7⟩ hK
    have rn := row_new W #[.int .u8 0, .int .u8 0, .int .u8 0, .int .u8 0, .int .u8 0, .int .u8 0, .int .u8 0, .int .u8 0] 33
    have th := Lib.hid (rn.there (n := (bcs x.2.1).size) (by rw [bcs_size, x.2.2.1]; exact Nat.le_refl _))
    have si := Lib.hid (size8 x.2.2.1)
    have RN := Lib.hid (rn.put rfl x.2.2.1)
    clear rn
    unfold enc2
    gi_wp2_with (refine wpListIn_store8 rfl _ _ _ rfl _ 0 _ rfl rfl th.out si.out ?_)
    exact hK _ _ (((KeepsOthers.alloc _ _).trans (ko_setCells _ _ _ _)).from _) (Kpt.of_below (below_setCells ((Below.refl _ W).alloc i5 _) _ _ _ i5))
      ⟨⟨⟨(i1.alloc _).otherCells (by omega) _ _, (i2.alloc _).otherCells (by omega) _ _⟩, (i3.alloc _).otherCells (by omega) _ _, (i4.alloc _).otherCells (by omega) _ _⟩, Nat.le_trans i5 (((KeepsOthers.alloc W _).trans (ko_setCells _ _ _ _)).size), below_setCells (i6.alloc i6.size _) _ _ _ (by omega), i7.ko ((KeepsOthers.alloc W _).trans (ko_setCells _ _ _ _))⟩ ⟨W.heap.size, i5, RN.out, rfl⟩
  case body2 =>
    rintro l pre x a' W hl hrec ⟨⟨⟨i1, i2⟩, i3, i4⟩, i5, i6, i7⟩ ⟨Bx, q1, q2, rfl⟩ hlt
    gi_wp2_with fail
    obtain ⟨s, hs⟩ : ∃ s, hof x2 pre = s := ⟨_, rfl⟩
    rw [hs] at i1
    have a1 : At8 W (w.heap.size + 1) (2 * 8) s.1 := i1.at3 (by decide)
    have hS : (fun w' : World => (w'.cell? ⟨P2.heap.size, 0, none⟩ = some (.int .i64 2) ∧ w'.cell? ⟨P2.heap.size + 1, 0, none⟩ = some (.int .u8 (x2 : Int))) ∧ At8 w' Bx 0 x.2.1) W.drew := ⟨⟨i3.cell 0, i4.cell 0⟩, q2.at8⟩
    refine region_round (S := fun w' : World => (w'.cell? ⟨P2.heap.size, 0, none⟩ = some (.int .i64 2) ∧ w'.cell? ⟨P2.heap.size + 1, 0, none⟩ = some (.int .u8 (x2 : Int))) ∧ At8 w' Bx 0 x.2.1) (by rintro ⟨a, w, h⟩; exact h) (by kernel_rfl) rfl ?_
    refine wpAnyH_take (i := 0) (v := .int .i64 2) rfl (by kernel_rfl) (by kernel_rfl) (by kernel_rfl) (fun _ _ _ h => h) (Or.inl ⟨by rfl, by rintro w' ⟨⟨s1, s2⟩, s3⟩; go_simp⟩) hS ?_
    simp only [Act.put, List.setIfInBounds_toArray, List.set_cons_zero, List.set_cons_succ]
    refine wpAnyH_take (i := 1) (v := .agg (bcs x.2.1)) rfl (by kernel_rfl) (by kernel_rfl) (by kernel_rfl) (fun _ _ _ h => h) (yieldsIf_load8 (by rfl) _ _ rfl _ _ rfl _ _ (fun w' h => h.2) Try.underlying33 rfl (size8 x.2.2.1)) hS ?_
    simp only [Act.put, List.setIfInBounds_toArray, List.set_cons_zero, List.set_cons_succ]
    refine wpAnyH_take (i := 2) (v := .int .i64 2) rfl (by kernel_rfl) (by kernel_rfl) (by kernel_rfl) (fun _ _ _ h => h) (Or.inl ⟨by rfl, by rintro w' ⟨⟨s1, s2⟩, s3⟩; go_simp⟩) hS ?_
    simp only [Act.put, List.setIfInBounds_toArray, List.set_cons_zero, List.set_cons_succ]
    refine wpAnyH_take (i := 3) (v := .pointer (some ⟨w.heap.size + 1, 2 * 8, none⟩)) rfl (by kernel_rfl) (by kernel_rfl) (by kernel_rfl) (fun _ _ _ h => h) (Or.inl ⟨by rfl, by rintro w' ⟨⟨s1, s2⟩, s3⟩; go_simp⟩) hS ?_
    simp only [Act.put, List.setIfInBounds_toArray, List.set_cons_zero, List.set_cons_succ]
    refine wpAnyH_take (i := 5) (v := .int .u8 (x2 : Int)) rfl (by kernel_rfl) (by kernel_rfl) (by kernel_rfl) (fun _ _ _ h => h) (Or.inl ⟨by rfl, by rintro w' ⟨⟨s1, s2⟩, s3⟩; go_simp⟩) hS ?_
    simp only [Act.put, List.setIfInBounds_toArray, List.set_cons_zero, List.set_cons_succ]
    refine wpAnyH_ready (rs := [4]) (by kernel_rfl) (by simp) ?_
    refine AllReadyH.cons rfl (fun K4 hK4 => ?_) AllReadyH.nil
    have HK4 := Lib.hid hK4
    clear hK4
    rw [if_pos (by rfl)]
    refine wp_load8 _ _ rfl _ _ rfl s.1 _ a1 Try.underlying33 rfl (size8 s.2.1) ?_
    refine HK4.out _ _ hS fun _ => ?_
    simp only [Act.put, List.setIfInBounds_toArray, List.set_cons_zero, List.set_cons_succ]
    refine wpAnyH_ready (rs := [6]) (by kernel_rfl) (by simp) ?_
    refine AllReadyH.cons rfl (fun K6 hK6 => ?_) AllReadyH.nil
    have HK6 := Lib.hid hK6
    clear hK6
    rw [if_pos (by rfl)]
    go_simp
    go_at_call 66
    refine (pm_any x.2.1 s.1 x2 _ x.2.2 s.2 hxb2).mono ?_
    rintro e w' ⟨rfl, hpm⟩
    have hpm := (Below.refl W.heap.size W).drew.trans hpm
    have hlB := q2.lt
    have hlP := i4.lt
    have hlG := i1.lt
    have hS2 : (fun w' : World => (w'.cell? ⟨P2.heap.size, 0, none⟩ = some (.int .i64 2) ∧ w'.cell? ⟨P2.heap.size + 1, 0, none⟩ = some (.int .u8 (x2 : Int))) ∧ At8 w' Bx 0 x.2.1) w' := ⟨⟨(hpm.cell (p := ⟨P2.heap.size, 0, none⟩) (by show P2.heap.size < W.heap.size; omega)).trans (i3.cell 0), (hpm.cell (p := ⟨P2.heap.size + 1, 0, none⟩) (by show P2.heap.size + 1 < W.heap.size; omega)).trans (i4.cell 0)⟩, q2.at8.below hpm (by show _ < W.heap.size; omega)⟩
    refine HK6.out _ _ hS2 fun _ => ?_
    obtain ⟨nb, hnb⟩ : ∃ nb : Blk, nb = ⟨pmB x.2.1 s.1 x2, pmB_ok x.2.2 s.2 hxb2⟩ := ⟨_, rfl⟩
    have hbk : bk (pmB x.2.1 s.1 x2) = .agg (bcs nb.1) := by rw [hnb]; rfl
    have hst : stepB x2 s x = nb := by rw [hnb]; exact Subtype.ext (by show pmB _ _ (x2 % 256) = _; rw [Nat.mod_eq_of_lt hxb2])
    rw [hbk]
    have j1 := i1.below hpm (show _ < W.heap.size from hlG)
    have j2 := i2.below hpm (show _ < W.heap.size from i2.lt)
    have j3 := i3.below hpm (show _ < W.heap.size from i3.lt)
    have j4 := i4.below hpm (show _ < W.heap.size from i4.lt)
    have th : w'.there (w.heap.size + 1) (2 * 8) (bcs nb.1).size := by rw [bcs_size, nb.2.1]; exact j1.there3 (by decide)
    refine wpAnyH_take (i := 7) (v := .pointer (some ⟨w.heap.size + 1, 2 * 8, none⟩)) rfl (by kernel_rfl) (by kernel_rfl) (by kernel_rfl) (fun _ _ _ h => h) (Or.inl ⟨by rfl, by rintro w' ⟨⟨s1, s2⟩, s3⟩; go_simp⟩) hS2 ?_
    simp only [Act.put, List.setIfInBounds_toArray, List.set_cons_zero, List.set_cons_succ]
    refine wpAnyH_ready (rs := [8]) (by kernel_rfl) (by simp) ?_
    refine AllReadyH.cons rfl (fun K8 hK8 => ?_) AllReadyH.nil
    have HK8 := Lib.hid hK8
    clear hK8
    rw [if_pos (by rfl)]
    refine wp_store8 _ _ _ rfl _ _ nb.1 rfl rfl th (size8 nb.2.1) ?_
    have hS3 : (fun w' : World => (w'.cell? ⟨P2.heap.size, 0, none⟩ = some (.int .i64 2) ∧ w'.cell? ⟨P2.heap.size + 1, 0, none⟩ = some (.int .u8 (x2 : Int))) ∧ At8 w' Bx 0 x.2.1) (w'.setCells (w.heap.size + 1) (2 * 8) (nb.1.map bv)) := ⟨⟨(j3.otherCells (by omega) _ _).cell 0, (j4.otherCells (by omega) _ _).cell 0⟩, ((q2.below hpm (show _ < W.heap.size from hlB)).otherCells (by omega) _ _).at8⟩
    refine HK8.out _ _ hS3 fun _ => ?_
    refine wpAnyH_done (by kernel_rfl) ?_ _
    refine ⟨((ko_below hpm).trans (ko_setCells _ _ _ _)).from _, (Kpt.of_below (hpm.mono (show _ ≤ W.heap.size from i5))).setCells _ _, ⟨⟨?_, j2.otherCells (by omega) _ _⟩, j3.otherCells (by omega) _ _, j4.otherCells (by omega) _ _⟩, Nat.le_trans i5 (Nat.le_trans hpm.size (ko_setCells _ _ _ _).size), below_setCells (i6.trans (hpm.mono i6.size)) _ _ _ (by omega), i7.ko ((ko_below hpm).trans (ko_setCells _ _ _ _))⟩
    rw [hof_snoc, hs, hst]
    have := j1.put3 (j := 2) (by decide) nb
    rw [upd_upd] at this
    exact this
  case stop2 =>
    rintro D c pre W _ _ h _
    exact h.elim
  rintro D2 ys P3 hD2 rfl ⟨⟨⟨i1, i2⟩, i3, i4⟩, i5, i6, i7⟩ hK2
  have e2 : hof x2 (upto (fun j => (D.length - 1 - j, nth D hD (D.length - 1 - j))) D.length) = parS D hD 2 := by rw [← X2.out]; exact parS_of hD 2
  rw [e2] at i1
  have pS3 : w.heap.size + 2 ≤ P3.heap.size := by omega
  have PB3 := Lib.hid i6
  have PR3 := Lib.hid i2
  have PQ3 := Lib.hid i1
  have HE3 : Hid (Held [D2, D1, D0] P3) := Lib.hid fun d hd => by
    rcases List.mem_cons.1 hd with rfl | hd
    · exact hK2
    · exact i7 d hd
  clear i1 i2 i3 i4 i5 i6 i7 bN2 bE2 bJ2 bR2 bQ2 hBw2 hH2 hB2 e2
  gi_wp2
  rw [roundsIn_succ]
  have ec : cat3 (upd (upd (upd (fun _ => zeroB) 0 (parS D hD 0)) 1 (parS D hD 1)) 2 (parS D hD 2)) = cat3 (parS D hD) := rfl
  have r3 := PQ3.out
  rw [ec] at r3
  obtain ⟨L, hL⟩ : ∃ L, cat3 (parS D hD) = L := ⟨_, rfl⟩
  have hL24 : L.length = 24 := by rw [← hL]; exact cat3_len _
  rw [hL] at r3
  have HL := Lib.hid hL
  have h24 : bcs (cat3 fun _ => zeroB) = bcs (cat3 fun _ => zeroB) := rfl
  have R2 := PR3.out
  have th := Lib.hid (R2.there (n := (bcs L).size) (by rw [bcs_size, bcs_size, cat3_len, hL24]; exact Nat.le_refl _))
  have si : Hid ((Try.prog.info? 49).map (·.size) = some (bcs L).size) := Lib.hid (by rw [bcs_size, hL24]; kernel_rfl)
  have RA := Lib.hid r3.at8
  clear h24 R2 r3 ec hL hL24
  gi_wp2_with (first | (refine wpListIn_load8 rfl _ _ rfl _ _ rfl _ _ RA.out Try.underlying49 rfl si.out ?_) | (refine wpListIn_store8 rfl _ _ _ rfl _ 0 _ rfl rfl th.out si.out ?_))
  have q0 := (HE3.out.ko (ko_setCells P3 w.heap.size (L.map bv) 0))
  have R4 : Row (P3.setCells w.heap.size 0 (L.map bv)) w.heap.size 49 (bcs L) := by
    obtain ⟨cs', h1, h2, h3⟩ := PR3.out.puts (vs := L.map bv) (o := 0)
    have hL : L.length = 24 := by rw [← HL.out]; exact cat3_len _
    rw [bcs_size, cat3_len] at h2 h3
    have : cs' = bcs L := by
      refine Array.ext_getElem? fun i => ?_
      rcases Nat.lt_or_ge i 24 with hi | hi
      · rw [h3 i hi, if_pos (by simp; omega), bcs_at (by omega), Nat.sub_zero]; exact getD_bv (by omega)
      · rw [Array.getElem?_eq_none (by omega), Array.getElem?_eq_none (by rw [bcs_size]; omega)]
    rw [← this]; exact h1
  have B4 : Below w.heap.size w (P3.setCells w.heap.size 0 (L.map bv)) := below_setCells PB3.out _ _ _ (Nat.le_refl _)
  have l0 := (Array.getElem?_eq_some_iff.1 hK0).1
  have l1 := (Array.getElem?_eq_some_iff.1 hK1).1
  refine leaves_held [D2, D1, D0] _ ?_ q0 fun w' hs hk => ?_
  · simp; omega
  have R5 : Row w' w.heap.size 49 (bcs L) := (hk _ (by simp; omega)).trans R4
  refine ⟨_, results_cell_row (g := w.heap.size) (t := 49) (fr := (0, 0)) rfl _ _ _ _ rfl R5 Try.underlying49 rfl si.out, hD, by rw [HL.out], ?_⟩
  exact B4.trans (hs _ B4.size (by simp; omega))

end Go.Proofs.Ytheijobnmdbodaa
