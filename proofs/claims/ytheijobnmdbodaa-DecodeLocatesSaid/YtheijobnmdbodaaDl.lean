/- The laws' helpers group and marks; the examples of the document hold: 'awake' answers true. WRITTEN BY gen_Dl.py. -/
import Derived.Test.YtheijobnmdbodaaDk
import Derived.Test.YtheijobnmdbodaaDg
import Derived.Test.YtheijobnmdbodaaGH
import Derived.Test.YtheijobnmdbodaaGI
namespace Go.Proofs.Ytheijobnmdbodaa
open Go Go.RowKit Lin
set_option linter.unusedVariables false
set_option linter.unusedSimpArgs false

theorem OwnB.low {w : World} {base base' : Nat} {v : Value} {D : List (List Nat)} (h : OwnB w base v D) (hb : base' ≤ base) : OwnB w base' v D := by
  obtain ⟨h1, h2, h⟩ := h
  rcases h with h | ⟨g, cap, cur, rfl, hg, h⟩
  · exact ⟨h1, h2, .inl h⟩
  · exact ⟨h1, h2, .inr ⟨g, cap, cur, rfl, by omega, h⟩⟩
def ownPost (D : List (List Nat)) (w : World) (e : Ending) (w' : World) : Prop := ∃ v, e = .returned v ∧ OwnB w' w.heap.size v D ∧ Below w.heap.size w w'
set_option maxHeartbeats 1000000 in
set_option maxRecDepth 100000 in
theorem groupo_any (v : Value) (D : List (List Nat)) (w : World) (h : Bl w v D) (h13 : D.length ≤ 200) :
    Calls Try.prog 25 #[v] w (ownPost (D ++ parL D) w) := by
  have RP := Lib.hid (fun w' (hb : Below w.heap.size w w') => rparity_any v D w' (h.below hb (Nat.le_refl _)) h13)
  have HV := Lib.hid h
  obtain ⟨A, c, rfl⟩ := h.form
  obtain ⟨n, hn⟩ : ∃ n, D.length = n := ⟨_, rfl⟩
  have N := Lib.hid hn
  rw [hn] at h13 RP HV ⊢
  clear h hn
  go_enter Try.func25, Try.ntmps25
  have L1 : Hid (([] : List (List Nat)).length + D.length ≤ 1000) := Lib.hid (by rw [N.out]; simp; omega)
  have L2 : Hid (([] ++ D : List (List Nat)).length + (parL D).length ≤ 1000) := Lib.hid (by rw [List.nil_append, N.out]; simp [parL]; omega)
  go_wp2_with (first
    | (at_builtin; refine wpList_append_bl rfl (.tmp 3) (.tmp 4) rfl w.heap.size (.slice (some ⟨w.heap.size, 0, none⟩) 0 0) (.slice A n c) [] D rfl (OwnB.new (Nat.le_refl _)) rfl (HV.out.alloc _) L1.out (by simp) ?_
       intro x0 w2 ho hg
       have HO := Lib.hid ho
       have HB : Hid (Below w.heap.size w w2) := Lib.hid (((Below.refl w.heap.size w).alloc (Nat.le_refl _) _).grown hg (by simp) (fun k e => by cases e; exact Nat.le_refl _))
       clear ho hg)
    | (go_at_call 43; refine (RP.out _ HB.out).mono ?_; rintro e w3 ⟨rfl, hr, hb⟩
       have HO3 := Lib.hid (HO.out.below hb (Nat.le_refl _))
       have HB3 := Lib.hid (HB.out.trans (hb.mono HB.out.size))
       have HR := Lib.hid (Bl.par hr)
       clear hr hb)
    | (at_builtin; refine wpList_append_bl rfl (.tmp 5) (.tmp 7) rfl w.heap.size x0 (.slice (some ⟨w2.heap.size, 0, none⟩) 3 3) ([] ++ D) (parL D) rfl HO3.out rfl HR.out L2.out HB3.out.size ?_
       intro x4 w4 ho hg
       have HO4 := Lib.hid ho
       have HB4 : Hid (Below w.heap.size w w4) := Lib.hid (HB3.out.grown hg HB3.out.size (fun k e => (HO3.out.lt k e).1))
       clear ho hg))
  go_ret
  exact ⟨_, rfl, HO4.out, HB4.out⟩


/-- The group of the first m data pieces. -/
def grpG (D : List (List Nat)) (m : Nat) : List (List Nat) := D.take m ++ parL (D.take m)
theorem grpG_len {D : List (List Nat)} {m : Nat} (h : m ≤ D.length) : (grpG D m).length = m + 3 := by simp [grpG, parL]; omega
theorem grpG_ok {D : List (List Nat)} (hD : ∀ d ∈ D, B8 d) (m : Nat) : ∀ d ∈ grpG D m, B8 d := fun d hd => (List.mem_append.1 hd).elim (fun h => hD d (List.mem_of_mem_take h)) (parL_ok _ d)
def lgPost (G : List (List Nat)) (N : Nat) (w : World) (e : Ending) (w' : World) : Prop := ∃ g c, e = .returned (.slice (some ⟨g, 0, none⟩) N c) ∧ OwnB w' w.heap.size (.slice (some ⟨g, 0, none⟩) N c) G ∧ w.heap.size ≤ g ∧ Below w.heap.size w w'
set_option maxHeartbeats 1000000 in
set_option maxRecDepth 100000 in
theorem lgroup_any (D : List (List Nat)) (a m : Nat) (w : World) (h : D.length = 13) (hD : ∀ d ∈ D, B8 d) (ha : a < 256) (hm : m = 1 + a % 13) : Calls Try.prog 17 #[.agg (bcs D.flatten), .int .u8 (a : Int)] w (lgPost (grpG D m) (m + 3) w) := by
  have e1 : (1 + (a : Int) % 13) = (m : Int) := by omega
  have hm1 : m ≤ 13 := by omega
  have hm0 : 1 ≤ m := by omega
  have tl : (D.take m).length = m := by rw [List.length_take]; omega
  have TL := Lib.hid tl
  have HD := Lib.hid hD
  have HL := Lib.hid h
  have hrow : Bl (w.alloc (.cells (bcs D.flatten) 38)) (.slice (some ⟨w.heap.size, 0, none⟩) 13 13) D := Bl.of_row (row_new w _ _) hD h (Nat.le_refl _) (by decide)
  have HR := Lib.hid (hrow.head hm1)
  obtain ⟨cs, hcs⟩ : ∃ cs, bcs D.flatten = cs := ⟨_, rfl⟩
  rw [hcs] at HR ⊢
  have e2 : ((a : Int) % 13) = ((a % 13 : Nat) : Int) := by omega
  have hmI : (m : Int) ≤ 13 := by omega
  have hmI0 : (0 : Int) ≤ (m : Int) := by omega
  clear hcs hrow tl h hD hm e2
  go_enter Try.func17, Try.ntmps17
  go_wp2_with fail
  refine (groupo_any _ (D.take m) _ HR.out (by rw [TL.out]; omega)).mono ?_
  rintro e w2 ⟨v, rfl, ho, hb⟩
  have ho := ho.low (base' := w.heap.size) (by simp)
  have hl : (D.take m ++ parL (D.take m)).length = m + 3 := by rw [List.length_append, TL.out]; rfl
  obtain ⟨g, c, rfl, hg, -⟩ := ho.form (by omega)
  rw [hl] at ho ⊢
  have HO := Lib.hid (And.intro ho (And.intro hg (al1 hb)))
  clear ho hl hg hb
  go_wp2_with fail
  go_ret
  exact ⟨g, c, rfl, HO.out⟩

/-- Which pieces are marked, by the first k numbers. -/
def mkF (N : Nat) (K : List Nat) (k i : Nat) : Bool := (List.range k).any fun j => decide (K.getD j 0 < 240) && decide (K.getD j 0 % N = i)
theorem mkF_succ (N : Nat) (K : List Nat) (k i : Nat) : mkF N K (k + 1) i = (mkF N K k i || (decide (K.getD k 0 < 240) && decide (K.getD k 0 % N = i))) := by
  unfold mkF; rw [List.range_succ, List.any_append]; simp
def mkL (N : Nat) (K : List Nat) : List Bool := (List.range N).map (mkF N K 3)
theorem mkL_at {N : Nat} {K : List Nat} {i : Nat} (h : i < N) : (mkL N K).getD i false = mkF N K 3 i := range_getD _ _ _ _ h
theorem mkL_len (N : Nat) (K : List Nat) : (mkL N K).length = N := by simp [mkL]
theorem filter_le_one (N x : Nat) : ((List.range N).filter fun i => decide (x = i)).length ≤ 1 := by
  induction N with
  | zero => exact Nat.zero_le _
  | succ N ih =>
    rw [List.range_succ, List.filter_append, List.length_append]
    by_cases e : x = N
    · have : (List.range N).filter (fun i => decide (x = i)) = [] := List.filter_eq_nil_iff.2 fun i hi => by have := List.mem_range.1 hi; simp; omega
      rw [this, List.filter_cons, List.filter_nil]
      split <;> simp
    · rw [List.filter_cons, List.filter_nil, if_neg (by simpa using e)]; simpa using ih
theorem cnt_mk (N : Nat) (K : List Nat) : ∀ k, ((List.range N).filter (mkF N K k)).length ≤ k
  | 0 => by
    have : (List.range N).filter (mkF N K 0) = [] := List.filter_eq_nil_iff.2 fun i _ => by simp [mkF]
    rw [this]; exact Nat.le_refl 0
  | k + 1 => by
    have ih := cnt_mk N K k
    have h1 := filter_le_one N (K.getD k 0 % N)
    have hs := mkF_succ N K k
    generalize K.getD k 0 = x at h1 hs
    have h2 : ∀ l : List Nat, (l.filter (mkF N K (k + 1))).length ≤ (l.filter (mkF N K k)).length + (l.filter fun i => decide (x % N = i)).length := by
      intro l
      induction l with
      | nil => exact Nat.le_refl 0
      | cons y l ihl =>
        rw [List.filter_cons, List.filter_cons, List.filter_cons, hs]
        cases mkF N K k y <;> cases decide (x < 240) <;> cases decide (x % N = y) <;> simp only [Bool.or_true, Bool.or_false, Bool.and_true, Bool.and_false, if_true, if_false, List.length_cons, Bool.false_eq_true] <;> omega
    have := h2 (List.range N)
    omega
theorem cntL_mk (N : Nat) (K : List Nat) : cntL (mkL N K) N ≤ 3 := by
  have : ((List.range N).filter fun i => (mkL N K).getD i false) = (List.range N).filter (mkF N K 3) := List.filter_congr fun i hi => mkL_at (List.mem_range.1 hi)
  unfold cntL
  rw [this]
  exact cnt_mk N K 3
theorem bos_of_row {w : World} {g N : Nat} {f : Nat → Bool} (h : w.rowIs g 4 N (fun i => .bool (f i))) (hN : N ≤ maxLen) : Bos w (.slice (some ⟨g, 0, none⟩) N N) ((List.range N).map f) := by
  refine ⟨_, N, by simp, ⟨by simp, hN⟩, fun h => (by cases h), fun hn => ⟨g, 0, rfl, fun k hk => ?_⟩⟩
  have hk' : k < N := by simpa using hk
  refine ⟨_, by rw [Nat.zero_add]; exact h.cell hk', ?_⟩
  simp [Bb]
theorem info_bool : (Try.prog.info? 4).map (fun i => (i.zero, i.size, i.bytes)) = some (some (.bool false), 1, 1) := by kernel_rfl
def mkPost (N : Nat) (K : List Nat) (w : World) (e : Ending) (w' : World) : Prop := e = .returned (.slice (some ⟨w.heap.size + 1, 0, none⟩) N N) ∧ w'.rowIs (w.heap.size + 1) 4 N (fun i => .bool (mkF N K 3 i)) ∧ Below w.heap.size w w'
set_option maxHeartbeats 1000000 in
set_option maxRecDepth 100000 in
theorem marks_any (N : Nat) (K : List Nat) (w : World) (h4 : 4 ≤ N) (h16 : N ≤ 16) (hK : K.length = 3) (hb : ∀ x ∈ K, x < 256) : Calls Try.prog 18 #[.int .i64 (N : Int), .agg (bcs K)] w (mkPost N K w) := by
  have hmk := run_make_row' (P := Try.prog) 41 4 _ _ Try.underlying41 info_bool rfl .i64 .i64 N (by omega) (by omega)
  have RK := Lib.hid (row_new w (bcs K) 39)
  have KL := Lib.hid hK
  have KB := Lib.hid (getD_bytes hb)
  obtain ⟨cs, hcs⟩ : ∃ cs, bcs K = cs := ⟨_, rfl⟩
  have CS := Lib.hid hcs
  rw [hcs] at RK ⊢
  clear hcs hK hb
  go_enter Try.func18, Try.ntmps18
  go_wp2_with fail
  go_loopw [6] (fun q wr => ∃ k : Nat, k ≤ 3 ∧ q = .int .i64 (k : Int) ∧ Hid (Below w.heap.size w wr ∧ Row wr w.heap.size 39 cs ∧ wr.rowIs (w.heap.size + 1) 4 N (fun i => .bool (mkF N K k i)))) (fun q _ => 3 - (intOf q).toNat)
  case atStart =>
    refine ⟨0, Nat.zero_le _, rfl, Lib.hid ⟨((Below.refl w.heap.size w).alloc (Nat.le_refl _) _).alloc (by simp) _, RK.out.alloc _, ?_⟩⟩
    have := World.rowIs_made (w.alloc (.cells cs 39)) (.bool false) N 4
    rw [World.size_alloc] at this
    exact this.congr fun i _ => by simp [mkF]
  case round =>
    obtain ⟨k, hk, rfl, H⟩ := hrel
    by_cases hlt : k < 3
    · have hkI : (k : Int) < 3 := by omega
      have c1 := H.out.2.1.cell k
      rw [← CS.out, bcs_at (by rw [KL.out]; exact hlt)] at c1
      have hx2 := KB.out k
      have MS := Lib.hid fun i => mkF_succ N K k i
      obtain ⟨x, hx⟩ : ∃ x, K.getD k 0 = x := ⟨_, rfl⟩
      rw [hx] at c1 hx2 MS
      clear hx
      by_cases h240 : x < 240
      · have g0 : decide ((x : Int) < 240) = true := by simp; omega
        have e1 : (x : Int) % (N : Int) = ((x % N : Nat) : Int) := (Int.natCast_emod x N).symm
        obtain ⟨y, hy⟩ : ∃ y, x % N = y := ⟨_, rfl⟩
        have hyN : y < N := by rw [← hy]; exact Nat.mod_lt _ (by omega)
        rw [hy] at e1 MS
        have hyI : (y : Int) < (N : Int) := by omega
        have hyI0 : (0 : Int) ≤ (y : Int) := by omega
        have hNz : ((N : Int) == 0) = false := by simp; omega
        have hN0 : ¬ ((N : Int) = 0) := by omega
        have q1 := H.out.2.2.cell hyN
        have q2 := H.out.2.2.frozen y
        have MT : Hid (∀ i, mkF N K (k + 1) i = (mkF N K k i || decide (y = i))) := Lib.hid fun i => by rw [MS.out i]; simp [h240]
        clear hy MS
        go_wp2
        go_roundw
        case rel =>
          refine ⟨k + 1, by omega, by go_num, Lib.hid ⟨H.out.1.setCell (show w.heap.size ≤ w.heap.size + 1 by omega) _, H.out.2.1.other (by omega) _ _, (H.out.2.2.set y _).congr fun i hi => ?_⟩⟩
          rw [MT.out i]
          by_cases e : i = y
          · rw [if_pos e, e]; simp
          · rw [if_neg e, decide_eq_false (fun h => e h.symm), Bool.or_false]
        case measure => simp [intOf]; omega
      · have g0 : decide ((x : Int) < 240) = false := by simp; omega
        have MT : Hid (∀ i, mkF N K (k + 1) i = mkF N K k i) := Lib.hid fun i => by rw [MS.out i]; simp [h240]
        clear MS
        go_wp2
        go_roundw
        case rel => exact ⟨k + 1, by omega, by go_num, Lib.hid ⟨H.out.1, H.out.2.1, H.out.2.2.congr fun i _ => by rw [MT.out i]⟩⟩
        case measure => simp [intOf]; omega
    · obtain rfl : k = 3 := by omega
      go_wp2
      go_ret
      exact ⟨rfl, H.out.2.2, H.out.1⟩

/-! The examples of the document -/
def wtsV (n p : Nat) (F : List Nat) : Prop := True
theorem wts_v (n N p : Nat) (F l : List Nat) (v : Value) (w : World) (hN : N = n + 3) (h1 : 1 ≤ n) (h13 : n ≤ 13) (h : Is w v (natsI F)) (hF : Cho n F) (hp : p < N) (hl : wtR n F p = l) : Calls Try.prog 12 #[.int .i64 (N : Int), v, .int .i64 (p : Int)] w (wtsPost l n w) := hl ▸ wts_ok n N p F v w hN h1 h13 h hF hp
theorem same01_b (v1 v2 : Value) (d s : List Nat) (b : Bool) (w : World) (h1 : Bs w v1 d) (h2 : Bs w v2 s) (hb : decide (d = s) = b) : Calls Try.prog 13 #[v1, v2] w (bPost (.bool b) w) :=
  (same_any v1 v2 d s w h1 h2).mono fun _ _ ⟨he, hw⟩ => ⟨by rw [he, hb], by rw [hw]; exact Below.refl _ _⟩
theorem is_lit2 (w : World) (x y : Nat) : Is (w.alloc (.cells #[.int .i64 (x : Int), .int .i64 (y : Int)] 3)) (.slice (some ⟨w.heap.size, 0, none⟩) 2 2) (natsI [x, y]) := by
  refine ⟨_, 2, rfl, ⟨Nat.le_refl 2, by decide⟩, fun h => (by cases h), fun _ => ⟨w.heap.size, 0, rfl, fun k hk => ?_⟩⟩
  rw [cell_of_row _ _ _ _ _ _ (heap_alloc_new w _)]
  match k, hk with
  | 0, _ => exact ⟨_, rfl, rfl⟩
  | 1, _ => exact ⟨_, rfl, rfl⟩
theorem bos_lit5 (w : World) (a b c d e : Bool) : Bos (w.alloc (.cells #[.bool a, .bool b, .bool c, .bool d, .bool e] 4)) (.slice (some ⟨w.heap.size, 0, none⟩) 5 5) [a, b, c, d, e] := by
  refine ⟨_, 5, rfl, ⟨Nat.le_refl 5, by decide⟩, fun h => (by cases h), fun _ => ⟨w.heap.size, 0, rfl, fun k hk => ?_⟩⟩
  rw [cell_of_row _ _ _ _ _ _ (heap_alloc_new w _)]
  match k, hk with
  | 0, _ => exact ⟨_, rfl, rfl⟩
  | 1, _ => exact ⟨_, rfl, rfl⟩
  | 2, _ => exact ⟨_, rfl, rfl⟩
  | 3, _ => exact ⟨_, rfl, rfl⟩
  | 4, _ => exact ⟨_, rfl, rfl⟩
theorem cho12 : Cho 2 [1, 2] := ⟨rfl, by decide, by decide⟩
theorem cho13 : Cho 2 [1, 3] := ⟨rfl, by decide, by decide⟩
theorem wt12 : wtR 2 [1, 2] 0 = [1, 1] := by decide +kernel
theorem wt13 : wtR 2 [1, 3] 0 = [2, 1] := by decide +kernel
def exB : List (List Nat) := [[1, 0, 0, 0, 0, 0, 0, 0], [1, 0, 0, 0, 0, 0, 0, 0], [6, 0, 0, 0, 0, 0, 0, 0], [9, 0, 0, 0, 0, 0, 0, 0], [1, 0, 0, 0, 0, 0, 0, 0]]
def exM : List Bool := [true, true, false, false, true]
def exQ : List (List Nat) := [[3, 0, 0, 0, 0, 0, 0, 0], [4, 0, 0, 0, 0, 0, 0, 0], [6, 0, 0, 0, 0, 0, 0, 0], [9, 0, 0, 0, 0, 0, 0, 0], [23, 0, 0, 0, 0, 0, 0, 0]]
theorem exB_dec : decL exB exM = exG := by decide +kernel
theorem exB_cnt : cntL exM 5 ≤ 3 := by decide +kernel
theorem exQ_chk : chk exQ = false := by decide +kernel
theorem exQ_set : chk (exQ.set 1 [5, 0, 0, 0, 0, 0, 0, 0]) = true := by decide +kernel
theorem exQ_ok : ∀ d ∈ exQ, B8 d := by unfold exQ B8; decide
theorem locQ {k e : Nat} (h : locR exQ k e) : k = 1 ∧ e = 0 := by
  have b5 : B8 [5, 0, 0, 0, 0, 0, 0, 0] := by unfold B8; decide
  rcases h with ⟨h, -, -⟩ | ⟨-, rfl, hk, b, hb, hc⟩ | ⟨-, -, -, h⟩
  · rw [exQ_chk] at h; cases h
  · exact ⟨fix_one exQ_ok exQ_chk hk (by decide) hb b5 hc exQ_set, rfl⟩
  · have := h 1 (by decide) _ b5
    rw [exQ_set] at this; cases this
theorem loc_exQ (v : Value) (w : World) (h : Bl w v exQ) : Calls Try.prog 27 #[v] w (bPost (.tuple #[.int .i64 1, .int .i64 0]) w) :=
  (loc_any v exQ w h (by decide) (by decide)).mono fun _ _ ⟨k, en, he, hl, hb⟩ => by
    obtain ⟨rfl, rfl⟩ := locQ hl
    exact ⟨he, hb⟩
theorem dec_exB (v vb : Value) (w : World) (h : Bl w v exB) (hb : Bos w vb exM) : Calls Try.prog 20 #[v, vb] w (decPost exG 5 w) := by
  have := dec_ok v vb exB exM w h hb ⟨by decide, by decide, rfl, exB_cnt⟩
  rw [exB_dec] at this
  exact this
end Go.Proofs.Ytheijobnmdbodaa
