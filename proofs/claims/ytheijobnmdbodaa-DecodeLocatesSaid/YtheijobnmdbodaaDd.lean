/- Contracts: decode's groupMatrix, dataMatrix, weightsOf, Weights. WRITTEN BY gen_Dd.py. -/
import Derived.Test.YtheijobnmdbodaaDc
import Derived.Test.YtheijobnmdbodaaMxn
import Derived.Test.YtheijobnmdbodaaGG
namespace Go.Proofs.Ytheijobnmdbodaa
open Go Go.RowKit Lin
set_option linter.unusedVariables false
set_option linter.unusedSimpArgs false

def idPost (n : Nat) (w : World) (e : Ending) (w' : World) : Prop := e = .returned (.tuple #[.slice (some ⟨w.heap.size, 0, none⟩) n n, .int .i64 0]) ∧ Grid w' w.heap.size n n (fun i j => if j = i then 1 else 0) ∧ Below w.heap.size w w'
set_option maxHeartbeats 1000000 in
set_option maxRecDepth 100000 in
theorem identity_grid (n : Nat) (w : World) (h1 : 1 ≤ n) (h2 : n ≤ 64) : Calls Try.prog 45 #[.int .i64 (n : Int)] w (idPost n w) := by
  go_enter Try.func45, Try.ntmps45
  go_wp2_with (go_at_call 55; refine (side_t _ _ (by omega) (by omega)).mono ?_; rintro e w' ⟨rfl, rfl⟩)
  refine (zeros_any n n _ (by omega) (by omega)).mono ?_
  rintro e w1 ⟨rfl, hg, hb, hs⟩
  have HG := Lib.hid hg
  have HB := Lib.hid hb
  clear hg hb hs
  go_wp2_with fail
  go_loopw [5, 6, 15] (fun _ _ i wr => ∃ k : Nat, k ≤ n ∧ i = .int .i64 (k : Int) ∧ Hid (Below w.heap.size w wr ∧ Grid wr w.heap.size n n (fun i j => if i < k then (if j = i then 1 else 0) else 0))) (fun _ _ i _ => n - (intOf i).toNat)
  case atStart =>
    exact ⟨0, Nat.zero_le _, rfl, Lib.hid ⟨HB.out, HG.out.congr (fun i _ j _ => by rw [if_neg (Nat.not_lt_zero i)]) fun i j => by rw [if_neg (Nat.not_lt_zero i)]; decide⟩⟩
  case round =>
    obtain ⟨k, hk, rfl, H⟩ := hrel
    by_cases hlt : k < n
    · obtain ⟨hbel, hg⟩ := H.out
      have q1 := hg.top.cell hlt
      have q2 := (hg.row k hlt).cell hlt
      have q3 := (hg.row k hlt).frozen k
      have BB := Lib.hid hbel
      have GG := Lib.hid hg
      have hkI : (k : Int) < (n : Int) := by omega
      clear hbel hg
      go_wp2
      go_roundw
      case rel =>
        refine ⟨k + 1, by omega, by go_num, Lib.hid ⟨BB.out.setCell (by show w.heap.size ≤ w.heap.size + 1 + k; omega) _, ?_⟩⟩
        refine (GG.out.set hlt k (x := 1) (by decide)).congr (fun i _ j _ => ?_) fun i j => ?_
        · (repeat' split) <;> first | rfl | omega
        · split
          · split <;> decide
          · decide
      case measure => simp [intOf]; omega
    · go_wp2
      go_ret2
      obtain ⟨hbel, hg⟩ := H.out
      obtain rfl : k = n := by omega
      exact ⟨rfl, hg.congr (fun i hi j _ => by rw [if_pos hi]) fun i j => id_byte i j, hbel⟩
/-- An own list reads as a slice. -/
theorem sl_of_owns {α : Type} {R : World → Value → α → Prop} {w : World} {base : Nat} {e : TypeId} {v : Value} {n : Nat} {xs : List Value} (h : w.ownsRow base e 1 v n xs) {m : List α} (hl : m.length = n) (hx : ∀ k (hk : k < m.length), ∃ u, xs[k]? = some u ∧ R w u m[k]) : Sl R w v m := by
  subst hl
  obtain ⟨h1, h⟩ := h
  rcases h with ⟨rfl, h0⟩ | ⟨g, cap, cur, rfl, _, hh, hle, hm, hs, ht⟩
  · obtain rfl : m = [] := List.length_eq_zero_iff.1 h0
    exact Sl.nil_ w
  · refine ⟨_, cap, rfl, ⟨hle, hm⟩, fun h => (by cases h), fun hn => ⟨g, 0, rfl, fun k hk => ?_⟩⟩
    obtain ⟨u, hu, hr⟩ := hx k hk
    refine ⟨u, ?_, hr⟩
    rw [Nat.zero_add, cell_of_row w g k cur e (0, 0) hh]
    rw [← ht, List.getElem?_take_of_lt (by omega)] at hu
    simpa using hu
/-- The rows of all pieces. -/
def grpL (n : Nat) : List (List Nat) := gridL (n + 3) n (grow n)
theorem grp_rect (n : Nat) : Rect (n + 3) n (grpL n) := gridL_rect fun _ _ => grow_lt _ _ _
theorem grp_row {n p : Nat} (hp : p < n + 3) : (grpL n).getD p [] = rowL n p := range_getD _ _ _ _ hp
def grpPost (n : Nat) (w : World) (e : Ending) (w' : World) : Prop := ∃ g c, e = .returned (.slice (some ⟨g, 0, none⟩) (n + 3) c) ∧ Ms w' (.slice (some ⟨g, 0, none⟩) (n + 3) c) (grpL n) ∧ Below w.heap.size w w'
theorem id_grow {n i : Nat} (hi : i < n) : (List.range n).map (fun j => if j = i then 1 else 0) = rowL n i := by
  unfold rowL
  refine List.map_congr_left fun j _ => ?_
  rw [grow, if_pos hi]
theorem Grid.slot {w : World} {B r c : Nat} {f : Nat → Nat → Nat} (h : Grid w B r c f) {i : Nat} (hi : i < r) : w.cell? ⟨B, i, none⟩ = some (.slice (some ⟨B + 1 + i, 0, none⟩) c c) := h.top.cell hi
set_option maxHeartbeats 2000000 in
set_option maxRecDepth 100000 in
theorem group_m (n : Nat) (N : Nat) (w : World) (hN : N = n + 3) (h1 : 1 ≤ n) (h13 : n ≤ 13) : Calls Try.prog 30 #[.int .i64 (N : Int)] w (grpPost n w) := by
  have e0 : (N : Int) - 3 = (n : Int) := by omega
  clear hN
  obtain ⟨i0, hi, hz0, hz1, hz2⟩ := info_parts info_bytes
  have I0 := Lib.hid (And.intro hi (And.intro hz0 (And.intro hz1 hz2)))
  clear hi hz0 hz1 hz2
  go_enter Try.func30, Try.ntmps30
  go_wp2_with fail
  refine (identity_grid n _ h1 (by omega)).mono ?_
  rintro e w1 ⟨rfl, hg1, hb1⟩
  have G1 := Lib.hid hg1
  have B1 := Lib.hid hb1
  clear hg1 hb1
  go_wp2_with fail
  refine (matrix_ok n w1 h1 h13).mono ?_
  rintro e w2 ⟨rfl, hg2, hb2⟩
  have G2 := Lib.hid hg2
  have B2 := Lib.hid hb2
  have G1' := Lib.hid (G1.out.below hb2 (Nat.le_refl _))
  have LT : Hid (w.heap.size < w1.heap.size) := Lib.hid G1.out.top.lt
  clear hg2 hb2
  have hwk := G1'.out.wk (by unfold maxLen; omega) (by unfold maxLen; omega)
  have hlen : (gridL n n fun i j => if j = i then 1 else 0).length = n := (idL_rect n).len
  obtain ⟨xs, hrow, hxs⟩ := (OwnL.of_wk hwk (Nat.le_refl w.heap.size) hlen).row
  rw [hlen] at hrow
  have XS := Lib.hid hxs
  have OR := Lib.hid hrow
  have XL := Lib.hid hrow.1
  have LN := Lib.hid hlen
  obtain ⟨news, hnews⟩ : ∃ news : List Value, news = [.slice (some ⟨w1.heap.size + 1 + 0, 0, none⟩) n n, .slice (some ⟨w1.heap.size + 1 + 1, 0, none⟩) n n, .slice (some ⟨w1.heap.size + 1 + 2, 0, none⟩) n n] := ⟨_, rfl⟩
  have NW := Lib.hid hnews
  have N1 : Hid (news.length = 3 * 1) := Lib.hid (by rw [hnews]; rfl)
  have N2 : Hid (∀ j u, news[j]? = some u → w2.cell? ((⟨w1.heap.size, 0, none⟩ : Addr).add j) = some u) := Lib.hid fun j u hu => by
    rw [Go.WideShapes.add_plain, Nat.zero_add]
    rw [hnews] at hu
    match j, hu with
    | 0, hu => rw [G2.out.slot (by decide)]; exact hu
    | 1, hu => rw [G2.out.slot (by decide)]; exact hu
    | 2, hu => rw [G2.out.slot (by decide)]; exact hu
  have N3 : Hid (∀ u ∈ news, u.oneCell' = true) := Lib.hid fun u hu => by
    rw [hnews] at hu
    simp only [List.mem_cons, List.not_mem_nil, or_false] at hu
    rcases hu with rfl | rfl | rfl <;> rfl
  have HS : Hid (w.heap.size ≤ w2.heap.size) := Lib.hid (Nat.le_trans B1.out.size B2.out.size)
  have L1 : Hid (n + 3 ≤ maxLen) := Lib.hid (by unfold maxLen; omega)
  have L2 : Hid ((n + 3) * 24 ≤ 140737488355328) := Lib.hid (by omega)
  clear hwk hlen hxs hrow hnews
  go_wp2_with (at_builtin; refine wpList_append_lies w2 rfl _ _ 61 rfl w.heap.size 24 i0 (.slice none 0 0) 1 24 Try.underlying61 I0.out.1 I0.out.2.1 I0.out.2.2.1 I0.out.2.2.2 rfl (by decide) (.slice (some ⟨w.heap.size, 0, none⟩) n n) n xs rfl OR.out ⟨w1.heap.size, 0, none⟩ 3 3 news rfl N1.out N2.out N3.out (by decide) L1.out L2.out HS.out _ rfl ?_; intro g cap w3 hown hgrow hat hlt; have HO := Lib.hid hown; have HG := Lib.hid hgrow; clear hown hgrow hat hlt)
  go_ret
  refine ⟨g, cap, rfl, sl_of_owns HO.out (grp_rect n).len fun k hk => ?_, (B1.out.trans (B2.out.mono B1.out.size)).grown HG.out HS.out fun q hq => by injection hq with hq; exact Nat.le_of_eq hq⟩
  rw [(grp_rect n).len] at hk
  have er : (grpL n)[k]'(by rw [(grp_rect n).len]; exact hk) = rowL n k := by rw [← getD_in (x := []), grp_row hk]
  rw [er]
  have hoffG := grown_off HG.out
  have xl : xs.length = n := by have := XL.out; omega
  by_cases hkn : k < n
  · obtain ⟨u, hu, ho⟩ := XS.out k (by rw [LN.out]; exact hkn)
    refine ⟨u, by rw [List.getElem?_append_left (by omega)]; exact hu, ?_⟩
    have := (ho w.heap.size rfl) w3 hoffG
    rw [show (gridL n n fun i j => if j = i then 1 else 0)[k]'(by rw [LN.out]; exact hkn) = rowL n k by rw [← id_grow hkn]; simp [gridL]] at this
    exact this
  · obtain ⟨j, rfl⟩ : ∃ j, k = n + j := ⟨k - n, by omega⟩
    have hj : j < 3 := by omega
    refine ⟨.slice (some ⟨w1.heap.size + 1 + j, 0, none⟩) n n, ?_, ?_⟩
    · rw [List.getElem?_append_right (by omega), xl, Nat.add_sub_cancel_left, NW.out]
      match j, hj with
      | 0, _ => rfl
      | 1, _ => rfl
      | 2, _ => rfl
    · have hb := G2.out.bs hj (by unfold maxLen; omega)
      have e : (List.range n).map (fun i => Gf.gpow 2 (j * i)) = rowL n (n + j) := List.map_congr_left fun i _ => (grow_par n j i).symm
      rw [e] at hb
      exact hb.off_of (g := w.heap.size) (fun q hq => by injection hq with hq; have := LT.out; have h : w1.heap.size + 1 + j = q := hq; omega) w3 hoffG

def dataPost (n : Nat) (F : List Nat) (w : World) (e : Ending) (w' : World) : Prop := ∃ g c, e = .returned (.slice (some ⟨g, 0, none⟩) n c) ∧ Ms w' (.slice (some ⟨g, 0, none⟩) n c) (invF n (pickR n F)) ∧ Below w.heap.size w w'
theorem pick_row {n k : Nat} {F : List Nat} (hk : k < n) : (pickR n F).getD k [] = rowL n (F.getD k 0) := range_getD _ _ _ _ hk
set_option maxHeartbeats 4000000 in
set_option maxRecDepth 100000 in
theorem data_m (n : Nat) (F : List Nat) (v vf : Value) (w : World) (h1 : 1 ≤ n) (h13 : n ≤ 13) (hF : Cho n F) (h : Ms w v (grpL n)) (hf : Is w vf (natsI F)) : Calls Try.prog 32 #[v, vf] w (dataPost n F w) := by
  have hmk := run_make_row' (P := Try.prog) 61 24 _ _ Try.underlying61 info_bytes rfl .i64 .i64 n (by omega) (by omega)
  have hlen : (natsI F).length = n := by rw [natsI_len, hF.len]
  obtain ⟨bf, of, cf, rfl, -, hcf⟩ := Is.at_ hf (by omega)
  obtain ⟨ba, oa, ca, rfl, hm, hat⟩ := Ms.open_ h (grp_rect n) (by omega) h1
  rw [hlen] at hcf ⊢
  have HA := Lib.hid hat
  have CP := Lib.hid hcf
  have FL := Lib.hid fun k (hk : k < n) => hF.at hk
  have FN := Lib.hid hF
  clear hat hcf h hf hm hlen hF
  go_enter Try.func32, Try.ntmps32
  go_wp2
  go_loopw [6, 7, 15] (fun _ _ q wr => ∃ i : Nat, i ≤ n ∧ q = .int .i64 (i : Int) ∧ Hid (Below w.heap.size w wr ∧ ∃ X : List (List Nat), X.length = n ∧ Wk Bs wr w.heap.size 24 n X ∧ ∀ j, j < n → X.getD j [] = if j < i then (pickR n F).getD j [] else [])) (fun _ _ q _ => n - (intOf q).toNat)
  case atStart =>
    refine ⟨0, Nat.zero_le _, rfl, Lib.hid ⟨(Below.refl _ w).alloc (Nat.le_refl _) _, List.replicate n [], by simp, ?_, fun j hj => by rw [if_neg (Nat.not_lt_zero j), getD_in (by simpa using hj)]; simp⟩⟩
    obtain ⟨cs, hh, hs, hc⟩ := World.rowIs_made w (.slice none 0 0) n 24
    refine ⟨cs, hh, hs, by unfold maxLen; omega, by simp, fun k hk => ⟨_, hc k (by simpa using hk), fun w' _ => ?_⟩⟩
    simp only [List.getElem_replicate]
    exact Bs.nil_ w'
  case round =>
    obtain ⟨i, hk, rfl, H⟩ := hrel
    by_cases hlt : i < n
    · have hiI : (i : Int) < (n : Int) := by omega
      obtain ⟨hbel, X, hX, hWk, hel⟩ := H.out
      obtain ⟨u, p1, -⟩ := hWk.cell (k := i) (by rw [hX]; exact hlt)
      have fz : wr.frozen? ⟨w.heap.size, i, none⟩ = false := hWk.frozen i
      have p2 := CP.out i hlt
      rw [natsI_at _ i (by rw [FN.out.len]; exact hlt)] at p2
      have p2' := (hbel.cell (World.block_lt_of_cell? w _ p2)).trans p2
      have hx := FL.out i hlt
      have hy : (pickR n F).getD i [] = rowL n (F.getD i 0) := pick_row hlt
      obtain ⟨x, ex⟩ : ∃ x, F.getD i 0 = x := ⟨_, rfl⟩
      rw [ex] at p2' hx hy
      obtain ⟨b', o', c', q1, r1, -, -⟩ := HA.out x hx
      rw [grp_row hx] at r1
      have q1' := (hbel.cell (World.block_lt_of_cell? w _ q1)).trans q1
      have hxI : (x : Int) < (n : Int) + 3 := by omega
      have OFF : Hid (Off Bs wr w.heap.size (.slice (some ⟨b', o', none⟩) n c') (rowL n x)) := Lib.hid fun w'' k' => r1.keep fun p hp => by
        have h2 := hbel.size
        exact (k'.2 p (by omega) (by omega)).trans (hbel.cell hp)
      have HXX := Lib.hid (And.intro hX (And.intro hWk hel))
      have HBB := Lib.hid hbel
      have HY := Lib.hid hy
      clear hbel hX hWk hel p2 ex q1 r1 hy
      go_wp2_with fail
      go_roundw
      case rel =>
        obtain ⟨hX, hWk, hel⟩ := HXX.out
        refine ⟨i + 1, by omega, by go_num, Lib.hid ⟨HBB.out.setCell (Nat.le_refl _) _, X.set i (rowL n x), by simp [hX], hWk.store i OFF.out, fun j hj => ?_⟩⟩
        rw [getD_set]
        by_cases e : i = j
        · subst e; rw [if_pos ⟨rfl, by omega⟩, if_pos (by omega), HY.out]
        · rw [if_neg fun hh => e hh.1, hel j hj]; (repeat' split) <;> first | rfl | omega
      case measure => simp [intOf]; omega
    · obtain ⟨hbel, X, hX, hWk, hel⟩ := H.out
      have e : X = pickR n F := by
        refine list_ext [] (by rw [hX, (pick_rect n F).len]) fun j hj => ?_
        rw [hX] at hj
        rw [hel j hj, if_pos (by omega)]
      subst e
      have hms := hWk.sl
      rw [hX] at hms
      have IV := Lib.hid (inverse_ok (.slice (some ⟨w.heap.size, 0, none⟩) n n) (pickR n F) wr hms (pick_rect n F) h1 (by omega) (pick_inv h13 FN.out))
      have HBB := Lib.hid hbel
      clear hbel hX hWk hel hms
      go_wp2_with fail
      refine IV.out.mono ?_
      rintro e w5 ⟨g5, cap5, rfl, -, hwk5, hb5⟩
      have W5 := Lib.hid hwk5
      have B5 := Lib.hid hb5
      clear hwk5 hb5
      go_wp2_with fail
      go_ret
      have hs := W5.out.sl
      rw [(inv_rect (pick_rect n F)).len] at hs ⊢
      exact ⟨g5, cap5, rfl, hs, HBB.out.trans (B5.out.mono HBB.out.size)⟩

theorem mul_row {n : Nat} {F : List Nat} {p : Nat} : (mulL 1 n n [rowL n p] (invF n (pickR n F))).getD 0 [] = wtI n F p := by
  rw [mulL_row (by decide)]
  refine List.map_congr_left fun j _ => xs_congr _ _ _ fun i hi => ?_
  rw [show el [rowL n p] 0 i = grow n p i from rowL_at hi]
theorem row_rect (n p : Nat) : Rect 1 n [rowL n p] := ⟨rfl, fun i hi => by
  obtain rfl : i = 0 := by omega
  refine ⟨rowL_len n p, fun x hx => ?_⟩
  obtain ⟨k, _, rfl⟩ := List.mem_map.1 hx
  exact grow_lt _ _ _⟩
theorem ms_one {w : World} {A : Option Addr} {n c : Nat} {l : List Nat} (h : Bs w (.slice A n c) l) (hl : l.length = n) : Ms (w.alloc (.cells #[.slice A n c] 24)) (.slice (some ⟨w.heap.size, 0, none⟩) 1 1) [l] := by
  refine ⟨_, 1, rfl, ⟨Nat.le_refl _, by decide⟩, fun h => (by cases h), fun _ => ⟨_, 0, rfl, fun k hk => ?_⟩⟩
  obtain rfl : k = 0 := by simpa using hk
  exact ⟨_, (row_new w _ _).cell 0, h.alloc _⟩
def wtPost (l : List Nat) (n : Nat) (w : World) (e : Ending) (w' : World) : Prop := ∃ A c, e = .returned (.slice A n c) ∧ Bs w' (.slice A n c) l ∧ Below w.heap.size w w'
set_option maxHeartbeats 2000000 in
set_option maxRecDepth 100000 in
theorem weightsOf_any (n p : Nat) (F : List Nat) (A : Option Addr) (c : Nat) (vd : Value) (w : World) (h1 : 1 ≤ n) (h13 : n ≤ 13) (hF : Cho n F) (h : Bs w (.slice A n c) (rowL n p)) (hd : Ms w vd (invF n (pickR n F))) : Calls Try.prog 31 #[.slice A n c, vd] w (wtPost (wtR n F p) n w) := by
  have MU := Lib.hid (mul_ok _ vd _ _ _ (ms_one h (rowL_len n p)) (row_rect n p) (Msto hd ((Below.refl w.heap.size w).alloc (Nat.le_refl _) _)) (inv_rect (pick_rect n F)) (by decide) h1 h1 (by decide) (by omega) (by omega))
  have ER := Lib.hid ((mul_row (n := n) (F := F) (p := p)).trans (wtI_eq h13 hF p))
  have ML := Lib.hid (mulL_rect (r := 1) (c := n) (row_rect n p) (invF n (pickR n F))).len
  have WL := Lib.hid (isW_red h13 hF p).len
  clear h hd
  go_enter Try.func31, Try.ntmps31
  go_wp2_with fail
  refine MU.out.mono ?_
  rintro e w2 ⟨g, cap, rfl, -, hwk, hb⟩
  have HB := Lib.hid (al1 hb)
  obtain ⟨u, p1, ho⟩ := hwk.cell (k := 0) (by rw [ML.out]; decide)
  have ho' := ho.here
  rw [← getD_in (x := []), ER.out] at ho'
  obtain ⟨A5, c5, rfl⟩ := ho'.form
  rw [WL.out] at ho' p1
  rw [ML.out]
  have HW := Lib.hid ho'
  clear hwk hb ho ho'
  go_wp2_with fail
  go_ret
  exact ⟨A5, c5, rfl, HW.out, HB.out⟩

/-- A choice of pieces, as numbers. -/
theorem cho_of {l : List Int} {n : Nat} (hl : l.length = n) (h : choB l ((n + 3 : Nat) : Int)) : ∃ F, l = natsI F ∧ Cho n F := by
  have h0 : ∀ k, k < n → 0 ≤ l.getD k 0 := by
    intro k
    induction k with
    | zero => intro hk; have := (h 0 (by omega)).1; rw [if_pos rfl] at this; omega
    | succ k ih => intro hk; have := (h (k + 1) (by omega)).1; rw [if_neg (by omega), Nat.add_sub_cancel] at this; have := ih (by omega); omega
  have hm : ∀ d i, i + d + 1 < n → l.getD i 0 < l.getD (i + d + 1) 0 := by
    intro d
    induction d with
    | zero => intro i hi; have := (h (i + 1) (by omega)).1; rw [if_neg (by omega), Nat.add_sub_cancel] at this; exact this
    | succ d ih =>
      intro i hi
      have h1 := ih i (by omega)
      have h2 := (h (i + d + 1 + 1) (by omega)).1
      rw [if_neg (by omega), Nat.add_sub_cancel] at h2
      show l.getD i 0 < l.getD (i + d + 1 + 1) 0
      omega
  refine ⟨l.map Int.toNat, ?_, by simpa using hl, ?_, fun x hx => ?_⟩
  · refine list_ext 0 (by simp [natsI]) fun k hk => ?_
    rw [natsI_at _ k (by simpa using hk), getD_in hk, getD_in (by simpa using hk), List.getElem_map]
    have := h0 k (by omega)
    rw [getD_in hk] at this
    omega
  · rw [List.pairwise_map, List.pairwise_iff_getElem]
    intro i j hi hj hij
    have h1 := hm (j - i - 1) i (by omega)
    rw [show i + (j - i - 1) + 1 = j by omega, getD_in hi, getD_in hj] at h1
    have := h0 i (by omega)
    rw [getD_in hi] at this
    omega
  · obtain ⟨y, hy, rfl⟩ := List.mem_map.1 hx
    obtain ⟨k, hk, rfl⟩ := List.mem_iff_getElem.1 hy
    have h1 := (h k hk).2
    have := h0 k (by omega)
    rw [getD_in hk] at this h1
    omega
theorem cho_choB {n : Nat} {F : List Nat} (h : Cho n F) : choB (natsI F) ((n + 3 : Nat) : Int) := by
  intro k hk
  rw [natsI_len] at hk
  have hkn : k < n := by rw [← h.len]; exact hk
  rw [natsI_at F k hk]
  refine ⟨?_, by have := h.at hkn; omega⟩
  by_cases e : k = 0
  · rw [if_pos e]; omega
  · rw [if_neg e, natsI_at F (k - 1) (by omega)]
    have h1 := List.pairwise_iff_getElem.1 h.inc (k - 1) k (by omega) hk (by omega)
    rw [getD_in (show k - 1 < F.length by omega), getD_in hk]
    omega
theorem choice_all (v : Value) (l : List Int) (N : Nat) (b : Bool) (w : World) (h : Is w v l) (hN : N ≤ 16) (hb : b = true ↔ (l.length + 3 = N ∧ choB l N)) : Calls Try.prog 29 #[.int .i64 (N : Int), v] w fun e w' => e = .returned (.bool b) ∧ w = w' := by
  by_cases hl : l.length + 3 = N
  · exact choice_any v l N b w h hN hl (hb.trans ⟨fun x => x.2, fun x => ⟨hl, x⟩⟩)
  · have : b = false := Bool.eq_false_iff.2 fun e => hl (hb.1 e).1
    rw [this]
    exact choice_len v l N w h hN hl
set_option maxHeartbeats 1000000 in
set_option maxRecDepth 100000 in
theorem wts_width (z t : Int) (v : Value) (w : World) (hz : z < 4 ∨ 16 < z) : Calls Try.prog 12 #[.int .i64 z, v, .int .i64 t] w (errPost (.tuple #[.slice none 0 0, .int .i64 1]) w) := by
  have W := Lib.hid (width_f z w hz)
  clear hz
  go_enter Try.func12, Try.ntmps12
  go_wp2_with fail
  refine W.out.mono ?_
  rintro e w' ⟨rfl, rfl⟩
  go_wp2_with fail
  go_ret2
  exact ⟨rfl, rfl⟩
set_option maxHeartbeats 1000000 in
set_option maxRecDepth 100000 in
theorem wts_cho (N : Nat) (t : Int) (v : Value) (l : List Int) (w : World) (h4 : 4 ≤ N) (h16 : N ≤ 16) (h : Is w v l) (hc : ¬ (l.length + 3 = N ∧ choB l N)) : Calls Try.prog 12 #[.int .i64 (N : Int), v, .int .i64 t] w (errPost (.tuple #[.slice none 0 0, .int .i64 1]) w) := by
  have W := Lib.hid (width_t (N : Int) w (by omega) (by omega))
  have C := Lib.hid (choice_all v l N false w h h16 ⟨fun e => (by cases e), fun e => absurd e hc⟩)
  clear h hc
  go_enter Try.func12, Try.ntmps12
  go_wp2_with fail
  refine W.out.mono ?_
  rintro e w' ⟨rfl, rfl⟩
  go_wp2_with fail
  refine C.out.mono ?_
  rintro e w' ⟨rfl, rfl⟩
  go_wp2_with fail
  go_ret2
  exact ⟨rfl, rfl⟩
set_option maxHeartbeats 1000000 in
set_option maxRecDepth 100000 in
theorem wts_to (N : Nat) (t : Int) (v : Value) (l : List Int) (w : World) (h4 : 4 ≤ N) (h16 : N ≤ 16) (h : Is w v l) (hc : l.length + 3 = N ∧ choB l N) (ht : t < 0 ∨ (N : Int) ≤ t) : Calls Try.prog 12 #[.int .i64 (N : Int), v, .int .i64 t] w (errPost (.tuple #[.slice none 0 0, .int .i64 1]) w) := by
  have W := Lib.hid (width_t (N : Int) w (by omega) (by omega))
  have C := Lib.hid (choice_all v l N true w h h16 ⟨fun _ => hc, fun _ => rfl⟩)
  clear h hc
  by_cases h0 : t < 0
  · have g0 : decide (t < 0) = true := by simpa using h0
    clear ht
    go_enter Try.func12, Try.ntmps12
    go_wp2_with fail
    refine W.out.mono ?_
    rintro e w' ⟨rfl, rfl⟩
    go_wp2_with fail
    refine C.out.mono ?_
    rintro e w' ⟨rfl, rfl⟩
    go_wp2_with fail
    go_ret2
    exact ⟨rfl, rfl⟩
  · have g0 : decide (t < 0) = false := by simpa using h0
    have g1 : decide ((N : Int) ≤ t) = true := by simp; omega
    clear ht
    go_enter Try.func12, Try.ntmps12
    go_wp2_with fail
    refine W.out.mono ?_
    rintro e w' ⟨rfl, rfl⟩
    go_wp2_with fail
    refine C.out.mono ?_
    rintro e w' ⟨rfl, rfl⟩
    go_wp2_with fail
    go_ret2
    exact ⟨rfl, rfl⟩
def wtsPost (l : List Nat) (n : Nat) (w : World) (e : Ending) (w' : World) : Prop := ∃ A c, e = .returned (.tuple #[.slice A n c, .int .i64 0]) ∧ Bs w' (.slice A n c) l ∧ Below w.heap.size w w'
set_option maxHeartbeats 4000000 in
set_option maxRecDepth 100000 in
theorem wts_ok (n N p : Nat) (F : List Nat) (v : Value) (w : World) (hN : N = n + 3) (h1 : 1 ≤ n) (h13 : n ≤ 13) (h : Is w v (natsI F)) (hF : Cho n F) (hp : p < N) : Calls Try.prog 12 #[.int .i64 (N : Int), v, .int .i64 (p : Int)] w (wtsPost (wtR n F p) n w) := by
  have W := Lib.hid (width_t (N : Int) w (by omega) (by omega))
  have C := Lib.hid (choice_all v (natsI F) N true w h (by omega) ⟨fun _ => ⟨by rw [natsI_len, hF.len, hN], by rw [hN]; exact cho_choB hF⟩, fun _ => rfl⟩)
  have G := Lib.hid (group_m n N w hN h1 h13)
  have VI := Lib.hid h
  have FF := Lib.hid hF
  have hpn : p < n + 3 := by omega
  have hpI : (p : Int) < (N : Int) := by omega
  have hpI2 : (p : Int) < (n : Int) + 3 := by omega
  clear h hF hN
  go_enter Try.func12, Try.ntmps12
  go_wp2_with fail
  refine W.out.mono ?_
  rintro e w' ⟨rfl, rfl⟩
  go_wp2_with fail
  refine C.out.mono ?_
  rintro e w' ⟨rfl, rfl⟩
  go_wp2_with fail
  refine G.out.mono ?_
  rintro e w2 ⟨g, cap, rfl, hms, hb⟩
  have HB := Lib.hid hb
  have HM := Lib.hid hms
  have HI := Lib.hid (VI.out.to hb)
  obtain ⟨ba, oa, ca, hv, -, hat⟩ := Ms.open_ hms (grp_rect n) (by omega) h1
  injection hv with e1 e2 e3
  injection e1 with e1
  injection e1 with e1 e4
  subst e1 e4 e3
  obtain ⟨b', o', c', q1, r1, -, -⟩ := hat p hpn
  rw [grp_row hpn] at r1
  rw [Nat.zero_add] at q1
  have HQ := Lib.hid q1
  have HR := Lib.hid r1
  clear hb hms hat q1 r1 e2
  go_wp2_with fail
  refine wp_region_held (P := Try.prog) (S := (fun w' : World => w'.cell? ⟨g, p, none⟩ = some (.slice (some ⟨b', o', none⟩) n c'))) rfl ?_
  change wpAnyH _ _ _ _ _ _ _ _ w2.drew
  have hz2 : Below w2.heap.size w2 w2.drew := (Below.refl w2.heap.size w2).drew
  generalize w2.drew = wz1 at hz2 ⊢
  have hq3 : Below w2.heap.size w2 wz1 := hz2
  have M_4 := Lib.hid (Msto HM.out hq3)
  have I_5 := Lib.hid (Is.to HI.out hq3)
  have Q_6 := Lib.hid (cellTo HQ.out hq3)
  have R_7 := Lib.hid (Bs.to HR.out hq3)
  have HB_8 : Hid (Below w.heap.size w wz1) := Lib.hid (HB.out.trans (hq3.mono HB.out.size))
  clear hq3
  clear hz2
  have hS9 : (fun w' : World => w'.cell? ⟨g, p, none⟩ = some (.slice (some ⟨b', o', none⟩) n c')) wz1 := Q_6.out
  refine takeD (i := 0) (v := .slice (some ⟨g, 0, none⟩) (n + 3) cap) (some 29) rfl rfl (by kernel_rfl) (by kernel_rfl) (by kernel_rfl) (fun _ _ _ h => h) (Or.inl ⟨by rfl, by rintro w' -; go_simp⟩) hS9 ?_
  simp only [Act.put, List.setIfInBounds_toArray, List.set_cons_zero, List.set_cons_succ]
  refine takeD (i := 1) (v := .int .i64 (p : Int)) (some 30) rfl rfl (by kernel_rfl) (by kernel_rfl) (by kernel_rfl) (fun _ _ _ h => h) (Or.inl ⟨by rfl, by rintro w' -; go_simp⟩) hS9 ?_
  simp only [Act.put, List.setIfInBounds_toArray, List.set_cons_zero, List.set_cons_succ]
  refine takeD (i := 2) (v := .pointer (some ⟨g, p, none⟩)) (some 31) rfl rfl (by kernel_rfl) (by kernel_rfl) (by kernel_rfl) (fun _ _ _ h => h) (Or.inl ⟨by rfl, by rintro w' -; go_simp⟩) hS9 ?_
  simp only [Act.put, List.setIfInBounds_toArray, List.set_cons_zero, List.set_cons_succ]
  refine takeD (i := 3) (v := .slice (some ⟨b', o', none⟩) n c') (some 32) rfl rfl (by kernel_rfl) (by kernel_rfl) (by kernel_rfl) (fun _ _ _ h => h) (Or.inl ⟨by rfl, by rintro w' s1; go_simp⟩) hS9 ?_
  simp only [Act.put, List.setIfInBounds_toArray, List.set_cons_zero, List.set_cons_succ]
  refine takeD (i := 4) (v := .slice (some ⟨g, 0, none⟩) (n + 3) cap) (some 33) rfl rfl (by kernel_rfl) (by kernel_rfl) (by kernel_rfl) (fun _ _ _ h => h) (Or.inl ⟨by rfl, by rintro w' -; go_simp⟩) hS9 ?_
  simp only [Act.put, List.setIfInBounds_toArray, List.set_cons_zero, List.set_cons_succ]
  refine takeD (i := 5) (v := v) (some 34) rfl rfl (by kernel_rfl) (by kernel_rfl) (by kernel_rfl) (fun _ _ _ h => h) (Or.inl ⟨by rfl, by rintro w' -; go_simp⟩) hS9 ?_
  simp only [Act.put, List.setIfInBounds_toArray, List.set_cons_zero, List.set_cons_succ]
  refine wpAnyH_ready (rs := [6]) (by kernel_rfl) (by simp) ?_
  refine AllReadyH.cons rfl (fun K10 hK10 => ?_) AllReadyH.nil
  have HK10 := Lib.hid hK10
  clear hK10
  rw [if_pos (by rfl)]
  go_simp
  go_at_call 32
  refine (data_m n F _ _ _ h1 h13 FF.out M_4.out I_5.out).mono ?_
  rintro e x11 ⟨gd, cd, rfl, hd, hb⟩
  have hq12 : Below wz1.heap.size wz1 x11 := hb
  have M_13 := Lib.hid (Msto M_4.out hq12)
  have I_14 := Lib.hid (Is.to I_5.out hq12)
  have Q_15 := Lib.hid (cellTo Q_6.out hq12)
  have R_16 := Lib.hid (Bs.to R_7.out hq12)
  have HB_17 : Hid (Below w.heap.size w x11) := Lib.hid (HB_8.out.trans (hq12.mono HB_8.out.size))
  clear hq12
  have HD := Lib.hid hd
  clear hb hd
  have hS18 : (fun w' : World => w'.cell? ⟨g, p, none⟩ = some (.slice (some ⟨b', o', none⟩) n c')) x11 := Q_15.out
  refine HK10.out _ _ hS18 fun _ => ?_
  try simp only [Act.put, List.setIfInBounds_toArray, List.set_cons_zero, List.set_cons_succ]
  refine wpAnyH_ready (rs := [7]) (by kernel_rfl) (by simp) ?_
  refine AllReadyH.cons rfl (fun K19 hK19 => ?_) AllReadyH.nil
  have HK19 := Lib.hid hK19
  clear hK19
  rw [if_pos (by rfl)]
  go_simp
  go_at_call 31
  refine (weightsOf_any n p F _ _ _ _ h1 h13 FF.out R_16.out HD.out).mono ?_
  rintro e x20 ⟨Aw, cw, rfl, hd, hb⟩
  have hq21 : Below x11.heap.size x11 x20 := hb
  have M_22 := Lib.hid (Msto M_13.out hq21)
  have I_23 := Lib.hid (Is.to I_14.out hq21)
  have Q_24 := Lib.hid (cellTo Q_15.out hq21)
  have R_25 := Lib.hid (Bs.to R_16.out hq21)
  have D_26 := Lib.hid (Msto HD.out hq21)
  have HB_27 : Hid (Below w.heap.size w x20) := Lib.hid (HB_17.out.trans (hq21.mono HB_17.out.size))
  clear hq21
  have HW := Lib.hid hd
  clear hb hd
  have hS28 : (fun w' : World => w'.cell? ⟨g, p, none⟩ = some (.slice (some ⟨b', o', none⟩) n c')) x20 := Q_24.out
  refine HK19.out _ _ hS28 fun _ => ?_
  try simp only [Act.put, List.setIfInBounds_toArray, List.set_cons_zero, List.set_cons_succ]
  refine takeD (i := 8) (v := .slice Aw n cw) (some 6) rfl rfl (by kernel_rfl) (by kernel_rfl) (by kernel_rfl) (fun _ _ _ h => h) (Or.inl ⟨by rfl, by rintro w' -; go_simp⟩) hS28 ?_
  simp only [Act.put, List.setIfInBounds_toArray, List.set_cons_zero, List.set_cons_succ]
  refine takeD (i := 9) (v := .int .i64 0) (some 7) rfl rfl (by kernel_rfl) (by kernel_rfl) (by kernel_rfl) (fun _ _ _ h => h) (Or.inl ⟨by rfl, by rintro w' -; go_simp⟩) hS28 ?_
  simp only [Act.put, List.setIfInBounds_toArray, List.set_cons_zero, List.set_cons_succ]
  refine wpAnyH_done (by kernel_rfl) ?_ _
  go_wp2_with fail
  go_ret2
  exact ⟨Aw, cw, rfl, HW.out, HB_27.out⟩
end Go.Proofs.Ytheijobnmdbodaa
