/- Any width - 3 pieces determine a group: weights exist and are unique; restoring; which single change makes a group consistent: plain mathematics. -/
import Derived.Test.YtheijobnmdbodaaPm
import Derived.Test.YtheijobnmdbodaaGD
import Derived.Test.YtheijobnmdbodaaGE
namespace Go.Proofs.Ytheijobnmdbodaa
open Go Go.RowKit Lin
set_option linter.unusedVariables false

/-- How piece p is combined from n data pieces. -/
def grow (n p i : Nat) : Nat := if p < n then (if i = p then 1 else 0) else Gf.gpow 2 ((p - n) * i)
theorem grow_lt (n p i : Nat) : grow n p i < 256 := by
  unfold grow; split
  · split <;> decide
  · exact gp_lt _
/-- n pieces in increasing order. -/
structure Cho (n : Nat) (F : List Nat) : Prop where
  len : F.length = n
  inc : F.Pairwise (· < ·)
  lt : ∀ x ∈ F, x < n + 3
theorem Cho.at {n : Nat} {F : List Nat} (h : Cho n F) {k : Nat} (hk : k < n) : F.getD k 0 < n + 3 := by
  rw [getD_in (by rw [h.len]; exact hk)]; exact h.lt _ (List.getElem_mem _)
/-- The three others. -/
theorem Cho.rest {n : Nat} {F : List Nat} (h : Cho n F) : ∃ p q r, p < n + 3 ∧ q < n + 3 ∧ r < n + 3 ∧ p ≠ q ∧ p ≠ r ∧ q ≠ r ∧ ∀ i, i < n + 3 → i ≠ p → i ≠ q → i ≠ r → i ∈ F := by
  have hF : F.Nodup := h.inc.imp Nat.ne_of_lt
  have e1 : ((List.range (n + 3)).filter (fun i => decide (i ∈ F))).length = n := by
    rw [nodup_len _ F (List.nodup_range.filter _) hF fun x => by
      rw [List.mem_filter, List.mem_range, decide_eq_true_eq]
      exact ⟨fun hx => hx.2, fun hx => ⟨h.lt x hx, hx⟩⟩, h.len]
  have e2 := List.length_eq_countP_add_countP (fun i => decide (i ∈ F)) (l := List.range (n + 3))
  rw [List.countP_eq_length_filter, List.countP_eq_length_filter, e1, List.length_range] at e2
  have hM : ((List.range (n + 3)).filter (fun i => decide ¬(decide (i ∈ F) = true))).Nodup := List.nodup_range.filter _
  have hmem : ∀ i, i ∈ (List.range (n + 3)).filter (fun i => decide ¬(decide (i ∈ F) = true)) ↔ i < n + 3 ∧ i ∉ F := fun i => by
    rw [List.mem_filter, List.mem_range, decide_eq_true_eq, decide_eq_true_eq]
  generalize (List.range (n + 3)).filter (fun i => decide ¬(decide (i ∈ F) = true)) = M at e2 hM hmem
  match M, e2, hM with
  | [p, q, r], _, hM =>
    simp only [List.nodup_cons, List.mem_cons, List.not_mem_nil, or_false, not_or] at hM
    obtain ⟨⟨h1, h2⟩, h3, -⟩ := hM
    refine ⟨p, q, r, ((hmem p).1 (by simp)).1, ((hmem q).1 (by simp)).1, ((hmem r).1 (by simp)).1, h1, h2, h3, fun i hi hp hq hr => ?_⟩
    apply Classical.byContradiction
    intro hn
    have := (hmem i).2 ⟨hi, hn⟩
    simp only [List.mem_cons, List.not_mem_nil, or_false] at this
    omega
  | [], e2, _ => simp at e2
  | [_], e2, _ => simp at e2
  | [_, _], e2, _ => simp at e2
  | _ :: _ :: _ :: _ :: _, e2, _ => simp only [List.length_cons] at e2; omega
theorem grow_data {n p : Nat} (hp : p < n) {x : Nat → Nat} (hx : By x) : xs n (fun i => Gf.mul (grow n p i) (x i)) = x p := by
  rw [xs_single n p _ hp fun i hi hne => by rw [grow, if_pos hp, if_neg hne, Gf.zero_mul], grow, if_pos hp, if_pos rfl, Gf.one_mul _ (hx p)]
theorem grow_par (n j i : Nat) : grow n (n + j) i = Gf.gpow 2 (j * i) := by unfold grow; rw [if_neg (by omega), Nat.add_sub_cancel_left]
/-- Where the pieces of F are 0, so are all data. -/
theorem kern {n : Nat} (hn : n ≤ 13) {F : List Nat} (hF : Cho n F) {x : Nat → Nat} (hx : By x) (h0 : ∀ k, k < n → xs n (fun i => Gf.mul (grow n (F.getD k 0) i) (x i)) = 0) : ∀ i, i < n → x i = 0 := by
  let e : Nat → Nat := fun p => xs n (fun i => Gf.mul (grow n p i) (x i))
  have he : By e := fun p => xs_lt _ _ fun i _ => Gf.mul_lt _ _ (grow_lt _ _ _)
  have ed : ∀ i, i < n → e i = x i := fun i hi => grow_data hi hx
  have hs : ∀ j, j < 3 → xs (n + 3) (fun i => Gf.mul (ucol (colI n i) j) (e i)) = 0 := fun j hj => by
    have := syn_split n hn e he hj
    unfold syn at this
    rw [this, xs_congr n _ (fun i => Gf.mul (grow n (n + j) i) (x i)) fun i hi => by rw [grow_par, ed i hi]]
    exact Nat.xor_self _
  have hz : ∀ p, p ∈ F → e p = 0 := fun p hp => by
    obtain ⟨k, hk, rfl⟩ := List.mem_iff_getElem.1 hp
    have := h0 k (by rw [← hF.len]; exact hk)
    rwa [getD_in hk] at this
  obtain ⟨p, q, r, hp, hq, hr, n1, n2, n3, hall⟩ := hF.rest
  intro i hi
  rw [← ed i hi]
  have off : ∀ i, i < n + 3 → i ≠ p → i ≠ q → i ≠ r → e i = 0 := fun i hi h1 h2 h3 => hz i (hall i hi h1 h2 h3)
  by_cases e1 : i = p
  · rw [e1]; exact three_zero hn he hs hp hq hr n1 n2 n3 off
  by_cases e2 : i = q
  · rw [e2]; exact three_zero hn he hs hq hp hr (fun e => n1 e.symm) n3 n2 fun i hi x y z => off i hi y x z
  by_cases e3 : i = r
  · rw [e3]; exact three_zero hn he hs hr hp hq (fun e => n2 e.symm) (fun e => n3 e.symm) n1 fun i hi x y z => off i hi y z x
  exact off i (by omega) e1 e2 e3

/-- All rows are independent. -/
theorem ind_full {R C : Nat} {m : Nat → Nat → Nat} (hm : ByM m) (h : ∀ x, By x → (∀ j, j < C → xs R (fun i => Gf.mul (x i) (m i j)) = 0) → ∀ i, i < R → x i = 0) : (indF C m R).length = R := by
  have : indF C m R = List.range R := by
    unfold indF
    refine List.filter_eq_self.2 fun k hk => ?_
    have hk := List.mem_range.1 hk
    rw [isInd_iff]
    rintro ⟨c, hc, hs⟩
    have := h (fun i => if i < k then c i else if i = k then 1 else 0) (fun i => by dsimp only; split; exact hc i; split <;> decide) (fun j hj => by
      rw [xs_ext (k + 1) R _ hk fun i h1 h2 => by rw [if_neg (by omega), if_neg (by omega), Gf.zero_mul], xs_succ, if_neg (Nat.lt_irrefl k), if_pos rfl, Gf.one_mul _ (hm k j), hs j hj,
        xs_congr k _ (fun i => Gf.mul (c i) (m i j)) fun i hi => by rw [if_pos hi]]
      exact Nat.xor_self _) k hk
    rw [if_neg (Nat.lt_irrefl k), if_pos rfl] at this
    exact absurd this (by decide)
  rw [this, List.length_range]

/-- The rows of some pieces. -/
def pickR (n : Nat) (F : List Nat) : List (List Nat) := gridL n n fun k i => grow n (F.getD k 0) i
theorem pick_rect (n : Nat) (F : List Nat) : Rect n n (pickR n F) := gridL_rect fun _ _ => grow_lt _ _ _
theorem pick_el {n : Nat} {F : List Nat} {k i : Nat} (hk : k < n) (hi : i < n) : el (pickR n F) k i = grow n (F.getD k 0) i := gridL_el hk hi
theorem pick_t {n : Nat} (hn : n ≤ 13) {F : List Nat} (hF : Cho n F) : (indF n (fun i k => grow n (F.getD k 0) i) n).length = n :=
  ind_full (fun _ _ => grow_lt _ _ _) fun x hx h => kern hn hF hx fun k hk => by
    refine (xs_congr _ _ _ fun i _ => ?_).trans (h k hk)
    exact Gf.mul_comm _ _ (grow_lt _ _ _) (hx i)
theorem pick_inv {n : Nat} (hn : n ≤ 13) {F : List Nat} (hF : Cho n F) : (reduceF (augF n (pickR n F)) n).2.length = n := by
  rw [aug_rank (pick_rect n F), ← reduce_trans (pick_rect n F), rank_eq (trans_rect (m := pickR n F) n n (pick_rect n F).by) (Nat.le_refl n) (fun i k => grow n (F.getD k 0) i) (fun _ _ => grow_lt _ _ _) fun i hi j hj => by
    rw [trans_el n n hj hi, pick_el hj hi]]
  exact pick_t hn hF

/-- The weights of piece p with respect to the pieces F. -/
structure IsW (n : Nat) (F : List Nat) (p : Nat) (w : List Nat) : Prop where
  len : w.length = n
  byt : ∀ x ∈ w, x < 256
  sol : ∀ i, i < n → xs n (fun k => Gf.mul (w.getD k 0) (grow n (F.getD k 0) i)) = grow n p i
theorem IsW.unique {n : Nat} (hn : n ≤ 13) {F : List Nat} (hF : Cho n F) {p : Nat} {w w' : List Nat} (h : IsW n F p w) (h' : IsW n F p w') : w = w' := by
  refine list_ext 0 (by rw [h.len, h'.len]) fun k hk => ?_
  rw [h.len] at hk
  have key : ∀ u, IsW n F p u → u.getD k 0 = xs n (fun i => Gf.mul (grow n p i) (el (invF n (pickR n F)) i k)) := fun u hu => by
    have hb : ∀ q, u.getD q 0 < 256 := getD_bytes hu.byt
    have hI := inv_rect (pick_rect n F)
    rw [xs_congr n _ (fun i => xs n (fun q => Gf.mul (u.getD q 0) (Gf.mul (grow n (F.getD q 0) i) (el (invF n (pickR n F)) i k)))) fun i hi => by
      rw [← hu.sol i hi, xs_mul _ _ _ fun q _ => Gf.mul_lt _ _ (hb q)]
      exact xs_congr _ _ _ fun q _ => Gf.mul_assoc _ _ _ (hb q) (grow_lt _ _ _) (hI.by _ _), xs_comm]
    rw [xs_congr n _ (fun q => Gf.mul (u.getD q 0) (if q = k then 1 else 0)) fun q hq => by
      rw [← mul_xs, ← (inv_ok (pick_rect n F) (pick_inv hn hF) hq hk).2]
      exact congrArg _ (xs_congr _ _ _ fun i hi => by rw [pick_el hq hi]), xs_single n k _ hk fun q _ hne => by rw [if_neg hne, Gf.mul_zero], if_pos rfl, Gf.mul_one _ (hb k)]
  rw [key w h, key w' h']
/-- By the inverse matrix. -/
def wtI (n : Nat) (F : List Nat) (p : Nat) : List Nat := (List.range n).map fun k => xs n (fun i => Gf.mul (grow n p i) (el (invF n (pickR n F)) i k))
theorem isW_inv {n : Nat} (hn : n ≤ 13) {F : List Nat} (hF : Cho n F) (p : Nat) : IsW n F p (wtI n F p) := by
  have hI := inv_rect (pick_rect n F)
  refine ⟨by simp [wtI], fun x hx => ?_, fun i hi => ?_⟩
  · obtain ⟨k, _, rfl⟩ := List.mem_map.1 hx
    exact xs_lt _ _ fun i _ => Gf.mul_lt _ _ (grow_lt _ _ _)
  · rw [xs_congr n _ (fun k => xs n (fun q => Gf.mul (grow n p q) (Gf.mul (el (invF n (pickR n F)) q k) (grow n (F.getD k 0) i)))) fun k hk => by
      rw [wtI, range_getD _ _ _ _ hk, xs_mul _ _ _ fun q _ => Gf.mul_lt _ _ (grow_lt _ _ _)]
      exact xs_congr _ _ _ fun q _ => Gf.mul_assoc _ _ _ (grow_lt _ _ _) (hI.by _ _) (grow_lt _ _ _), xs_comm]
    rw [xs_congr n _ (fun q => Gf.mul (grow n p q) (if q = i then 1 else 0)) fun q hq => by
      rw [← mul_xs, ← (inv_ok (pick_rect n F) (pick_inv hn hF) hq hi).1]
      exact congrArg _ (xs_congr _ _ _ fun k hk => by rw [pick_el hk hi]), xs_single n i _ hi fun q _ hne => by rw [if_neg hne, Gf.mul_zero], if_pos rfl, Gf.mul_one _ (grow_lt _ _ _)]
/-- The linear equations. -/
def eqL (n : Nat) (F : List Nat) (p : Nat) : List (List Nat) := gridL n (n + 1) fun i k => if k < n then grow n (F.getD k 0) i else grow n p i
theorem eq_rect (n : Nat) (F : List Nat) (p : Nat) : Rect n (n + 1) (eqL n F p) := gridL_rect fun _ _ => by split <;> exact grow_lt _ _ _
theorem eq_el {n : Nat} {F : List Nat} {p i k : Nat} (hi : i < n) (hk : k < n) : el (eqL n F p) i k = grow n (F.getD k 0) i := (gridL_el hi (by omega)).trans (if_pos hk)
theorem eq_last {n : Nat} {F : List Nat} {p i : Nat} (hi : i < n) : el (eqL n F p) i n = grow n p i := (gridL_el hi (by omega)).trans (if_neg (Nat.lt_irrefl n))
theorem eq_rank {n : Nat} (hn : n ≤ 13) {F : List Nat} (hF : Cho n F) (p : Nat) : (reduceF (eqL n F p) n).2.length = n := by
  rw [rank_eq (eq_rect n F p) (Nat.le_succ n) (fun i k => grow n (F.getD k 0) i) (fun _ _ => grow_lt _ _ _) fun i hi j hj => eq_el hi hj]
  exact pick_t hn hF
/-- By elimination. -/
def wtR (n : Nat) (F : List Nat) (p : Nat) : List Nat := (List.range n).map fun c => el (reduceF (eqL n F p) n).1 c n
theorem isW_red {n : Nat} (hn : n ≤ 13) {F : List Nat} (hF : Cho n F) (p : Nat) : IsW n F p (wtR n F p) := by
  obtain ⟨hR, hI⟩ := reduce_inv (eq_rect n F p) n
  have hr := eq_rank hn hF p
  have hid : ∀ i, i < n → (reduceF (eqL n F p) n).2.getD i 0 = i := inc_id (fun i => (reduceF (eqL n F p) n).2.getD i 0) (fun i hi => (hI.piv i (by omega)).1) fun i j hij hj => hI.inc i j hij (by omega)
  have hleft : ∀ i, i < n → ∀ j, j < n → el (reduceF (eqL n F p) n).1 i j = if i = j then 1 else 0 := by
    intro i hi j hj
    obtain ⟨_, p2, _, p4⟩ := hI.piv j (by omega)
    rw [hid j hj] at p2 p4
    by_cases e : i = j
    · rw [if_pos e, e]; exact p2
    · rw [if_neg e]; exact p4 i hi e
  refine ⟨by simp [wtR], fun x hx => ?_, fun i hi => ?_⟩
  · obtain ⟨k, _, rfl⟩ := List.mem_map.1 hx
    exact hR.by _ _
  · obtain ⟨c, hc, hs⟩ := hI.bw i hi
    have hcv : ∀ k, k < n → grow n (F.getD k 0) i = c k := fun k hk => by
      rw [← eq_el (p := p) hi hk, hs k (by omega), xs_congr n _ (fun q => Gf.mul (c q) (if q = k then 1 else 0)) fun q hq => by rw [hleft q hq k hk],
        xs_single n k _ hk fun q _ hne => by rw [if_neg hne, Gf.mul_zero], if_pos rfl, Gf.mul_one _ (hc k)]
    rw [← eq_last (F := F) (p := p) hi, hs n (by omega)]
    refine xs_congr _ _ _ fun k hk => ?_
    rw [hcv k hk, wtR, range_getD _ _ _ _ hk, Gf.mul_comm _ _ (hR.by _ _) (hc k)]
theorem wtI_eq {n : Nat} (hn : n ≤ 13) {F : List Nat} (hF : Cho n F) (p : Nat) : wtI n F p = wtR n F p := (isW_inv hn hF p).unique hn hF (isW_red hn hF p)

/-- A combination of blocks. -/
def combB (w : List Nat) (D : List (List Nat)) : List Nat := blk fun k => xs w.length (fun i => Gf.mul (w.getD i 0) (el D i k))
theorem combB_ok {w : List Nat} (hw : ∀ x ∈ w, x < 256) (D : List (List Nat)) : B8 (combB w D) := blk_ok fun k _ => xs_lt _ _ fun i _ => Gf.mul_lt _ _ (getD_bytes hw i)
/-- The pieces of a group, from its data. -/
theorem el_group {D : List (List Nat)} (hD : ∀ d ∈ D, B8 d) {p k : Nat} (hp : p < D.length + 3) (hk : k < 8) : el (D ++ parL D) p k = xs D.length (fun i => Gf.mul (grow D.length p i) (el D i k)) := by
  rcases Nat.lt_or_ge p D.length with h | h
  · rw [el_app_l k h, grow_data h fun i => el_lt hD i k]
  · obtain ⟨j, rfl⟩ : ∃ j, p = D.length + j := ⟨p - D.length, by omega⟩
    rw [el_app_r k h, Nat.add_sub_cancel_left, el_parL D (by omega) hk]
    exact xs_congr _ _ _ fun i _ => by rw [grow_par]
/-- Some pieces of a list. -/
def pickB (P : List (List Nat)) (F : List Nat) : List (List Nat) := F.map fun x => P.getD x []
theorem pickB_len (P : List (List Nat)) (F : List Nat) : (pickB P F).length = F.length := by simp [pickB]
theorem pickB_el {P : List (List Nat)} {F : List Nat} {i : Nat} (hi : i < F.length) (k : Nat) : el (pickB P F) i k = el P (F.getD i 0) k := by
  have : (pickB P F).getD i [] = P.getD (F.getD i 0) [] := by
    unfold pickB
    rw [getD_in (l := List.map _ _) (by rw [List.length_map]; exact hi), getD_in (l := F) hi]; simp
  unfold el
  rw [this]
theorem pickB_ok {P : List (List Nat)} (hP : ∀ d ∈ P, B8 d) {F : List Nat} (hF : ∀ x ∈ F, x < P.length) : ∀ d ∈ pickB P F, B8 d := by
  intro d hd
  obtain ⟨x, hx, rfl⟩ := List.mem_map.1 hd
  rw [getD_in (hF x hx)]; exact hP _ (List.getElem_mem _)
/-- In a group, each piece is the combination of any others with its weights. -/
theorem comb_group {D : List (List Nat)} (hD : ∀ d ∈ D, B8 d) {F : List Nat} (hF : Cho D.length F) {w : List Nat} {p : Nat} (hp : p < D.length + 3) (hw : IsW D.length F p w) : combB w (pickB (D ++ parL D) F) = (D ++ parL D).getD p [] := by
  have hG : ∀ d ∈ D ++ parL D, B8 d := fun d hd => (List.mem_append.1 hd).elim (hD d) (parL_ok D d)
  have hl : (D ++ parL D).length = D.length + 3 := by simp [parL]
  refine (combB_ok hw.byt _).ext (by rw [getD_in (by omega)]; exact hG _ (List.getElem_mem _)) fun k hk => ?_
  have hb := getD_bytes hw.byt
  rw [combB, blk_at _ hk, hw.len, xs_congr _ _ (fun q => xs D.length (fun i => Gf.mul (Gf.mul (w.getD q 0) (grow D.length (F.getD q 0) i)) (el D i k))) fun q hq => by
    rw [pickB_el (by rw [hF.len]; exact hq), el_group hD (hF.at hq) hk, mul_xs]
    exact xs_congr _ _ _ fun i _ => (Gf.mul_assoc _ _ _ (hb q) (grow_lt _ _ _) (el_lt hD i k)).symm, xs_comm]
  rw [xs_congr _ _ (fun i => Gf.mul (grow D.length p i) (el D i k)) fun i hi => by
    rw [← xs_mul _ _ _ fun q _ => Gf.mul_lt _ _ (hb q), hw.sol i hi]]
  exact (el_group hD hp hk).symm

/-- The good ones among the first i. -/
def goodL (bad : List Bool) (i : Nat) : List Nat := (List.range i).filter fun k => !bad.getD k false
def cntL (bad : List Bool) (i : Nat) : Nat := ((List.range i).filter fun k => bad.getD k false).length
theorem goodL_succ (bad : List Bool) (i : Nat) : goodL bad (i + 1) = if bad.getD i false then goodL bad i else goodL bad i ++ [i] := by
  unfold goodL; rw [List.range_succ, List.filter_append, List.filter_cons, List.filter_nil]
  cases bad.getD i false
  · rfl
  · exact List.append_nil _
theorem cntL_succ (bad : List Bool) (i : Nat) : cntL bad (i + 1) = cntL bad i + if bad.getD i false then 1 else 0 := by
  unfold cntL; rw [List.range_succ, List.filter_append, List.filter_cons, List.filter_nil, List.length_append]
  cases bad.getD i false <;> rfl
theorem cnt_good (bad : List Bool) (i : Nat) : cntL bad i + (goodL bad i).length = i := by
  induction i with
  | zero => rfl
  | succ i ih =>
    rw [cntL_succ, goodL_succ]
    cases bad.getD i false <;> simp <;> omega
theorem goodL_mem {bad : List Bool} {i x : Nat} : x ∈ goodL bad i ↔ x < i ∧ bad.getD x false = false := by
  unfold goodL; rw [List.mem_filter, List.mem_range]; simp
/-- The first n good ones. -/
def fromL (bad : List Bool) (n : Nat) : List Nat := (goodL bad (n + 3)).take n
theorem from_cho {bad : List Bool} {n : Nat} (h : cntL bad (n + 3) ≤ 3) : Cho n (fromL bad n) := by
  have := cnt_good bad (n + 3)
  refine ⟨by unfold fromL; rw [List.length_take]; omega, ?_, fun x hx => (goodL_mem.1 (List.mem_of_mem_take hx)).1⟩
  exact (List.pairwise_lt_range.filter _).sublist (List.take_sublist _ _)
/-- What is decoded. -/
def decL (P : List (List Nat)) (bad : List Bool) : List (List Nat) := (List.range P.length).map fun i => if bad.getD i false then combB (wtR (P.length - 3) (fromL bad (P.length - 3)) i) (pickB P (fromL bad (P.length - 3))) else P.getD i []
theorem decL_len (P : List (List Nat)) (bad : List Bool) : (decL P bad).length = P.length := by simp [decL]
theorem decL_at {P : List (List Nat)} {bad : List Bool} {i : Nat} (hi : i < P.length) : (decL P bad).getD i [] = if bad.getD i false then combB (wtR (P.length - 3) (fromL bad (P.length - 3)) i) (pickB P (fromL bad (P.length - 3))) else P.getD i [] := range_getD _ _ _ _ hi
theorem wtR_ok (n : Nat) (F : List Nat) (p : Nat) : ∀ x ∈ wtR n F p, x < 256 := by
  intro x hx
  obtain ⟨k, _, rfl⟩ := List.mem_map.1 hx
  exact (reduce_inv (eq_rect n F p) n).1.by _ _
theorem decL_ok {P : List (List Nat)} (hP : ∀ d ∈ P, B8 d) (bad : List Bool) : ∀ d ∈ decL P bad, B8 d := by
  intro d hd
  obtain ⟨i, hi, rfl⟩ := List.mem_map.1 hd
  split
  · exact combB_ok (wtR_ok _ _ _) _
  · rw [getD_in (List.mem_range.1 hi)]; exact hP _ (List.getElem_mem _)
/-- A group is restored. -/
theorem restore {P : List (List Nat)} {bad : List Bool} {D : List (List Nat)} (hD : ∀ d ∈ D, B8 d) (h13 : D.length ≤ 13) (hP : P.length = D.length + 3) (hb : cntL bad (D.length + 3) ≤ 3) (h : ∀ i, i < P.length → bad.getD i false = false → P.getD i [] = (D ++ parL D).getD i []) : decL P bad = D ++ parL D := by
  have hl : (D ++ parL D).length = D.length + 3 := by simp [parL]
  refine list_ext [] (by rw [decL_len, hP, hl]) fun i hi => ?_
  rw [decL_len] at hi
  have en : P.length - 3 = D.length := by omega
  rw [decL_at hi, en]
  have hC := from_cho hb
  rcases hbi : bad.getD i false with _ | _
  · rw [if_neg (by decide)]; exact h i hi hbi
  · rw [if_pos rfl, ← comb_group hD hC (by omega) (isW_red h13 hC i)]
    congr 1
    refine List.map_congr_left fun x hx => ?_
    have := goodL_mem.1 (List.mem_of_mem_take hx)
    exact h x (by omega) this.2

/-! Syndromes -/
def synB (P : List (List Nat)) (j : Nat) : List Nat := xorB (parB (P.take (P.length - 3)) j) (P.getD (P.length - 3 + j) [])
def synL (P : List (List Nat)) : List (List Nat) := [synB P 0, synB P 1, synB P 2]
theorem synB_ok {P : List (List Nat)} (hP : ∀ d ∈ P, B8 d) (h3 : 3 ≤ P.length) {j : Nat} (hj : j < 3) : B8 (synB P j) := xorB_ok (parB_ok _ _) (by rw [getD_in (by omega)]; exact hP _ (List.getElem_mem _))
theorem synB_at {P : List (List Nat)} (hP : ∀ d ∈ P, B8 d) (h4 : 4 ≤ P.length) (h16 : P.length ≤ 16) {j k : Nat} (hj : j < 3) (hk : k < 8) : (synB P j).getD k 0 = syn (P.length - 3) (fun i => el P i k) j := by
  rw [synB, xorB, blk_at _ hk, parB, blk_at _ hk, syn_split _ (by omega) _ (fun i => el_lt hP i k) hj]
  congr 1
  unfold par
  rw [show (P.take (P.length - 3)).length = P.length - 3 by rw [List.length_take]; omega]
  exact xs_congr _ _ _ fun i hi => by unfold el; simp only [List.getD, List.getElem?_take_of_lt hi]
theorem chk_syn {P : List (List Nat)} (hP : ∀ d ∈ P, B8 d) (h4 : 4 ≤ P.length) (h16 : P.length ≤ 16) : chk P = true ↔ ∀ j, j < 3 → ∀ k, k < 8 → syn (P.length - 3) (fun i => el P i k) j = 0 := by
  have tl : (P.take (P.length - 3)).length = P.length - 3 := by rw [List.length_take]; omega
  have tP : ∀ d ∈ P.take (P.length - 3), B8 d := fun d hd => hP d (List.mem_of_mem_take hd)
  have tG : ∀ d ∈ P.take (P.length - 3) ++ parL (P.take (P.length - 3)), B8 d := fun d hd => (List.mem_append.1 hd).elim (tP d) (parL_ok _ d)
  rw [chk, decide_eq_true_eq]
  constructor
  · rintro ⟨-, -, h⟩ j hj k hk
    have := syn_group tP (by omega) hj hk
    rwa [← h, tl] at this
  · intro h
    refine ⟨h4, h16, bl_ext hP tG (by simp [parL]; omega) fun i hi k hk => ?_⟩
    rcases Nat.lt_or_ge i (P.length - 3) with hlt | hge
    · rw [el_app_l k (by omega)]; unfold el; simp only [List.getD, List.getElem?_take_of_lt hlt]
    · obtain ⟨j, rfl⟩ : ∃ j, i = P.length - 3 + j := ⟨i - (P.length - 3), by omega⟩
      rw [el_app_r k (by omega), tl, Nat.add_sub_cancel_left, el_parL _ (by omega) hk]
      have := h j (by omega) k hk
      rw [syn_split _ (by omega) _ (fun i => el_lt hP i k) (by omega)] at this
      have e : par (P.take (P.length - 3)) j k = xs (P.length - 3) (fun i => Gf.mul (Gf.gpow 2 (j * i)) (el P i k)) := by
        unfold par; rw [tl]
        exact xs_congr _ _ _ fun i hi => by unfold el; simp only [List.getD, List.getElem?_take_of_lt hi]
      rw [e]
      have := congrArg (· ^^^ el P (P.length - 3 + j) k) this
      simpa [Nat.xor_assoc] using this.symm
theorem syn_set {P : List (List Nat)} (hP : ∀ d ∈ P, B8 d) {n : Nat} (hn : P.length = n + 3) {i : Nat} (hi : i < P.length) {b : List Nat} (hb : B8 b) {j k : Nat} : syn n (fun m => el (P.set i b) m k) j = syn n (fun m => el P m k) j ^^^ Gf.mul (ucol (colI n i) j) (el P i k ^^^ b.getD k 0) := by
  unfold syn
  rw [xs_split (n + 3) i (by omega) _ (fun m => Gf.mul (ucol (colI n m) j) (el P m k)) fun m _ hne => by show Gf.mul _ (el (P.set i b) m k) = _; rw [el_set b hi, if_neg hne]]
  show _ ^^^ (Gf.mul _ (el (P.set i b) i k) ^^^ _) = _
  rw [el_set b hi, if_pos rfl, ← Gf.mul_xor_right, Nat.xor_comm (b.getD k 0)]
/-- Which change of piece i makes the group consistent. -/
def Fix (n : Nat) (S : Nat → Nat → Nat) (i : Nat) : Prop := ∃ x : Nat → Nat, By x ∧ ∀ j, j < 3 → ∀ k, k < 8 → S j k = Gf.mul (ucol (colI n i) j) (x k)
theorem set_ok {P : List (List Nat)} (hP : ∀ d ∈ P, B8 d) {b : List Nat} (hb : B8 b) (i : Nat) : ∀ d ∈ P.set i b, B8 d := fun d hd => by
  rcases List.mem_or_eq_of_mem_set hd with h | rfl
  · exact hP d h
  · exact hb
theorem xor_cancel {a b : Nat} (h : a ^^^ b = 0) : a = b := by
  have := congrArg (· ^^^ b) h
  simpa [Nat.xor_assoc] using this
theorem fix_iff {P : List (List Nat)} (hP : ∀ d ∈ P, B8 d) (h4 : 4 ≤ P.length) (h16 : P.length ≤ 16) {i : Nat} (hi : i < P.length) : (∃ b, B8 b ∧ chk (P.set i b) = true) ↔ Fix (P.length - 3) (fun j k => syn (P.length - 3) (fun m => el P m k) j) i := by
  have hl : ∀ b, (P.set i b).length = P.length := fun b => List.length_set
  have hn : P.length = P.length - 3 + 3 := by omega
  constructor
  · rintro ⟨b, hb, hc⟩
    rw [chk_syn (set_ok hP hb i) (by rw [hl]; exact h4) (by rw [hl]; exact h16), hl] at hc
    refine ⟨fun k => el P i k ^^^ b.getD k 0, fun k => Gf.xor_lt _ _ (el_lt hP i k) (hb.lt k), fun j hj k hk => ?_⟩
    have := hc j hj k hk
    rw [syn_set hP hn hi hb] at this
    exact xor_cancel this
  · rintro ⟨x, hx, h⟩
    have hb : B8 (blk fun k => el P i k ^^^ x k) := blk_ok fun k _ => Gf.xor_lt _ _ (el_lt hP i k) (hx k)
    refine ⟨_, hb, ?_⟩
    rw [chk_syn (set_ok hP hb i) (by rw [hl]; exact h4) (by rw [hl]; exact h16), hl]
    intro j hj k hk
    rw [syn_set hP hn hi hb, show syn (P.length - 3) (fun m => el P m k) j = _ from h j hj k hk, blk_at _ hk, ← Nat.xor_assoc, Nat.xor_self, Nat.zero_xor, Nat.xor_self]
/-- Only one piece can be to blame. -/
theorem fix_one {P : List (List Nat)} (hP : ∀ d ∈ P, B8 d) (hc : chk P = false) {i j : Nat} (hi : i < P.length) (hj : j < P.length) {b c : List Nat} (hb : B8 b) (hb' : B8 c) (h1 : chk (P.set i b) = true) (h2 : chk (P.set j c) = true) : i = j := by
  apply Classical.byContradiction
  intro hne
  have e := chk_three (set_ok hP hb i) (set_ok hP hb' j) (by simp) h1 h2 (a := i) (b := j) (c := i) (by simpa using hi) (by simpa using hj) (by simpa using hi) fun m hm h3 h4 _ k _ => by
    rw [el_set _ hj, if_neg h4, el_set _ hi, if_neg h3]
  have : P.set i b = P := by
    refine list_ext [] (by simp) fun m hm => ?_
    rw [List.length_set] at hm
    by_cases e1 : m = i
    · have e2 : (P.set j c).getD m [] = P.getD m [] := by rw [getD_set, if_neg fun h => hne (e1 ▸ h.1.symm)]
      rw [← e2, e]
    · rw [getD_set, if_neg fun h => e1 h.1.symm]
  rw [this, hc] at h1
  cases h1
end Go.Proofs.Ytheijobnmdbodaa
