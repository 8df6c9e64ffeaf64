/- Contracts: SameInts, lead; matrices that a call makes itself: zeros, Identity. -/
import Derived.Test.YtfhgalfdlkdliaaMxb
import Derived.Deep.OwnRows
namespace Go.Proofs.Ytfhgalfdlkdliaa
open Go Go.RowKit

set_option maxHeartbeats 1000000 in
set_option maxRecDepth 100000 in
theorem isame_any (v1 v2 : Value) (l1 l2 : List Int) (w : World) (h1 : Is w v1 l1) (h2 : Is w v2 l2) :
    Calls Try.prog 31 #[v1, v2] w (drPost (.bool (decide (l1 = l2))) w) := by
  have hc1 := fun hn => Is.at_ h1 hn
  have hc2 := fun hn => Is.at_ h2 hn
  obtain ⟨A1, c1, rfl⟩ := Sl.form h1
  obtain ⟨A2, c2, rfl⟩ := Sl.form h2
  have HC1 := Lib.hid hc1
  have HC2 := Lib.hid hc2
  clear h1 h2 hc1 hc2
  obtain ⟨n, hn⟩ : ∃ n, l1.length = n := ⟨_, rfl⟩
  obtain ⟨n2, hn2⟩ : ∃ n, l2.length = n := ⟨_, rfl⟩
  rw [hn, hn2]
  have N := Lib.hid hn
  have N2 := Lib.hid hn2
  clear hn hn2
  by_cases he : n = n2
  · subst he
    have hm : (n : Int) ≤ 9223372036854775807 := by
      rcases Nat.eq_zero_or_pos n with h0 | h0
      · omega
      · obtain ⟨_, _, _, _, hm, _⟩ := HC1.out (by rw [N.out]; exact h0)
        rw [N.out] at hm; unfold maxLen at hm; omega
    go_enter Try.func31, Try.ntmps31
    go_wp2
    go_loopw [5] (fun i wr => ∃ k : Nat, k ≤ n ∧ i = .int .i64 (k : Int) ∧ Hid (Dr w wr ∧ ∀ j, j < k → l1.getD j 0 = l2.getD j 0)) (fun i _ => n - (intOf i).toNat)
    case atStart => exact ⟨0, Nat.zero_le _, rfl, Lib.hid ⟨Dr.refl w, fun j hj => absurd hj (Nat.not_lt_zero j)⟩⟩
    case round =>
      obtain ⟨k, hk, rfl, H⟩ := hrel
      by_cases hlt : k < n
      · obtain ⟨b1, o1, c1', hv, -, hrow1⟩ := HC1.out (by rw [N.out]; omega)
        injection hv with hv1 hv2 hv3
        subst hv1
        obtain ⟨b2, o2, c2', hv', -, hrow2⟩ := HC2.out (by rw [N2.out]; omega)
        injection hv' with hv1' hv2' hv3'
        subst hv1'
        clear hv2 hv3 hv2' hv3'
        have q1 := hrow1 k (by rw [N.out]; exact hlt)
        have q2 := hrow2 k (by rw [N2.out]; exact hlt)
        rw [← H.out.1.cell] at q1 q2
        clear hrow1 hrow2
        have hkI : (k : Int) < (n : Int) := by omega
        obtain ⟨x, hx⟩ : ∃ x, l1.getD k 0 = x := ⟨_, rfl⟩
        obtain ⟨y, hy⟩ : ∃ y, l2.getD k 0 = y := ⟨_, rfl⟩
        rw [hx] at q1
        rw [hy] at q2
        have X := Lib.hid hx
        have Y := Lib.hid hy
        clear hx hy
        by_cases hs : x = y
        · have g : (x != y) = false := by simp [hs]
          have S := Lib.hid hs
          clear hs
          go_wp2
          go_quiet (fail)
          go_wp2
          go_roundw
          case rel =>
            refine ⟨k + 1, by omega, by go_num, Lib.hid ⟨H.out.1.more _, fun j hj => ?_⟩⟩
            rcases Nat.lt_or_ge j k with h | h
            · exact H.out.2 j h
            · obtain rfl : j = k := by omega
              rw [X.out, Y.out, S.out]
          case measure => simp [intOf]; omega
        · have g : (x != y) = true := by simp [hs]
          have S := Lib.hid hs
          clear hs
          go_wp2
          go_quiet (fail)
          go_wp2
          go_ret
          refine ⟨ret_bool ?_, H.out.1.more _⟩
          exact (decide_eq_false fun e => S.out (by rw [← X.out, ← Y.out, e])).symm
      · go_wp2
        go_ret
        refine ⟨ret_bool ?_, H.out.1⟩
        refine (decide_eq_true ?_).symm
        refine list_ext' 0 (by rw [N.out, N2.out]) fun i hi => H.out.2 i (by rw [N.out] at hi; omega)
  · have g0 : ((n : Int) != (n2 : Int)) = true := by simp; omega
    have G : Hid (decide (l1 = l2) = false) := Lib.hid (decide_eq_false fun e => he (by rw [← N.out, ← N2.out, e]))
    clear he
    go_enter Try.func31, Try.ntmps31
    go_wp2
    go_ret
    exact ⟨ret_bool G.out.symm, Dr.refl w⟩

theorem Bs.at_ {w : World} {v : Value} {l : List Nat} (h : Bs w v l) (hn : 0 < l.length) :
    ∃ b off c, v = .slice (some ⟨b, off, none⟩) l.length c ∧ (l.length ≤ c ∧ c ≤ maxLen) ∧ ∀ k, k < l.length → w.cell? ⟨b, off + k, none⟩ = some (.int .u8 ((l.getD k 0 : Nat) : Int)) := by
  obtain ⟨A, c, rfl, hm, hl, hz, hc⟩ := h
  obtain ⟨b, off, rfl, hcell⟩ := hc hn
  exact ⟨b, off, c, rfl, hm, hcell⟩

/-- A new matrix: block B holds its rows, which lie in the blocks behind. -/
structure Grid (w : World) (B r c : Nat) (f : Nat → Nat → Nat) : Prop where
  top : w.rowIs B 27 r (fun i => .slice (some ⟨B + 1 + i, 0, none⟩) c c)
  row : ∀ i, i < r → w.rowIs (B + 1 + i) 5 c (fun j => .int .u8 ((f i j : Nat) : Int))
  byt : ∀ i j, f i j < 256
def gridL (r c : Nat) (f : Nat → Nat → Nat) : List (List Nat) := (List.range r).map fun i => (List.range c).map (f i)
section
variable {w w' : World} {B r c : Nat} {f : Nat → Nat → Nat}
theorem Grid.lt (h : Grid w B r c f) {i : Nat} (hi : i < r) : B + 1 + i < w.heap.size := (h.row i hi).lt
theorem Grid.keep (h : Grid w B r c f) (hk : ∀ k, k < w.heap.size → w'.heap[k]? = w.heap[k]?) : Grid w' B r c f :=
  ⟨h.top.of_block (hk B h.top.lt), fun i hi => (h.row i hi).of_block (hk _ (h.lt hi)), h.byt⟩
theorem Grid.below (h : Grid w B r c f) {B' : Nat} (hb : Below B' w w') (hB : w.heap.size ≤ B') : Grid w' B r c f := h.keep fun k hk => hb.block k (by omega)
theorem Grid.drew (h : Grid w B r c f) : Grid w.drew B r c f := h.keep fun _ _ => rfl
theorem Grid.dr (h : Grid w B r c f) (q : Nat) : Grid (w.drewN q) B r c f := h.keep fun _ _ => rfl
theorem Grid.set (h : Grid w B r c f) {i : Nat} (hi : i < r) (j : Nat) {x : Nat} (hx : x < 256) : Grid (w.setCell ⟨B + 1 + i, j, none⟩ (.int .u8 (x : Int))) B r c (fun i' j' => if i' = i ∧ j' = j then x else f i' j') := by
  refine ⟨h.top.setOther (by show B ≠ B + 1 + i; omega) _, fun i' hi' => ?_, fun i' j' => by split; exact hx; exact h.byt _ _⟩
  by_cases e : i' = i
  · subst e
    refine ((h.row i' hi').set j (.int .u8 (x : Int))).congr fun j' _ => ?_
    by_cases e : j' = j
    · rw [if_pos e, if_pos ⟨rfl, e⟩]
    · rw [if_neg e, if_neg fun hh => e hh.2]
  · refine ((h.row i' hi').setOther (by show B + 1 + i' ≠ B + 1 + i; omega) _).congr fun j' _ => ?_
    rw [if_neg fun hh => e hh.1]
theorem Grid.congr {g : Nat → Nat → Nat} (h : Grid w B r c f) (e : ∀ i, i < r → ∀ j, j < c → f i j = g i j) (hg : ∀ i j, g i j < 256) : Grid w B r c g :=
  ⟨h.top, fun i hi => (h.row i hi).congr fun j hj => by rw [e i hi j hj], hg⟩
theorem gridL_rect (hf : ∀ i j, f i j < 256) : Rect r c (gridL r c f) := by
  refine ⟨by simp [gridL], fun i hi => ?_⟩
  unfold gridL
  rw [range_getD _ _ _ _ hi]
  refine ⟨by simp, fun x hx => ?_⟩
  obtain ⟨j, _, rfl⟩ := List.mem_map.1 hx
  exact hf i j
theorem gridL_el {i j : Nat} (hi : i < r) (hj : j < c) : el (gridL r c f) i j = f i j := by
  unfold el gridL
  rw [range_getD _ _ _ _ hi, range_getD _ _ _ _ hj]
theorem Grid.bs (h : Grid w B r c f) {i : Nat} (hi : i < r) (hc : c ≤ maxLen) : Bs w (.slice (some ⟨B + 1 + i, 0, none⟩) c c) ((List.range c).map (f i)) := by
  obtain ⟨cs, hh, hs, hcell⟩ := h.row i hi
  refine Bs.of_row (t := 5) (cs := cs) hh (by simp) ⟨Nat.le_refl _, hc⟩ (fun x hx => ?_) fun k hk => ?_
  · obtain ⟨j, _, rfl⟩ := List.mem_map.1 hx
    exact h.byt i j
  · rw [hcell k hk, range_getD _ _ _ _ hk]
theorem Grid.wk (h : Grid w B r c f) (hr : r ≤ maxLen) (hc : c ≤ maxLen) : Wk Bs w B 27 r (gridL r c f) := by
  obtain ⟨cs, hh, hs, hcell⟩ := h.top
  refine ⟨cs, hh, hs, hr, by simp [gridL], fun k hk => ?_⟩
  have hk' : k < r := by simpa [gridL] using hk
  refine ⟨_, hcell k hk', ?_⟩
  have : (gridL r c f)[k] = (List.range c).map (f k) := by simp [gridL]
  rw [this]
  refine (h.bs hk' hc).off_of fun g hg => ?_
  injection hg with hg
  have : B + 1 + k = g := hg
  omega
end

theorem info_bytes : (Try.prog.info? 27).map (fun i => (i.zero, i.size, i.bytes)) = some (some (.slice none 0 0), 1, 24) := by kernel_rfl

def zerosPost (r c : Nat) (w : World) (e : Ending) (w' : World) : Prop :=
  e = .returned (.slice (some ⟨w.heap.size, 0, none⟩) r r) ∧ Grid w' w.heap.size r c (fun _ _ => 0) ∧ Below w.heap.size w w' ∧ w'.heap.size = w.heap.size + 1 + r
set_option maxHeartbeats 1000000 in
set_option maxRecDepth 100000 in
theorem zeros_any (r c : Nat) (w : World) (hr : r ≤ 1000) (hc : c ≤ 1000) :
    Calls Try.prog 33 #[.int .i64 (r : Int), .int .i64 (c : Int)] w (zerosPost r c w) := by
  have hm1 := run_make_row' (P := Try.prog) 25 27 _ _ Try.underlying25 info_bytes rfl .i64 .i64 r (by omega) (by omega)
  have hm2 := run_make_row' (P := Try.prog) 27 5 _ _ Try.underlying27 info_u8 rfl .i64 .i64 c (by omega) (by omega)
  go_enter Try.func33, Try.ntmps33
  go_wp2
  go_loopw [6, 11] (fun _ i wr => ∃ k : Nat, k ≤ r ∧ i = .int .i64 (k : Int) ∧ Hid (Below w.heap.size w wr ∧ wr.heap.size = w.heap.size + 1 + k ∧ wr.rowIs w.heap.size 27 r (fun i => if i < k then .slice (some ⟨w.heap.size + 1 + i, 0, none⟩) c c else .slice none 0 0) ∧
    ∀ i, i < k → wr.rowIs (w.heap.size + 1 + i) 5 c (fun _ => .int .u8 0))) (fun _ i _ => r - (intOf i).toNat)
  case atStart =>
    refine ⟨0, Nat.zero_le _, rfl, Lib.hid ⟨(Below.refl _ _).alloc (Nat.le_refl _) _, by simp, ?_, fun i hi => absurd hi (Nat.not_lt_zero i)⟩⟩
    exact (World.rowIs_made w _ r _).congr fun i _ => by rw [if_neg (Nat.not_lt_zero i)]
  case round =>
    obtain ⟨k, hk, rfl, H⟩ := hrel
    by_cases hlt : k < r
    · obtain ⟨hbel, hsz, htop, hrows⟩ := H.out
      have q1 : ∀ o, (wr.alloc o).cell? ⟨w.heap.size, k, none⟩ = some (.slice none 0 0) := fun o => by
        have := (htop.alloc o).cell hlt
        rwa [if_neg (Nat.lt_irrefl k)] at this
      have q2 : ∀ o, (wr.alloc o).frozen? ⟨w.heap.size, k, none⟩ = false := fun o => (htop.alloc o).frozen k
      have HB := Lib.hid hbel
      have HS := Lib.hid hsz
      have HT := Lib.hid htop
      have HRS := Lib.hid hrows
      clear hbel hsz htop hrows
      go_wp2
      go_roundw
      case rel =>
        have hle : w.heap.size ≤ wr.heap.size := by have := HS.out; omega
        refine ⟨k + 1, by omega, by go_num, Lib.hid ⟨(HB.out.alloc hle _).setCell (Nat.le_refl _) _, by simp [World.setCell, HS.out]; omega, ?_, fun i hi => ?_⟩⟩
        · refine ((HT.out.alloc _).set k _).congr fun i hi => ?_
          by_cases e : i = k
          · rw [if_pos e, if_pos (by omega), e, HS.out]
          · rw [if_neg e]
            by_cases e2 : i < k
            · rw [if_pos e2, if_pos (by omega)]
            · rw [if_neg e2, if_neg (by omega)]
        · refine World.rowIs.setOther ?_ (by show w.heap.size + 1 + i ≠ w.heap.size; omega) _
          rcases Nat.lt_or_ge i k with h | h
          · exact (HRS.out i h).alloc _
          · obtain rfl : i = k := by omega
            rw [← HS.out]
            exact World.rowIs_made wr _ c _
      case measure => simp [intOf]; omega
    · go_wp2
      go_ret
      obtain ⟨hbel, hsz, htop, hrows⟩ := H.out
      obtain rfl : k = r := by omega
      exact ⟨rfl, ⟨htop.congr fun i hi => by rw [if_pos hi], fun i hi => hrows i hi, fun _ _ => Nat.succ_pos 255⟩, hbel, hsz⟩
end Go.Proofs.Ytfhgalfdlkdliaa
