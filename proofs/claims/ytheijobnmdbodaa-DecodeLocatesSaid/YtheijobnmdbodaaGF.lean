/- Joined: Mxd Mxe Mxf Mxg Mxh. -/
import Derived.Test.YtheijobnmdbodaaGE
import Derived.Test.YtheijobnmdbodaaGD
import Derived.Test.YtheijobnmdbodaaGB
import Derived.Deep.DeepMust
namespace Go.Proofs.Ytheijobnmdbodaa
open Go Go.RowKit

/-- A new list of bytes. -/
def madeRow (l : List Nat) (w : World) (e : Ending) (w' : World) : Prop := ∃ v, e = .returned v ∧ Bs w' v l ∧ (∀ k, v.ownBlock = some k → w.heap.size ≤ k) ∧ Below w.heap.size w w'
set_option maxHeartbeats 400000 in
theorem combined_any (v1 v2 : Value) (d s : List Nat) (c : Nat) (w : World) (h1 : Bs w v1 d) (h2 : Bs w v2 s) (hl : d.length = s.length) (hc : c < 256) (hr : d.length ≤ 140737488351232) :
    Calls Try.prog 59 #[v1, v2, .int .u8 (c : Int)] w (madeRow (fused d s c) w) := by
  have F := Lib.hid (fused_new v1 v2 d s c w h1 h2 hl hc hr)
  clear h1 h2 hl hr
  go_enter Try.func59, Try.ntmps59
  go_wp2_with fail
  refine F.out.mono ?_
  rintro e w' ⟨v, rfl, hb, hn, hw⟩
  have P := Lib.hid (And.intro hb (And.intro hn hw))
  clear hb hn hw
  go_wp2_with fail
  go_ret
  exact ⟨v, rfl, P.out.1, P.out.2.1, P.out.2.2⟩

theorem bs_zeros (w : World) (n : Nat) (hn : n ≤ maxLen) : Bs (w.alloc (.cells (madeCells #[.int .u8 0] n) 5)) (.slice (some ⟨w.heap.size, 0, none⟩) n n) (List.replicate n 0) := by
  refine Bs.of_row (t := 5) (cs := madeCells #[.int .u8 0] n) (heap_alloc_new w _) (by simp) ⟨Nat.le_refl _, hn⟩ (replicate_bytes n) fun k hk => ?_
  rw [replicate_getD]
  simp [madeCells, hk, Nat.mod_one]

set_option maxHeartbeats 400000 in
set_option maxRecDepth 100000 in
theorem normalized_any (v : Value) (l : List Nat) (q : Nat) (w : World) (h : Bs w v l) (hq : q < l.length) (hne : l.getD q 0 ≠ 0) (hr : l.length ≤ 1000) :
    Calls Try.prog 69 #[v, .int .i64 (q : Int)] w (madeRow (normF l q) w) := by
  have hx := h.getD_lt q
  have I := Lib.hid (inv_nz (l.getD q 0) hx hne w)
  have hil := inv_lt (l.getD q 0) hx
  have C := Lib.hid (combined_any (.slice (some ⟨w.heap.size, 0, none⟩) l.length l.length) v (List.replicate l.length 0) l (Gf.inv (l.getD q 0)) (w.alloc (.cells (madeCells #[.int .u8 0] l.length) 5)) (bs_zeros w l.length h.len) (h.alloc _) (by simp) hil (by simp; omega))
  obtain ⟨b, off, c, rfl, hm, hrow⟩ := Bs.at_ h (by omega)
  have q1 := hrow q hq
  have hmk := run_make_row' (P := Try.prog) 24 5 _ _ Try.underlying24 info_u8 rfl .i64 .i64 l.length (by omega) (by omega)
  have E : Hid (fused (List.replicate l.length 0) l (Gf.inv (l.getD q 0)) = normF l q) := Lib.hid rfl
  clear hrow hne h
  generalize l.getD q 0 = x at *
  generalize l.length = n at *
  have hqI : (q : Int) < (n : Int) := by omega
  go_enter Try.func69, Try.ntmps69
  go_wp2_with fail
  refine I.out.mono ?_
  rintro e w' ⟨rfl, rfl⟩
  go_wp2_with fail
  refine C.out.mono ?_
  rintro e w' ⟨v, rfl, hb, hn, hw⟩
  rw [E.out] at hb
  have P := Lib.hid (And.intro hb (And.intro hn hw))
  clear hb hn hw
  go_wp2_with fail
  go_ret
  refine ⟨v, rfl, P.out.1, fun k hk => ?_, ((Below.refl _ w).alloc (Nat.le_refl _) _).trans (P.out.2.2.mono (by simp))⟩
  have := P.out.2.1 k hk
  simp at this
  omega

/-- The identity. -/
def idL (n : Nat) : List (List Nat) := gridL n n fun i j => if j = i then 1 else 0
theorem id_byte (i j : Nat) : (if j = i then 1 else 0) < 256 := by split <;> decide
theorem idL_rect (n : Nat) : Rect n n (idL n) := gridL_rect fun _ _ => id_byte _ _

def msPost (m : List (List Nat)) (w : World) (e : Ending) (w' : World) : Prop :=
  ∃ v, e = .returned (.tuple #[v, .int .i64 0]) ∧ Ms w' v m ∧ Below w.heap.size w w'
set_option maxHeartbeats 1000000 in
set_option maxRecDepth 100000 in
theorem identity_ok (n : Nat) (w : World) (h1 : 1 ≤ n) (h2 : n ≤ 64) : Calls Try.prog 45 #[.int .i64 (n : Int)] w (msPost (idL n) w) := by
  go_enter Try.func45, Try.ntmps45
  go_wp2_with (go_at_call 55; refine (side_t _ _ (by omega) (by omega)).mono ?_; rintro e w' ⟨rfl, rfl⟩)
  refine (zeros_any n n _ (by omega) (by omega)).mono ?_
  rintro e w1 ⟨rfl, hg, hb, hs⟩
  have HG := Lib.hid hg
  have HB := Lib.hid hb
  clear hg hb hs
  go_wp2_with fail
  go_loopw [5, 6, 15] (fun _ _ i wr => ∃ k : Nat, k ≤ n ∧ i = .int .i64 (k : Int) ∧ Hid (Below w.heap.size w wr ∧ Grid wr w.heap.size n n (fun i j => if i < k then (if j = i then 1 else 0) else 0))) (fun _ _ i _ => n - (intOf i).toNat)
  case atStart =>
    exact ⟨0, Nat.zero_le _, rfl, Lib.hid ⟨HB.out, HG.out.congr (fun i _ j _ => by rw [if_neg (Nat.not_lt_zero i)]) fun i j => by rw [if_neg (Nat.not_lt_zero i)]; decide⟩⟩
  case round =>
    obtain ⟨k, hk, rfl, H⟩ := hrel
    by_cases hlt : k < n
    · obtain ⟨hbel, hg⟩ := H.out
      have q1 := hg.top.cell hlt
      have q2 := (hg.row k hlt).cell hlt
      have q3 := (hg.row k hlt).frozen k
      have BB := Lib.hid hbel
      have GG := Lib.hid hg
      have hkI : (k : Int) < (n : Int) := by omega
      clear hbel hg
      go_wp2
      go_roundw
      case rel =>
        refine ⟨k + 1, by omega, by go_num, Lib.hid ⟨BB.out.setCell (by show w.heap.size ≤ w.heap.size + 1 + k; omega) _, ?_⟩⟩
        refine (GG.out.set hlt k (x := 1) (by decide)).congr (fun i _ j _ => ?_) fun i j => ?_
        · (repeat' split) <;> first | rfl | omega
        · split
          · split <;> decide
          · decide
      case measure => simp [intOf]; omega
    · go_wp2
      go_ret2
      obtain ⟨hbel, hg⟩ := H.out
      obtain rfl : k = n := by omega
      refine ⟨_, rfl, ?_, hbel⟩
      have hg' : Grid wr w.heap.size k k (fun i j => if j = i then 1 else 0) := hg.congr (fun i hi j _ => by rw [if_pos hi]) fun i j => id_byte i j
      have := (hg'.wk (by unfold maxLen; omega) (by unfold maxLen; omega)).sl
      rwa [(gridL_rect hg'.byt).len] at this
set_option maxHeartbeats 400000 in
theorem identity_err (n : Int) (w : World) (h : n < 1 ∨ 64 < n) : Calls Try.prog 45 #[.int .i64 n] w fun e w' => e = .returned (.tuple #[.slice none 0 0, .int .i64 1]) ∧ w = w' := by
  have H := Lib.hid h
  clear h
  go_enter Try.func45, Try.ntmps45
  go_wp2_with (go_at_call 55; refine (side_f _ _ H.out).mono ?_; rintro e w' ⟨rfl, rfl⟩)
  go_ret2
  exact ⟨rfl, rfl⟩
end Go.Proofs.Ytheijobnmdbodaa
namespace Go.Proofs.Ytheijobnmdbodaa
open Go Go.RowKit

theorem cell_new (w : World) (u : Value) (t : TypeId) (n : Nat) (hn : w.heap.size = n) : (w.alloc (.cells #[u] t)).cell? ⟨n, 0, none⟩ = some u := by
  subst hn
  rw [cell_of_row _ _ _ _ _ _ (heap_alloc_new w _)]; rfl
/-- What a push asks, of a row that has just been made. -/
theorem push_facts {w1 w2 : World} {base : Nat} {e : TypeId} {v u : Value} {m : List (List Nat)} {y : List Nat} (h : OwnL Bs w1 base e v m) (hb : Below w1.heap.size w1 w2) (hu : Bs w2 u y) (hn : ∀ k, u.ownBlock = some k → w1.heap.size ≤ k) (t : TypeId) (b : Nat) (hbn : w2.heap.size = b) :
    OwnL Bs (w2.alloc (.cells #[u] t)) base e v m ∧ (w2.alloc (.cells #[u] t)).cell? ⟨b, 0, none⟩ = some u ∧ Bs (w2.alloc (.cells #[u] t)) u y ∧
      (∀ g, v.ownBlock = some g → Off Bs (w2.alloc (.cells #[u] t)) g u y) ∧ u.oneCell' = true := by
  refine ⟨(h.below hb (Nat.le_refl _)).alloc _, cell_new w2 u t _ hbn, hu.alloc _, fun g hg => (hu.alloc _).off_of fun k hk => ?_, ?_⟩
  · have := hn k hk
    have := h.own g hg
    omega
  · obtain ⟨A, c, rfl⟩ := hu.form
    rfl
theorem take_snoc {α : Type} (d : α) (l : List α) (k : Nat) (hk : k < l.length) : l.take (k + 1) = l.take k ++ [l.getD k d] := by
  rw [List.take_add_one, List.getElem?_eq_getElem hk, getD_in hk]; rfl

def msNew (m : List (List Nat)) (w : World) (e : Ending) (w' : World) : Prop :=
  ∃ v, e = .returned v ∧ OwnL Bs w' w.heap.size 24 v m ∧ Below w.heap.size w w'

theorem idL_row (n k : Nat) (hk : k < n) (w : World) (hn : n ≤ maxLen) :
    Bs (w.alloc (.cells ((madeCells #[.int .u8 0] n).setIfInBounds k (.int .u8 1)) 5)) (.slice (some ⟨w.heap.size, 0, none⟩) n n) ((idL n).getD k []) := by
  refine Bs.of_row (t := 5) (heap_alloc_new w _) ((idL_rect n).row k hk).1 ⟨Nat.le_refl _, hn⟩ ((idL_rect n).row k hk).2 fun j hj => ?_
  have e : ((idL n).getD k []).getD j 0 = if j = k then 1 else 0 := gridL_el hk hj
  rw [e, Array.getElem?_setIfInBounds]
  by_cases h : k = j
  · rw [if_pos h, if_pos h.symm, if_pos (by rw [size_madeCells]; exact hk)]; rfl
  · rw [if_neg h, if_neg fun h' => h h'.symm]; simp [madeCells, hj, Nat.mod_one]
/-- All rows have at most 1000 bytes, and there are at most 1000 rows. -/
def Short (m : List (List Nat)) : Prop := m.length ≤ 1000 ∧ ∀ i, i < m.length → (m.getD i []).length ≤ 1000
end Go.Proofs.Ytheijobnmdbodaa
namespace Go.Proofs.Ytheijobnmdbodaa
open Go Go.RowKit

/-- A matrix of r rows of n bytes each, open. -/
def MsAt (w : World) (b off r n : Nat) (m : List (List Nat)) : Prop := ∀ i, i < r → ∃ b' o' c', w.cell? ⟨b, off + i, none⟩ = some (.slice (some ⟨b', o', none⟩) n c') ∧ Bs w (.slice (some ⟨b', o', none⟩) n c') (m.getD i []) ∧ (n ≤ c' ∧ c' ≤ maxLen) ∧ ∀ k, k < n → w.cell? ⟨b', o' + k, none⟩ = some (.int .u8 ((el m i k : Nat) : Int))
theorem MsAt.keep {w w' : World} {b off r n : Nat} {m : List (List Nat)} (h : MsAt w b off r n m) (hs : Same w w') : MsAt w' b off r n m := fun i hi => by
  obtain ⟨b', o', c', h1, h2, h3, h4⟩ := h i hi
  exact ⟨b', o', c', (hs.2 _ (World.block_lt_of_cell? w _ h1)).trans h1, h2.keep hs.2, h3, fun k hk => (hs.2 _ (World.block_lt_of_cell? w _ (h4 k hk))).trans (h4 k hk)⟩
theorem Ms.open_ {w : World} {v : Value} {m : List (List Nat)} {r n : Nat} (h : Ms w v m) (hR : Rect r n m) (hr : 0 < r) (hn : 0 < n) : ∃ b off c, v = .slice (some ⟨b, off, none⟩) r c ∧ (r ≤ c ∧ c ≤ maxLen) ∧ MsAt w b off r n m := by
  obtain ⟨b, off, c, hv, hm, hrow⟩ := Ms.at_ h (by rw [hR.len]; exact hr)
  rw [hR.len] at hv hm
  refine ⟨b, off, c, hv, hm, fun i hi => ?_⟩
  obtain ⟨A, c', q, hb⟩ := hrow i (by rw [hR.len]; exact hi)
  have hl := (hR.row i hi).1
  obtain ⟨b', o', c'', hv', hm', hcell⟩ := Bs.at_ hb (by omega)
  rw [hl] at q hb hv' hm' hcell
  injection hv' with e1 e2 e3
  subst e1 e3
  exact ⟨b', o', c', q, hb, hm', hcell⟩
theorem Rect.of_valid {w : World} {v : Value} {m : List (List Nat)} (h : Ms w v m) (hv : validB m = true) : ∃ r n, Rect r n m ∧ 1 ≤ r ∧ r ≤ 64 ∧ 1 ≤ n ∧ n ≤ 64 := by
  obtain ⟨h1, h2, h3, h4, h5⟩ := (validB_iff m).1 hv
  refine ⟨m.length, (m.getD 0 []).length, ⟨rfl, fun i hi => ⟨h5 i hi, ?_⟩⟩, h1, h2, h3, h4⟩
  obtain ⟨b, off, c, _, _, hrow⟩ := Ms.at_ h h1
  obtain ⟨A, c', _, hb⟩ := hrow i hi
  exact hb.lt

def rowsL (m : List (List Nat)) (rows : List Nat) : List (List Nat) := rows.map fun i => m.getD i []
def natsI (l : List Nat) : List Int := l.map fun x : Nat => (x : Int)
theorem natsI_len (l : List Nat) : (natsI l).length = l.length := by simp [natsI]
theorem natsI_at (l : List Nat) (k : Nat) (hk : k < l.length) : (natsI l).getD k 0 = ((l.getD k 0 : Nat) : Int) := by
  rw [getD_in (by rw [natsI_len]; exact hk), getD_in hk]; simp [natsI]

end Go.Proofs.Ytheijobnmdbodaa
namespace Go.Proofs.Ytheijobnmdbodaa
open Go Go.RowKit Lin

/-- A byte in memory. -/
def Bv (_ : World) (u : Value) (x : Nat) : Prop := u = .int .u8 (x : Int)
theorem Bv.keeps : Keeps Bv := fun _ _ _ _ h _ => h
theorem Bv.off {w : World} {g : Nat} {u : Value} {x : Nat} (h : Bv w u x) : Off Bv w g u x := fun _ _ => h
theorem OwnL.bs {w : World} {base : Nat} {e : TypeId} {v : Value} {l : List Nat} (h : OwnL Bv w base e v l) (hb : ∀ x ∈ l, x < 256) : Bs w v l := by
  rcases h with ⟨rfl, rfl⟩ | ⟨g, cap, rfl, _, cs, hr, hs, hm, hl, hc⟩
  · exact Bs.nil_ w
  · refine Bs.of_row hr rfl ⟨hl, hm⟩ hb fun k hk => ?_
    obtain ⟨u, hu, ho⟩ := hc k hk
    rw [hu, getD_in hk, ho.here]
/-- What a push of a plain value asks. -/
theorem push_plain {α : Type} {R : World → Value → α → Prop} {w1 w2 : World} {base : Nat} {e : TypeId} {v u : Value} {l : List α} {y : α} (h : OwnL R w1 base e v l) (hb : Below w1.heap.size w1 w2) (hu : ∀ w, R w u y) (t : TypeId) (b : Nat) (hbn : w2.heap.size = b) :
    OwnL R (w2.alloc (.cells #[u] t)) base e v l ∧ (w2.alloc (.cells #[u] t)).cell? ⟨b, 0, none⟩ = some u ∧ R (w2.alloc (.cells #[u] t)) u y ∧ (∀ g, v.ownBlock = some g → Off R (w2.alloc (.cells #[u] t)) g u y) :=
  ⟨(h.below hb (Nat.le_refl _)).alloc _, cell_new w2 u t _ hbn, hu _, fun _ _ _ _ => hu _⟩

theorem rmul_quiet (a b : Nat) (ha : a < 256) (hb : b < 256) (w : World) (n : Nat) :
    Calls Try.prog 50 #[.int .u8 (a : Int), .int .u8 (b : Int)] (w.drewN n) fun e w'' => e = .returned (.int .u8 (Gf.mul a b : Nat)) ∧ ∃ m, w'' = w.drewN m :=
  Calls.quiet_of_same ((rmul_any a b ha hb (w.drewN n)).mono fun _ _ h => ⟨h.1, h.2.symm⟩)

/-- Row i times the list. -/
def dotE (m : List (List Nat)) (v : List Nat) (i k : Nat) : Nat := xs k (fun l => Gf.mul (el m i l) (v.getD l 0))
def applyL (r n : Nat) (m : List (List Nat)) (v : List Nat) : List Nat := (List.range r).map fun i => dotE m v i n
theorem dotE_lt {r n : Nat} {m : List (List Nat)} (h : Rect r n m) (v : List Nat) (i k : Nat) : dotE m v i k < 256 := xs_lt _ _ fun l _ => Gf.mul_lt _ _ (h.by i l)
theorem applyL_bytes {r n : Nat} {m : List (List Nat)} (h : Rect r n m) (v : List Nat) : ∀ x ∈ applyL r n m v, x < 256 := by
  intro x hx
  obtain ⟨i, _, rfl⟩ := List.mem_map.1 hx
  exact dotE_lt h v i n
theorem applyL_at (r n : Nat) (m : List (List Nat)) (v : List Nat) (i : Nat) (hi : i < r) : (applyL r n m v).getD i 0 = dotE m v i n := range_getD _ _ _ _ hi

def bsNew (l : List Nat) (w : World) (e : Ending) (w' : World) : Prop := ∃ v, e = .returned v ∧ Bs w' v l ∧ Below w.heap.size w w'
end Go.Proofs.Ytheijobnmdbodaa
namespace Go.Proofs.Ytheijobnmdbodaa
open Go Go.RowKit Lin

/-- Row i times column j, as far as the first k products. -/
def mulE (a b : List (List Nat)) (i j k : Nat) : Nat := xs k (fun l => Gf.mul (el a i l) (el b l j))
def mulL (r c n : Nat) (a b : List (List Nat)) : List (List Nat) := gridL r c fun i j => mulE a b i j n
theorem mulE_lt {r n : Nat} {a : List (List Nat)} (h : Rect r n a) (b : List (List Nat)) (i j k : Nat) : mulE a b i j k < 256 := xs_lt _ _ fun l _ => Gf.mul_lt _ _ (h.by i l)
theorem mulL_rect {r n c : Nat} {a : List (List Nat)} (h : Rect r n a) (b : List (List Nat)) : Rect r c (mulL r c n a b) := gridL_rect fun i j => mulE_lt h b i j n
theorem mulL_row {r c n : Nat} {a b : List (List Nat)} {i : Nat} (hi : i < r) : (mulL r c n a b).getD i [] = (List.range c).map fun j => mulE a b i j n := range_getD _ _ _ _ hi

theorem mulL_el {r c n : Nat} {a b : List (List Nat)} {i j : Nat} (hi : i < r) (hj : j < c) : el (mulL r c n a b) i j = mulE a b i j n := gridL_el hi hj
end Go.Proofs.Ytheijobnmdbodaa
