/- Contracts: slices.Clone at matrices and lists; augmented. -/
import Derived.Test.YtheijobnmdbodaaMxl
import Derived.Lib.SliceRun
import Derived.Laws.CopyOwn
namespace Go.Proofs.Ytheijobnmdbodaa
open Go Go.RowKit Lin

def clonePost (m : List (List Nat)) (w : World) (e : Ending) (w' : World) : Prop :=
  ∃ g cap, e = .returned (.slice (some ⟨g, 0, none⟩) m.length cap) ∧ w.heap.size ≤ g ∧ Wk Bs w' g 24 cap m ∧ Below w.heap.size w w'
theorem cloned {w w' : World} {b off g cap r : Nat} {m : List (List Nat)} (hl : m.length = r) (hcell : ∀ k, k < r → ∃ u, w.cell? ⟨b, off + k, none⟩ = some u ∧ Bs w u (m.getD k []))
    (h : w'.ownsRow w.heap.size 24 1 (.slice (some ⟨g, 0, none⟩) r cap) r ((List.range r).map fun k => (w.cell? ⟨b, off + k, none⟩).getD (.bool false))) (hb : Below w.heap.size w w') : w.heap.size ≤ g ∧ Wk Bs w' g 24 cap m := by
  obtain ⟨_, h⟩ := h
  rcases h with ⟨h, _⟩ | ⟨g', cap', cur, hv, hbg, hh, hle, hm, hs, ht⟩
  · cases h
  · injection hv with hv1 hv2 hv3
    injection hv1 with hv1
    injection hv1 with hv1
    subst hv1 hv3
    refine ⟨hbg, cur, hh, by omega, hm, by omega, fun k hk => ?_⟩
    have hk' : k < r := by omega
    obtain ⟨u, hu, hbs⟩ := hcell k hk'
    refine ⟨u, ?_, ?_⟩
    · have h1 : cur[k]? = ((List.range r).map fun k => (w.cell? ⟨b, off + k, none⟩).getD (.bool false))[k]? := by
        rw [← ht, List.getElem?_take_of_lt (by omega)]; simp
      rw [h1]
      simp [hk', hu]
    · rw [getD_in hk] at hbs
      exact fun w'' k' => hbs.keep fun p hp => (k'.2 p (by have := hb.size; omega) (by omega)).trans (hb.cell hp)
set_option maxHeartbeats 1000000 in
set_option maxRecDepth 100000 in
theorem clone_bs (A : Addr) (n c : Nat) (l : List Nat) (w : World) (h : Bs w (.slice (some A) n c) l) (hl : l.length = n) (hr : n ≤ 1000) :
    Calls Try.prog 62 #[.slice (some A) n c] w (madeRow l w) := by
  have HB := Lib.hid h
  obtain ⟨i0, hi, hz0, hz1, hz2⟩ := info_parts info_u8
  have I0 := Lib.hid (And.intro hi (And.intro hz0 (And.intro hz1 hz2)))
  have hnil := fun w => Lib.run_eql_slice_nil (P := Try.prog) w 24 5 (some A) n c 0 0 Try.underlying24
  have L1 : 0 + l.length ≤ maxLen := by unfold maxLen; omega
  have L2 : 0 + l.length ≤ 140737488355328 := by omega
  have L := Lib.hid (And.intro L1 L2)
  subst hl
  clear h hi hz0 hz1 hz2 L1 L2
  go_enter Try.func62, Try.ntmps62
  go_wp2_with (at_builtin; refine wpList_append_bs rfl _ _ 24 rfl w.heap.size 5 i0 Try.underlying24 I0.out.1 I0.out.2.1 I0.out.2.2.1 I0.out.2.2.2 (.slice (some ⟨w.heap.size, 0, none⟩) 0 0) (.slice (some A) l.length c) 0 [] rfl (World.ownsRow_made w #[] 0 (Nat.le_refl _) (Nat.zero_le _) rfl) l rfl (HB.out.alloc _) L.out.1 L.out.2 (by simp) ?_; intro x0 w1 hown1 hgrow1)
  have hb1 : Below w.heap.size w w1 := ((Below.refl _ w).alloc (Nat.le_refl _) _).grown hgrow1 (by simp) fun q hq => by injection hq with hq; exact Nat.le_of_eq hq
  have P : Hid (Bs w1 x0 l ∧ (∀ k, x0.ownBlock = some k → w.heap.size ≤ k) ∧ Below w.heap.size w w1) := Lib.hid ⟨Bs.of_own hown1 (by omega) HB.out.lt, fun k hk => (hown1.lt k hk).1, hb1⟩
  clear hown1 hgrow1 hb1
  go_wp2
  go_ret
  exact ⟨x0, rfl, P.out⟩

/-- Behind a copy into the head of a row of the matrix. -/
theorem Grid.copied {w : World} {B r c n i : Nat} {f : Nat → Nat → Nat} {l : List Nat} (h : Grid w B r c f) (hi : i < r) (hl : l.length = n) (hn : n ≤ c) (hb : ∀ x ∈ l, x < 256) {cur : Array Value} (hcur : w.heap[B + 1 + i]? = some (.cells cur 5 (0, 0))) (hsz : cur.size = c) (hat : ∀ j, j < c → cur[j]? = some (.int .u8 ((f i j : Nat) : Int))) :
    Grid (w.setRow (B + 1 + i) (cur.toList.take 0 ++ (l.map bv ++ cur.toList.drop (0 + (l.map bv).length))).toArray) B r c (fun i' j' => if i' = i ∧ j' < n then l.getD j' 0 else f i' j') := by
  refine ⟨h.top.of_block (setRow_other _ _ _ _ (by omega)), fun i' hi' => ?_, fun i' j' => ?_⟩
  · by_cases e : i' = i
    · subst e
      refine ⟨_, setRow_heap w _ cur _ _ _ hcur, by simp [hl]; omega, fun j hj => ?_⟩
      simp only [List.take_zero, List.nil_append, List.getElem?_toArray, Nat.zero_add, List.length_map]
      rcases Nat.lt_or_ge j n with hlt | hge
      · rw [List.getElem?_append_left (by simp; omega), getD_bv (by omega), if_pos (by simp [hlt])]
      · rw [List.getElem?_append_right (by simp; omega), if_neg (by omega), List.getElem?_drop]
        simp only [List.length_map, hl]
        rw [show n + (j - n) = j by omega]
        simpa using hat j hj
    · refine ((h.row i' hi').of_block (setRow_other _ _ _ _ (by omega))).congr fun j _ => ?_
      rw [if_neg fun hh => e hh.1]
  · split
    · exact getD_bytes hb _
    · exact h.byt _ _

def wkPost (m : List (List Nat)) (w : World) (e : Ending) (w' : World) : Prop :=
  e = .returned (.slice (some ⟨w.heap.size, 0, none⟩) m.length m.length) ∧ Wk Bs w' w.heap.size 24 m.length m ∧ Below w.heap.size w w'
theorem size_uint8 : (Try.prog.info? 5).map (·.size) = some 1 := by kernel_rfl
set_option maxHeartbeats 4000000 in
set_option maxRecDepth 100000 in
theorem augmented_any (v : Value) (m : List (List Nat)) (w : World) {n : Nat} (h : Ms w v m) (hR : Rect n n m) (hn0 : 0 < n) (hn64 : n ≤ 64) :
    Calls Try.prog 60 #[v] w (wkPost (augF n m) w) := by
  obtain ⟨ba, oa, ca, rfl, hm, hat⟩ := Ms.open_ h hR hn0 hn0
  have HA := Lib.hid hat
  have RL := Lib.hid hR
  clear hat h hm hR
  go_enter Try.func60, Try.ntmps60
  go_wp2_with fail
  have e2 : (2 : Int) * (n : Int) = ((2 * n : Nat) : Int) := by omega
  rw [e2]
  refine (zeros_any n (2 * n) _ (by omega) (by omega)).mono ?_
  rintro e w1 ⟨rfl, hg, hb1, hs1⟩
  have ZG := Lib.hid hg
  have ZB := Lib.hid hb1
  clear hg hb1 hs1 e2
  go_wp2_with fail
  go_loopw [4, 5, 14] (fun _ _ q wr => ∃ i : Nat, i ≤ n ∧ q = .int .i64 (i : Int) ∧ Hid (Below w.heap.size w wr ∧ Grid wr w.heap.size n (2 * n) (fun i' j' => if i' < i then el (augF n m) i' j' else 0))) (fun _ _ q _ => n - (intOf q).toNat)
  case atStart => exact ⟨0, Nat.zero_le _, rfl, Lib.hid ⟨ZB.out, ZG.out.congr (fun i _ j _ => by rw [if_neg (Nat.not_lt_zero i)]) fun i j => by rw [if_neg (Nat.not_lt_zero i)]; decide⟩⟩
  case round =>
    obtain ⟨i, hk, rfl, H⟩ := hrel
    by_cases hlt : i < n
    · have hiI : (i : Int) < (n : Int) := by omega
      obtain ⟨b3, o3, c3, y0, yb, -, y2⟩ := HA.out i hlt
      have y1 := (H.out.1.cell (World.block_lt_of_cell? w _ y0)).trans y0
      have q1 := H.out.2.top.cell hlt
      obtain ⟨cur, hcur, hsz, hcc⟩ := H.out.2.row i hlt
      have hrow := RL.out.row i hlt
      have SRC : Hid (∀ j u, ((m.getD i []).map bv)[j]? = some u → wr.cell? ((⟨b3, o3, none⟩ : Addr).add j) = some u) := Lib.hid fun j u hj => by
        have hjn : j < n := by
          rcases Nat.lt_or_ge j n with h | h
          · exact h
          · rw [List.getElem?_eq_none (by rw [List.length_map, hrow.1]; exact h)] at hj; cases hj
        rw [getD_bv (by rw [hrow.1]; exact hjn)] at hj
        rw [Go.WideShapes.add_plain, H.out.1.cell (World.block_lt_of_cell? w _ (y2 j hjn)), y2 j hjn]
        exact hj
      have hG2 := H.out.2.copied hlt hrow.1 (show n ≤ 2 * n by omega) hrow.2 hcur hsz hcc
      have p1 := (hG2.row i hlt).cell (i := n + i) (by omega)
      have f1 := (hG2.row i hlt).frozen (n + i)
      rw [if_neg (by omega), if_neg (Nat.lt_irrefl i)] at p1
      have HCUR := Lib.hid hcur
      have HSZ := Lib.hid hsz
      have G2 := Lib.hid hG2
      have LEN := Lib.hid hrow.1
      have BB : Hid (Below w.heap.size w (wr.setRow (w.heap.size + 1 + i) (cur.toList.take 0 ++ ((m.getD i []).map bv ++ cur.toList.drop (0 + ((m.getD i []).map bv).length))).toArray)) := Lib.hid (H.out.1.trans ⟨rfl, rfl, rfl, by simp [World.setRow], fun k hk => setRow_other _ _ _ _ (by omega)⟩)
      have hniT : ((n : Int) + (i : Int)).toNat = n + i := by omega
      have hnb : (n : Int) + (i : Int) < ((2 * n : Nat) : Int) := by omega
      have hnb2 : (n : Int) + (i : Int) < 2 * (n : Int) := by omega
      have hnb3 : 0 ≤ (n : Int) + (i : Int) := by omega
      clear hcc hG2 hrow hcur hsz yb y2 y0
      generalize hW : wr.setRow (w.heap.size + 1 + i) (cur.toList.take 0 ++ ((m.getD i []).map bv ++ cur.toList.drop (0 + ((m.getD i []).map bv).length))).toArray = w2 at p1 f1 G2 BB
      have HW := Lib.hid hW
      clear hW
      go_wp2_with ((with_reducible refine wpList_copy_own rfl (.tmp 19) (.tmp 23) 24 24 rfl 5 Try.underlying24 size_uint8 (w.heap.size + 1 + i) 0 (2 * n) (2 * n) ⟨b3, o3, none⟩ n c3 rfl rfl cur 5 HCUR.out ((m.getD i []).map bv) (by rw [List.length_map, LEN.out]; exact (Nat.min_eq_left (by omega)).symm) SRC.out (by rw [List.length_map, LEN.out, HSZ.out]; omega) bv_one ?_); rw [HW.out])
      go_roundw
      case rel =>
        refine ⟨i + 1, by omega, by go_num, Lib.hid ⟨BB.out.setCell (by show w.heap.size ≤ w.heap.size + 1 + i; omega) _, (G2.out.set hlt (n + i) (x := 1) (by decide)).congr (fun i' hi' j hj => ?_) fun i' j => ?_⟩⟩
        · by_cases e : i' = i
          · subst e
            rw [if_pos (show i' < i' + 1 by omega)]
            rcases Nat.lt_or_ge j n with hjn | hjn
            · rw [if_neg (by omega), if_pos ⟨rfl, hjn⟩, aug_left RL.out hi' hjn]; rfl
            · obtain ⟨q, rfl⟩ : ∃ q, j = n + q := ⟨j - n, by omega⟩
              rw [aug_right RL.out hi' (by omega)]
              by_cases e2 : q = i'
              · rw [if_pos ⟨rfl, by omega⟩, if_pos e2]
              · rw [if_neg (by omega), if_neg (by omega), if_neg (Nat.lt_irrefl i'), if_neg e2]
          · rw [if_neg (by omega), if_neg (by omega)]
            (repeat' split) <;> first | rfl | omega
        · split
          · exact (aug_rect RL.out).by _ _
          · decide
      case measure => simp [intOf]; omega
    · go_wp2
      go_ret
      obtain ⟨hbel, hg⟩ := H.out
      have hi : i = n := by omega
      have hA := aug_rect RL.out
      have e : gridL n (2 * n) (fun i j => el (augF n m) i j) = augF n m := (gridL_rect fun i j => hA.by i j).ext hA fun i' hi' j hj => gridL_el hi' hj
      have hw := (hg.congr (g := fun i j => el (augF n m) i j) (fun i' hi' j _ => by rw [if_pos (by omega)]) fun i j => hA.by i j).wk (by unfold maxLen; omega) (by unfold maxLen; omega)
      rw [e] at hw
      refine ⟨?_, ?_, hbel⟩
      · rw [hA.len]; rfl
      · rw [hA.len]; exact hw
end Go.Proofs.Ytheijobnmdbodaa
