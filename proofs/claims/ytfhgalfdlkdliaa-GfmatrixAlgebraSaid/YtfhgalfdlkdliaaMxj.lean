/- Contracts: the package's Apply and Transpose. -/
import Derived.Test.YtfhgalfdlkdliaaMxi
import Derived.StillTailTactics
namespace Go.Proofs.Ytfhgalfdlkdliaa
open Go Go.RowKit Lin

theorem Bs.of_rowIs {w : World} {g n : Nat} {f : Nat → Nat} (h : w.rowIs g 5 n (fun i => .int .u8 ((f i : Nat) : Int))) (hn : n ≤ maxLen) (hb : ∀ i, i < n → f i < 256) : Bs w (.slice (some ⟨g, 0, none⟩) n n) ((List.range n).map f) := by
  obtain ⟨cs, hh, hs, hcell⟩ := h
  refine Bs.of_row (t := 5) (cs := cs) hh (by simp) ⟨Nat.le_refl _, hn⟩ (fun x hx => ?_) fun k hk => ?_
  · obtain ⟨j, hj, rfl⟩ := List.mem_map.1 hx
    exact hb j (List.mem_range.1 hj)
  · rw [hcell k hk, range_getD _ _ _ _ hk]

def bsOk (l : List Nat) (w : World) (e : Ending) (w' : World) : Prop := ∃ v, e = .returned (.tuple #[v, .int .i64 0]) ∧ Bs w' v l ∧ Below w.heap.size w w'
def gridOk (r c : Nat) (f : Nat → Nat → Nat) (w : World) (e : Ending) (w' : World) : Prop :=
  e = .returned (.tuple #[.slice (some ⟨w.heap.size, 0, none⟩) r r, .int .i64 0]) ∧ Grid w' w.heap.size r c f ∧ Below w.heap.size w w'
set_option maxHeartbeats 4000000 in
set_option maxRecDepth 100000 in
theorem transpose_ok (v : Value) (m : List (List Nat)) (w : World) {r n : Nat} (h : Ms w v m) (hR : Rect r n m) (h0 : 0 < r) (hn0 : 0 < n) (hr64 : r ≤ 64) (hn64 : n ≤ 64) :
    Calls Try.prog 16 #[v] w (gridOk n r (fun j i => el m i j) w) := by
  have VA := Lib.hid (valid_true v m w h hR h0 hn0 hr64 hn64)
  obtain ⟨ba, oa, ca, rfl, hm, hat⟩ := Ms.open_ h hR h0 hn0
  have HA := Lib.hid hat
  have RL := Lib.hid hR
  obtain ⟨b1, o1, c1, z1, -⟩ := hat 0 h0
  rw [Nat.add_zero] at z1
  have hrI : (0 : Int) < (r : Int) := by omega
  clear hat h hm hR
  go_enter Try.func16, Try.ntmps16
  go_wp2_with fail
  refine VA.out.mono ?_
  rintro e w' ⟨rfl, rfl⟩
  go_wp2_with fail
  refine (zeros_any n r _ (by omega) (by omega)).mono ?_
  rintro e w1 ⟨rfl, hg, hb1, hs1⟩
  have ZG := Lib.hid hg
  have ZB := Lib.hid hb1
  clear hg hb1 hs1
  go_wp2_with fail
  go_loopw [5, 6, 7, 8, 21] (fun _ _ _ _ q wr => ∃ i : Nat, i ≤ r ∧ q = .int .i64 (i : Int) ∧ Hid (Below w.heap.size w wr ∧ Grid wr w.heap.size n r (fun j' i' => if i' < i then el m i' j' else 0))) (fun _ _ _ _ q _ => r - (intOf q).toNat)
  case atStart => exact ⟨0, Nat.zero_le _, rfl, Lib.hid ⟨ZB.out, ZG.out.congr (fun j _ i _ => by rw [if_neg (Nat.not_lt_zero i)]) fun j i => by rw [if_neg (Nat.not_lt_zero i)]; decide⟩⟩
  case round =>
    obtain ⟨i, hk, rfl, H⟩ := hrel
    obtain ⟨wo, rfl⟩ : ∃ wo, wo = wr := ⟨_, rfl⟩
    by_cases hlt : i < r
    · have hiI : (i : Int) < (r : Int) := by omega
      obtain ⟨b3, o3, c3, y0, -, -, y2⟩ := HA.out i hlt
      have y1 := (H.out.1.cell (World.block_lt_of_cell? w _ y0)).trans y0
      have Y2 := Lib.hid y2
      clear y2 y0
      go_wp2_with fail
      go_loopw [7, 8, 28] (fun _ _ q wq => ∃ k : Nat, k ≤ n ∧ q = .int .i64 (k : Int) ∧ Hid (Below w.heap.size wo wq ∧ Grid wq w.heap.size n r (fun j' i' => if i' < i ∨ (i' = i ∧ j' < k) then el m i' j' else 0))) (fun _ _ q _ => n - (intOf q).toNat)
      case atStart =>
        refine ⟨0, Nat.zero_le _, rfl, Lib.hid ⟨Below.refl _ _, H.out.2.congr (fun j' _ i' _ => by (repeat' split) <;> first | rfl | omega) fun j' i' => ?_⟩⟩
        split
        · exact RL.out.by _ _
        · decide
      case round =>
        obtain ⟨k, hk2, rfl, H2⟩ := hrel
        by_cases hlt2 : k < n
        · have hkI : (k : Int) < (n : Int) := by omega
          have hbw := H.out.1.trans H2.out.1
          have p1 := H2.out.2.top.cell hlt2
          have p2 := (H2.out.2.row k hlt2).cell hlt
          have f1 := (H2.out.2.row k hlt2).frozen i
          have p4 := (hbw.cell (World.block_lt_of_cell? w _ (Y2.out k hlt2))).trans (Y2.out k hlt2)
          rw [if_neg (by omega)] at p2
          obtain ⟨x, hx⟩ : ∃ x, el m i k = x := ⟨_, rfl⟩
          have hx2 : x < 256 := by rw [← hx]; exact RL.out.by i k
          rw [hx] at p4
          have X := Lib.hid hx
          clear hx hbw
          go_wp2
          go_roundw
          case rel =>
            refine ⟨k + 1, by omega, by go_num, Lib.hid ⟨H2.out.1.setCell (by show w.heap.size ≤ w.heap.size + 1 + k; omega) _, (H2.out.2.set hlt2 i hx2).congr (fun j' _ i' _ => ?_) fun j' i' => ?_⟩⟩
            · by_cases e : j' = k ∧ i' = i
              · rw [if_pos e, if_pos (by omega), e.1, e.2, X.out]
              · rw [if_neg e]; (repeat' split) <;> first | rfl | omega
            · split
              · exact RL.out.by _ _
              · decide
          case measure => simp [intOf]; omega
        · have ek : k = n := by omega
          have E := Lib.hid ek
          clear ek
          go_wp2
          go_roundw
          case rel =>
            refine ⟨i + 1, by omega, by go_num, Lib.hid ⟨H.out.1.trans H2.out.1, H2.out.2.congr (fun j' hj' i' _ => ?_) fun j' i' => ?_⟩⟩
            · rw [E.out]; (repeat' split) <;> first | rfl | omega
            · split
              · exact RL.out.by _ _
              · decide
          case measure => simp [intOf]; omega
    · go_wp2
      go_ret2
      obtain ⟨hbel, hg⟩ := H.out
      exact ⟨rfl, hg.congr (fun j' _ i' hi' => by rw [if_pos (by omega)]) fun j' i' => RL.out.by i' j', hbel⟩
set_option maxHeartbeats 1000000 in
theorem transpose_err (v : Value) (a : List (List Nat)) (w : World) (h : Ms w v a) (ha : validB a = false) :
    Calls Try.prog 16 #[v] w (errPost (.tuple #[.slice none 0 0, .int .i64 1]) w) := by
  have VA := Lib.hid (valid_false v a w h ha)
  clear ha h
  go_enter Try.func16, Try.ntmps16
  go_wp2_with fail
  refine VA.out.mono ?_
  rintro e w' ⟨rfl, rfl⟩
  go_wp2_with fail
  go_ret2
  exact ⟨rfl, rfl⟩
end Go.Proofs.Ytfhgalfdlkdliaa
