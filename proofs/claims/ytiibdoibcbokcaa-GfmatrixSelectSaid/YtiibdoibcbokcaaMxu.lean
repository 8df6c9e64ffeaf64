/- Contract: what Select answers. -/
import Derived.Test.YtiibdoibcbokcaaMxt
import Derived.RegionTactic
import Derived.BigRegion
namespace Go.Proofs.Ytiibdoibcbokcaa
open Go Go.RowKit Lin

def selE (m : List (List Nat)) (ri ci : List Int) (i k : Nat) : Nat := el m (ri.getD i 0).toNat (ci.getD k 0).toNat
set_option maxHeartbeats 4000000 in
set_option maxRecDepth 100000 in
theorem sel_ok (v v1 v2 : Value) (m : List (List Nat)) (ri ci : List Int) (w : World) (h : Ms w v m) (h1 : Is w v1 ri) (h2 : Is w v2 ci) {r n : Nat} (hR : Rect r n m) (h0 : 0 < r) (hn0 : 0 < n) (hr64 : r ≤ 64) (hn64 : n ≤ 64) (hl : 1 ≤ ri.length ∧ ri.length ≤ 64) (hl2 : 1 ≤ ci.length ∧ ci.length ≤ 64) (ha : belowB ri r = true) (hb : belowB ci n = true) :
    Calls Try.prog 25 #[v, v1, v2] w (gridOk ri.length ci.length (selE m ri ci) w) := by
  have VA := Lib.hid (valid_true v m w h hR h0 hn0 hr64 hn64)
  have I1 := Lib.hid h1
  have I2 := Lib.hid h2
  obtain ⟨ba, oa, ca, rfl, hm, hat⟩ := Ms.open_ h hR h0 hn0
  obtain ⟨b1, o1, c1, z1, -⟩ := hat 0 h0
  rw [Nat.add_zero] at z1
  have hrI : (0 : Int) < (r : Int) := by omega
  obtain ⟨A1, c1, rfl⟩ := Sl.form h1
  obtain ⟨A2, c2, rfl⟩ := Sl.form h2
  obtain ⟨p, ep⟩ : ∃ p, ri.length = p := ⟨_, rfl⟩
  obtain ⟨q, eq⟩ : ∃ q, ci.length = q := ⟨_, rfl⟩
  rw [ep] at I1 hl ⊢
  rw [eq] at I2 hl2 ⊢
  obtain ⟨hl, hl'⟩ := hl
  obtain ⟨hl2, hl2'⟩ := hl2
  have HAA := Lib.hid ha
  have HBB := Lib.hid hb
  have RA := Lib.hid ((belowB_iff ri r).1 ha)
  have CA := Lib.hid ((belowB_iff ci n).1 hb)
  have EP := Lib.hid ep
  have EQ := Lib.hid eq
  have HM := Lib.hid hat
  have RL := Lib.hid hR
  clear hb ha
  clear hat h h1 h2 hm hR ep eq
  obtain ⟨bi, oi, cc1, e1, -, hci⟩ := Is.at_ I1.out (by rw [EP.out]; exact hl)
  obtain ⟨bj, oj, cc2, e2, -, hcj⟩ := Is.at_ I2.out (by rw [EQ.out]; exact hl2)
  injection e1 with e1 e3 e4
  injection e2 with e2 e5 e6
  subst e1 e2
  clear e3 e4 e5 e6
  have CI := Lib.hid hci
  have CJ := Lib.hid hcj
  clear hci hcj
  go_enter Try.func25, Try.ntmps25
  go_wp2_with fail
  refine (VA.out).mono ?_
  rintro e w' ⟨rfl, rfl⟩
  go_wp2_with fail
  refine (side_t _ _ (by omega) (by omega)).mono ?_
  rintro e w' ⟨rfl, rfl⟩
  go_wp2_with fail
  refine (side_t _ _ (by omega) (by omega)).mono ?_
  rintro e w' ⟨rfl, rfl⟩
  go_wp2_with fail
  refine (below_b _ ri r true _ I1.out HAA.out).mono ?_
  rintro e w' ⟨rfl, rfl⟩
  go_wp2_with fail
  refine (below_b _ ci n true _ I2.out HBB.out).mono ?_
  rintro e w' ⟨rfl, rfl⟩
  go_wp2_with fail
  refine (zeros_any p q _ (by omega) (by omega)).mono ?_
  rintro e w1 ⟨rfl, hg, hb1, hs1⟩
  have ZG := Lib.hid hg
  have ZB := Lib.hid hb1
  clear hg hb1 hs1
  go_wp2_with fail
  go_loopw [9, 10, 11, 12, 49] (fun _ _ _ _ z wr => ∃ i : Nat, i ≤ p ∧ z = .int .i64 (i : Int) ∧ Hid (Below w.heap.size w wr ∧ Grid wr w.heap.size p q (fun i' j' => if i' < i then selE m ri ci i' j' else 0))) (fun _ _ _ _ z _ => p - (intOf z).toNat)
  case atStart => exact ⟨0, Nat.zero_le _, rfl, Lib.hid ⟨ZB.out, ZG.out.congr (fun i _ j _ => by rw [if_neg (Nat.not_lt_zero i)]) fun i j => by rw [if_neg (Nat.not_lt_zero i)]; decide⟩⟩
  case round =>
    obtain ⟨i, hk, rfl, H⟩ := hrel
    obtain ⟨wo, rfl⟩ : ∃ wo, wo = wr := ⟨_, rfl⟩
    by_cases hlt : i < p
    · have hiI : (i : Int) < (p : Int) := by omega
      have y0 := CI.out i (by rw [EP.out]; exact hlt)
      have hxr := RA.out i (by rw [EP.out]; exact hlt)
      obtain ⟨x, ex⟩ : ∃ x : Nat, ri.getD i 0 = (x : Int) := ⟨(ri.getD i 0).toNat, by omega⟩
      rw [ex] at y0 hxr
      have y1 := (H.out.1.cell (World.block_lt_of_cell? w _ y0)).trans y0
      have EX := Lib.hid ex
      clear y0 ex
      go_wp2_with fail
      go_loopw [11, 12, 56] (fun _ _ z wq => ∃ k : Nat, k ≤ q ∧ z = .int .i64 (k : Int) ∧ Hid (Below w.heap.size wo wq ∧ Grid wq w.heap.size p q (fun i' j' => if i' < i ∨ (i' = i ∧ j' < k) then selE m ri ci i' j' else 0))) (fun _ _ z _ => q - (intOf z).toNat)
      case atStart =>
        refine ⟨0, Nat.zero_le _, rfl, Lib.hid ⟨Below.refl _ _, H.out.2.congr (fun j' _ i' _ => by (repeat' split) <;> first | rfl | omega) fun j' i' => ?_⟩⟩
        split
        · exact RL.out.by _ _
        · decide
      case round =>
        obtain ⟨k, hk2, rfl, H2⟩ := hrel
        by_cases hlt2 : k < q
        · have hkI : (k : Int) < (q : Int) := by omega
          have hbw := H.out.1.trans H2.out.1
          have p0 := CJ.out k (by rw [EQ.out]; exact hlt2)
          have hyr := CA.out k (by rw [EQ.out]; exact hlt2)
          obtain ⟨y, ey⟩ : ∃ y : Nat, ci.getD k 0 = (y : Int) := ⟨(ci.getD k 0).toNat, by omega⟩
          rw [ey] at p0 hyr
          have p0' := (hbw.cell (World.block_lt_of_cell? w _ p0)).trans p0
          have hxn : x < r := by omega
          have hyn : y < n := by omega
          obtain ⟨b3, o3, c3, q0, -, -, q2⟩ := HM.out x hxn
          have q3 := q2 y hyn
          have q0' := (hbw.cell (World.block_lt_of_cell? w _ q0)).trans q0
          have q3' := (hbw.cell (World.block_lt_of_cell? w _ q3)).trans q3
          have t1 := H2.out.2.top.cell hlt
          have t2 := (H2.out.2.row i hlt).cell hlt2
          have f1 := (H2.out.2.row i hlt).frozen k
          rw [if_neg (by omega)] at t2
          obtain ⟨s, es⟩ : ∃ s, el m x y = s := ⟨_, rfl⟩
          have hs2 : s < 256 := by rw [← es]; exact RL.out.by x y
          rw [es] at q3'
          have SE : Hid (selE m ri ci i k = s) := Lib.hid (by unfold selE; rw [EX.out, ey]; exact es)
          have hxI : (x : Int) < (r : Int) := by omega
          have hyI : (y : Int) < (n : Int) := by omega
          clear p0 q0 q2 q3 hbw ey es hxr hyr
          go_wp2
          refine wp_region_still_tail 12 (by kernel_rfl) (by kernel_rfl) ?_
          simp only [List.take_succ_cons, List.take_zero, List.drop_succ_cons, List.drop_zero]
          repeat still_step
          refine wpStill_nil ?_
          change wpList _ _ _ _ _ wr.drew
          go_wp2
          go_roundw
          case rel =>
            refine ⟨k + 1, by omega, by go_num, Lib.hid ⟨(H2.out.1.drew).setCell (by show w.heap.size ≤ w.heap.size + 1 + i; omega) _, ((H2.out.2.drew).set hlt k hs2).congr (fun i' _ j' _ => ?_) fun i' j' => ?_⟩⟩
            · by_cases e : i' = i ∧ j' = k
              · rw [if_pos e, if_pos (by omega), e.1, e.2, SE.out]
              · rw [if_neg e]; (repeat' split) <;> first | rfl | omega
            · split
              · exact RL.out.by _ _
              · decide
          case measure => simp [intOf]; omega
        · have ek : k = q := by omega
          have E := Lib.hid ek
          clear ek
          go_wp2
          go_roundw
          case rel =>
            refine ⟨i + 1, by omega, by go_num, Lib.hid ⟨H.out.1.trans H2.out.1, H2.out.2.congr (fun j' hj' i' _ => ?_) fun j' i' => ?_⟩⟩
            · rw [E.out]; (repeat' split) <;> first | rfl | omega
            · split
              · exact RL.out.by _ _
              · decide
          case measure => simp [intOf]; omega
    · go_wp2
      go_ret2
      obtain ⟨hbel, hg⟩ := H.out
      exact ⟨rfl, hg.congr (fun i' hi' j' _ => by rw [if_pos (by omega)]) fun i' j' => RL.out.by _ _, hbel⟩
end Go.Proofs.Ytiibdoibcbokcaa
