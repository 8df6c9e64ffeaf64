/- Contracts: the package's Mul and Apply. -/
import Derived.Test.YtfhgalfdlkdliaaMxh
import Derived.Deep.RegionWith
namespace Go.Proofs.Ytfhgalfdlkdliaa
open Go Go.RowKit Lin

/-- A new matrix in a slice of its own, and OK. -/
theorem valid_true (v : Value) (m : List (List Nat)) (w : World) {r n : Nat} (h : Ms w v m) (hR : Rect r n m) (h0 : 0 < r) (hn0 : 0 < n) (hr64 : r ≤ 64) (hn64 : n ≤ 64) :
    Calls Try.prog 32 #[v] w fun e w' => e = .returned (.bool true) ∧ w = w' :=
  (valid_any v m w h).mono fun _ _ ⟨he, hw⟩ => ⟨by
    rw [he, (validB_iff m).2 ⟨by rw [hR.len]; omega, by rw [hR.len]; omega, by rw [(hR.row 0 h0).1]; omega, by rw [(hR.row 0 h0).1]; omega, fun i hi => by rw [hR.len] at hi; rw [(hR.row i hi).1, (hR.row 0 h0).1]⟩], hw⟩
theorem valid_false (v : Value) (m : List (List Nat)) (w : World) (h : Ms w v m) (hv : validB m = false) :
    Calls Try.prog 32 #[v] w fun e w' => e = .returned (.bool false) ∧ w = w' :=
  (valid_any v m w h).mono fun _ _ ⟨he, hw⟩ => ⟨by rw [he, hv], hw⟩

def errPost (v : Value) (w : World) (e : Ending) (w' : World) : Prop := e = .returned v ∧ w = w'
def okNew (v : Value → Value) (m : List (List Nat)) (w : World) (e : Ending) (w' : World) : Prop :=
  ∃ g cap, e = .returned (v (.slice (some ⟨g, 0, none⟩) m.length cap)) ∧ w.heap.size ≤ g ∧ Wk Bs w' g 27 cap m ∧ Below w.heap.size w w'

set_option maxHeartbeats 4000000 in
set_option maxRecDepth 100000 in
theorem mul_ok (v v2 : Value) (a b : List (List Nat)) (w : World) {r n c : Nat} (h : Ms w v a) (hR : Rect r n a) (h2 : Ms w v2 b) (hR2 : Rect n c b) (h0 : 0 < r) (hn0 : 0 < n) (hc0 : 0 < c) (hr64 : r ≤ 64) (hn64 : n ≤ 64) (hc64 : c ≤ 64) :
    Calls Try.prog 13 #[v, v2] w (okNew (fun u => .tuple #[u, .int .i64 0]) (mulL r c n a b) w) := by
  have VA := Lib.hid (valid_true v a w h hR h0 hn0 hr64 hn64)
  have VB := Lib.hid (valid_true v2 b w h2 hR2 hn0 hc0 hn64 hc64)
  obtain ⟨ba, oa, ca, rfl, hm, hat⟩ := Ms.open_ h hR h0 hn0
  obtain ⟨bb, ob, cb, rfl, hm2, hat2⟩ := Ms.open_ h2 hR2 hn0 hc0
  have HA := Lib.hid hat
  have HB := Lib.hid hat2
  have RA := Lib.hid hR
  have RB := Lib.hid hR2
  obtain ⟨b1, o1, c1, z1, -⟩ := hat 0 h0
  obtain ⟨b2, o2, c2, z2, -⟩ := hat2 0 hn0
  rw [Nat.add_zero] at z1 z2
  clear hat hat2 h h2 hm hm2 hR hR2
  have hrI : (0 : Int) < (r : Int) := by omega
  have hnI : (0 : Int) < (n : Int) := by omega
  go_enter Try.func13, Try.ntmps13
  go_wp2_with fail
  refine VA.out.mono ?_
  rintro e w' ⟨rfl, rfl⟩
  go_wp2_with fail
  refine VB.out.mono ?_
  rintro e w' ⟨rfl, rfl⟩
  go_wp2_with fail
  refine (zeros_any r c _ (by omega) (by omega)).mono ?_
  rintro e w1 ⟨rfl, hg, hb1, hs1⟩
  have ZW : Hid (Wk Bs w1 w.heap.size 27 r (gridL r c fun _ _ => 0)) := Lib.hid (hg.wk (by unfold maxLen; omega) (by unfold maxLen; omega))
  have ZB := Lib.hid hb1
  clear hg hb1 hs1
  go_wp2_with fail
  go_loopw [7, 8, 9, 36] (fun _ _ _ q wr => ∃ i : Nat, i ≤ r ∧ q = .int .i64 (i : Int) ∧ Hid (Below w.heap.size w wr ∧ ∃ X, Rect r c X ∧ Wk Bs wr w.heap.size 27 r X ∧ ∀ i', i' < r → ∀ j, j < c → el X i' j = if i' < i then mulE a b i' j n else 0)) (fun _ _ _ q _ => r - (intOf q).toNat)
  case atStart => exact ⟨0, Nat.zero_le _, rfl, Lib.hid ⟨ZB.out, _, gridL_rect (fun _ _ => Nat.succ_pos 255), ZW.out, fun i' hi j hj => by rw [if_neg (Nat.not_lt_zero i')]; exact gridL_el hi hj⟩⟩
  case round =>
    obtain ⟨i, hk, rfl, H⟩ := hrel
    obtain ⟨wo, rfl⟩ : ∃ wo, wo = wr := ⟨_, rfl⟩
    by_cases hlt : i < r
    · have hiI : (i : Int) < (r : Int) := by omega
      obtain ⟨b3, o3, c3, y0, -, -, y2⟩ := HA.out i hlt
      have y1 := (H.out.1.cell (World.block_lt_of_cell? w _ y0)).trans y0
      have Y2 := Lib.hid y2
      clear y2 y0
      obtain ⟨hbel, X, hX, hWk, hel⟩ := H.out
      have HX : Hid (∃ X, Rect r c X ∧ Wk Bs wo w.heap.size 27 r X ∧ ∀ i', i' < r → ∀ j, j < c → el X i' j = if i' < i then mulE a b i' j n else if i' = i then mulE a b i' j 0 else 0) :=
        Lib.hid ⟨X, hX, hWk, fun i' hi j hj => by rw [hel i' hi j hj]; (repeat' split) <;> first | rfl | omega⟩
      have HBL := Lib.hid hbel
      clear hbel hX hWk hel
      clear X
      go_wp2_with fail
      go_loopw [8, 9, 44] (fun _ _ q wq => ∃ k : Nat, k ≤ n ∧ q = .int .i64 (k : Int) ∧ Hid (Below w.heap.size wo wq ∧ ∃ X, Rect r c X ∧ Wk Bs wq w.heap.size 27 r X ∧ ∀ i', i' < r → ∀ j, j < c → el X i' j = if i' < i then mulE a b i' j n else if i' = i then mulE a b i' j k else 0)) (fun _ _ q _ => n - (intOf q).toNat)
      case atStart => exact ⟨0, Nat.zero_le _, rfl, Lib.hid ⟨Below.refl _ _, HX.out⟩⟩
      case round =>
        obtain ⟨k, hk2, rfl, H2⟩ := hrel
        by_cases hlt2 : k < n
        · have hkI : (k : Int) < (n : Int) := by omega
          obtain ⟨hbel, X, hX, hWk, hel⟩ := H2.out
          have hbw := HBL.out.trans hbel
          obtain ⟨u, p1, hoff⟩ := hWk.cell (k := i) (by rw [hX.len]; exact hlt)
          have hlX := (hX.row i hlt).1
          have hXi : X[i]'(by rw [hX.len]; exact hlt) = X.getD i [] := (getD_in _).symm
          rw [hXi] at hoff
          have hubs := hoff.here
          obtain ⟨Au, cu, rfl⟩ := hubs.form
          rw [hlX] at p1 hubs
          obtain ⟨b4, o4, c4, p2, hbb, -, -⟩ := (HB.out.keep ⟨hbw.size, fun p hp => hbw.cell hp⟩) k hlt2
          have p4 := (hbw.cell (World.block_lt_of_cell? w _ (Y2.out k hlt2))).trans (Y2.out k hlt2)
          have hlen2 := (RB.out.row k hlt2).1
          have hx2 : el a i k < 256 := RA.out.by i k
          have CB := Lib.hid (combined_any (.slice Au c cu) (.slice (some ⟨b4, o4, none⟩) c c4) (X.getD i []) (b.getD k []) (el a i k) wr.drew (hubs.keep fun _ _ => rfl) (hbb.keep fun _ _ => rfl) (by rw [hlX, hlen2]) hx2 (by omega))
          have hgl := hWk.lt
          have fz : wr.frozen? ⟨w.heap.size, i, none⟩ = false := hWk.frozen i
          have HXX := Lib.hid (And.intro hX (And.intro hWk hel))
          have HBB := Lib.hid hbel
          have GL := Lib.hid hgl
          obtain ⟨x, hx⟩ : ∃ x, el a i k = x := ⟨_, rfl⟩
          rw [hx] at p4 CB
          have EX := Lib.hid hx
          clear hbel hX hWk hel hoff hlX hXi hubs hbb hlen2 hx2 hbw hx hgl
          go_wp2
          go_region_with (go_at_call 34; refine CB.out.mono ?_; rintro e w2 ⟨nv, rfl, nb, nn, nw⟩; have c1 := (nw.cell (p := ⟨w.heap.size, i, none⟩) GL.out).trans p1; have f1 := (nw.frozen (p := ⟨w.heap.size, i, none⟩) GL.out).trans fz; have NB := Lib.hid nb; have NN := Lib.hid nn; have NW := Lib.hid nw; obtain ⟨An, cn, rfl⟩ := nb.form; clear nb nn nw)
          all_goals
            go_wp2
            go_roundw
            case rel =>
              obtain ⟨hX, hWk, hel⟩ := HXX.out
              have hwk2 := (hWk.drew).below NW.out (Nat.le_refl _)
              have hoff2 := NB.out.off_of (g := w.heap.size) fun q hq => by
                have h1 := NN.out q hq
                have h2 := GL.out
                have h3 : wr.drew.heap.size = wr.heap.size := rfl
                omega
              refine ⟨k + 1, by omega, by go_num, Lib.hid ⟨((HBB.out.drew).trans (NW.out.mono (Nat.le_of_lt GL.out))).setCell (Nat.le_refl _) _, X.set i (fused (X.getD i []) (b.getD k []) x), hX.set i (by rw [fused_len]; exact (hX.row i hlt).1) (fused_bytes _ _ _ (hX.row i hlt).2 (by rw [← EX.out]; exact RA.out.by i k)), hwk2.store i hoff2, fun i' hi' j hj => ?_⟩⟩
              have e0 := hel i' hi' j hj
              unfold el at e0 ⊢
              rw [getD_set]
              by_cases e : i = i'
              · subst e
                rw [if_pos ⟨rfl, by rw [hX.len]; exact hlt⟩, fused_getD _ _ _ _ (by rw [(hX.row i hlt).1, (RB.out.row k hlt2).1]), e0, if_neg (Nat.lt_irrefl i), if_pos rfl, if_neg (Nat.lt_irrefl i), if_pos rfl, ← EX.out]
                rfl
              · rw [if_neg fun hh => e hh.1, e0]
                (repeat' split) <;> first | rfl | omega
            case measure => simp [intOf]; omega
        · have ek : k = n := by omega
          have E := Lib.hid ek
          clear ek
          go_wp2
          go_roundw
          case rel =>
            obtain ⟨hbel, X, hX, hWk, hel⟩ := H2.out
            refine ⟨i + 1, by omega, by go_num, Lib.hid ⟨HBL.out.trans hbel, X, hX, hWk, fun i' hi' j hj => ?_⟩⟩
            rw [hel i' hi' j hj, E.out]
            (repeat' split) <;> first | rfl | omega
          case measure => simp [intOf]; omega
    · go_wp2
      go_ret2
      obtain ⟨hbel, X, hX, hWk, hel⟩ := H.out
      have e : X = mulL r c n a b := hX.ext (mulL_rect RA.out b) fun i' hi' j hj => by
        rw [hel i' hi' j hj, if_pos (by omega)]
        exact (mulL_el hi' hj).symm
      subst e
      refine ⟨w.heap.size, r, ?_, Nat.le_refl _, hWk, hbel⟩
      rw [hX.len]
      rfl

set_option maxHeartbeats 1000000 in
set_option maxRecDepth 100000 in
theorem mul_err (v v2 : Value) (a b : List (List Nat)) (w : World) (h : Ms w v a) (h2 : Ms w v2 b) (he : validB a = false ∨ validB b = false ∨ (a.getD 0 []).length ≠ b.length) :
    Calls Try.prog 13 #[v, v2] w (errPost (.tuple #[.slice none 0 0, .int .i64 1]) w) := by
  by_cases ha : validB a = false
  · have VA := Lib.hid (valid_false v a w h ha)
    clear ha he h2 h
    go_enter Try.func13, Try.ntmps13
    go_wp2_with fail
    refine VA.out.mono ?_
    rintro e w' ⟨rfl, rfl⟩
    go_wp2_with fail
    go_ret2
    exact ⟨rfl, rfl⟩
  · obtain ⟨r, n, hR, h1, h64, hn1, hn64⟩ := Rect.of_valid h (by simpa using ha)
    have VA := Lib.hid (valid_true v a w h hR h1 hn1 h64 hn64)
    by_cases hb : validB b = false
    · have VB := Lib.hid (valid_false v2 b w h2 hb)
      clear ha hb he h2 h
      go_enter Try.func13, Try.ntmps13
      go_wp2_with fail
      refine VA.out.mono ?_
      rintro e w' ⟨rfl, rfl⟩
      go_wp2_with fail
      refine VB.out.mono ?_
      rintro e w' ⟨rfl, rfl⟩
      go_wp2_with fail
      go_ret2
      exact ⟨rfl, rfl⟩
    · obtain ⟨r2, n2, hR2, g1, g64, gn1, gn64⟩ := Rect.of_valid h2 (by simpa using hb)
      have VB := Lib.hid (valid_true v2 b w h2 hR2 g1 gn1 g64 gn64)
      have hne : (a.getD 0 []).length ≠ b.length := by
        rcases he with he | he | he
        · exact absurd he ha
        · exact absurd he hb
        · exact he
      rw [(hR.row 0 h1).1, hR2.len] at hne
      obtain ⟨ba, oa, ca, rfl, hm, hat⟩ := Ms.open_ h hR h1 hn1
      obtain ⟨bb, ob, cb, rfl, hm2, hat2⟩ := Ms.open_ h2 hR2 g1 gn1
      obtain ⟨b1, o1, c1, z1, -⟩ := hat 0 h1
      rw [Nat.add_zero] at z1
      have g0 : ((n : Int) != (r2 : Int)) = true := by simp; omega
      have hrI : (0 : Int) < (r : Int) := by omega
      clear hat hat2 h h2 hm hm2 hR hR2 ha hb he hne
      go_enter Try.func13, Try.ntmps13
      go_wp2_with fail
      refine VA.out.mono ?_
      rintro e w' ⟨rfl, rfl⟩
      go_wp2_with fail
      refine VB.out.mono ?_
      rintro e w' ⟨rfl, rfl⟩
      go_wp2_with fail
      go_ret2
      exact ⟨rfl, rfl⟩
end Go.Proofs.Ytfhgalfdlkdliaa
