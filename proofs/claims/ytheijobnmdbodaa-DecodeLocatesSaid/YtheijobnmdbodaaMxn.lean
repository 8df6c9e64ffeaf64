/- Contracts: Rank and Inverse. -/
import Derived.Test.YtheijobnmdbodaaMxm
namespace Go.Proofs.Ytheijobnmdbodaa
open Go Go.RowKit Lin

def belowPost (v : Value) (w : World) (e : Ending) (w' : World) : Prop := e = .returned v ∧ Below w.heap.size w w'
theorem Bs.drop {w : World} {b o N c k : Nat} {l : List Nat} (h : Bs w (.slice (some ⟨b, o, none⟩) N c) l) (hk : k ≤ N) : Bs w (.slice (some ⟨b, o + k, none⟩) (N - k) (c - k)) (l.drop k) := by
  obtain ⟨A, c', hv, hm, hl, hz, hc⟩ := h
  injection hv with e1 e2 e3
  subst e1 e2 e3
  refine ⟨_, c - k, by rw [List.length_drop], ⟨by rw [List.length_drop]; omega, by omega⟩, fun x hx => hl x (List.mem_of_mem_drop hx), fun h => (by cases h), fun hn => ⟨b, o + k, rfl, fun j hj => ?_⟩⟩
  rw [List.length_drop] at hn hj
  obtain ⟨b', o', he, hcell⟩ := hc (by omega)
  cases he
  rw [Nat.add_assoc, hcell (k + j) (by omega)]
  simp [List.getD_eq_getElem?_getD]

set_option maxHeartbeats 4000000 in
set_option maxRecDepth 100000 in
theorem inverse_ok (v : Value) (m : List (List Nat)) (w : World) {n : Nat} (h : Ms w v m) (hR : Rect n n m) (hn0 : 0 < n) (hn64 : n ≤ 64) (hp : (reduceF (augF n m) n).2.length = n) :
    Calls Try.prog 48 #[v] w (okNew (fun u => .tuple #[u, .int .i64 0]) (invF n m) w) := by
  have VA := Lib.hid (valid_true v m w h hR hn0 hn0 hn64 hn64)
  have AU := Lib.hid (augmented_any v m w h hR hn0 hn64)
  have AR := Lib.hid (aug_rect hR)
  have RR := Lib.hid (reduce_inv (aug_rect hR) n).1
  obtain ⟨ba, oa, ca, rfl, hm, hat⟩ := Ms.open_ h hR hn0 hn0
  obtain ⟨b1, o1, c1, z1, -⟩ := hat 0 hn0
  rw [Nat.add_zero] at z1
  have RL := Lib.hid hR
  have hnI : (0 : Int) < (n : Int) := by omega
  have HP := Lib.hid hp
  have g0 : ((n : Int) != (n : Int)) = false := by simp
  clear hat h hm hR hp
  go_enter Try.func48, Try.ntmps48
  go_wp2_with fail
  refine VA.out.mono ?_
  rintro e w' ⟨rfl, rfl⟩
  go_wp2_with fail
  refine AU.out.mono ?_
  rintro e w1 ⟨rfl, hwk1, hb1⟩
  rw [AR.out.len] at hwk1 ⊢
  have RD := Lib.hid (reduce_any w.heap.size n n w.heap.size (augF n m) w1 hwk1 AR.out (by omega) (by omega) (by omega) (Nat.le_refl _))
  have HB1 := Lib.hid hb1
  clear hwk1 hb1
  go_wp2_with fail
  refine RD.out.mono ?_
  rintro e w2 ⟨vp, rfl, hp, hwk2, hb2⟩
  obtain ⟨A9, c9, rfl⟩ := hp.sl.form
  have hpl : (natsI (reduceF (augF n m) n).2).length = n := by rw [natsI_len, HP.out]
  rw [hpl]
  have HB2 := Lib.hid (HB1.out.trans hb2)
  have WK2 := Lib.hid hwk2
  clear hp hwk2 hb2 hpl
  obtain ⟨M, hM⟩ : ∃ M, (reduceF (augF n m) n).1 = M := ⟨_, rfl⟩
  rw [hM] at WK2 RR
  have ME := Lib.hid hM
  clear hM
  go_wp2_with fail
  go_loopw [6, 7, 32] (fun _ _ q wr => ∃ i : Nat, i ≤ n ∧ q = .int .i64 (i : Int) ∧ Hid (Below w.heap.size w wr ∧ ∃ X : List (List Nat), X.length = n ∧ Wk Bs wr w.heap.size 24 n X ∧ ∀ j, j < n → X.getD j [] = if j < i then (M.getD j []).drop n else M.getD j [])) (fun _ _ q _ => n - (intOf q).toNat)
  case atStart => exact ⟨0, Nat.zero_le _, rfl, Lib.hid ⟨HB2.out, M, RR.out.len, WK2.out, fun j _ => by rw [if_neg (Nat.not_lt_zero j)]⟩⟩
  case round =>
    obtain ⟨i, hk, rfl, H⟩ := hrel
    by_cases hlt : i < n
    · have hiI : (i : Int) < (n : Int) := by omega
      obtain ⟨hbel, X, hX, hWk, hel⟩ := H.out
      obtain ⟨u, p1, hoff⟩ := hWk.cell (k := i) (by rw [hX]; exact hlt)
      have hXi : X[i]'(by rw [hX]; exact hlt) = M.getD i [] := by rw [← getD_in (x := []), hel i hlt, if_neg (Nat.lt_irrefl i)]
      rw [hXi] at hoff
      have hbs := hoff.here
      have hlr := (RR.out.row i hlt).1
      obtain ⟨b2, o2, c2, rfl, hc2, -⟩ := Bs.at_ hbs (by rw [hlr]; omega)
      rw [hlr] at p1 hbs hc2
      have CL := Lib.hid (clone_bs ⟨b2, o2 + n, none⟩ (2 * n - n) (c2 - n) ((M.getD i []).drop n) wr (hbs.drop (by omega)) (by rw [List.length_drop, hlr]) (by omega))
      obtain ⟨row, hrw⟩ : ∃ row, (M.getD i []).drop n = row := ⟨_, rfl⟩
      rw [hrw] at CL
      have ER := Lib.hid hrw
      clear hrw
      have fz : wr.frozen? ⟨w.heap.size, i, none⟩ = false := hWk.frozen i
      have GL := Lib.hid hWk.lt
      have HXX := Lib.hid (And.intro hX (And.intro hWk hel))
      have HBB := Lib.hid hbel
      obtain ⟨hc2, hc2'⟩ := hc2
      have hcn : ¬ (c2 = n) := by omega
      have hn2 : n ≤ 2 * n := by omega
      clear hbel hX hWk hel hoff hXi hbs hlr
      go_wp2_with fail
      refine CL.out.mono ?_
      rintro e w4 ⟨nv, rfl, nb, nn, nw⟩
      have y1 := (nw.cell (p := ⟨w.heap.size, i, none⟩) GL.out).trans p1
      have y2 := (nw.frozen (p := ⟨w.heap.size, i, none⟩) GL.out).trans fz
      have hoffn := nb.off_of (g := w.heap.size) fun q hq => by have := nn q hq; have := GL.out; omega
      obtain ⟨An, cn, rfl⟩ := nb.form
      have NW := Lib.hid nw
      have ON := Lib.hid hoffn
      clear nb nn nw hoffn
      go_wp2_with fail
      go_roundw
      case rel =>
        obtain ⟨hX, hWk, hel⟩ := HXX.out
        refine ⟨i + 1, by omega, by go_num, Lib.hid ⟨(HBB.out.trans (NW.out.mono (Nat.le_of_lt GL.out))).setCell (Nat.le_refl _) _, X.set i row, by simp [hX], (hWk.below NW.out (Nat.le_refl _)).store i ON.out, fun j hj => ?_⟩⟩
        rw [getD_set]
        by_cases e : i = j
        · subst e; rw [if_pos ⟨rfl, by omega⟩, if_pos (by omega), ER.out]
        · rw [if_neg fun hh => e hh.1, hel j hj]; (repeat' split) <;> first | rfl | omega
      case measure => simp [intOf]; omega
    · go_wp2
      go_ret2
      obtain ⟨hbel, X, hX, hWk, hel⟩ := H.out
      have e : X = invF n m := by
        refine list_ext [] (by rw [hX, (inv_rect RL.out).len]) fun j hj => ?_
        rw [hX] at hj
        unfold invF
        rw [hel j hj, if_pos (by omega), ME.out, getD_in (l := List.map _ _) (by rw [List.length_map, RR.out.len]; exact hj), getD_in (l := M) (by rw [RR.out.len]; exact hj)]
        simp
      subst e
      refine ⟨w.heap.size, n, ?_, Nat.le_refl _, hWk, hbel⟩
      rw [hX]
      rfl
set_option maxHeartbeats 4000000 in
set_option maxRecDepth 100000 in
theorem inverse_div (v : Value) (m : List (List Nat)) (w : World) {n : Nat} (h : Ms w v m) (hR : Rect n n m) (hn0 : 0 < n) (hn64 : n ≤ 64) (hp : (reduceF (augF n m) n).2.length < n) :
    Calls Try.prog 48 #[v] w (belowPost (.tuple #[.slice none 0 0, .int .i64 3]) w) := by
  have VA := Lib.hid (valid_true v m w h hR hn0 hn0 hn64 hn64)
  have AU := Lib.hid (augmented_any v m w h hR hn0 hn64)
  have AR := Lib.hid (aug_rect hR)
  obtain ⟨ba, oa, ca, rfl, hm, hat⟩ := Ms.open_ h hR hn0 hn0
  obtain ⟨b1, o1, c1, z1, -⟩ := hat 0 hn0
  rw [Nat.add_zero] at z1
  have hnI : (0 : Int) < (n : Int) := by omega
  have HP := Lib.hid hp
  have g0 : ((n : Int) != (n : Int)) = false := by simp
  clear hat h hm hR hp
  go_enter Try.func48, Try.ntmps48
  go_wp2_with fail
  refine VA.out.mono ?_
  rintro e w' ⟨rfl, rfl⟩
  go_wp2_with fail
  refine AU.out.mono ?_
  rintro e w1 ⟨rfl, hwk1, hb1⟩
  rw [AR.out.len] at hwk1 ⊢
  have RD := Lib.hid (reduce_any w.heap.size n n w.heap.size (augF n m) w1 hwk1 AR.out (by omega) (by omega) (by omega) (Nat.le_refl _))
  have HB1 := Lib.hid hb1
  clear hwk1 hb1
  go_wp2_with fail
  refine RD.out.mono ?_
  rintro e w2 ⟨vp, rfl, hp, -, hb2⟩
  obtain ⟨A9, c9, rfl⟩ := hp.sl.form
  have hpl : (natsI (reduceF (augF n m) n).2).length < n := by rw [natsI_len]; exact HP.out
  have HB2 := Lib.hid (HB1.out.trans hb2)
  clear hp hb2
  generalize (natsI (reduceF (augF n m) n).2).length = q at *
  go_wp2_with fail
  go_ret2
  exact ⟨rfl, HB2.out⟩
set_option maxHeartbeats 1000000 in
set_option maxRecDepth 100000 in
theorem inverse_arg (v : Value) (a : List (List Nat)) (w : World) (h : Ms w v a) (he : validB a = false ∨ a.length ≠ (a.getD 0 []).length) :
    Calls Try.prog 48 #[v] w (errPost (.tuple #[.slice none 0 0, .int .i64 1]) w) := by
  by_cases ha : validB a = false
  · have VA := Lib.hid (valid_false v a w h ha)
    clear ha he h
    go_enter Try.func48, Try.ntmps48
    go_wp2_with fail
    refine VA.out.mono ?_
    rintro e w' ⟨rfl, rfl⟩
    go_wp2_with fail
    go_ret2
    exact ⟨rfl, rfl⟩
  · obtain ⟨r, n, hR, h1, h64, hn1, hn64⟩ := Rect.of_valid h (by simpa using ha)
    have VA := Lib.hid (valid_true v a w h hR h1 hn1 h64 hn64)
    have hne : a.length ≠ (a.getD 0 []).length := by
      rcases he with he | he
      · exact absurd he ha
      · exact he
    rw [(hR.row 0 h1).1, hR.len] at hne
    obtain ⟨ba, oa, ca, rfl, hm, hat⟩ := Ms.open_ h hR h1 hn1
    obtain ⟨b1, o1, c1, z1, -⟩ := hat 0 h1
    rw [Nat.add_zero] at z1
    have g0 : ((r : Int) != (n : Int)) = true := by simp; omega
    have hrI : (0 : Int) < (r : Int) := by omega
    clear hat h hm hR ha he hne
    go_enter Try.func48, Try.ntmps48
    go_wp2_with fail
    refine VA.out.mono ?_
    rintro e w' ⟨rfl, rfl⟩
    go_wp2_with fail
    go_ret2
    exact ⟨rfl, rfl⟩
end Go.Proofs.Ytheijobnmdbodaa
