/- Contract: LeftInverse. -/
import Derived.Test.YtfhgalfdlkdliaaMxn
namespace Go.Proofs.Ytfhgalfdlkdliaa
open Go Go.RowKit Lin

/-- The first independent rows, as the program finds them. -/
def pivT (r n : Nat) (m : List (List Nat)) : List Nat := (reduceF (transF r n m) r).2
theorem rowsL_rect {r n : Nat} {m : List (List Nat)} (h : Rect r n m) {rows : List Nat} {q : Nat} (hl : rows.length = q) (hr : ∀ k, k < rows.length → rows.getD k 0 < r) : Rect q n (rowsL m rows) := by
  refine ⟨by simp [rowsL, hl], fun i hi => ?_⟩
  have hi' : i < rows.length := by omega
  have e : (rowsL m rows).getD i [] = m.getD (rows.getD i 0) [] := by
    rw [getD_in (l := rowsL m rows) (by rw [rowsL, List.length_map]; exact hi'), getD_in (l := rows) hi']; simp [rowsL]
  rw [e]
  exact h.row _ (hr i hi')
theorem rowsL_at {m : List (List Nat)} {rows : List Nat} {i : Nat} (hi' : i < rows.length) : (rowsL m rows).getD i [] = m.getD (rows.getD i 0) [] := by
  rw [getD_in (l := rowsL m rows) (by rw [rowsL, List.length_map]; exact hi'), getD_in (l := rows) hi']; simp [rowsL]
theorem pivT_lt {r n : Nat} {m : List (List Nat)} (h : Rect r n m) (k : Nat) (hk : k < (pivT r n m).length) : (pivT r n m).getD k 0 < r := by
  have hI := (reduce_inv (trans_rect (m := m) r n h.by) r).2
  exact (hI.piv k hk).1
theorem pivT_le {r n : Nat} {m : List (List Nat)} (h : Rect r n m) : (pivT r n m).length ≤ n := (reduce_inv (trans_rect (m := m) r n h.by) r).2.le

set_option maxHeartbeats 1000000 in
set_option maxRecDepth 100000 in
theorem left_arg (v : Value) (a : List (List Nat)) (w : World) (h : Ms w v a) (ha : validB a = false) :
    Calls Try.prog 30 #[v] w (errPost (.tuple #[.slice none 0 0, .slice none 0 0, .int .i64 1]) w) := by
  have VA := Lib.hid (transpose_err v a w h ha)
  clear ha h
  go_enter Try.func30, Try.ntmps30
  go_wp2_with fail
  refine VA.out.mono ?_
  rintro e w' ⟨rfl, rfl⟩
  go_wp2_with fail
  go_ret3
  exact ⟨rfl, rfl⟩
set_option maxHeartbeats 4000000 in
set_option maxRecDepth 100000 in
theorem left_div (v : Value) (m : List (List Nat)) (w : World) {r n : Nat} (h : Ms w v m) (hR : Rect r n m) (h0 : 0 < r) (hn0 : 0 < n) (hr64 : r ≤ 64) (hn64 : n ≤ 64) (hp : (pivT r n m).length < n) :
    Calls Try.prog 30 #[v] w (belowPost (.tuple #[.slice none 0 0, .slice none 0 0, .int .i64 3]) w) := by
  have TR := Lib.hid (transpose_ok v m w h hR h0 hn0 hr64 hn64)
  have RT := Lib.hid (trans_rect (m := m) r n hR.by)
  obtain ⟨ba, oa, ca, rfl, hm, hat⟩ := Ms.open_ h hR h0 hn0
  obtain ⟨b1, o1, c1, z1, -⟩ := hat 0 h0
  rw [Nat.add_zero] at z1
  have Z := Lib.hid (World.block_lt_of_cell? w _ z1)
  have hrI : (0 : Int) < (r : Int) := by omega
  have HP := Lib.hid hp
  clear hat h hm hR hp
  go_enter Try.func30, Try.ntmps30
  go_wp2_with fail
  refine TR.out.mono ?_
  rintro e w1 ⟨rfl, hg, hb1⟩
  have RD := Lib.hid (reduce_any w.heap.size n r w.heap.size (transF r n m) w1 (hg.wk (by unfold maxLen; omega) (by unfold maxLen; omega)) RT.out (by omega) (Nat.le_refl _) (by omega) (Nat.le_refl _))
  have HB1 := Lib.hid hb1
  clear hg hb1
  go_wp2_with fail
  refine RD.out.mono ?_
  rintro e w2 ⟨vp, rfl, hpo, -, hb2⟩
  obtain ⟨A9, c9, rfl⟩ := hpo.sl.form
  have hpl : (natsI (reduceF (transF r n m) r).2).length < n := by rw [natsI_len]; exact HP.out
  have z2 := ((HB1.out.trans hb2).cell (p := ⟨ba, oa, none⟩) Z.out).trans z1
  have HB2 := Lib.hid (HB1.out.trans hb2)
  clear hpo hb2
  generalize (natsI (reduceF (transF r n m) r).2).length = q at *
  go_wp2_with fail
  go_ret3
  exact ⟨rfl, HB2.out⟩

def leftPost (r n : Nat) (m : List (List Nat)) (w : World) (e : Ending) (w' : World) : Prop :=
  ∃ v vp, e = .returned (.tuple #[v, vp, .int .i64 0]) ∧ Ms w' v (invF n (rowsL m (pivT r n m))) ∧ Is w' vp (natsI (pivT r n m)) ∧ Below w.heap.size w w'
set_option maxHeartbeats 8000000 in
set_option maxRecDepth 100000 in
theorem left_ok (v : Value) (m : List (List Nat)) (w : World) {r n : Nat} (h : Ms w v m) (hR : Rect r n m) (h0 : 0 < r) (hn0 : 0 < n) (hr64 : r ≤ 64) (hn64 : n ≤ 64) (hp : (pivT r n m).length = n)
    (hinv : (reduceF (augF n (rowsL m (pivT r n m))) n).2.length = n) :
    Calls Try.prog 30 #[v] w (leftPost r n m w) := by
  have TR := Lib.hid (transpose_ok v m w h hR h0 hn0 hr64 hn64)
  have RT := Lib.hid (trans_rect (m := m) r n hR.by)
  have PL := Lib.hid (pivT_lt hR)
  have RSQ := Lib.hid (rowsL_rect hR hp (pivT_lt hR))
  obtain ⟨ba, oa, ca, rfl, hm, hat⟩ := Ms.open_ h hR h0 hn0
  obtain ⟨b1, o1, c1, z1, -⟩ := hat 0 h0
  rw [Nat.add_zero] at z1
  have Z := Lib.hid (World.block_lt_of_cell? w _ z1)
  have HA := Lib.hid hat
  have RL := Lib.hid hR
  have hrI : (0 : Int) < (r : Int) := by omega
  have HP := Lib.hid hp
  have HI := Lib.hid hinv
  have hmk := run_make_row' (P := Try.prog) 25 27 _ _ Try.underlying25 info_bytes rfl .i64 .i64 n (by omega) (by omega)
  clear hat h hm hR hp hinv
  go_enter Try.func30, Try.ntmps30
  go_wp2_with fail
  refine TR.out.mono ?_
  rintro e w1 ⟨rfl, hg, hb1⟩
  have RD := Lib.hid (reduce_any w.heap.size n r w.heap.size (transF r n m) w1 (hg.wk (by unfold maxLen; omega) (by unfold maxLen; omega)) RT.out (by omega) (Nat.le_refl _) (by omega) (Nat.le_refl _))
  have HB1 := Lib.hid hb1
  clear hg hb1
  go_wp2_with fail
  refine RD.out.mono ?_
  rintro e w2 ⟨vp, rfl, hpo, -, hb2⟩
  have hps : Is w2 vp (natsI (pivT r n m)) := hpo.sl
  have hbb := HB1.out.trans hb2
  obtain ⟨bp, op, cp, rfl, -, hcp⟩ := Is.at_ hps (by rw [natsI_len, HP.out]; exact hn0)
  rw [natsI_len, HP.out] at hcp hps ⊢
  have z2 := (hbb.cell (p := ⟨ba, oa, none⟩) Z.out).trans z1
  have HB2 := Lib.hid hbb
  have PS := Lib.hid hps
  have CP := Lib.hid hcp
  clear hpo hb2 hbb hps hcp
  go_wp2_with fail
  go_loopw [9, 10, 37] (fun _ _ q wr => ∃ i : Nat, i ≤ n ∧ q = .int .i64 (i : Int) ∧ Hid (Below w2.heap.size w2 wr ∧ ∃ X : List (List Nat), X.length = n ∧ Wk Bs wr w2.heap.size 27 n X ∧ ∀ j, j < n → X.getD j [] = if j < i then (rowsL m (pivT r n m)).getD j [] else [])) (fun _ _ q _ => n - (intOf q).toNat)
  case atStart =>
    refine ⟨0, Nat.zero_le _, rfl, Lib.hid ⟨(Below.refl _ w2).alloc (Nat.le_refl _) _, List.replicate n [], by simp, ?_, fun j hj => by rw [if_neg (Nat.not_lt_zero j), getD_in (by simpa using hj)]; simp⟩⟩
    obtain ⟨cs, hh, hs, hc⟩ := World.rowIs_made w2 (.slice none 0 0) n 27
    refine ⟨cs, hh, hs, by unfold maxLen; omega, by simp, fun k hk => ⟨_, hc k (by simpa using hk), fun w' _ => ?_⟩⟩
    simp only [List.getElem_replicate]
    exact Bs.nil_ w'
  case round =>
    obtain ⟨i, hk, rfl, H⟩ := hrel
    by_cases hlt : i < n
    · have hiI : (i : Int) < (n : Int) := by omega
      obtain ⟨hbel, X, hX, hWk, hel⟩ := H.out
      obtain ⟨u, p1, -⟩ := hWk.cell (k := i) (by rw [hX]; exact hlt)
      have fz : wr.frozen? ⟨w2.heap.size, i, none⟩ = false := hWk.frozen i
      have p2 := CP.out i hlt
      rw [natsI_at _ i (by rw [HP.out]; exact hlt)] at p2
      have p2' := (hbel.cell (World.block_lt_of_cell? w2 _ p2)).trans p2
      have hx := PL.out i (by rw [HP.out]; exact hlt)
      have hy : (rowsL m (pivT r n m)).getD i [] = m.getD ((pivT r n m).getD i 0) [] := rowsL_at (by rw [HP.out]; exact hlt)
      obtain ⟨x, ex⟩ : ∃ x, (pivT r n m).getD i 0 = x := ⟨_, rfl⟩
      rw [ex] at p2' hx hy
      obtain ⟨b', o', c', q1, r1, -, -⟩ := HA.out x hx
      have hbw := HB2.out.trans (hbel.mono HB2.out.size)
      have q1' := (hbw.cell (World.block_lt_of_cell? w _ q1)).trans q1
      have hxI : (x : Int) < (r : Int) := by omega
      have OFF : Hid (Off Bs wr w2.heap.size (.slice (some ⟨b', o', none⟩) n c') (m.getD x [])) := Lib.hid fun w'' k' => r1.keep fun p hp => by
        have h1 := HB2.out.size
        have h2 := hbel.size
        exact (k'.2 p (by omega) (by omega)).trans (hbw.cell hp)
      have HXX := Lib.hid (And.intro hX (And.intro hWk hel))
      have HBB := Lib.hid hbel
      have HY := Lib.hid hy
      clear hbel hX hWk hel p2 ex q1 r1 hbw hy
      go_wp2_with fail
      go_roundw
      case rel =>
        obtain ⟨hX, hWk, hel⟩ := HXX.out
        refine ⟨i + 1, by omega, by go_num, Lib.hid ⟨HBB.out.setCell (Nat.le_refl _) _, X.set i (m.getD x []), by simp [hX], hWk.store i OFF.out, fun j hj => ?_⟩⟩
        rw [getD_set]
        by_cases e : i = j
        · subst e; rw [if_pos ⟨rfl, by omega⟩, if_pos (by omega), HY.out]
        · rw [if_neg fun hh => e hh.1, hel j hj]; (repeat' split) <;> first | rfl | omega
      case measure => simp [intOf]; omega
    · obtain ⟨hbel, X, hX, hWk, hel⟩ := H.out
      have e : X = rowsL m (pivT r n m) := by
        refine list_ext [] (by rw [hX, RSQ.out.len]) fun j hj => ?_
        rw [hX] at hj
        rw [hel j hj, if_pos (by omega)]
      subst e
      have hms := hWk.sl
      rw [hX] at hms
      have IV := Lib.hid (inverse_ok (.slice (some ⟨w2.heap.size, 0, none⟩) n n) (rowsL m (pivT r n m)) wr hms RSQ.out hn0 hn64 HI.out)
      have HBB := Lib.hid (HB2.out.trans (hbel.mono HB2.out.size))
      have HBS := Lib.hid hbel
      clear hbel hX hWk hel hms
      go_wp2_with fail
      refine IV.out.mono ?_
      rintro e w5 ⟨g5, cap5, rfl, -, hwk5, hb5⟩
      have W5 := Lib.hid hwk5
      have B5 := Lib.hid hb5
      clear hwk5 hb5
      go_wp2_with fail
      go_ret3
      have hps : Is w2 (.slice (some ⟨bp, op, none⟩) n cp) (natsI (pivT r n m)) := PS.out
      refine ⟨_, _, rfl, ?_, Sl.keeps Iv.keeps _ _ _ _ (Sl.keeps Iv.keeps _ _ _ _ hps (Below.toSame HBS.out)) (Below.toSame B5.out), HBB.out.trans (B5.out.mono HBB.out.size)⟩
      have := W5.out.sl
      exact this
end Go.Proofs.Ytfhgalfdlkdliaa
