/- Slices of bools; contracts: Count, firstGood, the reference's row, slices.Clone of blocks. -/
import Derived.Test.YtheijobnmdbodaaDb
import Derived.Test.YtheijobnmdbodaaMxl
import Derived.Test.YtheijobnmdbodaaGB
namespace Go.Proofs.Ytheijobnmdbodaa
open Go Go.RowKit Lin
set_option linter.unusedVariables false
set_option linter.unusedSimpArgs false

/-- A bool in memory. -/
def Bb (_ : World) (u : Value) (x : Bool) : Prop := u = .bool x
theorem Bb.keeps : Keeps Bb := fun _ _ _ _ h _ => h
/-- A slice of bools. -/
abbrev Bos := Sl Bb
theorem Bos.at_ {w : World} {v : Value} {l : List Bool} (h : Bos w v l) (hn : 0 < l.length) :
    ∃ b off c, v = .slice (some ⟨b, off, none⟩) l.length c ∧ (l.length ≤ c ∧ c ≤ maxLen) ∧ ∀ k, k < l.length → w.cell? ⟨b, off + k, none⟩ = some (.bool (l.getD k false)) := by
  obtain ⟨b, off, c, rfl, hm, hc⟩ := Sl.at_ h hn
  refine ⟨b, off, c, rfl, hm, fun k hk => ?_⟩
  obtain ⟨u, hu, rfl⟩ := hc k hk
  rw [getD_in hk]
  exact hu
theorem Slto {α : Type} {R : World → Value → α → Prop} (hK : Keeps R) {w w' : World} {v : Value} {l : List α} (h : Sl R w v l) (hb : Below w.heap.size w w') : Sl R w' v l := Sl.keeps hK _ _ _ _ h (Below.toSame hb)
theorem Bos.to {w w' : World} {v : Value} {l : List Bool} (h : Bos w v l) (hb : Below w.heap.size w w') : Bos w' v l := Slto Bb.keeps h hb
theorem Is.to {w w' : World} {v : Value} {l : List Int} (h : Is w v l) (hb : Below w.heap.size w w') : Is w' v l := Slto Iv.keeps h hb

set_option maxHeartbeats 1000000 in
set_option maxRecDepth 100000 in
theorem count_any (v : Value) (l : List Bool) (w : World) (h : Bos w v l) : Calls Try.prog 19 #[v] w fun e w' => e = .returned (.int .i64 (cntL l l.length : Nat)) ∧ w = w' := by
  have hc := fun hn => Bos.at_ h hn
  have hml := h.len
  obtain ⟨A, c, rfl⟩ := Sl.form h
  have HC := Lib.hid hc
  obtain ⟨n, hn⟩ : ∃ n, l.length = n := ⟨_, rfl⟩
  rw [hn] at hml ⊢
  have N := Lib.hid hn
  have hm' : (n : Int) ≤ 9223372036854775807 := by unfold maxLen at hml; omega
  clear h hn hc hml
  go_enter Try.func19, Try.ntmps19
  go_wp2
  go_loop [3, 4] (fun s i => ∃ k m : Nat, k ≤ n ∧ m ≤ k ∧ i = .int .i64 (k : Int) ∧ s = .int .i64 (m : Int) ∧ Hid (m = cntL l k)) (fun _ i => n - (intOf i).toNat)
  case atStart => exact ⟨0, 0, Nat.zero_le _, Nat.le_refl _, rfl, rfl, Lib.hid rfl⟩
  case round =>
    obtain ⟨k, m, hk, hmk, rfl, rfl, H⟩ := hrel
    by_cases hlt : k < n
    · obtain ⟨b, off, c', hv, -, hcell⟩ := HC.out (by rw [N.out]; omega)
      injection hv with hv1 hv2 hv3
      subst hv1
      have p1 := hcell k (by rw [N.out]; exact hlt)
      have S := Lib.hid (cntL_succ l k)
      rcases hx : l.getD k false with _ | _
      · rw [hx] at p1 S
        clear hcell hv2 hv3 hx
        go_wp2
        go_round
        case rel => exact ⟨k + 1, m, by omega, by omega, by go_num, rfl, Lib.hid (by rw [S.out, H.out]; rfl)⟩
        case measure => simp [intOf]; omega
      · rw [hx] at p1 S
        clear hcell hv2 hv3 hx
        go_wp2
        go_round
        case rel => exact ⟨k + 1, m + 1, by omega, by omega, by go_num, by go_num, Lib.hid (by rw [S.out, H.out]; rfl)⟩
        case measure => simp [intOf]; omega
    · go_wp2
      go_ret
      exact ⟨ret_i64 (by rw [H.out, show k = n by omega]), rfl⟩

/-- A new list of ints. -/
def isNew (l : List Int) (w : World) (e : Ending) (w' : World) : Prop := ∃ v, e = .returned v ∧ Is w' v l ∧ Below w.heap.size w w'
theorem take_good {bad : List Bool} {n k : Nat} (hx : bad.getD k false = false) (h : ((goodL bad k).take n).length < n) : (goodL bad (k + 1)).take n = (goodL bad k).take n ++ [k] := by
  rw [List.length_take] at h
  rw [goodL_succ, hx, if_neg (by decide), List.take_of_length_le (by rw [List.length_append, List.length_singleton]; omega), List.take_of_length_le (by omega)]
theorem take_full {bad : List Bool} {n k : Nat} (h : n ≤ ((goodL bad k).take n).length) : (goodL bad (k + 1)).take n = (goodL bad k).take n := by
  rw [List.length_take] at h
  rw [goodL_succ]
  split
  · rfl
  · rw [List.take_append_of_le_length (by omega)]
theorem take_bad {bad : List Bool} {n k : Nat} (hx : bad.getD k false = true) : (goodL bad (k + 1)).take n = (goodL bad k).take n := by rw [goodL_succ, hx, if_pos rfl]
theorem natsI_app (l : List Nat) (k : Nat) : natsI (l ++ [k]) = natsI l ++ [(k : Int)] := by simp [natsI]
set_option maxHeartbeats 1000000 in
set_option maxRecDepth 100000 in
theorem good_any (v : Value) (l : List Bool) (m : Nat) (w : World) (h : Bos w v l) (hl : l.length ≤ 1000) (hm : m ≤ 1000) : Calls Try.prog 39 #[v, .int .i64 (m : Int)] w (isNew (natsI ((goodL l l.length).take m)) w) := by
  have hc := fun hn => Bos.at_ h hn
  obtain ⟨A, c, rfl⟩ := Sl.form h
  have HC := Lib.hid hc
  obtain ⟨n, hn⟩ : ∃ n, l.length = n := ⟨_, rfl⟩
  rw [hn] at hl ⊢
  have N := Lib.hid hn
  obtain ⟨i0, hi, hz0, hz1, hz2⟩ := info_parts info_int
  have I0 := Lib.hid (And.intro hi (And.intro hz0 (And.intro hz1 hz2)))
  clear h hn hc hi hz0 hz1 hz2
  go_enter Try.func39, Try.ntmps39
  go_wp2
  go_loopw [5, 6, 7, 10] (fun u _ _ q wr => ∃ k : Nat, k ≤ n ∧ q = .int .i64 (k : Int) ∧ Hid (Below w.heap.size w wr ∧ OwnL Iv wr w.heap.size 3 u (natsI ((goodL l k).take m)))) (fun _ _ _ q _ => n - (intOf q).toNat)
  case atStart => exact ⟨0, Nat.zero_le _, rfl, Lib.hid ⟨Below.refl _ _, by rw [show (goodL l 0).take m = [] by simp [goodL]]; exact OwnL.nil_ _ _ _⟩⟩
  case round =>
    obtain ⟨k, hk, rfl, H⟩ := hrel
    obtain ⟨A5, c5, rfl⟩ := H.out.2.sl.form
    rw [natsI_len] at *
    by_cases hlt : k < n
    · obtain ⟨b, off, c', hv, -, hcell⟩ := HC.out (by rw [N.out]; omega)
      rw [N.out] at hv
      injection hv with hv1 hv2 hv3
      subst hv1
      have p1 := (H.out.1.cell (World.block_lt_of_cell? w _ (hcell k (by rw [N.out]; exact hlt)))).trans (hcell k (by rw [N.out]; exact hlt))
      have hbl : ((goodL l k).take m).length ≤ m := by rw [List.length_take]; omega
      obtain ⟨t, ht⟩ : ∃ t, ((goodL l k).take m).length = t := ⟨_, rfl⟩
      have T := Lib.hid ht
      rw [ht] at hbl H ⊢
      rcases hx : l.getD k false with _ | _
      · rw [hx] at p1
        have X := Lib.hid hx
        by_cases htm : t < m
        · have htI : (t : Int) < (m : Int) := by omega
          have F := Lib.hid (push_plain H.out.2 (Below.refl wr.heap.size wr) (fun _ => (rfl : Iv _ (.int .i64 (k : Int)) (k : Int))) 3 wr.heap.size rfl)
          have LN : Hid ((natsI ((goodL l k).take m)).length = t) := Lib.hid (by rw [natsI_len, T.out])
          have L1 : t + 1 ≤ maxLen := by unfold maxLen; omega
          have L2 : (t + 1) * 8 ≤ 140737488355328 := by omega
          have L := Lib.hid (And.intro L1 L2)
          have HS := Lib.hid H.out.1.size
          have OW := Lib.hid H.out.2.own
          have TG : Hid (natsI ((goodL l (k + 1)).take m) = natsI ((goodL l k).take m) ++ [(k : Int)]) := Lib.hid (by rw [take_good X.out (by rw [T.out]; exact htm), natsI_app])
          clear hcell hv2 hv3 hx ht L1 L2
          go_wp2_with (at_builtin; refine wpList_push rfl _ _ 22 rfl w.heap.size 3 i0 (.int .i64 0) 8 Try.underlying22 I0.out.1 I0.out.2.1 I0.out.2.2.1 I0.out.2.2.2 rfl Iv.keeps (.slice A5 t c5) _ rfl F.out.1 t LN.out wr.heap.size (.int .i64 (k : Int)) (k : Int) rfl F.out.2.1 rfl F.out.2.2.1 F.out.2.2.2 L.out.1 L.out.2 (by simp; have := HS.out; omega) ?_; intro g5 cap5 w5 hown5 hgrow5)
          have HO5 := Lib.hid hown5
          have HG5 := Lib.hid hgrow5
          clear hown5 hgrow5
          go_wp2
          go_roundw
          case rel =>
            have h0 := HS.out
            exact ⟨k + 1, by omega, by go_num, Lib.hid ⟨(H.out.1.alloc h0 _).grown HG5.out (by simp; omega) fun q hq => (OW.out q hq).1, by rw [TG.out]; exact HO5.out⟩⟩
          case measure => simp [intOf]; omega
        · have htI : decide ((t : Int) < (m : Int)) = false := by simp; omega
          clear hcell hv2 hv3 hx ht
          go_wp2
          go_roundw
          case rel => exact ⟨k + 1, by omega, by go_num, Lib.hid ⟨H.out.1, by rw [take_full (by rw [T.out]; omega)]; exact H.out.2⟩⟩
          case measure => simp [intOf]; omega
      · rw [hx] at p1
        have X := Lib.hid hx
        clear hcell hv2 hv3 hx ht
        go_wp2
        go_roundw
        case rel => exact ⟨k + 1, by omega, by go_num, Lib.hid ⟨H.out.1, by rw [take_bad X.out]; exact H.out.2⟩⟩
        case measure => simp [intOf]; omega
    · obtain rfl : k = n := by omega
      go_wp2
      go_ret
      exact ⟨_, rfl, H.out.2.sl, H.out.1⟩

theorem Bs.of_rows {w : World} {g n : Nat} {f : Nat → Nat} (h : w.rowIs g 5 n (fun i => .int .u8 ((f i : Nat) : Int))) (hn : n ≤ maxLen) (hb : ∀ i, i < n → f i < 256) : Bs w (.slice (some ⟨g, 0, none⟩) n n) ((List.range n).map f) := by
  obtain ⟨cs, hh, hs, hcell⟩ := h
  refine Bs.of_row (t := 5) (cs := cs) hh (by simp) ⟨Nat.le_refl _, hn⟩ (fun x hx => ?_) fun k hk => ?_
  · obtain ⟨j, hj, rfl⟩ := List.mem_map.1 hx
    exact hb j (List.mem_range.1 hj)
  · rw [hcell k hk, range_getD _ _ _ _ hk]
/-- Piece p as a combination of the n data pieces. -/
def rowL (n p : Nat) : List Nat := (List.range n).map (grow n p)
theorem rowL_at {n p i : Nat} (hi : i < n) : (rowL n p).getD i 0 = grow n p i := range_getD _ _ _ _ hi
theorem rowL_len (n p : Nat) : (rowL n p).length = n := by simp [rowL]
def rowNew (n p : Nat) (w : World) (e : Ending) (w' : World) : Prop := e = .returned (.slice (some ⟨w.heap.size, 0, none⟩) n n) ∧ Bs w' (.slice (some ⟨w.heap.size, 0, none⟩) n n) (rowL n p) ∧ Below w.heap.size w w'
set_option maxHeartbeats 1000000 in
set_option maxRecDepth 100000 in
theorem rrow_any (n p : Nat) (N : Nat) (w : World) (hN : N = n + 3) (h1 : 1 ≤ n) (h13 : n ≤ 13) (hp : p < N) : Calls Try.prog 33 #[.int .i64 (N : Int), .int .i64 (p : Int)] w (rowNew n p w) := by
  have hmk := run_make_row' (P := Try.prog) 24 5 _ _ Try.underlying24 info_u8 rfl .i64 .i64 n (by omega) (by omega)
  have e0 : (N : Int) - 3 = (n : Int) := by omega
  have NN := Lib.hid hN
  clear hN
  go_enter Try.func33, Try.ntmps33
  go_wp2
  go_loopw [6] (fun q wr => ∃ k : Nat, k ≤ n ∧ q = .int .i64 (k : Int) ∧ Hid (Below w.heap.size w wr ∧ wr.rowIs w.heap.size 5 n (fun i => .int .u8 ((if i < k then grow n p i else 0 : Nat) : Int)))) (fun q _ => n - (intOf q).toNat)
  case atStart => exact ⟨0, Nat.zero_le _, rfl, Lib.hid ⟨(Below.refl _ _).alloc (Nat.le_refl _) _, (World.rowIs_made w _ n _).congr fun i _ => by rw [if_neg (Nat.not_lt_zero i)]; rfl⟩⟩
  case round =>
    obtain ⟨k, hk, rfl, H⟩ := hrel
    by_cases hlt : k < n
    · have hkI : (k : Int) < (n : Int) := by omega
      have p1 := H.out.2.cell hlt
      have p2 := H.out.2.frozen k
      by_cases hpn : p < n
      · have g1 : decide ((p : Int) < (n : Int)) = true := by simp; omega
        by_cases hkp : k = p
        · have g2 : ((k : Int) == (p : Int)) = true := by simp [hkp]
          have KP := Lib.hid hkp
          clear hkp
          go_wp2
          go_roundw
          case rel =>
            refine ⟨k + 1, by omega, by go_num, Lib.hid ⟨H.out.1.setCell (Nat.le_refl _) _, (H.out.2.set k _).congr fun i hi => ?_⟩⟩
            by_cases e : i = k
            · rw [if_pos e, if_pos (by omega), grow, if_pos hpn, if_pos (by rw [e, KP.out])]; rfl
            · rw [if_neg e]
              by_cases e2 : i < k
              · rw [if_pos e2, if_pos (by omega)]
              · rw [if_neg e2, if_neg (by omega)]
          case measure => simp [intOf]; omega
        · have g2 : ((k : Int) == (p : Int)) = false := by simp; omega
          have KP := Lib.hid hkp
          clear hkp
          go_wp2
          go_roundw
          case rel =>
            refine ⟨k + 1, by omega, by go_num, Lib.hid ⟨H.out.1, H.out.2.congr fun i hi => ?_⟩⟩
            by_cases e : i = k
            · rw [if_neg (by omega), if_pos (by omega), grow, if_pos hpn, if_neg (by rw [e]; exact KP.out)]
            · by_cases e2 : i < k
              · rw [if_pos e2, if_pos (by omega)]
              · rw [if_neg e2, if_neg (by omega)]
          case measure => simp [intOf]; omega
      · have g1 : decide ((p : Int) < (n : Int)) = false := by simp; omega
        obtain ⟨j, hj⟩ : ∃ j, p = n + j := ⟨p - n, by omega⟩
        have hj3 : j < 3 := by have := NN.out; omega
        have e1 : (p : Int) - (N : Int) = (j : Int) - 3 := by have := NN.out; omega
        have e2 : (j : Int) * (k : Int) = ((j * k : Nat) : Int) := (Int.natCast_mul _ _).symm
        have e3 : j * k < 3 * 13 := Nat.mul_lt_mul'' hj3 (by omega)
        have GR : Hid (grow n p k = Gf.gpow 2 (j * k)) := Lib.hid (by rw [hj, grow_par])
        have e4 : (j : Int) - 3 + 3 = (j : Int) := by omega
        have e5 : ((j * k : Nat) : Int) < 39 := by omega
        have e6 : (0 : Int) ≤ ((j * k : Nat) : Int) := by omega
        have PW := Lib.hid (rpower_any 2 (j * k) (by decide) (by omega) wr)
        have hj' : (j : Int) < 3 := by omega
        have hj0 : (0 : Int) ≤ (j : Int) := by omega
        generalize j * k = jk at *
        obtain ⟨x, hx⟩ : ∃ x, Gf.gpow 2 jk = x := ⟨_, rfl⟩
        rw [hx] at PW GR
        clear hj e3 hx
        go_wp2_with (go_at_call 49; refine PW.out.mono ?_; rintro e w' ⟨rfl, rfl⟩)
        go_roundw
        case rel =>
          refine ⟨k + 1, by omega, by go_num, Lib.hid ⟨H.out.1.setCell (Nat.le_refl _) _, (H.out.2.set k _).congr fun i hi => ?_⟩⟩
          by_cases e : i = k
          · rw [if_pos e, if_pos (by omega), e, GR.out]
          · rw [if_neg e]
            by_cases e2 : i < k
            · rw [if_pos e2, if_pos (by omega)]
            · rw [if_neg e2, if_neg (by omega)]
        case measure => simp [intOf]; omega
    · obtain rfl : k = n := by omega
      go_wp2
      go_ret
      exact ⟨rfl, Bs.of_rows (H.out.2.congr fun i hi => by rw [if_pos hi]) (by unfold maxLen; omega) fun i _ => grow_lt _ _ _, H.out.1⟩

/-- A copy of a list of blocks. -/
def ownNew (D : List (List Nat)) (n : Nat) (w : World) (e : Ending) (w' : World) : Prop := ∃ g c, e = .returned (.slice (some ⟨g, 0, none⟩) n c) ∧ OwnB w' w.heap.size (.slice (some ⟨g, 0, none⟩) n c) D ∧ w.heap.size ≤ g ∧ Below w.heap.size w w'
set_option maxHeartbeats 1000000 in
set_option maxRecDepth 100000 in
theorem clone_bl (v : Value) (D : List (List Nat)) (w : World) (h : Bl w v D) (h0 : 0 < D.length) (hl : D.length ≤ 1000) : Calls Try.prog 40 #[v] w (ownNew D D.length w) := by
  have HV := Lib.hid h
  obtain ⟨b, off, c, rfl, -, -, -⟩ := Bl.at_ h h0
  have hnil := fun w => Lib.run_eql_slice_nil (P := Try.prog) w 31 33 (some ⟨b, off, none⟩) D.length c 0 0 Try.underlying31
  have L1 : Hid (([] : List (List Nat)).length + D.length ≤ 1000) := Lib.hid (by simp; omega)
  obtain ⟨n, hn⟩ : ∃ n, D.length = n := ⟨_, rfl⟩
  have N := Lib.hid hn
  rw [hn] at HV hnil ⊢
  rw [hn] at h0 hl
  clear h hn
  go_enter Try.func40, Try.ntmps40
  go_wp2_with (at_builtin; refine wpList_append_bl rfl (.tmp 5) (.tmp 6) rfl w.heap.size (.slice (some ⟨w.heap.size, 0, none⟩) 0 0) (.slice (some ⟨b, off, none⟩) n c) [] D rfl (OwnB.new (Nat.le_refl _)) rfl (HV.out.alloc _) L1.out (by simp) ?_; intro x0 w2 ho hg; have HO := Lib.hid ho; have HB : Hid (Below w.heap.size w w2) := Lib.hid (((Below.refl w.heap.size w).alloc (Nat.le_refl _) _).grown hg (by simp) (fun k e => by cases e; exact Nat.le_refl _)); clear ho hg)
  go_ret
  have ho : OwnB w2 w.heap.size x0 D := HO.out
  obtain ⟨g, cap, rfl, hg, -⟩ := ho.form (by rw [N.out]; exact h0)
  rw [N.out] at ho ⊢
  exact ⟨g, cap, rfl, ho, hg, HB.out⟩
end Go.Proofs.Ytheijobnmdbodaa
