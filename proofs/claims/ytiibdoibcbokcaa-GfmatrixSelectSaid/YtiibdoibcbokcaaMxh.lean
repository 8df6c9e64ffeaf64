/- Contract: the reference's product of matrices. -/
import Derived.Test.YtiibdoibcbokcaaMxg
namespace Go.Proofs.Ytiibdoibcbokcaa
open Go Go.RowKit Lin

/-- Row i times column j, as far as the first k products. -/
def mulE (a b : List (List Nat)) (i j k : Nat) : Nat := xs k (fun l => Gf.mul (el a i l) (el b l j))
def mulL (r c n : Nat) (a b : List (List Nat)) : List (List Nat) := gridL r c fun i j => mulE a b i j n
theorem mulE_lt {r n : Nat} {a : List (List Nat)} (h : Rect r n a) (b : List (List Nat)) (i j k : Nat) : mulE a b i j k < 256 := xs_lt _ _ fun l _ => Gf.mul_lt _ _ (h.by i l)
theorem mulL_rect {r n c : Nat} {a : List (List Nat)} (h : Rect r n a) (b : List (List Nat)) : Rect r c (mulL r c n a b) := gridL_rect fun i j => mulE_lt h b i j n
theorem mulL_row {r c n : Nat} {a b : List (List Nat)} {i : Nat} (hi : i < r) : (mulL r c n a b).getD i [] = (List.range c).map fun j => mulE a b i j n := range_getD _ _ _ _ hi

theorem mulL_el {r c n : Nat} {a b : List (List Nat)} {i j : Nat} (hi : i < r) (hj : j < c) : el (mulL r c n a b) i j = mulE a b i j n := gridL_el hi hj
set_option maxHeartbeats 4000000 in
set_option maxRecDepth 100000 in
theorem rmatmul_any (v v2 : Value) (a b : List (List Nat)) (w : World) {r n c : Nat} (h : Ms w v a) (hR : Rect r n a) (h2 : Ms w v2 b) (hR2 : Rect n c b) (h0 : 0 < r) (hn0 : 0 < n) (hc0 : 0 < c) (hr64 : r ≤ 64) (hn64 : n ≤ 64) (hc64 : c ≤ 64) :
    Calls Try.prog 23 #[v, v2] w (msNew (mulL r c n a b) w) := by
  obtain ⟨ba, oa, ca, rfl, hm, hat⟩ := Ms.open_ h hR h0 hn0
  obtain ⟨bb, ob, cb, rfl, hm2, hat2⟩ := Ms.open_ h2 hR2 hn0 hc0
  have HA := Lib.hid hat
  have HB := Lib.hid hat2
  have RA := Lib.hid hR
  have RB := Lib.hid hR2
  obtain ⟨i0, hi, hz0, hz1, hz2⟩ := info_parts info_bytes
  have I0 := Lib.hid (And.intro hi (And.intro hz0 (And.intro hz1 hz2)))
  clear hi hz0 hz1 hz2
  obtain ⟨i1, hi, hz0, hz1, hz2⟩ := info_parts info_u8
  have I1 := Lib.hid (And.intro hi (And.intro hz0 (And.intro hz1 hz2)))
  clear hi hz0 hz1 hz2 hat hat2 h h2 hm hm2 hR hR2
  have hnI : (0 : Int) < (n : Int) := by omega
  go_enter Try.func23, Try.ntmps23
  go_wp2
  go_loopw [5, 6, 7, 8, 9, 10] (fun v i _ _ _ _ wr => ∃ k : Nat, k ≤ r ∧ i = .int .i64 (k : Int) ∧ Hid (Below w.heap.size w wr ∧ OwnL Bs wr w.heap.size 31 v ((mulL r c n a b).take k))) (fun _ i _ _ _ _ _ => r - (intOf i).toNat)
  case atStart => exact ⟨0, Nat.zero_le _, rfl, Lib.hid ⟨Below.refl _ _, OwnL.nil_ _ _ _⟩⟩
  case round =>
    obtain ⟨i, hk, rfl, H⟩ := hrel
    obtain ⟨wo, rfl⟩ : ∃ wo, wo = wr := ⟨_, rfl⟩
    by_cases hlt : i < r
    · have hiI : (i : Int) < (r : Int) := by omega
      have HA1 := Lib.hid (HA.out.keep ⟨H.out.1.size, fun p hp => H.out.1.cell hp⟩)
      have HB1 := Lib.hid (HB.out.keep ⟨H.out.1.size, fun p hp => H.out.1.cell hp⟩)
      obtain ⟨b0, o0, c0, z1, -, -, -⟩ := HB1.out 0 hn0
      rw [Nat.add_zero] at z1
      have ZZ := Lib.hid z1
      clear z1
      go_wp2
      go_loopw [7, 8, 9, 10] (fun u j _ _ wq => ∃ k : Nat, k ≤ c ∧ j = .int .i64 (k : Int) ∧ Hid (Below wo.heap.size wo wq ∧ OwnL Bv wq wo.heap.size 5 u (((List.range c).map fun j => mulE a b i j n).take k))) (fun _ j _ _ _ => c - (intOf j).toNat)
      case atStart => exact ⟨0, Nat.zero_le _, rfl, Lib.hid ⟨Below.refl _ _, OwnL.nil_ _ _ _⟩⟩
      case round =>
        obtain ⟨j, hk2, rfl, H2⟩ := hrel
        obtain ⟨wp, rfl⟩ : ∃ wp, wp = wr := ⟨_, rfl⟩
        have z1 := (H2.out.1.cell (World.block_lt_of_cell? wo _ ZZ.out)).trans ZZ.out
        by_cases hlt2 : j < c
        · have hjI : (j : Int) < (c : Int) := by omega
          have HA2 := Lib.hid (HA1.out.keep ⟨H2.out.1.size, fun p hp => H2.out.1.cell hp⟩)
          have HB2 := Lib.hid (HB1.out.keep ⟨H2.out.1.size, fun p hp => H2.out.1.cell hp⟩)
          go_wp2
          go_loopw [9, 10] (fun x q wq => ∃ k s : Nat, k ≤ n ∧ s < 256 ∧ x = .int .u8 (s : Int) ∧ q = .int .i64 (k : Int) ∧ Hid (Dr wp wq ∧ s = mulE a b i j k)) (fun _ q _ => n - (intOf q).toNat)
          case atStart => exact ⟨0, 0, Nat.zero_le _, by decide, rfl, rfl, Lib.hid ⟨Dr.refl _, rfl⟩⟩
          case round =>
            obtain ⟨k, s, hk3, hs, rfl, rfl, H3⟩ := hrel
            by_cases hlt3 : k < n
            · have hkI : (k : Int) < (n : Int) := by omega
              obtain ⟨b1, o1, c1, q1, -, -, q2⟩ := HA2.out i hlt
              obtain ⟨b3, o3, c3, q3, -, -, q4⟩ := HB2.out k hlt3
              have p2 := q2 k hlt3
              have p4 := q4 j hlt2
              rw [← H3.out.1.cell] at q1 q3 p2 p4
              clear q2 q4 z1
              obtain ⟨x, hx⟩ : ∃ x, el a i k = x := ⟨_, rfl⟩
              obtain ⟨y, hy⟩ : ∃ y, el b k j = y := ⟨_, rfl⟩
              have hx2 : x < 256 := by rw [← hx]; exact RA.out.by i k
              have hy2 : y < 256 := by rw [← hy]; exact RB.out.by k j
              rw [hx] at p2
              rw [hy] at p4
              have E : Hid (s ^^^ Gf.mul x y = mulE a b i j (k + 1)) := Lib.hid (by rw [H3.out.2, ← hx, ← hy]; rfl)
              have hmul := Gf.mul_lt x y hx2
              have hxor := u8_xor_nat s (Gf.mul x y) hs hmul
              have hxl := Gf.xor_lt s (Gf.mul x y) hs hmul
              clear hx hy
              go_wp2
              go_quiet ((go_at_call 37; exact rmul_quiet x y hx2 hy2 _ _))
              go_wp2
              go_roundw
              case rel => exact ⟨k + 1, _, by omega, hxl, rfl, by go_num, Lib.hid ⟨H3.out.1.more _, E.out⟩⟩
              case measure => simp [intOf]; omega
            · have ek : k = n := by omega
              subst ek
              have hlen : (((List.range c).map fun j => mulE a b i j k).take j).length = j := by rw [List.length_take, List.length_map, List.length_range]; omega
              have LN := Lib.hid hlen
              have F := Lib.hid (push_plain H2.out.2 (H3.out.1.below _) (fun _ => (rfl : Bv _ (.int .u8 (s : Int)) s)) 5 wr.heap.size rfl)
              have T := Lib.hid (take_snoc 0 ((List.range c).map fun j => mulE a b i j k) j (by rw [List.length_map, List.length_range]; exact hlt2))
              have T2 : Hid (((List.range c).map fun j => mulE a b i j k).getD j 0 = s) := Lib.hid (by rw [range_getD _ _ _ _ hlt2, H3.out.2])
              have L1 : j + 1 ≤ maxLen := by unfold maxLen; omega
              have L2 : (j + 1) * 1 ≤ 140737488355328 := by omega
              have L := Lib.hid (And.intro L1 L2)
              have HS := Lib.hid H2.out.1.size
              have HS2 := Lib.hid (H3.out.1.below wp.heap.size)
              clear hlen L1 L2 z1
              go_wp2_with (at_builtin; refine wpList_push rfl _ _ 31 rfl wo.heap.size 5 i1 (.int .u8 0) 1 Try.underlying31 I1.out.1 I1.out.2.1 I1.out.2.2.1 I1.out.2.2.2 rfl Bv.keeps u7 _ rfl F.out.1 j LN.out wr.heap.size (.int .u8 (s : Int)) s rfl F.out.2.1 rfl F.out.2.2.1 F.out.2.2.2 L.out.1 L.out.2 (by simp; have := HS.out; have := HS2.out.size; omega) ?_; intro g cap w3 hown3 hgrow3)
              have HO3 := Lib.hid hown3
              have HG3 := Lib.hid hgrow3
              clear hown3 hgrow3
              go_wp2
              go_roundw
              case rel =>
                have hsz := HS.out
                have hs2 := HS2.out.size
                refine ⟨j + 1, by omega, by go_num, Lib.hid ⟨?_, ?_⟩⟩
                · exact ((H2.out.1.trans (HS2.out.mono hsz)).alloc (by omega) _).grown HG3.out (by simp; omega) fun g hg => (H2.out.2.own g hg).1
                · rw [T.out, T2.out]; exact HO3.out
              case measure => simp [intOf]; omega
        · have ek : j = c := by omega
          subst ek
          have hbs : Bs wp u7 ((List.range j).map fun j => mulE a b i j n) := by
            have := H2.out.2
            rw [List.take_of_length_le (by rw [List.length_map, List.length_range]; omega)] at this
            exact this.bs fun x hx => by obtain ⟨q, _, rfl⟩ := List.mem_map.1 hx; exact mulE_lt RA.out b i q n
          have hown7 := H2.out.2.own
          obtain ⟨A7, c7, rfl⟩ := hbs.form
          rw [List.length_map, List.length_range] at hbs hown7
          have hlen : ((mulL r j n a b).take i).length = i := by rw [List.length_take, (mulL_rect RA.out b).len]; omega
          have LN := Lib.hid hlen
          have F := Lib.hid (push_facts H.out.2 H2.out.1 hbs (fun g hg => (hown7 g hg).1) 31 wp.heap.size rfl)
          have T := Lib.hid (take_snoc [] (mulL r j n a b) i (by rw [(mulL_rect RA.out b).len]; exact hlt))
          have T2 : Hid ((mulL r j n a b).getD i [] = (List.range j).map fun j => mulE a b i j n) := Lib.hid (mulL_row hlt)
          have L1 : i + 1 ≤ maxLen := by unfold maxLen; omega
          have L2 : (i + 1) * 24 ≤ 140737488355328 := by omega
          have L := Lib.hid (And.intro L1 L2)
          have HS := Lib.hid H.out.1.size
          have HS2 := Lib.hid H2.out.1
          have eqn : ((List.range j).map fun j => mulE a b i j n).length = j := by rw [List.length_map, List.length_range]
          rw [eqn]
          clear hlen L1 L2 hbs hown7 eqn
          go_wp2_with (at_builtin; refine wpList_push rfl (.tmp 52) (.tmp 54) 22 rfl w.heap.size 31 i0 (.slice none 0 0) 24 Try.underlying22 I0.out.1 I0.out.2.1 I0.out.2.2.1 I0.out.2.2.2 rfl Bs.keeps u5 _ rfl F.out.1 i LN.out wp.heap.size (.slice A7 j c7) _ rfl F.out.2.1 F.out.2.2.2.2 F.out.2.2.1 F.out.2.2.2.1 L.out.1 L.out.2 (by simp; have := HS.out; have := HS2.out.size; omega) ?_; intro g cap w3 hown3 hgrow3)
          have HO3 := Lib.hid hown3
          have HG3 := Lib.hid hgrow3
          clear hown3 hgrow3
          go_wp2
          go_roundw
          case rel =>
            have hsz := HS.out
            have hs2 := HS2.out.size
            refine ⟨i + 1, by omega, by go_num, Lib.hid ⟨?_, ?_⟩⟩
            · exact ((H.out.1.trans (HS2.out.mono hsz)).alloc (by omega) _).grown HG3.out (by simp; omega) fun g hg => (H.out.2.own g hg).1
            · rw [T.out, T2.out]; exact HO3.out
          case measure => simp [intOf]; omega
    · go_wp2
      go_ret
      obtain ⟨hbel, hown⟩ := H.out
      rw [List.take_of_length_le (by rw [(mulL_rect RA.out b).len]; omega)] at hown
      exact ⟨_, rfl, hown, hbel⟩
end Go.Proofs.Ytiibdoibcbokcaa
