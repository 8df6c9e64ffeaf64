/- Contracts: the reference's Rows, Apply, Mul. -/
import Derived.Test.YtiibdoibcbokcaaMxe
namespace Go.Proofs.Ytiibdoibcbokcaa
open Go Go.RowKit

/-- A matrix of r rows of n bytes each, open. -/
def MsAt (w : World) (b off r n : Nat) (m : List (List Nat)) : Prop := ∀ i, i < r → ∃ b' o' c', w.cell? ⟨b, off + i, none⟩ = some (.slice (some ⟨b', o', none⟩) n c') ∧ Bs w (.slice (some ⟨b', o', none⟩) n c') (m.getD i []) ∧ (n ≤ c' ∧ c' ≤ maxLen) ∧ ∀ k, k < n → w.cell? ⟨b', o' + k, none⟩ = some (.int .u8 ((el m i k : Nat) : Int))
theorem MsAt.keep {w w' : World} {b off r n : Nat} {m : List (List Nat)} (h : MsAt w b off r n m) (hs : Same w w') : MsAt w' b off r n m := fun i hi => by
  obtain ⟨b', o', c', h1, h2, h3, h4⟩ := h i hi
  exact ⟨b', o', c', (hs.2 _ (World.block_lt_of_cell? w _ h1)).trans h1, h2.keep hs.2, h3, fun k hk => (hs.2 _ (World.block_lt_of_cell? w _ (h4 k hk))).trans (h4 k hk)⟩
theorem Ms.open_ {w : World} {v : Value} {m : List (List Nat)} {r n : Nat} (h : Ms w v m) (hR : Rect r n m) (hr : 0 < r) (hn : 0 < n) : ∃ b off c, v = .slice (some ⟨b, off, none⟩) r c ∧ (r ≤ c ∧ c ≤ maxLen) ∧ MsAt w b off r n m := by
  obtain ⟨b, off, c, hv, hm, hrow⟩ := Ms.at_ h (by rw [hR.len]; exact hr)
  rw [hR.len] at hv hm
  refine ⟨b, off, c, hv, hm, fun i hi => ?_⟩
  obtain ⟨A, c', q, hb⟩ := hrow i (by rw [hR.len]; exact hi)
  have hl := (hR.row i hi).1
  obtain ⟨b', o', c'', hv', hm', hcell⟩ := Bs.at_ hb (by omega)
  rw [hl] at q hb hv' hm' hcell
  injection hv' with e1 e2 e3
  subst e1 e3
  exact ⟨b', o', c', q, hb, hm', hcell⟩
theorem Rect.of_valid {w : World} {v : Value} {m : List (List Nat)} (h : Ms w v m) (hv : validB m = true) : ∃ r n, Rect r n m ∧ 1 ≤ r ∧ r ≤ 64 ∧ 1 ≤ n ∧ n ≤ 64 := by
  obtain ⟨h1, h2, h3, h4, h5⟩ := (validB_iff m).1 hv
  refine ⟨m.length, (m.getD 0 []).length, ⟨rfl, fun i hi => ⟨h5 i hi, ?_⟩⟩, h1, h2, h3, h4⟩
  obtain ⟨b, off, c, _, _, hrow⟩ := Ms.at_ h h1
  obtain ⟨A, c', _, hb⟩ := hrow i hi
  exact hb.lt

def rowsL (m : List (List Nat)) (rows : List Nat) : List (List Nat) := rows.map fun i => m.getD i []
def natsI (l : List Nat) : List Int := l.map fun x : Nat => (x : Int)
theorem natsI_len (l : List Nat) : (natsI l).length = l.length := by simp [natsI]
theorem natsI_at (l : List Nat) (k : Nat) (hk : k < l.length) : (natsI l).getD k 0 = ((l.getD k 0 : Nat) : Int) := by
  rw [getD_in (by rw [natsI_len]; exact hk), getD_in hk]; simp [natsI]

set_option maxHeartbeats 2000000 in
set_option maxRecDepth 100000 in
theorem rrows_any (v v2 : Value) (m : List (List Nat)) (rows : List Nat) (w : World) {r n : Nat} (h : Ms w v m) (hR : Rect r n m) (h0 : 0 < r) (hn0 : 0 < n) (hn64 : n ≤ 64) (h2 : Is w v2 (natsI rows)) (hrows : ∀ k, k < rows.length → rows.getD k 0 < r) (hq : rows.length ≤ 1000) :
    Calls Try.prog 31 #[v, v2] w (msNew (rowsL m rows) w) := by
  obtain ⟨b, off, c, rfl, hm, hat⟩ := Ms.open_ h hR h0 hn0
  have hc := fun hn => Is.at_ h2 hn
  obtain ⟨A2, c2, rfl⟩ := Sl.form h2
  obtain ⟨q, hql⟩ : ∃ q, rows.length = q := ⟨_, rfl⟩
  rw [natsI_len] at hc ⊢
  rw [hql] at hc hq ⊢
  have Q := Lib.hid hql
  have HC := Lib.hid hc
  have HA := Lib.hid hat
  have HRW := Lib.hid hrows
  have RL := Lib.hid hR
  obtain ⟨i0, hi, hz0, hz1, hz2⟩ := info_parts info_bytes
  have I0 := Lib.hid (And.intro hi (And.intro hz0 (And.intro hz1 hz2)))
  clear hi hz0 hz1 hz2
  obtain ⟨i1, hi, hz0, hz1, hz2⟩ := info_parts info_u8
  have I1 := Lib.hid (And.intro hi (And.intro hz0 (And.intro hz1 hz2)))
  clear hi hz0 hz1 hz2 hc hat hrows hql h h2 hm hR
  go_enter Try.func31, Try.ntmps31
  go_wp2
  go_loopw [5, 6] (fun v i wr => ∃ k : Nat, k ≤ q ∧ i = .int .i64 (k : Int) ∧ Hid (Below w.heap.size w wr ∧ OwnL Bs wr w.heap.size 31 v ((rowsL m rows).take k))) (fun _ i _ => q - (intOf i).toNat)
  case atStart => exact ⟨0, Nat.zero_le _, rfl, Lib.hid ⟨Below.refl _ _, OwnL.nil_ _ _ _⟩⟩
  case round =>
    obtain ⟨k, hk, rfl, H⟩ := hrel
    by_cases hlt : k < q
    · have hlen : ((rowsL m rows).take k).length = k := by rw [List.length_take, rowsL, List.length_map, Q.out]; omega
      have LN := Lib.hid hlen
      obtain ⟨b2, o2, c2', hv, -, hcell⟩ := HC.out (by omega)
      injection hv with hv1 hv2 hv3
      subst hv1
      have p1 := hcell k hlt
      rw [natsI_at rows k (by rw [Q.out]; exact hlt)] at p1
      have hx := HRW.out k (by rw [Q.out]; exact hlt)
      have hy : (rowsL m rows).getD k [] = m.getD (rows.getD k 0) [] := by
        have hk' : k < rows.length := by rw [Q.out]; exact hlt
        rw [getD_in (l := rowsL m rows) (by rw [rowsL, List.length_map]; exact hk'), getD_in (l := rows) hk']; simp [rowsL]
      obtain ⟨x, ex⟩ : ∃ x, rows.getD k 0 = x := ⟨_, rfl⟩
      rw [ex] at p1 hx hy
      obtain ⟨b', o', c', q1, r1, -, -⟩ := HA.out x hx
      have q1' := (H.out.1.cell (World.block_lt_of_cell? w _ q1)).trans q1
      have p1' := (H.out.1.cell (World.block_lt_of_cell? w _ p1)).trans p1
      have R1 := Lib.hid (r1.below H.out.1)
      have q2 : ∀ o, (wr.alloc o).cell? ⟨b, off + x, none⟩ = some (.slice (some ⟨b', o', none⟩) n c') := fun o => (World.cell?_alloc_lt wr o _ (World.block_lt_of_cell? wr _ q1')).trans q1'
      have p2 : ∀ o, (wr.alloc o).cell? ⟨b2, o2 + k, none⟩ = some (.int .i64 (x : Int)) := fun o => (World.cell?_alloc_lt wr o _ (World.block_lt_of_cell? wr _ p1')).trans p1'
      obtain ⟨l, hl⟩ : ∃ l, m.getD x [] = l := ⟨_, rfl⟩
      have LN2 : Hid (l.length = n) := Lib.hid (by rw [← hl]; exact (RL.out.row x hx).1)
      rw [hl] at R1 hy
      have T := Lib.hid (take_snoc [] (rowsL m rows) k (by rw [rowsL, List.length_map, Q.out]; exact hlt))
      rw [hy] at T
      have L1 : k + 1 ≤ maxLen := by unfold maxLen; omega
      have L2 : (k + 1) * 24 ≤ 140737488355328 := by omega
      have L3 : 0 + l.length ≤ maxLen := by rw [LN2.out]; unfold maxLen; omega
      have L4 : 0 + l.length ≤ 140737488355328 := by rw [LN2.out]; omega
      have L := Lib.hid (And.intro L1 (And.intro L2 (And.intro L3 L4)))
      have HS := Lib.hid H.out.1.size
      have hkI : (k : Int) < (q : Int) := by omega
      have hxI : (x : Int) < (r : Int) := by omega
      clear hlen L1 L2 L3 L4 q1 r1 hcell hl hv2 hv3 p1 ex hy q1' p1'
      go_wp2_with (first
        | (at_builtin; refine wpList_append_bs rfl (.tmp 14) (.tmp 21) 31 rfl wr.heap.size 5 i1 Try.underlying31 I1.out.1 I1.out.2.1 I1.out.2.2.1 I1.out.2.2.2 (.slice (some ⟨wr.heap.size, 0, none⟩) 0 0) (.slice (some ⟨b', o', none⟩) n c') 0 [] rfl (World.ownsRow_made wr #[] 0 (Nat.le_refl _) (Nat.zero_le _) rfl) l rfl (R1.out.alloc _) L.out.2.2.1 L.out.2.2.2 (by simp) ?_
           intro x0 w2 hown2 hg2
           obtain ⟨A2, c2, rfl⟩ := (Bs.of_own hown2 (by omega) R1.out.lt).form
           have HO2 := Lib.hid hown2; have HG2 := Lib.hid (((Below.refl wr.heap.size wr).alloc (Nat.le_refl _) _).grown hg2 (by simp) (fun _ h => by cases h; exact Nat.le_refl _))
           have F := Lib.hid (push_facts H.out.2 HG2.out (Bs.of_own HO2.out (by omega) R1.out.lt) (fun g hg => (HO2.out.lt g hg).1) 31 w2.heap.size rfl)
           clear hown2 hg2)
        | (at_builtin; refine wpList_push rfl (.tmp 13) (.tmp 23) 22 rfl w.heap.size 31 i0 (.slice none 0 0) 24 Try.underlying22 I0.out.1 I0.out.2.1 I0.out.2.2.1 I0.out.2.2.2 rfl Bs.keeps u5 _ rfl F.out.1 k LN.out w2.heap.size (.slice A2 l.length c2) l rfl F.out.2.1 F.out.2.2.2.2 F.out.2.2.1 F.out.2.2.2.1 L.out.1 L.out.2.1 (by simp; have := HS.out; have := HG2.out.size; omega) ?_; intro g cap w3 hown3 hgrow3))
      have HO3 := Lib.hid hown3
      have HG3 := Lib.hid hgrow3
      clear hown3 hgrow3
      go_wp2
      go_roundw
      case rel =>
        have hsz := HS.out
        refine ⟨k + 1, by omega, by go_num, Lib.hid ⟨?_, ?_⟩⟩
        · exact ((H.out.1.trans (HG2.out.mono hsz)).alloc (by have := HG2.out.size; omega) _).grown HG3.out (by simp; have := HG2.out.size; omega) fun g hg => (H.out.2.own g hg).1
        · rw [T.out]; exact HO3.out
      case measure => simp [intOf]; omega
    · go_wp2
      go_ret
      obtain ⟨hbel, hown⟩ := H.out
      rw [List.take_of_length_le (by rw [rowsL, List.length_map, Q.out]; omega)] at hown
      exact ⟨_, rfl, hown, hbel⟩
end Go.Proofs.Ytiibdoibcbokcaa
