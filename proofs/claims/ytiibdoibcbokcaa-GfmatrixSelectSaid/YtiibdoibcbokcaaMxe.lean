/- Contracts of functions that append rows: the reference's Identity, Rows; copied. -/
import Derived.Test.YtiibdoibcbokcaaMxd
import Derived.Deep.DeepMust
namespace Go.Proofs.Ytiibdoibcbokcaa
open Go Go.RowKit

theorem cell_new (w : World) (u : Value) (t : TypeId) (n : Nat) (hn : w.heap.size = n) : (w.alloc (.cells #[u] t)).cell? ⟨n, 0, none⟩ = some u := by
  subst hn
  rw [cell_of_row _ _ _ _ _ _ (heap_alloc_new w _)]; rfl
/-- What a push asks, of a row that has just been made. -/
theorem push_facts {w1 w2 : World} {base : Nat} {e : TypeId} {v u : Value} {m : List (List Nat)} {y : List Nat} (h : OwnL Bs w1 base e v m) (hb : Below w1.heap.size w1 w2) (hu : Bs w2 u y) (hn : ∀ k, u.ownBlock = some k → w1.heap.size ≤ k) (t : TypeId) (b : Nat) (hbn : w2.heap.size = b) :
    OwnL Bs (w2.alloc (.cells #[u] t)) base e v m ∧ (w2.alloc (.cells #[u] t)).cell? ⟨b, 0, none⟩ = some u ∧ Bs (w2.alloc (.cells #[u] t)) u y ∧
      (∀ g, v.ownBlock = some g → Off Bs (w2.alloc (.cells #[u] t)) g u y) ∧ u.oneCell' = true := by
  refine ⟨(h.below hb (Nat.le_refl _)).alloc _, cell_new w2 u t _ hbn, hu.alloc _, fun g hg => (hu.alloc _).off_of fun k hk => ?_, ?_⟩
  · have := hn k hk
    have := h.own g hg
    omega
  · obtain ⟨A, c, rfl⟩ := hu.form
    rfl
theorem take_snoc {α : Type} (d : α) (l : List α) (k : Nat) (hk : k < l.length) : l.take (k + 1) = l.take k ++ [l.getD k d] := by
  rw [List.take_add_one, List.getElem?_eq_getElem hk, getD_in hk]; rfl

def msNew (m : List (List Nat)) (w : World) (e : Ending) (w' : World) : Prop :=
  ∃ v, e = .returned v ∧ OwnL Bs w' w.heap.size 31 v m ∧ Below w.heap.size w w'

theorem idL_row (n k : Nat) (hk : k < n) (w : World) (hn : n ≤ maxLen) :
    Bs (w.alloc (.cells ((madeCells #[.int .u8 0] n).setIfInBounds k (.int .u8 1)) 5)) (.slice (some ⟨w.heap.size, 0, none⟩) n n) ((idL n).getD k []) := by
  refine Bs.of_row (t := 5) (heap_alloc_new w _) ((idL_rect n).row k hk).1 ⟨Nat.le_refl _, hn⟩ ((idL_rect n).row k hk).2 fun j hj => ?_
  have e : ((idL n).getD k []).getD j 0 = if j = k then 1 else 0 := gridL_el hk hj
  rw [e, Array.getElem?_setIfInBounds]
  by_cases h : k = j
  · rw [if_pos h, if_pos h.symm, if_pos (by rw [size_madeCells]; exact hk)]; rfl
  · rw [if_neg h, if_neg fun h' => h h'.symm]; simp [madeCells, hj, Nat.mod_one]
set_option maxHeartbeats 1000000 in
set_option maxRecDepth 100000 in
theorem ridentity_any (n : Nat) (w : World) (h2 : n ≤ 64) : Calls Try.prog 16 #[.int .i64 (n : Int)] w (msNew (idL n) w) := by
  have hmk := run_make_row' (P := Try.prog) 31 5 _ _ Try.underlying31 info_u8 rfl .i64 .i64 n (by omega) (by omega)
  obtain ⟨i0, hi, hz0, hz1, hz2⟩ := info_parts info_bytes
  have I0 := Lib.hid (And.intro hi (And.intro hz0 (And.intro hz1 hz2)))
  clear hi hz0 hz1 hz2
  go_enter Try.func16, Try.ntmps16
  go_wp2
  go_loopw [3, 4, 5] (fun v i _ wr => ∃ k : Nat, k ≤ n ∧ i = .int .i64 (k : Int) ∧ Hid (Below w.heap.size w wr ∧ OwnL Bs wr w.heap.size 31 v ((idL n).take k))) (fun _ i _ _ => n - (intOf i).toNat)
  case atStart => exact ⟨0, Nat.zero_le _, rfl, Lib.hid ⟨Below.refl _ _, OwnL.nil_ _ _ _⟩⟩
  case round =>
    obtain ⟨k, hk, rfl, H⟩ := hrel
    by_cases hlt : k < n
    · have hlen : ((idL n).take k).length = k := by rw [List.length_take, (idL_rect n).len]; omega
      have F := Lib.hid (push_facts H.out.2 ((Below.refl wr.heap.size wr).alloc (Nat.le_refl _) _) (idL_row n k hlt wr (by unfold maxLen; omega)) (fun g hg => by injection hg with hg; exact Nat.le_of_eq hg) 31 (wr.heap.size + 1) (by simp))
      have LN := Lib.hid hlen
      have L1 : k + 1 ≤ maxLen := by unfold maxLen; omega
      have L2 : (k + 1) * 24 ≤ 140737488355328 := by omega
      have T := Lib.hid (take_snoc [] (idL n) k (by rw [(idL_rect n).len]; exact hlt))
      have L := Lib.hid (And.intro L1 L2)
      have hsz := H.out.1.size
      have HS := Lib.hid hsz
      have hkI : (k : Int) < (n : Int) := by omega
      have q1 : ∀ t, (wr.alloc (.cells (madeCells #[.int .u8 0] n) t)).cell? ⟨wr.heap.size, k, none⟩ = some (.int .u8 0) := fun t => by
        rw [cell_of_row _ _ _ _ _ _ (heap_alloc_new wr _)]; simp [madeCells, hlt, Nat.mod_one]
      clear hlen L1 L2 hsz
      go_wp2_with (at_builtin; refine wpList_push rfl _ _ 22 rfl w.heap.size 31 i0 (.slice none 0 0) 24 Try.underlying22 I0.out.1 I0.out.2.1 I0.out.2.2.1 I0.out.2.2.2 rfl Bs.keeps u3 _ rfl F.out.1 k LN.out _ _ _ rfl F.out.2.1 F.out.2.2.2.2 F.out.2.2.1 F.out.2.2.2.1 L.out.1 L.out.2 (by simp; have := HS.out; omega) ?_; intro g cap w1 hown1 hgrow)
      have HO := Lib.hid hown1
      have HG := Lib.hid hgrow
      clear hown1 hgrow
      go_wp2
      go_roundw
      case rel =>
        have hsz := HS.out
        refine ⟨k + 1, by omega, by go_num, Lib.hid ⟨?_, ?_⟩⟩
        · exact ((H.out.1.alloc hsz _).alloc (by simp; omega) _).grown HG.out (by simp; omega) fun g hg => (H.out.2.own g hg).1
        · rw [T.out]; exact HO.out
      case measure => simp [intOf]; omega
    · go_wp2
      go_ret
      obtain ⟨hbel, hown⟩ := H.out
      rw [List.take_of_length_le (by rw [(idL_rect n).len]; omega)] at hown
      exact ⟨_, rfl, hown, hbel⟩

/-- All rows have at most 1000 bytes, and there are at most 1000 rows. -/
def Short (m : List (List Nat)) : Prop := m.length ≤ 1000 ∧ ∀ i, i < m.length → (m.getD i []).length ≤ 1000
set_option maxHeartbeats 2000000 in
set_option maxRecDepth 100000 in
theorem copied_any (v : Value) (m : List (List Nat)) (w : World) (h : Ms w v m) (hs : Short m) : Calls Try.prog 18 #[v] w (msNew m w) := by
  have hc := fun hn => Ms.at_ h hn
  obtain ⟨A, c, rfl⟩ := Sl.form h
  obtain ⟨n, hn⟩ : ∃ n, m.length = n := ⟨_, rfl⟩
  have HC := Lib.hid hc
  have N := Lib.hid hn
  have SH := Lib.hid hs.2
  have hn1 : n ≤ 1000 := by have := hs.1; omega
  rw [hn]
  obtain ⟨i0, hi, hz0, hz1, hz2⟩ := info_parts info_bytes
  have I0 := Lib.hid (And.intro hi (And.intro hz0 (And.intro hz1 hz2)))
  clear hi hz0 hz1 hz2
  obtain ⟨i1, hi, hz0, hz1, hz2⟩ := info_parts info_u8
  have I1 := Lib.hid (And.intro hi (And.intro hz0 (And.intro hz1 hz2)))
  clear hi hz0 hz1 hz2 hc hn hs h
  go_enter Try.func18, Try.ntmps18
  go_wp2
  go_loopw [3, 4] (fun v i wr => ∃ k : Nat, k ≤ n ∧ i = .int .i64 (k : Int) ∧ Hid (Below w.heap.size w wr ∧ OwnL Bs wr w.heap.size 31 v (m.take k))) (fun _ i _ => n - (intOf i).toNat)
  case atStart => exact ⟨0, Nat.zero_le _, rfl, Lib.hid ⟨Below.refl _ _, OwnL.nil_ _ _ _⟩⟩
  case round =>
    obtain ⟨k, hk, rfl, H⟩ := hrel
    by_cases hlt : k < n
    · have hlen : (m.take k).length = k := by rw [List.length_take, N.out]; omega
      have LN := Lib.hid hlen
      obtain ⟨b, off, c', hv, -, hrow⟩ := HC.out (by rw [N.out]; omega)
      rw [N.out] at hv
      injection hv with hv1 hv2 hv3
      subst hv1
      obtain ⟨A1, c1, q1, r1⟩ := hrow k (by rw [N.out]; exact hlt)
      have q1' := (H.out.1.cell (World.block_lt_of_cell? w _ q1)).trans q1
      have R1 := Lib.hid (r1.below H.out.1)
      obtain ⟨l, hl⟩ : ∃ l, m.getD k [] = l := ⟨_, rfl⟩
      have LL : l.length ≤ 1000 := by rw [← hl]; exact SH.out k (by rw [N.out]; exact hlt)
      rw [hl] at q1' R1
      have q2 : ∀ o, (wr.alloc o).cell? ⟨b, off + k, none⟩ = some (.slice A1 l.length c1) := fun o => (World.cell?_alloc_lt wr o _ (World.block_lt_of_cell? wr _ q1')).trans q1'
      have T := Lib.hid (take_snoc [] m k (by rw [N.out]; exact hlt))
      rw [hl] at T
      have L1 : k + 1 ≤ maxLen := by unfold maxLen; omega
      have L2 : (k + 1) * 24 ≤ 140737488355328 := by omega
      have L3 : 0 + l.length ≤ maxLen := by unfold maxLen; omega
      have L4 : 0 + l.length ≤ 140737488355328 := by omega
      have L := Lib.hid (And.intro L1 (And.intro L2 (And.intro L3 L4)))
      have HS := Lib.hid H.out.1.size
      have hkI : (k : Int) < (n : Int) := by omega
      clear hlen L1 L2 L3 L4 q1 r1 hrow hl hv2 hv3
      go_wp2_with (first
        | (at_builtin; refine wpList_append_bs rfl (.tmp 12) (.tmp 16) 31 rfl wr.heap.size 5 i1 Try.underlying31 I1.out.1 I1.out.2.1 I1.out.2.2.1 I1.out.2.2.2 (.slice (some ⟨wr.heap.size, 0, none⟩) 0 0) (.slice A1 l.length c1) 0 [] rfl (World.ownsRow_made wr #[] 0 (Nat.le_refl _) (Nat.zero_le _) rfl) l rfl (R1.out.alloc _) L.out.2.2.1 L.out.2.2.2 (by simp) ?_
           intro x0 w2 hown2 hg2
           obtain ⟨A2, c2, rfl⟩ := (Bs.of_own hown2 (by omega) R1.out.lt).form
           have HO2 := Lib.hid hown2; have HG2 := Lib.hid (((Below.refl wr.heap.size wr).alloc (Nat.le_refl _) _).grown hg2 (by simp) (fun _ h => by cases h; exact Nat.le_refl _))
           have F := Lib.hid (push_facts H.out.2 HG2.out (Bs.of_own HO2.out (by omega) R1.out.lt) (fun g hg => (HO2.out.lt g hg).1) 31 w2.heap.size rfl)
           clear hown2 hg2)
        | (at_builtin; refine wpList_push rfl (.tmp 11) (.tmp 18) 22 rfl w.heap.size 31 i0 (.slice none 0 0) 24 Try.underlying22 I0.out.1 I0.out.2.1 I0.out.2.2.1 I0.out.2.2.2 rfl Bs.keeps u3 _ rfl F.out.1 k LN.out w2.heap.size (.slice A2 l.length c2) l rfl F.out.2.1 F.out.2.2.2.2 F.out.2.2.1 F.out.2.2.2.1 L.out.1 L.out.2.1 (by simp; have := HS.out; have := HG2.out.size; omega) ?_; intro g cap w3 hown3 hgrow3))
      have HO3 := Lib.hid hown3
      have HG3 := Lib.hid hgrow3
      clear hown3 hgrow3
      go_wp2
      go_roundw
      case rel =>
        have hsz := HS.out
        refine ⟨k + 1, by omega, by go_num, Lib.hid ⟨?_, ?_⟩⟩
        · exact ((H.out.1.trans (HG2.out.mono hsz)).alloc (by have := HG2.out.size; omega) _).grown HG3.out (by simp; have := HG2.out.size; omega) fun g hg => (H.out.2.own g hg).1
        · rw [T.out]; exact HO3.out
      case measure => simp [intOf]; omega
    · go_wp2
      go_ret
      obtain ⟨hbel, hown⟩ := H.out
      rw [List.take_of_length_le (by rw [N.out]; omega)] at hown
      exact ⟨_, rfl, hown, hbel⟩
end Go.Proofs.Ytiibdoibcbokcaa
