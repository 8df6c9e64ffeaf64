/- Contracts: combined, normalized, Identity, the reference's Identity, copied. -/
import Derived.Test.YtfhgalfdlkdliaaMxc
import Derived.Test.YtfhgalfdlkdliaaEm
import Derived.Test.YtfhgalfdlkdliaaRff
namespace Go.Proofs.Ytfhgalfdlkdliaa
open Go Go.RowKit

/-- A new list of bytes. -/
def madeRow (l : List Nat) (w : World) (e : Ending) (w' : World) : Prop := ∃ v, e = .returned v ∧ Bs w' v l ∧ (∀ k, v.ownBlock = some k → w.heap.size ≤ k) ∧ Below w.heap.size w w'
set_option maxHeartbeats 400000 in
theorem combined_any (v1 v2 : Value) (d s : List Nat) (c : Nat) (w : World) (h1 : Bs w v1 d) (h2 : Bs w v2 s) (hl : d.length = s.length) (hc : c < 256) (hr : d.length ≤ 140737488351232) :
    Calls Try.prog 34 #[v1, v2, .int .u8 (c : Int)] w (madeRow (fused d s c) w) := by
  have F := Lib.hid (fused_new v1 v2 d s c w h1 h2 hl hc hr)
  clear h1 h2 hl hr
  go_enter Try.func34, Try.ntmps34
  go_wp2_with fail
  refine F.out.mono ?_
  rintro e w' ⟨v, rfl, hb, hn, hw⟩
  have P := Lib.hid (And.intro hb (And.intro hn hw))
  clear hb hn hw
  go_wp2_with fail
  go_ret
  exact ⟨v, rfl, P.out.1, P.out.2.1, P.out.2.2⟩

theorem bs_zeros (w : World) (n : Nat) (hn : n ≤ maxLen) : Bs (w.alloc (.cells (madeCells #[.int .u8 0] n) 5)) (.slice (some ⟨w.heap.size, 0, none⟩) n n) (List.replicate n 0) := by
  refine Bs.of_row (t := 5) (cs := madeCells #[.int .u8 0] n) (heap_alloc_new w _) (by simp) ⟨Nat.le_refl _, hn⟩ (replicate_bytes n) fun k hk => ?_
  rw [replicate_getD]
  simp [madeCells, hk, Nat.mod_one]

set_option maxHeartbeats 400000 in
set_option maxRecDepth 100000 in
theorem normalized_any (v : Value) (l : List Nat) (q : Nat) (w : World) (h : Bs w v l) (hq : q < l.length) (hne : l.getD q 0 ≠ 0) (hr : l.length ≤ 1000) :
    Calls Try.prog 53 #[v, .int .i64 (q : Int)] w (madeRow (normF l q) w) := by
  have hx := h.getD_lt q
  have I := Lib.hid (inv_nz (l.getD q 0) hx hne w)
  have hil := inv_lt (l.getD q 0) hx
  have C := Lib.hid (combined_any (.slice (some ⟨w.heap.size, 0, none⟩) l.length l.length) v (List.replicate l.length 0) l (Gf.inv (l.getD q 0)) (w.alloc (.cells (madeCells #[.int .u8 0] l.length) 5)) (bs_zeros w l.length h.len) (h.alloc _) (by simp) hil (by simp; omega))
  obtain ⟨b, off, c, rfl, hm, hrow⟩ := Bs.at_ h (by omega)
  have q1 := hrow q hq
  have hmk := run_make_row' (P := Try.prog) 27 5 _ _ Try.underlying27 info_u8 rfl .i64 .i64 l.length (by omega) (by omega)
  have E : Hid (fused (List.replicate l.length 0) l (Gf.inv (l.getD q 0)) = normF l q) := Lib.hid rfl
  clear hrow hne h
  generalize l.getD q 0 = x at *
  generalize l.length = n at *
  have hqI : (q : Int) < (n : Int) := by omega
  go_enter Try.func53, Try.ntmps53
  go_wp2_with fail
  refine I.out.mono ?_
  rintro e w' ⟨rfl, rfl⟩
  go_wp2_with fail
  refine C.out.mono ?_
  rintro e w' ⟨v, rfl, hb, hn, hw⟩
  rw [E.out] at hb
  have P := Lib.hid (And.intro hb (And.intro hn hw))
  clear hb hn hw
  go_wp2_with fail
  go_ret
  refine ⟨v, rfl, P.out.1, fun k hk => ?_, ((Below.refl _ w).alloc (Nat.le_refl _) _).trans (P.out.2.2.mono (by simp))⟩
  have := P.out.2.1 k hk
  simp at this
  omega

/-- The identity. -/
def idL (n : Nat) : List (List Nat) := gridL n n fun i j => if j = i then 1 else 0
theorem id_byte (i j : Nat) : (if j = i then 1 else 0) < 256 := by split <;> decide
theorem idL_rect (n : Nat) : Rect n n (idL n) := gridL_rect fun _ _ => id_byte _ _

def msPost (m : List (List Nat)) (w : World) (e : Ending) (w' : World) : Prop :=
  ∃ v, e = .returned (.tuple #[v, .int .i64 0]) ∧ Ms w' v m ∧ Below w.heap.size w w'
set_option maxHeartbeats 1000000 in
set_option maxRecDepth 100000 in
theorem identity_ok (n : Nat) (w : World) (h1 : 1 ≤ n) (h2 : n ≤ 64) : Calls Try.prog 14 #[.int .i64 (n : Int)] w (msPost (idL n) w) := by
  go_enter Try.func14, Try.ntmps14
  go_wp2_with (go_at_call 35; refine (side_t _ _ (by omega) (by omega)).mono ?_; rintro e w' ⟨rfl, rfl⟩)
  refine (zeros_any n n _ (by omega) (by omega)).mono ?_
  rintro e w1 ⟨rfl, hg, hb, hs⟩
  have HG := Lib.hid hg
  have HB := Lib.hid hb
  clear hg hb hs
  go_wp2_with fail
  go_loopw [5, 6, 15] (fun _ _ i wr => ∃ k : Nat, k ≤ n ∧ i = .int .i64 (k : Int) ∧ Hid (Below w.heap.size w wr ∧ Grid wr w.heap.size n n (fun i j => if i < k then (if j = i then 1 else 0) else 0))) (fun _ _ i _ => n - (intOf i).toNat)
  case atStart =>
    exact ⟨0, Nat.zero_le _, rfl, Lib.hid ⟨HB.out, HG.out.congr (fun i _ j _ => by rw [if_neg (Nat.not_lt_zero i)]) fun i j => by rw [if_neg (Nat.not_lt_zero i)]; decide⟩⟩
  case round =>
    obtain ⟨k, hk, rfl, H⟩ := hrel
    by_cases hlt : k < n
    · obtain ⟨hbel, hg⟩ := H.out
      have q1 := hg.top.cell hlt
      have q2 := (hg.row k hlt).cell hlt
      have q3 := (hg.row k hlt).frozen k
      have BB := Lib.hid hbel
      have GG := Lib.hid hg
      have hkI : (k : Int) < (n : Int) := by omega
      clear hbel hg
      go_wp2
      go_roundw
      case rel =>
        refine ⟨k + 1, by omega, by go_num, Lib.hid ⟨BB.out.setCell (by show w.heap.size ≤ w.heap.size + 1 + k; omega) _, ?_⟩⟩
        refine (GG.out.set hlt k (x := 1) (by decide)).congr (fun i _ j _ => ?_) fun i j => ?_
        · (repeat' split) <;> first | rfl | omega
        · split
          · split <;> decide
          · decide
      case measure => simp [intOf]; omega
    · go_wp2
      go_ret2
      obtain ⟨hbel, hg⟩ := H.out
      obtain rfl : k = n := by omega
      refine ⟨_, rfl, ?_, hbel⟩
      have hg' : Grid wr w.heap.size k k (fun i j => if j = i then 1 else 0) := hg.congr (fun i hi j _ => by rw [if_pos hi]) fun i j => id_byte i j
      have := (hg'.wk (by unfold maxLen; omega) (by unfold maxLen; omega)).sl
      rwa [(gridL_rect hg'.byt).len] at this
set_option maxHeartbeats 400000 in
theorem identity_err (n : Int) (w : World) (h : n < 1 ∨ 64 < n) : Calls Try.prog 14 #[.int .i64 n] w fun e w' => e = .returned (.tuple #[.slice none 0 0, .int .i64 1]) ∧ w = w' := by
  have H := Lib.hid h
  clear h
  go_enter Try.func14, Try.ntmps14
  go_wp2_with (go_at_call 35; refine (side_f _ _ H.out).mono ?_; rintro e w' ⟨rfl, rfl⟩)
  go_ret2
  exact ⟨rfl, rfl⟩
end Go.Proofs.Ytfhgalfdlkdliaa
