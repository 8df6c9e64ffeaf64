/- Joined: Mxa Mxb Mxc. -/
import Derived.Test.YtheijobnmdbodaaGA
import Derived.Test.YtheijobnmdbodaaGB
import Derived.Test.YtheijobnmdbodaaGD
import Derived.Deep.QuietTactic
import Derived.BigQuiet
import Derived.Deep.OwnRows
namespace Go.Proofs.Ytheijobnmdbodaa
open Go Go.RowKit

theorem Sl.at_ {α : Type} {R : World → Value → α → Prop} {w : World} {v : Value} {l : List α} (h : Sl R w v l) (hn : 0 < l.length) :
    ∃ b off c, v = .slice (some ⟨b, off, none⟩) l.length c ∧ (l.length ≤ c ∧ c ≤ maxLen) ∧ ∀ k (h : k < l.length), ∃ u, w.cell? ⟨b, off + k, none⟩ = some u ∧ R w u l[k] := by
  obtain ⟨A, c, rfl, hm, hz, hc⟩ := h
  obtain ⟨b, off, rfl, hcell⟩ := hc hn
  exact ⟨b, off, c, rfl, hm, hcell⟩
theorem Sl.form {α : Type} {R : World → Value → α → Prop} {w : World} {v : Value} {l : List α} (h : Sl R w v l) : ∃ A c, v = .slice A l.length c := by
  obtain ⟨A, c, rfl, _⟩ := h
  exact ⟨A, c, rfl⟩
theorem Ms.at_ {w : World} {v : Value} {m : List (List Nat)} (h : Ms w v m) (hn : 0 < m.length) :
    ∃ b off c, v = .slice (some ⟨b, off, none⟩) m.length c ∧ (m.length ≤ c ∧ c ≤ maxLen) ∧ ∀ k, k < m.length → ∃ A c', w.cell? ⟨b, off + k, none⟩ = some (.slice A (m.getD k []).length c') ∧ Bs w (.slice A (m.getD k []).length c') (m.getD k []) := by
  obtain ⟨b, off, c, rfl, hm, hc⟩ := Sl.at_ h hn
  refine ⟨b, off, c, rfl, hm, fun k hk => ?_⟩
  obtain ⟨u, hu, hb⟩ := hc k hk
  obtain ⟨A, c', rfl⟩ := hb.form
  rw [getD_in hk]
  exact ⟨A, c', hu, hb⟩
theorem Is.at_ {w : World} {v : Value} {l : List Int} (h : Is w v l) (hn : 0 < l.length) :
    ∃ b off c, v = .slice (some ⟨b, off, none⟩) l.length c ∧ (l.length ≤ c ∧ c ≤ maxLen) ∧ ∀ k, k < l.length → w.cell? ⟨b, off + k, none⟩ = some (.int .i64 (l.getD k 0)) := by
  obtain ⟨b, off, c, rfl, hm, hc⟩ := Sl.at_ h hn
  refine ⟨b, off, c, rfl, hm, fun k hk => ?_⟩
  obtain ⟨u, hu, rfl⟩ := hc k hk
  rw [getD_in hk]
  exact hu

/-- Valid: from 1 to 64 rows, as many columns in each. -/
def validB (m : List (List Nat)) : Bool := decide (1 ≤ m.length ∧ m.length ≤ 64 ∧ 1 ≤ (m.getD 0 []).length ∧ (m.getD 0 []).length ≤ 64 ∧ ∀ i, i < m.length → (m.getD i []).length = (m.getD 0 []).length)
theorem validB_iff (m : List (List Nat)) : validB m = true ↔ 1 ≤ m.length ∧ m.length ≤ 64 ∧ 1 ≤ (m.getD 0 []).length ∧ (m.getD 0 []).length ≤ 64 ∧ ∀ i, i < m.length → (m.getD i []).length = (m.getD 0 []).length := by
  unfold validB; exact decide_eq_true_iff
def smallB (m : List (List Nat)) : Bool := decide (m.length ≤ 8 ∧ ∀ i, i < m.length → (m.getD i []).length ≤ 8)
theorem ret_bool {a b : Bool} (h : a = b) : Ending.returned (.bool a) = .returned (.bool b) := by rw [h]

theorem side_t (n : Int) (w : World) (h1 : 1 ≤ n) (h2 : n ≤ 64) : Calls Try.prog 55 #[.int .i64 n] w fun e w' => e = .returned (.bool true) ∧ w = w' := by
  go_enter Try.func55, Try.ntmps55
  go_wp2
  go_ret
  exact ⟨rfl, rfl⟩
theorem side_f (n : Int) (w : World) (h : n < 1 ∨ 64 < n) : Calls Try.prog 55 #[.int .i64 n] w fun e w' => e = .returned (.bool false) ∧ w = w' := by
  rcases h with h | h
  · have g : decide (1 ≤ n) = false := by simp; omega
    go_enter Try.func55, Try.ntmps55
    go_wp2
    go_ret
    exact ⟨rfl, rfl⟩
  · have g : decide (n ≤ 64) = false := by simp; omega
    go_enter Try.func55, Try.ntmps55
    go_wp2
    go_ret
    exact ⟨rfl, rfl⟩

set_option maxHeartbeats 1000000 in
set_option maxRecDepth 100000 in
theorem valid_any (v : Value) (m : List (List Nat)) (w : World) (h : Ms w v m) :
    Calls Try.prog 58 #[v] w fun e w' => e = .returned (.bool (validB m)) ∧ w = w' := by
  have V := Lib.hid (validB_iff m)
  by_cases h1 : 1 ≤ m.length ∧ m.length ≤ 64
  · obtain ⟨b, off, c, rfl, -, hrow⟩ := Ms.at_ h h1.1
    have HR := Lib.hid hrow
    obtain ⟨A0, c0, q0, -⟩ := hrow 0 h1.1
    rw [Nat.add_zero] at q0
    clear hrow h
    obtain ⟨n, hn⟩ : ∃ n, m.length = n := ⟨_, rfl⟩
    obtain ⟨k0, hk0⟩ : ∃ k0, (m.getD 0 []).length = k0 := ⟨_, rfl⟩
    rw [hn] at h1 ⊢
    rw [hk0] at q0
    have N := Lib.hid hn
    have K := Lib.hid hk0
    clear hn hk0
    obtain ⟨h1, h1'⟩ := h1
    by_cases h2 : 1 ≤ k0 ∧ k0 ≤ 64
    · obtain ⟨h2, h2'⟩ := h2
      go_enter Try.func58, Try.ntmps58
      go_wp2_with (go_at_call 55; refine (side_t _ _ (by omega) (by omega)).mono ?_; rintro e w' ⟨rfl, rfl⟩)
      go_loop [4, 19] (fun _ i => ∃ k : Nat, k ≤ n ∧ i = .int .i64 (k : Int) ∧ Hid (∀ j, j < k → (m.getD j []).length = k0)) (fun _ i => n - (intOf i).toNat)
      case atStart => exact ⟨0, Nat.zero_le _, rfl, Lib.hid fun j hj => absurd hj (Nat.not_lt_zero j)⟩
      case round =>
        obtain ⟨k, hk, rfl, H⟩ := hrel
        by_cases hlt : k < n
        · obtain ⟨A1, c1, q1, -⟩ := HR.out k (by rw [N.out]; exact hlt)
          obtain ⟨k1, hk1⟩ : ∃ k1, (m.getD k []).length = k1 := ⟨_, rfl⟩
          rw [hk1] at q1
          have K1 := Lib.hid hk1
          clear hk1
          by_cases he : k1 = k0
          · have g : ((k1 : Int) != (k0 : Int)) = false := by simp [he]
            have E := Lib.hid he
            clear he
            go_wp2
            go_round
            case rel =>
              refine ⟨k + 1, by omega, by go_num, Lib.hid fun j hj => ?_⟩
              rcases Nat.lt_or_ge j k with h | h
              · exact H.out j h
              · obtain rfl : j = k := by omega
                rw [K1.out, E.out]
            case measure => simp [intOf]; omega
          · have g : ((k1 : Int) != (k0 : Int)) = true := by simp; omega
            have E := Lib.hid he
            clear he
            go_wp2
            go_ret
            refine ⟨ret_bool ?_, rfl⟩
            refine (Bool.eq_false_iff.2 fun hv => ?_).symm
            exact E.out (by rw [← K1.out, ← K.out]; exact (V.out.1 hv).2.2.2.2 k (by rw [N.out]; exact hlt))
        · go_wp2
          go_ret
          refine ⟨ret_bool ?_, rfl⟩
          exact (V.out.2 ⟨by rw [N.out]; exact h1, by rw [N.out]; exact h1', by rw [K.out]; exact h2, by rw [K.out]; exact h2', fun i hi => by rw [K.out]; exact H.out i (by rw [N.out] at hi; omega)⟩).symm
    · have G : Hid (validB m = false) := Lib.hid (Bool.eq_false_iff.2 fun hv => h2 (by have := V.out.1 hv; rw [← K.out]; exact ⟨this.2.2.1, this.2.2.2.1⟩))
      have g2 : (k0 : Int) < 1 ∨ 64 < (k0 : Int) := by omega
      have G2 := Lib.hid g2
      clear h2 g2
      go_enter Try.func58, Try.ntmps58
      go_wp2_with fail
      refine (side_t _ _ (by omega) (by omega)).mono ?_
      rintro e w' ⟨rfl, rfl⟩
      go_wp2_with fail
      refine (side_f _ _ G2.out).mono ?_
      rintro e w' ⟨rfl, rfl⟩
      go_wp2_with fail
      go_ret
      exact ⟨ret_bool G.out.symm, rfl⟩
  · have G : Hid (validB m = false) := Lib.hid (Bool.eq_false_iff.2 fun hv => h1 (by have := V.out.1 hv; exact ⟨this.1, this.2.1⟩))
    obtain ⟨A, c, rfl⟩ := Sl.form h
    have g2 : (m.length : Int) < 1 ∨ 64 < (m.length : Int) := by omega
    have G2 := Lib.hid g2
    clear h1 g2 h
    generalize m.length = n at *
    go_enter Try.func58, Try.ntmps58
    go_wp2_with (go_at_call 55; refine (side_f _ _ G2.out).mono ?_; rintro e w' ⟨rfl, rfl⟩)
    go_ret
    exact ⟨ret_bool G.out.symm, rfl⟩
end Go.Proofs.Ytheijobnmdbodaa
namespace Go.Proofs.Ytheijobnmdbodaa
open Go Go.RowKit

/-- The world but for some draws. -/
def Dr (w w' : World) : Prop := ∃ q, w' = w.drewN q
theorem Dr.refl (w : World) : Dr w w := ⟨0, rfl⟩
theorem Dr.more {w w' : World} (h : Dr w w') (q : Nat) : Dr w (w'.drewN q) := by
  obtain ⟨p, rfl⟩ := h
  exact ⟨p + q, by rw [World.drewN_drewN]⟩
theorem Dr.cell {w w' : World} (h : Dr w w') (a : Addr) : w'.cell? a = w.cell? a := by
  obtain ⟨p, rfl⟩ := h; rfl
theorem Dr.below {w w' : World} (h : Dr w w') (B : Nat) : Below B w w' := by
  obtain ⟨p, rfl⟩ := h
  exact ⟨rfl, rfl, rfl, Nat.le_refl _, fun _ _ => rfl⟩
theorem Dr.same {w w' : World} (h : Dr w w') : Same w w' := by
  obtain ⟨p, rfl⟩ := h
  exact ⟨Nat.le_refl _, fun _ _ => rfl⟩
theorem Dr.trans {a b c : World} (h : Dr a b) (k : Dr b c) : Dr a c := by
  obtain ⟨p, rfl⟩ := k
  exact h.more p

theorem list_ext' {α : Type} (d : α) {a b : List α} (hl : a.length = b.length) (h : ∀ i, i < a.length → a.getD i d = b.getD i d) : a = b := by
  refine List.ext_getElem hl fun i h1 h2 => ?_
  have := h i h1
  rwa [getD_in h1, getD_in h2] at this

def drPost (v : Value) (w : World) (e : Ending) (w' : World) : Prop := e = .returned v ∧ Dr w w'

theorem smallB_iff (m : List (List Nat)) : smallB m = true ↔ m.length ≤ 8 ∧ ∀ i, i < m.length → (m.getD i []).length ≤ 8 := by
  unfold smallB; exact decide_eq_true_iff
theorem same_quiet (v1 v2 : Value) (d s : List Nat) (w : World) (n : Nat) (h1 : Bs w v1 d) (h2 : Bs w v2 s) (b : Bool) (hb : decide (d = s) = b) :
    Calls Try.prog 13 #[v1, v2] (w.drewN n) fun e w'' => e = .returned (.bool b) ∧ ∃ m, w'' = w.drewN m :=
  Calls.quiet_of_same ((same_any v1 v2 d s (w.drewN n) (h1.keep fun _ _ => rfl) (h2.keep fun _ _ => rfl)).mono fun _ _ h => ⟨by rw [h.1, hb], h.2.symm⟩)

end Go.Proofs.Ytheijobnmdbodaa
namespace Go.Proofs.Ytheijobnmdbodaa
open Go Go.RowKit
theorem Bs.at_ {w : World} {v : Value} {l : List Nat} (h : Bs w v l) (hn : 0 < l.length) :
    ∃ b off c, v = .slice (some ⟨b, off, none⟩) l.length c ∧ (l.length ≤ c ∧ c ≤ maxLen) ∧ ∀ k, k < l.length → w.cell? ⟨b, off + k, none⟩ = some (.int .u8 ((l.getD k 0 : Nat) : Int)) := by
  obtain ⟨A, c, rfl, hm, hl, hz, hc⟩ := h
  obtain ⟨b, off, rfl, hcell⟩ := hc hn
  exact ⟨b, off, c, rfl, hm, hcell⟩

/-- A new matrix: block B holds its rows, which lie in the blocks behind. -/
structure Grid (w : World) (B r c : Nat) (f : Nat → Nat → Nat) : Prop where
  top : w.rowIs B 24 r (fun i => .slice (some ⟨B + 1 + i, 0, none⟩) c c)
  row : ∀ i, i < r → w.rowIs (B + 1 + i) 5 c (fun j => .int .u8 ((f i j : Nat) : Int))
  byt : ∀ i j, f i j < 256
def gridL (r c : Nat) (f : Nat → Nat → Nat) : List (List Nat) := (List.range r).map fun i => (List.range c).map (f i)
section
variable {w w' : World} {B r c : Nat} {f : Nat → Nat → Nat}
theorem Grid.lt (h : Grid w B r c f) {i : Nat} (hi : i < r) : B + 1 + i < w.heap.size := (h.row i hi).lt
theorem Grid.keep (h : Grid w B r c f) (hk : ∀ k, k < w.heap.size → w'.heap[k]? = w.heap[k]?) : Grid w' B r c f :=
  ⟨h.top.of_block (hk B h.top.lt), fun i hi => (h.row i hi).of_block (hk _ (h.lt hi)), h.byt⟩
theorem Grid.below (h : Grid w B r c f) {B' : Nat} (hb : Below B' w w') (hB : w.heap.size ≤ B') : Grid w' B r c f := h.keep fun k hk => hb.block k (by omega)
theorem Grid.drew (h : Grid w B r c f) : Grid w.drew B r c f := h.keep fun _ _ => rfl
theorem Grid.dr (h : Grid w B r c f) (q : Nat) : Grid (w.drewN q) B r c f := h.keep fun _ _ => rfl
theorem Grid.set (h : Grid w B r c f) {i : Nat} (hi : i < r) (j : Nat) {x : Nat} (hx : x < 256) : Grid (w.setCell ⟨B + 1 + i, j, none⟩ (.int .u8 (x : Int))) B r c (fun i' j' => if i' = i ∧ j' = j then x else f i' j') := by
  refine ⟨h.top.setOther (by show B ≠ B + 1 + i; omega) _, fun i' hi' => ?_, fun i' j' => by split; exact hx; exact h.byt _ _⟩
  by_cases e : i' = i
  · subst e
    refine ((h.row i' hi').set j (.int .u8 (x : Int))).congr fun j' _ => ?_
    by_cases e : j' = j
    · rw [if_pos e, if_pos ⟨rfl, e⟩]
    · rw [if_neg e, if_neg fun hh => e hh.2]
  · refine ((h.row i' hi').setOther (by show B + 1 + i' ≠ B + 1 + i; omega) _).congr fun j' _ => ?_
    rw [if_neg fun hh => e hh.1]
theorem Grid.congr {g : Nat → Nat → Nat} (h : Grid w B r c f) (e : ∀ i, i < r → ∀ j, j < c → f i j = g i j) (hg : ∀ i j, g i j < 256) : Grid w B r c g :=
  ⟨h.top, fun i hi => (h.row i hi).congr fun j hj => by rw [e i hi j hj], hg⟩
theorem gridL_rect (hf : ∀ i j, f i j < 256) : Rect r c (gridL r c f) := by
  refine ⟨by simp [gridL], fun i hi => ?_⟩
  unfold gridL
  rw [range_getD _ _ _ _ hi]
  refine ⟨by simp, fun x hx => ?_⟩
  obtain ⟨j, _, rfl⟩ := List.mem_map.1 hx
  exact hf i j
theorem gridL_el {i j : Nat} (hi : i < r) (hj : j < c) : el (gridL r c f) i j = f i j := by
  unfold el gridL
  rw [range_getD _ _ _ _ hi, range_getD _ _ _ _ hj]
theorem Grid.bs (h : Grid w B r c f) {i : Nat} (hi : i < r) (hc : c ≤ maxLen) : Bs w (.slice (some ⟨B + 1 + i, 0, none⟩) c c) ((List.range c).map (f i)) := by
  obtain ⟨cs, hh, hs, hcell⟩ := h.row i hi
  refine Bs.of_row (t := 5) (cs := cs) hh (by simp) ⟨Nat.le_refl _, hc⟩ (fun x hx => ?_) fun k hk => ?_
  · obtain ⟨j, _, rfl⟩ := List.mem_map.1 hx
    exact h.byt i j
  · rw [hcell k hk, range_getD _ _ _ _ hk]
theorem Grid.wk (h : Grid w B r c f) (hr : r ≤ maxLen) (hc : c ≤ maxLen) : Wk Bs w B 24 r (gridL r c f) := by
  obtain ⟨cs, hh, hs, hcell⟩ := h.top
  refine ⟨cs, hh, hs, hr, by simp [gridL], fun k hk => ?_⟩
  have hk' : k < r := by simpa [gridL] using hk
  refine ⟨_, hcell k hk', ?_⟩
  have : (gridL r c f)[k] = (List.range c).map (f k) := by simp [gridL]
  rw [this]
  refine (h.bs hk' hc).off_of fun g hg => ?_
  injection hg with hg
  have : B + 1 + k = g := hg
  omega
end

theorem info_bytes : (Try.prog.info? 24).map (fun i => (i.zero, i.size, i.bytes)) = some (some (.slice none 0 0), 1, 24) := by kernel_rfl

def zerosPost (r c : Nat) (w : World) (e : Ending) (w' : World) : Prop :=
  e = .returned (.slice (some ⟨w.heap.size, 0, none⟩) r r) ∧ Grid w' w.heap.size r c (fun _ _ => 0) ∧ Below w.heap.size w w' ∧ w'.heap.size = w.heap.size + 1 + r
set_option maxHeartbeats 1000000 in
set_option maxRecDepth 100000 in
theorem zeros_any (r c : Nat) (w : World) (hr : r ≤ 1000) (hc : c ≤ 1000) :
    Calls Try.prog 56 #[.int .i64 (r : Int), .int .i64 (c : Int)] w (zerosPost r c w) := by
  have hm1 := run_make_row' (P := Try.prog) 61 24 _ _ Try.underlying61 info_bytes rfl .i64 .i64 r (by omega) (by omega)
  have hm2 := run_make_row' (P := Try.prog) 24 5 _ _ Try.underlying24 info_u8 rfl .i64 .i64 c (by omega) (by omega)
  go_enter Try.func56, Try.ntmps56
  go_wp2
  go_loopw [6, 11] (fun _ i wr => ∃ k : Nat, k ≤ r ∧ i = .int .i64 (k : Int) ∧ Hid (Below w.heap.size w wr ∧ wr.heap.size = w.heap.size + 1 + k ∧ wr.rowIs w.heap.size 24 r (fun i => if i < k then .slice (some ⟨w.heap.size + 1 + i, 0, none⟩) c c else .slice none 0 0) ∧
    ∀ i, i < k → wr.rowIs (w.heap.size + 1 + i) 5 c (fun _ => .int .u8 0))) (fun _ i _ => r - (intOf i).toNat)
  case atStart =>
    refine ⟨0, Nat.zero_le _, rfl, Lib.hid ⟨(Below.refl _ _).alloc (Nat.le_refl _) _, by simp, ?_, fun i hi => absurd hi (Nat.not_lt_zero i)⟩⟩
    exact (World.rowIs_made w _ r _).congr fun i _ => by rw [if_neg (Nat.not_lt_zero i)]
  case round =>
    obtain ⟨k, hk, rfl, H⟩ := hrel
    by_cases hlt : k < r
    · obtain ⟨hbel, hsz, htop, hrows⟩ := H.out
      have q1 : ∀ o, (wr.alloc o).cell? ⟨w.heap.size, k, none⟩ = some (.slice none 0 0) := fun o => by
        have := (htop.alloc o).cell hlt
        rwa [if_neg (Nat.lt_irrefl k)] at this
      have q2 : ∀ o, (wr.alloc o).frozen? ⟨w.heap.size, k, none⟩ = false := fun o => (htop.alloc o).frozen k
      have HB := Lib.hid hbel
      have HS := Lib.hid hsz
      have HT := Lib.hid htop
      have HRS := Lib.hid hrows
      clear hbel hsz htop hrows
      go_wp2
      go_roundw
      case rel =>
        have hle : w.heap.size ≤ wr.heap.size := by have := HS.out; omega
        refine ⟨k + 1, by omega, by go_num, Lib.hid ⟨(HB.out.alloc hle _).setCell (Nat.le_refl _) _, by simp [World.setCell, HS.out]; omega, ?_, fun i hi => ?_⟩⟩
        · refine ((HT.out.alloc _).set k _).congr fun i hi => ?_
          by_cases e : i = k
          · rw [if_pos e, if_pos (by omega), e, HS.out]
          · rw [if_neg e]
            by_cases e2 : i < k
            · rw [if_pos e2, if_pos (by omega)]
            · rw [if_neg e2, if_neg (by omega)]
        · refine World.rowIs.setOther ?_ (by show w.heap.size + 1 + i ≠ w.heap.size; omega) _
          rcases Nat.lt_or_ge i k with h | h
          · exact (HRS.out i h).alloc _
          · obtain rfl : i = k := by omega
            rw [← HS.out]
            exact World.rowIs_made wr _ c _
      case measure => simp [intOf]; omega
    · go_wp2
      go_ret
      obtain ⟨hbel, hsz, htop, hrows⟩ := H.out
      obtain rfl : k = r := by omega
      exact ⟨rfl, ⟨htop.congr fun i hi => by rw [if_pos hi], fun i hi => hrows i hi, fun _ _ => Nat.succ_pos 255⟩, hbel, hsz⟩
end Go.Proofs.Ytheijobnmdbodaa
