/- Joined: Mxi Mxj Mxk. -/
import Derived.Test.YtheijobnmdbodaaGF
import Derived.Deep.RegionWith
import Derived.StillTailTactics
import Derived.RegionTactic
import Derived.BigRegion
namespace Go.Proofs.Ytheijobnmdbodaa
open Go Go.RowKit Lin

/-- A new matrix in a slice of its own, and OK. -/
theorem valid_true (v : Value) (m : List (List Nat)) (w : World) {r n : Nat} (h : Ms w v m) (hR : Rect r n m) (h0 : 0 < r) (hn0 : 0 < n) (hr64 : r ≤ 64) (hn64 : n ≤ 64) :
    Calls Try.prog 58 #[v] w fun e w' => e = .returned (.bool true) ∧ w = w' :=
  (valid_any v m w h).mono fun _ _ ⟨he, hw⟩ => ⟨by
    rw [he, (validB_iff m).2 ⟨by rw [hR.len]; omega, by rw [hR.len]; omega, by rw [(hR.row 0 h0).1]; omega, by rw [(hR.row 0 h0).1]; omega, fun i hi => by rw [hR.len] at hi; rw [(hR.row i hi).1, (hR.row 0 h0).1]⟩], hw⟩
theorem valid_false (v : Value) (m : List (List Nat)) (w : World) (h : Ms w v m) (hv : validB m = false) :
    Calls Try.prog 58 #[v] w fun e w' => e = .returned (.bool false) ∧ w = w' :=
  (valid_any v m w h).mono fun _ _ ⟨he, hw⟩ => ⟨by rw [he, hv], hw⟩

def errPost (v : Value) (w : World) (e : Ending) (w' : World) : Prop := e = .returned v ∧ w = w'
def okNew (v : Value → Value) (m : List (List Nat)) (w : World) (e : Ending) (w' : World) : Prop :=
  ∃ g cap, e = .returned (v (.slice (some ⟨g, 0, none⟩) m.length cap)) ∧ w.heap.size ≤ g ∧ Wk Bs w' g 24 cap m ∧ Below w.heap.size w w'

set_option maxHeartbeats 4000000 in
set_option maxRecDepth 100000 in
theorem mul_ok (v v2 : Value) (a b : List (List Nat)) (w : World) {r n c : Nat} (h : Ms w v a) (hR : Rect r n a) (h2 : Ms w v2 b) (hR2 : Rect n c b) (h0 : 0 < r) (hn0 : 0 < n) (hc0 : 0 < c) (hr64 : r ≤ 64) (hn64 : n ≤ 64) (hc64 : c ≤ 64) :
    Calls Try.prog 47 #[v, v2] w (okNew (fun u => .tuple #[u, .int .i64 0]) (mulL r c n a b) w) := by
  have VA := Lib.hid (valid_true v a w h hR h0 hn0 hr64 hn64)
  have VB := Lib.hid (valid_true v2 b w h2 hR2 hn0 hc0 hn64 hc64)
  obtain ⟨ba, oa, ca, rfl, hm, hat⟩ := Ms.open_ h hR h0 hn0
  obtain ⟨bb, ob, cb, rfl, hm2, hat2⟩ := Ms.open_ h2 hR2 hn0 hc0
  have HA := Lib.hid hat
  have HB := Lib.hid hat2
  have RA := Lib.hid hR
  have RB := Lib.hid hR2
  obtain ⟨b1, o1, c1, z1, -⟩ := hat 0 h0
  obtain ⟨b2, o2, c2, z2, -⟩ := hat2 0 hn0
  rw [Nat.add_zero] at z1 z2
  clear hat hat2 h h2 hm hm2 hR hR2
  have hrI : (0 : Int) < (r : Int) := by omega
  have hnI : (0 : Int) < (n : Int) := by omega
  go_enter Try.func47, Try.ntmps47
  go_wp2_with fail
  refine VA.out.mono ?_
  rintro e w' ⟨rfl, rfl⟩
  go_wp2_with fail
  refine VB.out.mono ?_
  rintro e w' ⟨rfl, rfl⟩
  go_wp2_with fail
  refine (zeros_any r c _ (by omega) (by omega)).mono ?_
  rintro e w1 ⟨rfl, hg, hb1, hs1⟩
  have ZW : Hid (Wk Bs w1 w.heap.size 24 r (gridL r c fun _ _ => 0)) := Lib.hid (hg.wk (by unfold maxLen; omega) (by unfold maxLen; omega))
  have ZB := Lib.hid hb1
  clear hg hb1 hs1
  go_wp2_with fail
  go_loopw [7, 8, 9, 36] (fun _ _ _ q wr => ∃ i : Nat, i ≤ r ∧ q = .int .i64 (i : Int) ∧ Hid (Below w.heap.size w wr ∧ ∃ X, Rect r c X ∧ Wk Bs wr w.heap.size 24 r X ∧ ∀ i', i' < r → ∀ j, j < c → el X i' j = if i' < i then mulE a b i' j n else 0)) (fun _ _ _ q _ => r - (intOf q).toNat)
  case atStart => exact ⟨0, Nat.zero_le _, rfl, Lib.hid ⟨ZB.out, _, gridL_rect (fun _ _ => Nat.succ_pos 255), ZW.out, fun i' hi j hj => by rw [if_neg (Nat.not_lt_zero i')]; exact gridL_el hi hj⟩⟩
  case round =>
    obtain ⟨i, hk, rfl, H⟩ := hrel
    obtain ⟨wo, rfl⟩ : ∃ wo, wo = wr := ⟨_, rfl⟩
    by_cases hlt : i < r
    · have hiI : (i : Int) < (r : Int) := by omega
      obtain ⟨b3, o3, c3, y0, -, -, y2⟩ := HA.out i hlt
      have y1 := (H.out.1.cell (World.block_lt_of_cell? w _ y0)).trans y0
      have Y2 := Lib.hid y2
      clear y2 y0
      obtain ⟨hbel, X, hX, hWk, hel⟩ := H.out
      have HX : Hid (∃ X, Rect r c X ∧ Wk Bs wo w.heap.size 24 r X ∧ ∀ i', i' < r → ∀ j, j < c → el X i' j = if i' < i then mulE a b i' j n else if i' = i then mulE a b i' j 0 else 0) :=
        Lib.hid ⟨X, hX, hWk, fun i' hi j hj => by rw [hel i' hi j hj]; (repeat' split) <;> first | rfl | omega⟩
      have HBL := Lib.hid hbel
      clear hbel hX hWk hel
      clear X
      go_wp2_with fail
      go_loopw [8, 9, 44] (fun _ _ q wq => ∃ k : Nat, k ≤ n ∧ q = .int .i64 (k : Int) ∧ Hid (Below w.heap.size wo wq ∧ ∃ X, Rect r c X ∧ Wk Bs wq w.heap.size 24 r X ∧ ∀ i', i' < r → ∀ j, j < c → el X i' j = if i' < i then mulE a b i' j n else if i' = i then mulE a b i' j k else 0)) (fun _ _ q _ => n - (intOf q).toNat)
      case atStart => exact ⟨0, Nat.zero_le _, rfl, Lib.hid ⟨Below.refl _ _, HX.out⟩⟩
      case round =>
        obtain ⟨k, hk2, rfl, H2⟩ := hrel
        by_cases hlt2 : k < n
        · have hkI : (k : Int) < (n : Int) := by omega
          obtain ⟨hbel, X, hX, hWk, hel⟩ := H2.out
          have hbw := HBL.out.trans hbel
          obtain ⟨u, p1, hoff⟩ := hWk.cell (k := i) (by rw [hX.len]; exact hlt)
          have hlX := (hX.row i hlt).1
          have hXi : X[i]'(by rw [hX.len]; exact hlt) = X.getD i [] := (getD_in _).symm
          rw [hXi] at hoff
          have hubs := hoff.here
          obtain ⟨Au, cu, rfl⟩ := hubs.form
          rw [hlX] at p1 hubs
          obtain ⟨b4, o4, c4, p2, hbb, -, -⟩ := (HB.out.keep ⟨hbw.size, fun p hp => hbw.cell hp⟩) k hlt2
          have p4 := (hbw.cell (World.block_lt_of_cell? w _ (Y2.out k hlt2))).trans (Y2.out k hlt2)
          have hlen2 := (RB.out.row k hlt2).1
          have hx2 : el a i k < 256 := RA.out.by i k
          have CB := Lib.hid (combined_any (.slice Au c cu) (.slice (some ⟨b4, o4, none⟩) c c4) (X.getD i []) (b.getD k []) (el a i k) wr.drew (hubs.keep fun _ _ => rfl) (hbb.keep fun _ _ => rfl) (by rw [hlX, hlen2]) hx2 (by omega))
          have hgl := hWk.lt
          have fz : wr.frozen? ⟨w.heap.size, i, none⟩ = false := hWk.frozen i
          have HXX := Lib.hid (And.intro hX (And.intro hWk hel))
          have HBB := Lib.hid hbel
          have GL := Lib.hid hgl
          obtain ⟨x, hx⟩ : ∃ x, el a i k = x := ⟨_, rfl⟩
          rw [hx] at p4 CB
          have EX := Lib.hid hx
          clear hbel hX hWk hel hoff hlX hXi hubs hbb hlen2 hx2 hbw hx hgl
          go_wp2
          go_region_with (go_at_call 59; refine CB.out.mono ?_; rintro e w2 ⟨nv, rfl, nb, nn, nw⟩; have c1 := (nw.cell (p := ⟨w.heap.size, i, none⟩) GL.out).trans p1; have f1 := (nw.frozen (p := ⟨w.heap.size, i, none⟩) GL.out).trans fz; have NB := Lib.hid nb; have NN := Lib.hid nn; have NW := Lib.hid nw; obtain ⟨An, cn, rfl⟩ := nb.form; clear nb nn nw)
          all_goals
            go_wp2
            go_roundw
            case rel =>
              obtain ⟨hX, hWk, hel⟩ := HXX.out
              have hwk2 := (hWk.drew).below NW.out (Nat.le_refl _)
              have hoff2 := NB.out.off_of (g := w.heap.size) fun q hq => by
                have h1 := NN.out q hq
                have h2 := GL.out
                have h3 : wr.drew.heap.size = wr.heap.size := rfl
                omega
              refine ⟨k + 1, by omega, by go_num, Lib.hid ⟨((HBB.out.drew).trans (NW.out.mono (Nat.le_of_lt GL.out))).setCell (Nat.le_refl _) _, X.set i (fused (X.getD i []) (b.getD k []) x), hX.set i (by rw [fused_len]; exact (hX.row i hlt).1) (fused_bytes _ _ _ (hX.row i hlt).2 (by rw [← EX.out]; exact RA.out.by i k)), hwk2.store i hoff2, fun i' hi' j hj => ?_⟩⟩
              have e0 := hel i' hi' j hj
              unfold el at e0 ⊢
              rw [getD_set]
              by_cases e : i = i'
              · subst e
                rw [if_pos ⟨rfl, by rw [hX.len]; exact hlt⟩, fused_getD _ _ _ _ (by rw [(hX.row i hlt).1, (RB.out.row k hlt2).1]), e0, if_neg (Nat.lt_irrefl i), if_pos rfl, if_neg (Nat.lt_irrefl i), if_pos rfl, ← EX.out]
                rfl
              · rw [if_neg fun hh => e hh.1, e0]
                (repeat' split) <;> first | rfl | omega
            case measure => simp [intOf]; omega
        · have ek : k = n := by omega
          have E := Lib.hid ek
          clear ek
          go_wp2
          go_roundw
          case rel =>
            obtain ⟨hbel, X, hX, hWk, hel⟩ := H2.out
            refine ⟨i + 1, by omega, by go_num, Lib.hid ⟨HBL.out.trans hbel, X, hX, hWk, fun i' hi' j hj => ?_⟩⟩
            rw [hel i' hi' j hj, E.out]
            (repeat' split) <;> first | rfl | omega
          case measure => simp [intOf]; omega
    · go_wp2
      go_ret2
      obtain ⟨hbel, X, hX, hWk, hel⟩ := H.out
      have e : X = mulL r c n a b := hX.ext (mulL_rect RA.out b) fun i' hi' j hj => by
        rw [hel i' hi' j hj, if_pos (by omega)]
        exact (mulL_el hi' hj).symm
      subst e
      refine ⟨w.heap.size, r, ?_, Nat.le_refl _, hWk, hbel⟩
      rw [hX.len]
      rfl

set_option maxHeartbeats 1000000 in
set_option maxRecDepth 100000 in
theorem mul_err (v v2 : Value) (a b : List (List Nat)) (w : World) (h : Ms w v a) (h2 : Ms w v2 b) (he : validB a = false ∨ validB b = false ∨ (a.getD 0 []).length ≠ b.length) :
    Calls Try.prog 47 #[v, v2] w (errPost (.tuple #[.slice none 0 0, .int .i64 1]) w) := by
  by_cases ha : validB a = false
  · have VA := Lib.hid (valid_false v a w h ha)
    clear ha he h2 h
    go_enter Try.func47, Try.ntmps47
    go_wp2_with fail
    refine VA.out.mono ?_
    rintro e w' ⟨rfl, rfl⟩
    go_wp2_with fail
    go_ret2
    exact ⟨rfl, rfl⟩
  · obtain ⟨r, n, hR, h1, h64, hn1, hn64⟩ := Rect.of_valid h (by simpa using ha)
    have VA := Lib.hid (valid_true v a w h hR h1 hn1 h64 hn64)
    by_cases hb : validB b = false
    · have VB := Lib.hid (valid_false v2 b w h2 hb)
      clear ha hb he h2 h
      go_enter Try.func47, Try.ntmps47
      go_wp2_with fail
      refine VA.out.mono ?_
      rintro e w' ⟨rfl, rfl⟩
      go_wp2_with fail
      refine VB.out.mono ?_
      rintro e w' ⟨rfl, rfl⟩
      go_wp2_with fail
      go_ret2
      exact ⟨rfl, rfl⟩
    · obtain ⟨r2, n2, hR2, g1, g64, gn1, gn64⟩ := Rect.of_valid h2 (by simpa using hb)
      have VB := Lib.hid (valid_true v2 b w h2 hR2 g1 gn1 g64 gn64)
      have hne : (a.getD 0 []).length ≠ b.length := by
        rcases he with he | he | he
        · exact absurd he ha
        · exact absurd he hb
        · exact he
      rw [(hR.row 0 h1).1, hR2.len] at hne
      obtain ⟨ba, oa, ca, rfl, hm, hat⟩ := Ms.open_ h hR h1 hn1
      obtain ⟨bb, ob, cb, rfl, hm2, hat2⟩ := Ms.open_ h2 hR2 g1 gn1
      obtain ⟨b1, o1, c1, z1, -⟩ := hat 0 h1
      rw [Nat.add_zero] at z1
      have g0 : ((n : Int) != (r2 : Int)) = true := by simp; omega
      have hrI : (0 : Int) < (r : Int) := by omega
      clear hat hat2 h h2 hm hm2 hR hR2 ha hb he hne
      go_enter Try.func47, Try.ntmps47
      go_wp2_with fail
      refine VA.out.mono ?_
      rintro e w' ⟨rfl, rfl⟩
      go_wp2_with fail
      refine VB.out.mono ?_
      rintro e w' ⟨rfl, rfl⟩
      go_wp2_with fail
      go_ret2
      exact ⟨rfl, rfl⟩
end Go.Proofs.Ytheijobnmdbodaa
namespace Go.Proofs.Ytheijobnmdbodaa
open Go Go.RowKit Lin

theorem Bs.of_rowIs {w : World} {g n : Nat} {f : Nat → Nat} (h : w.rowIs g 5 n (fun i => .int .u8 ((f i : Nat) : Int))) (hn : n ≤ maxLen) (hb : ∀ i, i < n → f i < 256) : Bs w (.slice (some ⟨g, 0, none⟩) n n) ((List.range n).map f) := by
  obtain ⟨cs, hh, hs, hcell⟩ := h
  refine Bs.of_row (t := 5) (cs := cs) hh (by simp) ⟨Nat.le_refl _, hn⟩ (fun x hx => ?_) fun k hk => ?_
  · obtain ⟨j, hj, rfl⟩ := List.mem_map.1 hx
    exact hb j (List.mem_range.1 hj)
  · rw [hcell k hk, range_getD _ _ _ _ hk]

def bsOk (l : List Nat) (w : World) (e : Ending) (w' : World) : Prop := ∃ v, e = .returned (.tuple #[v, .int .i64 0]) ∧ Bs w' v l ∧ Below w.heap.size w w'
def gridOk (r c : Nat) (f : Nat → Nat → Nat) (w : World) (e : Ending) (w' : World) : Prop :=
  e = .returned (.tuple #[.slice (some ⟨w.heap.size, 0, none⟩) r r, .int .i64 0]) ∧ Grid w' w.heap.size r c f ∧ Below w.heap.size w w'
end Go.Proofs.Ytheijobnmdbodaa
namespace Go.Proofs.Ytheijobnmdbodaa
open Go Go.RowKit Lin

/-- All cells but those of the blocks of S. -/
def SameBut (S : Nat → Prop) (w w' : World) : Prop := w.heap.size ≤ w'.heap.size ∧ ∀ p : Addr, p.block < w.heap.size → ¬ S p.block → w'.cell? p = w.cell? p
theorem SameBut.trans {S : Nat → Prop} {a b c : World} (h : SameBut S a b) (k : SameBut S b c) : SameBut S a c :=
  ⟨Nat.le_trans h.1 k.1, fun p hp hg => (k.2 p (Nat.lt_of_lt_of_le hp h.1) hg).trans (h.2 p hp hg)⟩
section
variable {α : Type} {R : World → Value → α → Prop}
def OffS (R : World → Value → α → Prop) (w : World) (S : Nat → Prop) (u : Value) (x : α) : Prop := ∀ w', SameBut S w w' → R w' u x
theorem OffS.here {w : World} {S : Nat → Prop} {u : Value} {x : α} (h : OffS R w S u x) : R w u x := h w ⟨Nat.le_refl _, fun _ _ _ => rfl⟩
theorem OffS.go {w w' : World} {S : Nat → Prop} {u : Value} {x : α} (h : OffS R w S u x) (k : SameBut S w w') : OffS R w' S u x := fun w'' k' => h w'' (k.trans k')
/-- Block `g` is a row; its first cells read as the list `l`, whatever becomes of the blocks of S. -/
def Wx (R : World → Value → α → Prop) (w : World) (S : Nat → Prop) (g : Nat) (e : TypeId) (cap : Nat) (l : List α) : Prop :=
  ∃ cs, Row w g e cs ∧ cs.size = cap ∧ cap ≤ maxLen ∧ l.length ≤ cap ∧ ∀ k (h : k < l.length), ∃ u, cs[k]? = some u ∧ OffS R w S u l[k]
theorem Wx.of_wk {w : World} {S : Nat → Prop} {g : Nat} {e : TypeId} {cap : Nat} {l : List α} (h : Wk R w g e cap l) (hS : ∀ b, S b → b = g) : Wx R w S g e cap l := by
  obtain ⟨cs, hr, hs, hm, hl, hc⟩ := h
  refine ⟨cs, hr, hs, hm, hl, fun k hk => ?_⟩
  obtain ⟨u, hu, ho⟩ := hc k hk
  exact ⟨u, hu, fun w' k' => ho w' ⟨k'.1, fun p hp hg => k'.2 p hp fun hs => hg (hS _ hs)⟩⟩
theorem Wx.wk {w : World} {S : Nat → Prop} {g : Nat} {e : TypeId} {cap : Nat} {l : List α} (h : Wx R w S g e cap l) (hS : S g) : Wk R w g e cap l := by
  obtain ⟨cs, hr, hs, hm, hl, hc⟩ := h
  refine ⟨cs, hr, hs, hm, hl, fun k hk => ?_⟩
  obtain ⟨u, hu, ho⟩ := hc k hk
  exact ⟨u, hu, fun w' k' => ho w' ⟨k'.1, fun p hp hg => k'.2 p hp fun e => hg (by rw [e]; exact hS)⟩⟩
section
variable {w w' : World} {S : Nat → Prop} {g : Nat} {e : TypeId} {cap : Nat} {l : List α}
theorem Wx.lt (h : Wx R w S g e cap l) : g < w.heap.size := by obtain ⟨_, h, _⟩ := h; exact h.lt
theorem Wx.cell (h : Wx R w S g e cap l) {k : Nat} (hk : k < l.length) : ∃ u, w.cell? ⟨g, k, none⟩ = some u ∧ OffS R w S u l[k] := by
  obtain ⟨cs, hr, _, _, _, hc⟩ := h
  obtain ⟨u, hu, ho⟩ := hc k hk
  exact ⟨u, by rw [hr.cell]; exact hu, ho⟩
theorem Wx.frozen (h : Wx R w S g e cap l) (i : Nat) : w.frozen? ⟨g, i, none⟩ = false := by obtain ⟨_, h, _⟩ := h; exact h.frozen i
theorem Wx.below (h : Wx R w S g e cap l) {B : Nat} (hb : Below B w w') (hB : w.heap.size ≤ B) : Wx R w' S g e cap l := by
  have hg := h.lt
  obtain ⟨cs, hr, hs, hm, hl, hc⟩ := h
  refine ⟨cs, hr.below hb (by omega), hs, hm, hl, fun k hk => ?_⟩
  obtain ⟨u, hu, ho⟩ := hc k hk
  exact ⟨u, hu, ho.go ⟨hb.size, fun p hp _ => hb.cell (by omega)⟩⟩
theorem Wx.drew (h : Wx R w S g e cap l) : Wx R w.drew S g e cap l := h.below (Below.refl w.heap.size w).drew (Nat.le_refl _)
theorem Wx.alloc (h : Wx R w S g e cap l) (o : Obj) : Wx R (w.alloc o) S g e cap l := h.below ((Below.refl w.heap.size w).alloc (Nat.le_refl _) o) (Nat.le_refl _)
theorem Wx.store (h : Wx R w S g e cap l) (hS : S g) (i : Nat) {u : Value} {x : α} (hu : OffS R w S u x) : Wx R (w.setCell ⟨g, i, none⟩ u) S g e cap (l.set i x) := by
  obtain ⟨cs, hr, hs, hm, hl, hc⟩ := h
  refine ⟨_, hr.store i u, by simpa using hs, hm, by simpa using hl, fun k hk => ?_⟩
  have hk' : k < l.length := by simpa using hk
  have hso : SameBut S w (w.setCell ⟨g, i, none⟩ u) := ⟨by simp [World.setCell], fun p hp hg => (setCell_off w g i u).2 p hp fun e => hg (by rw [e]; exact hS)⟩
  by_cases e : i = k
  · subst e
    refine ⟨u, by rw [Array.getElem?_setIfInBounds_self_of_lt (by omega)], ?_⟩
    rw [List.getElem_set_self]
    exact hu.go hso
  · obtain ⟨u', hu', ho⟩ := hc k hk'
    refine ⟨u', by rw [Array.getElem?_setIfInBounds_ne e]; exact hu', ?_⟩
    rw [List.getElem_set_ne e]
    exact ho.go hso
/-- Behind a push to another slice, whose block was pb and is g'. -/
theorem Wx.push {pb : Option Nat} {g' : Nat} (h : Wx R w (fun b => b = g ∨ pb = some b) g e cap l) (hg : w.grownBy w' pb) (hne : pb ≠ some g) (hat : pb = some g' ∨ g' = w.heap.size) : Wx R w' (fun b => b = g ∨ some g' = some b) g e cap l := by
  have hlt := h.lt
  obtain ⟨cs, hr, hs, hm, hl, hc⟩ := h
  refine ⟨cs, (hg.block g hlt (fun e => hne e.symm)).trans hr, hs, hm, hl, fun k hk => ?_⟩
  obtain ⟨u, hu, ho⟩ := hc k hk
  refine ⟨u, hu, fun w'' k' => ho w'' ⟨Nat.le_trans hg.size k'.1, fun p hp hn => ?_⟩⟩
  have h1 : p.block ≠ g := fun e => hn (Or.inl e)
  have h2 : pb ≠ some p.block := fun e => hn (Or.inr e)
  have h3 : ¬ (p.block = g ∨ some g' = some p.block) := by
    rintro (e | e)
    · exact h1 e
    · injection e with e
      rcases hat with hat | hat
      · exact h2 (by rw [hat, e])
      · omega
  exact (k'.2 p (by have := hg.size; omega) h3).trans (World.cell?_of_block (hg.block p.block hp fun e => h2 e.symm))
theorem OwnL.plain {base : Nat} {v : Value} (hp : ∀ w w' u x, R w u x → R w' u x) (h : OwnL R w base e v l) (hk : ∀ k, base ≤ k → k < w.heap.size → w'.heap[k]? = w.heap[k]?) : OwnL R w' base e v l := by
  rcases h with ⟨rfl, rfl⟩ | ⟨g, cap, rfl, hg, h⟩
  · exact Or.inl ⟨rfl, rfl⟩
  · have hlt := h.lt
    obtain ⟨cs, hr, hs, hm, hl, hc⟩ := h
    refine Or.inr ⟨g, cap, rfl, hg, cs, (hk g hg hlt).trans hr, hs, hm, hl, fun k hk => ?_⟩
    obtain ⟨u, hu, ho⟩ := hc k hk
    exact ⟨u, hu, fun w'' _ => hp _ _ _ _ ho.here⟩
end
end
theorem Bs.offS_of {w : World} {v : Value} {l : List Nat} {S : Nat → Prop} (h : Bs w v l) (hg : ∀ k, v.ownBlock = some k → ¬ S k) : OffS Bs w S v l := by
  rintro w' k
  obtain ⟨A, c, rfl, hm, hl, hz, hc⟩ := h
  refine ⟨A, c, rfl, hm, hl, hz, fun hn => ?_⟩
  obtain ⟨b, off, rfl, hcell⟩ := hc hn
  refine ⟨b, off, rfl, fun j hj => ?_⟩
  rw [k.2 ⟨b, off + j, none⟩ (World.block_lt_of_cell? w _ (hcell j hj)) (hg b rfl)]
  exact hcell j hj

theorem findP_before (m : List (List Nat)) (col f : Nat) : ∀ i a, findP m col f i = some a → ∀ j, i ≤ j → j < a → el m j col = 0 := by
  induction f with
  | zero => intro i a h; cases h
  | succ f ih =>
    intro i a h j h1 h2
    unfold findP at h
    by_cases e : el m i col = 0
    · rw [if_pos e] at h
      by_cases e' : i = j
      · rw [← e']; exact e
      · exact ih _ _ h j (by omega) h2
    · rw [if_neg e] at h; cases h; omega

set_option maxHeartbeats 2000000 in
set_option maxRecDepth 100000 in
theorem lift_none (g cap top col : Nat) (m : List (List Nat)) (S : Nat → Prop) (w : World) {R W : Nat} (h : Wx Bs w S g 24 cap m) (hR : Rect R W m) (hr : R ≤ 1000) (ht : top ≤ R) (hcol : col < W) (hW : W ≤ 1000) (hf : ∀ j, top ≤ j → j < R → el m j col = 0) :
    Calls Try.prog 68 #[.slice (some ⟨g, 0, none⟩) R cap, .int .i64 (top : Int), .int .i64 (col : Int)] w fun e w' => e = .returned (.bool false) ∧ w = w' := by
  have HX := Lib.hid h
  have RL := Lib.hid hR
  have HF := Lib.hid hf
  clear h hR hf
  have hcI : (col : Int) < (W : Int) := by omega
  go_enter Try.func68, Try.ntmps68
  go_wp2
  go_loop [7] (fun i => ∃ k : Nat, top ≤ k ∧ k ≤ R ∧ i = .int .i64 (k : Int)) (fun i => R - (intOf i).toNat)
  case atStart => exact ⟨top, Nat.le_refl _, ht, rfl⟩
  case round =>
    obtain ⟨k, hk0, hk, rfl⟩ := hrel
    by_cases hlt : k < R
    · have hkI : (k : Int) < (R : Int) := by omega
      obtain ⟨u, q1, ho⟩ := HX.out.cell (k := k) (by rw [RL.out.len]; exact hlt)
      have hb := ho.here
      have e : m[k]'(by rw [RL.out.len]; exact hlt) = m.getD k [] := (getD_in _).symm
      rw [e] at hb
      obtain ⟨b, off, c, rfl, -, hcell⟩ := Bs.at_ hb (by rw [(RL.out.row k hlt).1]; omega)
      rw [(RL.out.row k hlt).1] at q1 hcell
      have q2 := hcell col hcol
      have z : (m.getD k []).getD col 0 = 0 := HF.out k hk0 hlt
      rw [z] at q2
      clear hcell hb e z ho
      go_wp2
      go_round
      case rel => exact ⟨k + 1, by omega, by omega, by go_num⟩
      case measure => simp [intOf]; omega
    · go_wp2
      go_ret
      exact ⟨rfl, rfl⟩

theorem only_refl (g : Nat) (w : World) : w.grownBy w (some g) := World.grownBy.refl w _
theorem only_trans {g : Nat} {a b c : World} (h : a.grownBy b (some g)) (k : b.grownBy c (some g)) : a.grownBy c (some g) :=
  ⟨k.os.trans h.os, k.tape.trans h.tape, k.output.trans h.output, Nat.le_trans h.size k.size, fun q hq hne => (k.block q (Nat.lt_of_lt_of_le hq h.size) hne).trans (h.block q hq hne)⟩
theorem only_below {g B : Nat} {a b : World} (h : a.grownBy b (some g)) (hB : B ≤ g) (hg : g < a.heap.size) : Below B a b :=
  ⟨h.os, h.tape, h.output, h.size, fun k hk => h.block k (by omega) (fun e => by injection e with e; omega)⟩
theorem only_of_below {g : Nat} {a b : World} (h : Below a.heap.size a b) : a.grownBy b (some g) := ⟨h.os, h.tape, h.output, h.size, fun k hk _ => h.block k hk⟩
theorem only_set (g i : Nat) (w : World) (u : Value) : w.grownBy (w.setCell ⟨g, i, none⟩ u) (some g) :=
  ⟨rfl, rfl, rfl, by simp [World.setCell], fun k _ hne => Below.heap_setCell _ _ _ _ fun e => hne (by rw [e])⟩
theorem only_drew (g : Nat) (w : World) : w.grownBy w.drew (some g) := ⟨rfl, rfl, rfl, Nat.le_refl _, fun _ _ _ => rfl⟩

def liftPost (g cap top a : Nat) (m : List (List Nat)) (S : Nat → Prop) (w : World) (e : Ending) (w' : World) : Prop :=
  e = .returned (.bool true) ∧ Wx Bs w' S g 24 cap (swapF m top a) ∧ w.grownBy w' (some g) ∧ w'.heap.size = w.heap.size
set_option maxHeartbeats 4000000 in
set_option maxRecDepth 100000 in
theorem lift_some (g cap top col a : Nat) (m : List (List Nat)) (S : Nat → Prop) (w : World) {R W : Nat} (h : Wx Bs w S g 24 cap m) (hS : S g) (hR : Rect R W m) (hr : R ≤ 1000) (hcol : col < W) (hW : W ≤ 1000) (hta : top ≤ a) (haR : a < R) (hne : el m a col ≠ 0) (hf : ∀ j, top ≤ j → j < a → el m j col = 0) :
    Calls Try.prog 68 #[.slice (some ⟨g, 0, none⟩) R cap, .int .i64 (top : Int), .int .i64 (col : Int)] w (liftPost g cap top a m S w) := by
  have HX := Lib.hid h
  have RL := Lib.hid hR
  have HF := Lib.hid hf
  have NE := Lib.hid hne
  have HS := Lib.hid hS
  clear h hR hf hne hS
  have hcI : (col : Int) < (W : Int) := by omega
  go_enter Try.func68, Try.ntmps68
  go_wp2
  go_loop [7] (fun i => ∃ k : Nat, top ≤ k ∧ k ≤ a ∧ i = .int .i64 (k : Int)) (fun i => R - (intOf i).toNat)
  case atStart => exact ⟨top, Nat.le_refl _, hta, rfl⟩
  case round =>
    obtain ⟨k, hk0, hk, rfl⟩ := hrel
    have hlt : k < R := by omega
    have hkI : (k : Int) < (R : Int) := by omega
    obtain ⟨u, q1, ho⟩ := HX.out.cell (k := k) (by rw [RL.out.len]; exact hlt)
    have e : m[k]'(by rw [RL.out.len]; exact hlt) = m.getD k [] := (getD_in _).symm
    rw [e] at ho
    have OU := Lib.hid ho
    have hb := ho.here
    obtain ⟨b, off, c, rfl, -, hcell⟩ := Bs.at_ hb (by rw [(RL.out.row k hlt).1]; omega)
    rw [(RL.out.row k hlt).1] at q1 hcell OU
    have q2 := hcell col hcol
    clear hb e ho hcell
    by_cases he : k = a
    · subst he
      obtain ⟨x, hx⟩ : ∃ x, (m.getD k []).getD col 0 = x := ⟨_, rfl⟩
      rw [hx] at q2
      have g0 : ((x : Int) != 0) = true := by
        have h1 : el m k col ≠ 0 := NE.out
        have h2 : x ≠ 0 := fun e => h1 (by unfold el; rw [hx]; exact e)
        simpa using h2
      have f1 : w.frozen? ⟨g, k, none⟩ = false := HX.out.frozen k
      have f2 : w.frozen? ⟨g, top, none⟩ = false := HX.out.frozen top
      have htI : (top : Int) < (R : Int) := by omega
      clear hx
      by_cases ht : k = top
      · subst ht
        go_wp2
        go_region
        all_goals go_wp2
        all_goals go_ret
        all_goals
          have h1 := ((HX.out.store HS.out k OU.out).store HS.out k (OU.out.go (w' := w.setCell ⟨g, k, none⟩ (.slice (some ⟨b, off, none⟩) W c)) ⟨by simp [World.setCell], fun p hp hg => (setCell_off w g k _).2 p hp fun e => hg (by rw [e]; exact HS.out)⟩)).drew
          refine ⟨rfl, h1, only_trans (only_trans (only_set g _ _ _) (only_set g _ _ _)) (only_drew g _), ?_⟩
          simp [World.setCell]
      · have htR : top < R := by omega
        obtain ⟨u2, q3, ho2⟩ := HX.out.cell (k := top) (by rw [RL.out.len]; exact htR)
        have e2 : m[top]'(by rw [RL.out.len]; exact htR) = m.getD top [] := (getD_in _).symm
        rw [e2] at ho2
        obtain ⟨A2, c2, rfl⟩ := ho2.here.form
        have OU2 := Lib.hid ho2
        have q4 : (w.setCell ⟨g, top, none⟩ (.slice (some ⟨b, off, none⟩) W c)).cell? ⟨g, k, none⟩ = some (.slice (some ⟨b, off, none⟩) W c) := by
          obtain ⟨cs, hrow, _⟩ := HX.out
          rw [(hrow.store top _).cell, Array.getElem?_setIfInBounds_ne (fun e => ht e.symm), ← hrow.cell]
          exact q1
        have HTE := Lib.hid ht
        clear ho2 e2 ht
        go_wp2
        go_region
        all_goals go_wp2
        all_goals go_ret
        all_goals
          have h1 := ((HX.out.store HS.out top OU.out).store HS.out k (OU2.out.go (w' := w.setCell ⟨g, top, none⟩ (.slice (some ⟨b, off, none⟩) W c)) ⟨by simp [World.setCell], fun p hp hg => (setCell_off w g top _).2 p hp fun e => hg (by rw [e]; exact HS.out)⟩)).drew
          refine ⟨rfl, h1, only_trans (only_trans (only_set g _ _ _) (only_set g _ _ _)) (only_drew g _), ?_⟩
          simp [World.setCell]
    · have z : (m.getD k []).getD col 0 = 0 := HF.out k hk0 (by omega)
      rw [z] at q2
      clear z OU
      go_wp2
      go_round
      case rel => exact ⟨k + 1, by omega, by omega, by go_num⟩
      case measure => simp [intOf]; omega
end Go.Proofs.Ytheijobnmdbodaa
