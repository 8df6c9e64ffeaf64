/- Matrices whose rows outlive writes to some blocks; slices.Clone; liftPivot. -/
import Derived.Test.YtfhgalfdlkdliaaMxj
import Derived.RegionTactic
import Derived.BigRegion
namespace Go.Proofs.Ytfhgalfdlkdliaa
open Go Go.RowKit Lin

/-- All cells but those of the blocks of S. -/
def SameBut (S : Nat → Prop) (w w' : World) : Prop := w.heap.size ≤ w'.heap.size ∧ ∀ p : Addr, p.block < w.heap.size → ¬ S p.block → w'.cell? p = w.cell? p
theorem SameBut.trans {S : Nat → Prop} {a b c : World} (h : SameBut S a b) (k : SameBut S b c) : SameBut S a c :=
  ⟨Nat.le_trans h.1 k.1, fun p hp hg => (k.2 p (Nat.lt_of_lt_of_le hp h.1) hg).trans (h.2 p hp hg)⟩
section
variable {α : Type} {R : World → Value → α → Prop}
def OffS (R : World → Value → α → Prop) (w : World) (S : Nat → Prop) (u : Value) (x : α) : Prop := ∀ w', SameBut S w w' → R w' u x
theorem OffS.here {w : World} {S : Nat → Prop} {u : Value} {x : α} (h : OffS R w S u x) : R w u x := h w ⟨Nat.le_refl _, fun _ _ _ => rfl⟩
theorem OffS.go {w w' : World} {S : Nat → Prop} {u : Value} {x : α} (h : OffS R w S u x) (k : SameBut S w w') : OffS R w' S u x := fun w'' k' => h w'' (k.trans k')
/-- Block `g` is a row; its first cells read as the list `l`, whatever becomes of the blocks of S. -/
def Wx (R : World → Value → α → Prop) (w : World) (S : Nat → Prop) (g : Nat) (e : TypeId) (cap : Nat) (l : List α) : Prop :=
  ∃ cs, Row w g e cs ∧ cs.size = cap ∧ cap ≤ maxLen ∧ l.length ≤ cap ∧ ∀ k (h : k < l.length), ∃ u, cs[k]? = some u ∧ OffS R w S u l[k]
theorem Wx.of_wk {w : World} {S : Nat → Prop} {g : Nat} {e : TypeId} {cap : Nat} {l : List α} (h : Wk R w g e cap l) (hS : ∀ b, S b → b = g) : Wx R w S g e cap l := by
  obtain ⟨cs, hr, hs, hm, hl, hc⟩ := h
  refine ⟨cs, hr, hs, hm, hl, fun k hk => ?_⟩
  obtain ⟨u, hu, ho⟩ := hc k hk
  exact ⟨u, hu, fun w' k' => ho w' ⟨k'.1, fun p hp hg => k'.2 p hp fun hs => hg (hS _ hs)⟩⟩
theorem Wx.wk {w : World} {S : Nat → Prop} {g : Nat} {e : TypeId} {cap : Nat} {l : List α} (h : Wx R w S g e cap l) (hS : S g) : Wk R w g e cap l := by
  obtain ⟨cs, hr, hs, hm, hl, hc⟩ := h
  refine ⟨cs, hr, hs, hm, hl, fun k hk => ?_⟩
  obtain ⟨u, hu, ho⟩ := hc k hk
  exact ⟨u, hu, fun w' k' => ho w' ⟨k'.1, fun p hp hg => k'.2 p hp fun e => hg (by rw [e]; exact hS)⟩⟩
section
variable {w w' : World} {S : Nat → Prop} {g : Nat} {e : TypeId} {cap : Nat} {l : List α}
theorem Wx.lt (h : Wx R w S g e cap l) : g < w.heap.size := by obtain ⟨_, h, _⟩ := h; exact h.lt
theorem Wx.cell (h : Wx R w S g e cap l) {k : Nat} (hk : k < l.length) : ∃ u, w.cell? ⟨g, k, none⟩ = some u ∧ OffS R w S u l[k] := by
  obtain ⟨cs, hr, _, _, _, hc⟩ := h
  obtain ⟨u, hu, ho⟩ := hc k hk
  exact ⟨u, by rw [hr.cell]; exact hu, ho⟩
theorem Wx.frozen (h : Wx R w S g e cap l) (i : Nat) : w.frozen? ⟨g, i, none⟩ = false := by obtain ⟨_, h, _⟩ := h; exact h.frozen i
theorem Wx.below (h : Wx R w S g e cap l) {B : Nat} (hb : Below B w w') (hB : w.heap.size ≤ B) : Wx R w' S g e cap l := by
  have hg := h.lt
  obtain ⟨cs, hr, hs, hm, hl, hc⟩ := h
  refine ⟨cs, hr.below hb (by omega), hs, hm, hl, fun k hk => ?_⟩
  obtain ⟨u, hu, ho⟩ := hc k hk
  exact ⟨u, hu, ho.go ⟨hb.size, fun p hp _ => hb.cell (by omega)⟩⟩
theorem Wx.drew (h : Wx R w S g e cap l) : Wx R w.drew S g e cap l := h.below (Below.refl w.heap.size w).drew (Nat.le_refl _)
theorem Wx.alloc (h : Wx R w S g e cap l) (o : Obj) : Wx R (w.alloc o) S g e cap l := h.below ((Below.refl w.heap.size w).alloc (Nat.le_refl _) o) (Nat.le_refl _)
theorem Wx.store (h : Wx R w S g e cap l) (hS : S g) (i : Nat) {u : Value} {x : α} (hu : OffS R w S u x) : Wx R (w.setCell ⟨g, i, none⟩ u) S g e cap (l.set i x) := by
  obtain ⟨cs, hr, hs, hm, hl, hc⟩ := h
  refine ⟨_, hr.store i u, by simpa using hs, hm, by simpa using hl, fun k hk => ?_⟩
  have hk' : k < l.length := by simpa using hk
  have hso : SameBut S w (w.setCell ⟨g, i, none⟩ u) := ⟨by simp [World.setCell], fun p hp hg => (setCell_off w g i u).2 p hp fun e => hg (by rw [e]; exact hS)⟩
  by_cases e : i = k
  · subst e
    refine ⟨u, by rw [Array.getElem?_setIfInBounds_self_of_lt (by omega)], ?_⟩
    rw [List.getElem_set_self]
    exact hu.go hso
  · obtain ⟨u', hu', ho⟩ := hc k hk'
    refine ⟨u', by rw [Array.getElem?_setIfInBounds_ne e]; exact hu', ?_⟩
    rw [List.getElem_set_ne e]
    exact ho.go hso
/-- Behind a push to another slice, whose block was pb and is g'. -/
theorem Wx.push {pb : Option Nat} {g' : Nat} (h : Wx R w (fun b => b = g ∨ pb = some b) g e cap l) (hg : w.grownBy w' pb) (hne : pb ≠ some g) (hat : pb = some g' ∨ g' = w.heap.size) : Wx R w' (fun b => b = g ∨ some g' = some b) g e cap l := by
  have hlt := h.lt
  obtain ⟨cs, hr, hs, hm, hl, hc⟩ := h
  refine ⟨cs, (hg.block g hlt (fun e => hne e.symm)).trans hr, hs, hm, hl, fun k hk => ?_⟩
  obtain ⟨u, hu, ho⟩ := hc k hk
  refine ⟨u, hu, fun w'' k' => ho w'' ⟨Nat.le_trans hg.size k'.1, fun p hp hn => ?_⟩⟩
  have h1 : p.block ≠ g := fun e => hn (Or.inl e)
  have h2 : pb ≠ some p.block := fun e => hn (Or.inr e)
  have h3 : ¬ (p.block = g ∨ some g' = some p.block) := by
    rintro (e | e)
    · exact h1 e
    · injection e with e
      rcases hat with hat | hat
      · exact h2 (by rw [hat, e])
      · omega
  exact (k'.2 p (by have := hg.size; omega) h3).trans (World.cell?_of_block (hg.block p.block hp fun e => h2 e.symm))
theorem OwnL.plain {base : Nat} {v : Value} (hp : ∀ w w' u x, R w u x → R w' u x) (h : OwnL R w base e v l) (hk : ∀ k, base ≤ k → k < w.heap.size → w'.heap[k]? = w.heap[k]?) : OwnL R w' base e v l := by
  rcases h with ⟨rfl, rfl⟩ | ⟨g, cap, rfl, hg, h⟩
  · exact Or.inl ⟨rfl, rfl⟩
  · have hlt := h.lt
    obtain ⟨cs, hr, hs, hm, hl, hc⟩ := h
    refine Or.inr ⟨g, cap, rfl, hg, cs, (hk g hg hlt).trans hr, hs, hm, hl, fun k hk => ?_⟩
    obtain ⟨u, hu, ho⟩ := hc k hk
    exact ⟨u, hu, fun w'' _ => hp _ _ _ _ ho.here⟩
end
end
theorem Bs.offS_of {w : World} {v : Value} {l : List Nat} {S : Nat → Prop} (h : Bs w v l) (hg : ∀ k, v.ownBlock = some k → ¬ S k) : OffS Bs w S v l := by
  rintro w' k
  obtain ⟨A, c, rfl, hm, hl, hz, hc⟩ := h
  refine ⟨A, c, rfl, hm, hl, hz, fun hn => ?_⟩
  obtain ⟨b, off, rfl, hcell⟩ := hc hn
  refine ⟨b, off, rfl, fun j hj => ?_⟩
  rw [k.2 ⟨b, off + j, none⟩ (World.block_lt_of_cell? w _ (hcell j hj)) (hg b rfl)]
  exact hcell j hj

theorem findP_before (m : List (List Nat)) (col f : Nat) : ∀ i a, findP m col f i = some a → ∀ j, i ≤ j → j < a → el m j col = 0 := by
  induction f with
  | zero => intro i a h; cases h
  | succ f ih =>
    intro i a h j h1 h2
    unfold findP at h
    by_cases e : el m i col = 0
    · rw [if_pos e] at h
      by_cases e' : i = j
      · rw [← e']; exact e
      · exact ih _ _ h j (by omega) h2
    · rw [if_neg e] at h; cases h; omega

set_option maxHeartbeats 2000000 in
set_option maxRecDepth 100000 in
theorem lift_none (g cap top col : Nat) (m : List (List Nat)) (S : Nat → Prop) (w : World) {R W : Nat} (h : Wx Bs w S g 27 cap m) (hR : Rect R W m) (hr : R ≤ 1000) (ht : top ≤ R) (hcol : col < W) (hW : W ≤ 1000) (hf : ∀ j, top ≤ j → j < R → el m j col = 0) :
    Calls Try.prog 52 #[.slice (some ⟨g, 0, none⟩) R cap, .int .i64 (top : Int), .int .i64 (col : Int)] w fun e w' => e = .returned (.bool false) ∧ w = w' := by
  have HX := Lib.hid h
  have RL := Lib.hid hR
  have HF := Lib.hid hf
  clear h hR hf
  have hcI : (col : Int) < (W : Int) := by omega
  go_enter Try.func52, Try.ntmps52
  go_wp2
  go_loop [7] (fun i => ∃ k : Nat, top ≤ k ∧ k ≤ R ∧ i = .int .i64 (k : Int)) (fun i => R - (intOf i).toNat)
  case atStart => exact ⟨top, Nat.le_refl _, ht, rfl⟩
  case round =>
    obtain ⟨k, hk0, hk, rfl⟩ := hrel
    by_cases hlt : k < R
    · have hkI : (k : Int) < (R : Int) := by omega
      obtain ⟨u, q1, ho⟩ := HX.out.cell (k := k) (by rw [RL.out.len]; exact hlt)
      have hb := ho.here
      have e : m[k]'(by rw [RL.out.len]; exact hlt) = m.getD k [] := (getD_in _).symm
      rw [e] at hb
      obtain ⟨b, off, c, rfl, -, hcell⟩ := Bs.at_ hb (by rw [(RL.out.row k hlt).1]; omega)
      rw [(RL.out.row k hlt).1] at q1 hcell
      have q2 := hcell col hcol
      have z : (m.getD k []).getD col 0 = 0 := HF.out k hk0 hlt
      rw [z] at q2
      clear hcell hb e z ho
      go_wp2
      go_round
      case rel => exact ⟨k + 1, by omega, by omega, by go_num⟩
      case measure => simp [intOf]; omega
    · go_wp2
      go_ret
      exact ⟨rfl, rfl⟩

theorem only_refl (g : Nat) (w : World) : w.grownBy w (some g) := World.grownBy.refl w _
theorem only_trans {g : Nat} {a b c : World} (h : a.grownBy b (some g)) (k : b.grownBy c (some g)) : a.grownBy c (some g) :=
  ⟨k.os.trans h.os, k.tape.trans h.tape, k.output.trans h.output, Nat.le_trans h.size k.size, fun q hq hne => (k.block q (Nat.lt_of_lt_of_le hq h.size) hne).trans (h.block q hq hne)⟩
theorem only_below {g B : Nat} {a b : World} (h : a.grownBy b (some g)) (hB : B ≤ g) (hg : g < a.heap.size) : Below B a b :=
  ⟨h.os, h.tape, h.output, h.size, fun k hk => h.block k (by omega) (fun e => by injection e with e; omega)⟩
theorem only_of_below {g : Nat} {a b : World} (h : Below a.heap.size a b) : a.grownBy b (some g) := ⟨h.os, h.tape, h.output, h.size, fun k hk _ => h.block k hk⟩
theorem only_set (g i : Nat) (w : World) (u : Value) : w.grownBy (w.setCell ⟨g, i, none⟩ u) (some g) :=
  ⟨rfl, rfl, rfl, by simp [World.setCell], fun k _ hne => Below.heap_setCell _ _ _ _ fun e => hne (by rw [e])⟩
theorem only_drew (g : Nat) (w : World) : w.grownBy w.drew (some g) := ⟨rfl, rfl, rfl, Nat.le_refl _, fun _ _ _ => rfl⟩

def liftPost (g cap top a : Nat) (m : List (List Nat)) (S : Nat → Prop) (w : World) (e : Ending) (w' : World) : Prop :=
  e = .returned (.bool true) ∧ Wx Bs w' S g 27 cap (swapF m top a) ∧ w.grownBy w' (some g) ∧ w'.heap.size = w.heap.size
set_option maxHeartbeats 4000000 in
set_option maxRecDepth 100000 in
theorem lift_some (g cap top col a : Nat) (m : List (List Nat)) (S : Nat → Prop) (w : World) {R W : Nat} (h : Wx Bs w S g 27 cap m) (hS : S g) (hR : Rect R W m) (hr : R ≤ 1000) (hcol : col < W) (hW : W ≤ 1000) (hta : top ≤ a) (haR : a < R) (hne : el m a col ≠ 0) (hf : ∀ j, top ≤ j → j < a → el m j col = 0) :
    Calls Try.prog 52 #[.slice (some ⟨g, 0, none⟩) R cap, .int .i64 (top : Int), .int .i64 (col : Int)] w (liftPost g cap top a m S w) := by
  have HX := Lib.hid h
  have RL := Lib.hid hR
  have HF := Lib.hid hf
  have NE := Lib.hid hne
  have HS := Lib.hid hS
  clear h hR hf hne hS
  have hcI : (col : Int) < (W : Int) := by omega
  go_enter Try.func52, Try.ntmps52
  go_wp2
  go_loop [7] (fun i => ∃ k : Nat, top ≤ k ∧ k ≤ a ∧ i = .int .i64 (k : Int)) (fun i => R - (intOf i).toNat)
  case atStart => exact ⟨top, Nat.le_refl _, hta, rfl⟩
  case round =>
    obtain ⟨k, hk0, hk, rfl⟩ := hrel
    have hlt : k < R := by omega
    have hkI : (k : Int) < (R : Int) := by omega
    obtain ⟨u, q1, ho⟩ := HX.out.cell (k := k) (by rw [RL.out.len]; exact hlt)
    have e : m[k]'(by rw [RL.out.len]; exact hlt) = m.getD k [] := (getD_in _).symm
    rw [e] at ho
    have OU := Lib.hid ho
    have hb := ho.here
    obtain ⟨b, off, c, rfl, -, hcell⟩ := Bs.at_ hb (by rw [(RL.out.row k hlt).1]; omega)
    rw [(RL.out.row k hlt).1] at q1 hcell OU
    have q2 := hcell col hcol
    clear hb e ho hcell
    by_cases he : k = a
    · subst he
      obtain ⟨x, hx⟩ : ∃ x, (m.getD k []).getD col 0 = x := ⟨_, rfl⟩
      rw [hx] at q2
      have g0 : ((x : Int) != 0) = true := by
        have h1 : el m k col ≠ 0 := NE.out
        have h2 : x ≠ 0 := fun e => h1 (by unfold el; rw [hx]; exact e)
        simpa using h2
      have f1 : w.frozen? ⟨g, k, none⟩ = false := HX.out.frozen k
      have f2 : w.frozen? ⟨g, top, none⟩ = false := HX.out.frozen top
      have htI : (top : Int) < (R : Int) := by omega
      clear hx
      by_cases ht : k = top
      · subst ht
        go_wp2
        go_region
        all_goals go_wp2
        all_goals go_ret
        all_goals
          have h1 := ((HX.out.store HS.out k OU.out).store HS.out k (OU.out.go (w' := w.setCell ⟨g, k, none⟩ (.slice (some ⟨b, off, none⟩) W c)) ⟨by simp [World.setCell], fun p hp hg => (setCell_off w g k _).2 p hp fun e => hg (by rw [e]; exact HS.out)⟩)).drew
          refine ⟨rfl, h1, only_trans (only_trans (only_set g _ _ _) (only_set g _ _ _)) (only_drew g _), ?_⟩
          simp [World.setCell]
      · have htR : top < R := by omega
        obtain ⟨u2, q3, ho2⟩ := HX.out.cell (k := top) (by rw [RL.out.len]; exact htR)
        have e2 : m[top]'(by rw [RL.out.len]; exact htR) = m.getD top [] := (getD_in _).symm
        rw [e2] at ho2
        obtain ⟨A2, c2, rfl⟩ := ho2.here.form
        have OU2 := Lib.hid ho2
        have q4 : (w.setCell ⟨g, top, none⟩ (.slice (some ⟨b, off, none⟩) W c)).cell? ⟨g, k, none⟩ = some (.slice (some ⟨b, off, none⟩) W c) := by
          obtain ⟨cs, hrow, _⟩ := HX.out
          rw [(hrow.store top _).cell, Array.getElem?_setIfInBounds_ne (fun e => ht e.symm), ← hrow.cell]
          exact q1
        have HTE := Lib.hid ht
        clear ho2 e2 ht
        go_wp2
        go_region
        all_goals go_wp2
        all_goals go_ret
        all_goals
          have h1 := ((HX.out.store HS.out top OU.out).store HS.out k (OU2.out.go (w' := w.setCell ⟨g, top, none⟩ (.slice (some ⟨b, off, none⟩) W c)) ⟨by simp [World.setCell], fun p hp hg => (setCell_off w g top _).2 p hp fun e => hg (by rw [e]; exact HS.out)⟩)).drew
          refine ⟨rfl, h1, only_trans (only_trans (only_set g _ _ _) (only_set g _ _ _)) (only_drew g _), ?_⟩
          simp [World.setCell]
    · have z : (m.getD k []).getD col 0 = 0 := HF.out k hk0 (by omega)
      rw [z] at q2
      clear z OU
      go_wp2
      go_round
      case rel => exact ⟨k + 1, by omega, by omega, by go_num⟩
      case measure => simp [intOf]; omega
end Go.Proofs.Ytfhgalfdlkdliaa
