/- The reference's Bytes. -/
import Derived.Test.YtajeboigkpelgaaIh
namespace Go.Proofs.Ytajeboigkpelgaa
open Go Go.RowKit
set_option linter.unusedVariables false
set_option linter.unusedSimpArgs false
theorem Bs.cap {w : World} {A : Option Addr} {m c : Nat} {l : List Nat} (h : Bs w (.slice A m c) l) : m = l.length ∧ m ≤ c ∧ c ≤ maxLen := by
  obtain ⟨A', c', e, hm, -⟩ := h
  injection e with e1 e2 e3
  subst e2 e3
  exact ⟨rfl, hm⟩
theorem bs_take {w : World} {A : Option Addr} {N c k : Nat} {l : List Nat} (h : Bs w (.slice A N c) l) (hk : k ≤ N) : Bs w (.slice A k c) (l.take k) := by
  obtain ⟨A', c', e, hm, hl, hn, hcell⟩ := h
  injection e with e1 e2 e3
  subst e1 e2 e3
  refine ⟨A, c, by rw [List.length_take, Nat.min_eq_left hk], by rw [List.length_take]; omega, fun x hx => hl x (List.mem_of_mem_take hx), hn, fun h => ?_⟩
  rw [List.length_take] at h
  obtain ⟨b, off, rfl, hq⟩ := hcell (by omega)
  refine ⟨b, off, rfl, fun j hj => ?_⟩
  rw [List.length_take] at hj
  rw [hq j (by omega)]
  congr 3
  rw [getD_in (by omega), getD_in (by rw [List.length_take]; omega), List.getElem_take]
theorem bs_from {w : World} {A : Option Addr} {N c k : Nat} {l : List Nat} (h : Bs w (.slice A N c) l) (hk : k ≤ N) : Bs w (.slice (if c = k then A else A.map (fun a => a.add k)) (N - k) (c - k)) (l.drop k) := by
  have h2 := h
  obtain ⟨A', c', e, hm, hl, hn, hcell⟩ := h
  injection e with e1 e2 e3
  subst e1 e2 e3
  by_cases hc : c = k
  · rw [if_pos hc]
    have e0 : l.drop k = [] := List.drop_eq_nil_of_le (by omega)
    rw [e0]
    exact ⟨A, c - k, by rw [show l.length - k = 0 by omega]; rfl, ⟨Nat.zero_le _, by omega⟩, fun _ h => (by cases h), fun h => by have := hn h; omega, fun h => absurd h (Nat.lt_irrefl 0)⟩
  · rw [if_neg hc]
    rcases A with _ | ad
    · have h0 := hn rfl
      have e0 : l.drop k = [] := List.drop_eq_nil_of_le (by omega)
      rw [e0]
      exact ⟨none, c - k, by rw [show l.length - k = 0 by omega]; rfl, ⟨Nat.zero_le _, by omega⟩, fun _ h => (by cases h), fun h => by omega, fun h => absurd h (Nat.lt_irrefl 0)⟩
    · refine ⟨some (ad.add k), c - k, by rw [List.length_drop]; rfl, by rw [List.length_drop]; omega, fun x hx => hl x (List.mem_of_mem_drop hx), fun h => (by cases h), fun h => ?_⟩
      rw [List.length_drop] at h
      obtain ⟨b, off, h6, hq⟩ := hcell (by omega)
      cases h6
      refine ⟨b, off + k, by rw [Go.WideShapes.add_plain], fun j hj => ?_⟩
      rw [List.length_drop] at hj
      rw [Nat.add_assoc, hq (k + j) (by omega)]
      congr 3
      rw [getD_in (by omega), getD_in (by rw [List.length_drop]; omega), List.getElem_drop]
theorem own_same {A A' : Option Addr} {n k c c' m' : Nat} {g : Nat} (he : A' = A ∨ A' = A.map (fun a => a.add k)) (hg : (Value.slice A' m' c').ownBlock = some g) : (Value.slice A n c).ownBlock = some g := by
  rcases he with rfl | rfl
  · cases A' with
    | none => cases hg
    | some a => exact hg
  · rcases A with _ | ⟨b, off, sp⟩
    · cases hg
    · cases sp <;> (simp [Value.ownBlock, Addr.add] at hg ⊢; split at hg <;> exact hg)
/-- Bytes: a value, in new memory. -/
def bPost (l : List Nat) (bad : Bool) (R : World → List Nat → Bool → Prop) (o : Nat → Prop) (w : World) (e : Ending) (w' : World) : Prop :=
  ∃ v, e = .returned (.tuple #[v, .int .i64 ((Cod.rB l bad).2.1 : Int)]) ∧ Bs w' v (Cod.rB l bad).1 ∧ (∀ k, v.ownBlock = some k → w.heap.size ≤ k) ∧ R w' (Cod.rB l bad).2.2.1 (Cod.rB l bad).2.2.2 ∧ Chg o w w'
namespace Cod
theorem rB_none {l : List Nat} {bad : Bool} (h : dec 0 l = none) : rB l bad = ([], 5, [], true) := by unfold rB; rw [h]
theorem rB_in {l r : List Nat} {bad : Bool} {n : Nat} (h : dec 0 l = some (n, r)) (hn : n ≤ r.length) : rB l bad = (r.take n, 0, r.drop n, bad) := by unfold rB; rw [h]; exact if_neg (by omega)
theorem rB_out {l r : List Nat} {bad : Bool} {n : Nat} (h : dec 0 l = some (n, r)) (hn : r.length < n) : rB l bad = ([], 5, [], true) := by unfold rB; rw [h]; exact if_pos hn
end Cod
set_option maxHeartbeats 4000000 in
set_option maxRecDepth 100000 in
theorem rbytes_any (S : Nat) (l : List Nat) (bad : Bool) (o : Nat → Prop) (w : World) (h : RdR w S l bad o) (hL : l.length ≤ 1000000) :
    Calls Try.prog 37 #[.pointer (some ⟨S, 0, none⟩)] w (bPost l bad (fun w' r b => RdR w' S r b o) o w) := by
  have U := Lib.hid (ruint_any S l bad o w h)
  have hl := h.byt
  clear h
  rcases Cod.dec_cases l hl with hd | ⟨n, r, hd, hn, hlt⟩
  · have EU := Lib.hid (Cod.rU_none (bad := bad) hd)
    have EI := Lib.hid (Cod.rB_none (bad := bad) hd)
    clear hd hl
    go_enter Try.func37, Try.ntmps37
    go_wp2_with fail
    refine U.out.mono ?_
    unfold uPost
    rw [EU.out]
    rintro e w1 ⟨rfl, hr, hc⟩
    go_wp2_with fail
    go_ret2
    exact ⟨_, by rw [EI.out]; rfl, by rw [EI.out]; exact Bs.nil_ _, fun k hk => nil_own k hk, by rw [EI.out]; exact hr, hc⟩
  · have EU := Lib.hid (Cod.rU_some (bad := bad) hd)
    by_cases hm : r.length < n
    · have EI := Lib.hid (Cod.rB_out (bad := bad) hd hm)
      have g1 : (r.length : Int) < (n : Int) := by omega
      have m63 : r.length ≤ 9223372036854775807 := by omega
      clear hd hl hm hn hlt hL
      go_enter Try.func37, Try.ntmps37
      go_wp2_with fail
      refine U.out.mono ?_
      unfold uPost
      rw [EU.out]
      rintro e w1 ⟨rfl, hr, hc⟩
      obtain ⟨A, c, hcell, -, -⟩ := hr.c0
      have FL := Lib.hid (rfail_any S r bad o w1 hr)
      have CH := Lib.hid hc
      clear hr hc
      generalize r.length = m at *
      go_wp2_with fail
      refine FL.out.mono ?_
      rintro e w2 ⟨rfl, hr2, hc2⟩
      go_wp2_with fail
      go_ret2
      exact ⟨_, by rw [EI.out]; rfl, by rw [EI.out]; exact Bs.nil_ _, fun k hk => nil_own k hk, by rw [EI.out]; exact hr2, CH.out.trans hc2⟩
    · have EI := Lib.hid (Cod.rB_in (bad := bad) hd (by omega))
      have m63 : r.length ≤ 1000000 := by omega
      have nle : n ≤ r.length := by omega
      clear hd hl hm hn hlt hL
      go_enter Try.func37, Try.ntmps37
      go_wp2_with fail
      refine U.out.mono ?_
      unfold uPost
      rw [EU.out]
      rintro e w1 ⟨rfl, hr, hc⟩
      obtain ⟨A, c, hcell, hbs, hown⟩ := hr.c0
      have HR := Lib.hid hr
      have CH := Lib.hid hc
      have HBS := Lib.hid hbs
      have HOW := Lib.hid hown
      have hcap : r.length ≤ c := hbs.cap.2.1
      have FZ := hr.frz 0
      have lt0 : S < w1.heap.size := World.block_lt_of_cell? w1 _ hcell
      have hc2 := (World.cell?_alloc_lt w1 (.cells #[] 5) ⟨S, 0, none⟩ lt0).trans hcell
      clear hr hc hbs hown
      obtain ⟨m, em⟩ : ∃ m, r.length = m := ⟨_, rfl⟩
      rw [em] at hcell hc2 HBS HOW hcap nle m63
      have EM := Lib.hid em
      have e2 : ((r.length : Nat) : Int) = (m : Int) := by rw [em]
      have g1 : ¬ (m : Int) < (n : Int) := by omega
      have g2 : decide ((m : Int) < (n : Int)) = false := decide_eq_false g1
      have nI : (n : Int) ≤ (m : Int) := by omega
      clear em e2
      have MK := Lib.hid (OwB.made w1 (Nat.le_refl _))
      have TK := Lib.hid (bs_take (HBS.out.alloc (.cells #[] 5)) nle)
      have LL := Lib.hid (show (r.take n).length ≤ 1000000 by rw [List.length_take]; have := EM.out; omega)
      have BF := Lib.hid fun w2 (h : Below w1.heap.size w1 w2) => bs_from (HBS.out.below h) nle
      have OF := Lib.hid fun (A' : Option Addr) (c' g : Nat) (he : A' = A ∨ A' = A.map (fun a => a.add n)) (hg : (Value.slice A' (m - n) c').ownBlock = some g) => HOW.out g (own_same he hg)
      have EA := Lib.hid (fun (w2 : World) (A' : Option Addr) (c' : Nat) (x2 : Value) (h : Below w1.heap.size w1 w2) (ho : OwB w2 w1.heap.size x2 ([] ++ r.take n)) (hu : Bs w2 (.slice A' (m - n) c') (r.drop n)) (he : A' = A ∨ A' = A.map (fun a => a.add n)) =>
        (show bPost l bad (fun w' r b => RdR w' S r b o) o w (.returned (.tuple #[x2, .int .i64 0])) (w2.setCell ⟨S, 0, none⟩ (.slice A' (m - n) c')) from by
          have h1 := (HR.out.below h).set hu (fun g hg => OF.out A' c' g he hg)
          have hS : o S := HR.out.1
          have cs : Chg (fun k => k = S) w2 (w2.setCell ⟨S, 0, none⟩ (.slice A' (m - n) c')) := (Chg.refl (fun k => k = S) w2).setCell (p := ⟨S, 0, none⟩) rfl _
          have hnb : ∀ k, x2.ownBlock = some k → w1.heap.size ≤ k := fun k hk => (ho.own k hk).1
          have hne : ∀ k, x2.ownBlock = some k → ¬ k = S := fun k hk e => by have := hnb k hk; have h2 : S < w1.heap.size := lt0; omega
          refine ⟨x2, by rw [EI.out]; rfl, by rw [EI.out]; exact ho.bs.chg cs hne, fun k hk => Nat.le_trans CH.out.size (hnb k hk), by rw [EI.out]; exact h1, (CH.out.trans (below_chg h o)).trans ((Chg.refl o w2).setCell (p := ⟨S, 0, none⟩) hS _)⟩))
      clear HR HOW OF EI CH HBS EM
      go_wp2_with (at_builtin; refine wp_app rfl (.tmp 25) (.tmp 31) rfl w1.heap.size _ _ [] (r.take n) rfl rfl MK.out TK.out (by have := LL.out; simp only [List.length_nil]; omega) (by simp) ?_; intro x2 w2 hown2 hg2; have hgb := ((Below.refl w1.heap.size w1).alloc (Nat.le_refl _) (.cells #[] 5)).trans hg2; have hc3 := (hgb.cell (p := ⟨S, 0, none⟩) lt0).trans hcell; have fz3 := (hgb.frozen (p := ⟨S, 0, none⟩) lt0).trans FZ; have HG := Lib.hid hgb; have HO := Lib.hid hown2; clear hgb hown2 hg2)
      all_goals go_ret2
      all_goals have B3 := BF.out _ HG.out
      · rw [if_pos (by assumption), show c - n = 0 by omega] at B3
        exact EA.out w2 A _ x2 HG.out HO.out B3 (Or.inl rfl)
      · rw [if_neg (by assumption)] at B3
        exact EA.out w2 _ _ x2 HG.out HO.out B3 (Or.inr rfl)
end Go.Proofs.Ytajeboigkpelgaa
