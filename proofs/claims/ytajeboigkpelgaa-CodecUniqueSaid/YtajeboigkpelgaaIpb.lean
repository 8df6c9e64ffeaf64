/- The program's reader: fail, take, Left, Done. -/
import Derived.Test.YtajeboigkpelgaaIpa
namespace Go.Proofs.Ytajeboigkpelgaa
open Go Go.RowKit
set_option linter.unusedVariables false
set_option linter.unusedSimpArgs false
/-- The program's reader. -/
def RdP (w : World) (S : Nat) (l : List Nat) (bad : Bool) (o : Nat → Prop) : Prop :=
  o S ∧ (∀ k, o k → k < w.heap.size) ∧ ∃ sv, Row w S 63 #[sv, .bool bad] ∧ Bs w sv l ∧ (∀ g, sv.ownBlock = some g → o g ∧ g ≠ S)
theorem RdP.chg {w w' : World} {S : Nat} {l : List Nat} {bad : Bool} {o p : Nat → Prop} (h : RdP w S l bad o) (hc : Chg p w w') (hp : ∀ k, o k → ¬ p k) : RdP w' S l bad o := by
  obtain ⟨h1, h2, sv, h3, h4, h5⟩ := h
  exact ⟨h1, fun k hk => Nat.lt_of_lt_of_le (h2 k hk) hc.size, sv, (hc.block S h3.lt (hp S h1)).trans h3, h4.chg hc fun k hk => hp k (h5 k hk).1, h5⟩
theorem RdP.byt {w : World} {S : Nat} {l : List Nat} {bad : Bool} {o : Nat → Prop} (h : RdP w S l bad o) : ∀ x ∈ l, x < 256 := by
  obtain ⟨_, _, sv, _, h4, _⟩ := h; exact h4.lt
theorem RdP.lt {w : World} {S : Nat} {l : List Nat} {bad : Bool} {o : Nat → Prop} (h : RdP w S l bad o) : ∀ k, o k → k < w.heap.size := h.2.1
theorem RdP.below {w w' : World} {S : Nat} {l : List Nat} {bad : Bool} {o : Nat → Prop} (h : RdP w S l bad o) (hb : Below w.heap.size w w') : RdP w' S l bad o :=
  h.chg (below_chg hb fun _ => False) fun _ _ => id
theorem RdP.set {w : World} {S : Nat} {l r : List Nat} {bad : Bool} {o : Nat → Prop} (h : RdP w S l bad o) {u : Value} (hu : Bs w u r) (hg : ∀ g, u.ownBlock = some g → o g ∧ g ≠ S) : RdP (w.setCell ⟨S, 0, none⟩ u) S r bad o := by
  obtain ⟨h1, h2, sv, h3, h4, h5⟩ := h
  have c : Chg (fun k => k = S) w (w.setCell ⟨S, 0, none⟩ u) := (Chg.refl (fun k => k = S) w).setCell (p := ⟨S, 0, none⟩) rfl u
  exact ⟨h1, fun k hk => Nat.lt_of_lt_of_le (h2 k hk) c.size, u, h3.store 0 u, hu.chg c fun k hk e => (hg k hk).2 e, hg⟩
theorem RdP.flag {w : World} {S : Nat} {l : List Nat} {bad : Bool} {o : Nat → Prop} (h : RdP w S l bad o) (b : Bool) : RdP (w.setCell ⟨S, 1, none⟩ (.bool b)) S l b o := by
  obtain ⟨h1, h2, sv, h3, h4, h5⟩ := h
  have c : Chg (fun k => k = S) w (w.setCell ⟨S, 1, none⟩ (.bool b)) := (Chg.refl (fun k => k = S) w).setCell (p := ⟨S, 1, none⟩) rfl _
  exact ⟨h1, fun k hk => Nat.lt_of_lt_of_le (h2 k hk) c.size, sv, h3.store 1 _, h4.chg c fun k hk e => (h5 k hk).2 e, h5⟩
theorem RdP.c0 {w : World} {S : Nat} {l : List Nat} {bad : Bool} {o : Nat → Prop} (h : RdP w S l bad o) : ∃ A c, w.cell? ⟨S, 0, none⟩ = some (.slice A l.length c) ∧ Bs w (.slice A l.length c) l ∧ (∀ g, (Value.slice A l.length c).ownBlock = some g → o g ∧ g ≠ S) := by
  obtain ⟨h1, h2, sv, h3, h4, h5⟩ := h
  obtain ⟨A, c, rfl⟩ := h4.form
  exact ⟨A, c, by rw [h3.cell]; rfl, h4, h5⟩
theorem RdP.c1 {w : World} {S : Nat} {l : List Nat} {bad : Bool} {o : Nat → Prop} (h : RdP w S l bad o) : w.cell? ⟨S, 1, none⟩ = some (.bool bad) := by
  obtain ⟨h1, h2, sv, h3, h4, h5⟩ := h
  rw [h3.cell]; rfl
theorem RdP.frz {w : World} {S : Nat} {l : List Nat} {bad : Bool} {o : Nat → Prop} (h : RdP w S l bad o) (i : Nat) : w.frozen? ⟨S, i, none⟩ = false := by
  obtain ⟨h1, h2, sv, h3, -⟩ := h; exact h3.frozen i
set_option maxHeartbeats 1000000 in
set_option maxRecDepth 100000 in
theorem pfail_any (S : Nat) (l : List Nat) (bad : Bool) (o : Nat → Prop) (w : World) (h : RdP w S l bad o) :
    Calls Try.prog 41 #[.pointer (some ⟨S, 0, none⟩)] w fun e w' => e = .returned (.int .i64 5) ∧ RdP w' S [] true o ∧ Chg o w w' := by
  obtain ⟨A, c, hc, -, -⟩ := h.c0
  have f0 := h.frz 0
  have h2 := h.set (Bs.nil_ w) (fun g hg => nil_own g hg)
  have hc1 := h2.c1
  have f1 := h2.frz 1
  have H3 := Lib.hid (h2.flag true)
  have CH := Lib.hid (((Chg.refl o w).setCell (p := ⟨S, 0, none⟩) h.1 (.slice none 0 0)).setCell (p := ⟨S, 1, none⟩) h.1 (.bool true))
  clear h h2
  go_enter Try.func41, Try.ntmps41
  go_wp2_with fail
  go_ret
  exact ⟨rfl, H3.out, CH.out⟩
set_option maxHeartbeats 1000000 in
set_option maxRecDepth 100000 in
theorem pfail_nil (w : World) : Calls Try.prog 41 #[.pointer none] w fun e w' => e = .returned (.int .i64 5) ∧ w = w' := by
  go_enter Try.func41, Try.ntmps41
  go_wp2_with fail
  go_ret
  exact ⟨rfl, rfl⟩
set_option maxHeartbeats 1000000 in
set_option maxRecDepth 100000 in
theorem pleft_any (S : Nat) (l : List Nat) (bad : Bool) (o : Nat → Prop) (w : World) (h : RdP w S l bad o) (hL : l.length ≤ 1000000) :
    Calls Try.prog 22 #[.pointer (some ⟨S, 0, none⟩)] w (qPost (.int .i64 (l.length : Int)) w) := by
  obtain ⟨A, c, hc, -, -⟩ := h.c0
  clear h
  generalize l.length = n at *
  go_enter Try.func22, Try.ntmps22
  go_wp2_with fail
  go_ret
  exact ⟨rfl, Below.refl _ _⟩
theorem pleft_nil (w : World) : Calls Try.prog 22 #[.pointer none] w (qPost (.int .i64 0) w) := by
  go_enter Try.func22, Try.ntmps22
  go_wp2_with fail
  go_ret
  exact ⟨rfl, Below.refl _ _⟩
theorem pdone_nil (w : World) : Calls Try.prog 24 #[.pointer none] w (qPost (.int .i64 0) w) := by
  go_enter Try.func24, Try.ntmps24
  go_wp2_with fail
  go_ret
  exact ⟨rfl, Below.refl _ _⟩
set_option maxHeartbeats 1000000 in
set_option maxRecDepth 100000 in
theorem pdone_any (S : Nat) (l : List Nat) (bad : Bool) (o : Nat → Prop) (w : World) (h : RdP w S l bad o) (hL : l.length ≤ 1000000) :
    Calls Try.prog 24 #[.pointer (some ⟨S, 0, none⟩)] w (qPost (.int .i64 (Cod.rD l bad : Nat)) w) := by
  obtain ⟨A, c, hc, -, -⟩ := h.c0
  have hc1 := h.c1
  clear h
  have E := Lib.hid (show Cod.rD l bad = if bad = true ∨ 0 < l.length then 5 else 0 from rfl)
  generalize Cod.rD l bad = q at *
  generalize l.length = n at *
  rcases bad with _ | _
  · by_cases h0 : 0 < n
    · have hd : (0 : Int) < (n : Int) := by omega
      have e5 := Lib.hid (show q = 5 by rw [E.out, if_pos (Or.inr h0)])
      clear E
      go_enter Try.func24, Try.ntmps24
      go_wp2_with fail
      go_ret
      exact ⟨by rw [e5.out]; rfl, Below.refl _ _⟩
    · have hd : decide ((0 : Int) < (n : Int)) = false := by simp; omega
      have e5 := Lib.hid (show q = 0 by rw [E.out, if_neg (by simp; omega)])
      clear E
      go_enter Try.func24, Try.ntmps24
      go_wp2_with fail
      go_ret
      exact ⟨by rw [e5.out]; rfl, Below.refl _ _⟩
  · have e5 := Lib.hid (show q = 5 by rw [E.out, if_pos (Or.inl rfl)])
    clear E
    go_enter Try.func24, Try.ntmps24
    go_wp2_with fail
    go_ret
    exact ⟨by rw [e5.out]; rfl, Below.refl _ _⟩
/-- A slice up to k. -/
theorem slice_to (A : Option Addr) (m c k : Nat) (hk : k ≤ m) (hm : m ≤ c) : (∀ w, (Instr.slice 22 (.slice A m c) none (some (.int .i64 (k : Int))) none).run Try.prog w = .ok (.slice A k c) w) ∧ (∀ w, (Instr.sliceAt 22 (.slice A m c) none (some (.int .i64 (k : Int))) none).run Try.prog w = .ok (.slice A k c) w) := by
  have hel : Try.prog.elem 22 = 5 := by kernel_rfl
  have hu : Try.prog.underlying 22 = some (.slice (Try.prog.elem 22)) := by rw [hel]; exact Try.underlying22
  obtain ⟨i, hi, hzz⟩ := Option.map_eq_some_iff.1 info_u8
  simp only [Prod.mk.injEq] at hzz
  have key : ∀ w, (Instr.slice 22 (.slice A m c) none (some (.int .i64 (k : Int))) none).run Try.prog w = .ok (.slice A k c) w := fun w => by
    rw [run_slice_h w 22 A m c hu .i64 (k : Int) (by omega) (by omega), hel]
    simp [sizeOf, typeInfo, hi, hzz.2.1, Result.andThen, sliced]
    rcases A with _ | ⟨b, off, sp⟩
    · simp
    · simp [Addr.add]
  exact ⟨key, fun w => by rw [run_sliceAt_slice w _ _ _ _ _ hu]; exact key w⟩
/-- What take returns where there is enough. -/
def tPost (k S : Nat) (l : List Nat) (bad : Bool) (o : Nat → Prop) (w : World) (e : Ending) (w' : World) : Prop :=
  ∃ A c, e = .returned (.tuple #[.slice A k c, .int .i64 0]) ∧ Bs w' (.slice A k c) (l.take k) ∧ (∀ g, (Value.slice A k c).ownBlock = some g → o g ∧ g ≠ S) ∧ RdP w' S (l.drop k) bad o ∧ Chg o w w'
set_option maxHeartbeats 1000000 in
set_option maxRecDepth 100000 in
theorem ptake_in (S : Nat) (l : List Nat) (bad : Bool) (o : Nat → Prop) (w : World) (h : RdP w S l bad o) (k : Nat) (hk : k ≤ l.length) (hL : l.length ≤ 1000000) :
    Calls Try.prog 40 #[.pointer (some ⟨S, 0, none⟩), .int .i64 (k : Int)] w (tPost k S l bad o w) := by
  obtain ⟨A, c, hc, hbs, hown⟩ := h.c0
  have HR := Lib.hid h
  have f0 := h.frz 0
  have hcap := hbs.cap.2.1
  obtain ⟨N, hN⟩ : ∃ N, l.length = N := ⟨_, rfl⟩
  rw [hN] at hc hbs hown hcap hk hL
  have st := slice_to A N c k hk hcap
  have st1 := st.1
  have st2 := st.2
  have sf := slice_from A N c k hk hcap
  obtain ⟨B, d, sf1, sf2, sf3, sf4⟩ := sf
  have SF3 := Lib.hid sf3
  have SF4 := Lib.hid sf4
  have HB := Lib.hid hbs
  have HO := Lib.hid hown
  have hd : decide (N < k) = false := by simp; omega
  clear h hbs hown st sf3 sf4 hN
  have FIN := Lib.hid (show tPost k S l bad o w (.returned (.tuple #[.slice A k c, .int .i64 0])) (w.setCell ⟨S, 0, none⟩ (.slice B (N - k) d)) from by
    have h1 := HR.out.set (SF3.out w l HB.out) (fun g hg => HO.out g (SF4.out g hg))
    have ow : ∀ g, (Value.slice A k c).ownBlock = some g → o g ∧ g ≠ S := fun g hg => HO.out g (own_same (n := N) (k := 0) (c := c) (Or.inl rfl) hg)
    exact ⟨A, c, rfl, (bs_take HB.out hk).chg ((Chg.refl (fun k => k = S) w).setCell (p := ⟨S, 0, none⟩) rfl _) (fun g hg e => (ow g hg).2 e), ow, h1, (Chg.refl o w).setCell (p := ⟨S, 0, none⟩) HR.out.1 _⟩)
  clear HR SF3 SF4 HB HO hcap hL hk
  go_enter Try.func40, Try.ntmps40
  go_wp2_with fail
  go_ret2
  exact FIN.out
set_option maxHeartbeats 1000000 in
set_option maxRecDepth 100000 in
theorem ptake_out (S : Nat) (l : List Nat) (bad : Bool) (o : Nat → Prop) (w : World) (h : RdP w S l bad o) (k : Nat) (hk : l.length < k) (hL : l.length ≤ 1000000) :
    Calls Try.prog 40 #[.pointer (some ⟨S, 0, none⟩), .int .i64 (k : Int)] w (fun e w' => e = .returned (.tuple #[.slice none 0 0, .int .i64 5]) ∧ RdP w' S [] true o ∧ Chg o w w') := by
  obtain ⟨A, c, hc, -, -⟩ := h.c0
  have FL := Lib.hid (pfail_any S l bad o w h)
  have hI : (l.length : Int) < (k : Int) := by omega
  clear h hk
  generalize l.length = N at *
  go_enter Try.func40, Try.ntmps40
  go_wp2_with fail
  refine FL.out.mono ?_
  rintro e w' ⟨rfl, hr, hch⟩
  go_wp2_with fail
  go_ret2
  exact ⟨rfl, hr, hch⟩
set_option maxHeartbeats 1000000 in
set_option maxRecDepth 100000 in
theorem ptake_nil (w : World) (k : Int) :
    Calls Try.prog 40 #[.pointer none, .int .i64 k] w (fun e w' => e = .returned (.tuple #[.slice none 0 0, .int .i64 5]) ∧ w = w') := by
  have FL := Lib.hid (pfail_nil w)
  go_enter Try.func40, Try.ntmps40
  go_wp2_with fail
  refine FL.out.mono ?_
  rintro e w' ⟨rfl, rfl⟩
  go_wp2_with fail
  go_ret2
  exact ⟨rfl, rfl⟩
set_option maxHeartbeats 1000000 in
set_option maxRecDepth 100000 in
theorem puint_nil (w : World) : Calls Try.prog 26 #[.pointer none] w (qPost (.tuple #[.int .u64 0, .int .i64 5]) w) := by
  have T := Lib.hid (ptake_nil w)
  go_enter Try.func26, Try.ntmps26
  go_wp2_with fail
  go_loopw [4, 5, 6, 7, 8] (fun _ _ _ _ _ wr => wr = w) (fun _ _ _ _ _ _ => 0)
  case atStart => rfl
  case round =>
    obtain rfl := hrel
    go_wp2_with fail
    refine (T.out _).mono ?_
    rintro e w' ⟨rfl, rfl⟩
    go_wp2_with fail
    go_ret2
    exact ⟨rfl, Below.refl _ _⟩
end Go.Proofs.Ytajeboigkpelgaa
