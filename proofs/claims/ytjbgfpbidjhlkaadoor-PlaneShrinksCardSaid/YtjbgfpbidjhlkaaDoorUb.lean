/- Contracts: dot, cross, normalized of a space. -/
import Derived.Test.YtjbgfpbidjhlkaaDoorUa
namespace Go.Proofs.YtjbgfpbidjhlkaaDoor
open Go Go.RowKit Pl
set_option linter.unusedVariables false

def dotTo (q : Nat) (l p : C3) : Nat → Nat
  | 0 => 0
  | k + 1 => Sf.addF q (dotTo q l p k) (Sf.mulF q (g3 l k) (g3 p k))
theorem dotTo_3 (q : Nat) (l p : C3) : dotTo q l p 3 = dot q l p := rfl
theorem g3_lt {q : Nat} {c : C3} (h : El q c) {k : Nat} (hk : k < 3) : g3 c k < q := by
  rcases (show k = 0 ∨ k = 1 ∨ k = 2 by omega) with rfl | rfl | rfl
  · exact h.1
  · exact h.2.1
  · exact h.2.2
theorem dotTo_lt {q : Nat} {l p : C3} (hq : q ∈ szs) (hl : El q l) (hp : El q p) : ∀ k, k ≤ 3 → dotTo q l p k < q
  | 0, _ => by have := (szs_ok hq).2.1; rw [dotTo]; omega
  | k + 1, hk => Sf.add_lt (szs_ok hq).1 (dotTo_lt hq hl hp k (by omega)) (Sf.mul_lt (szs_ok hq).1 (g3_lt hl (by omega)) (g3_lt hp (by omega)))
theorem At3.at_ {w : World} {b o : Nat} {c : C3} (h : At3 w b o c) {k : Nat} (hk : k < 3) : w.cell? ⟨b, o + k, none⟩ = some (.int .i64 (g3 c k : Nat)) := by
  rcases (show k = 0 ∨ k = 1 ∨ k = 2 by omega) with rfl | rfl | rfl
  · exact h.c0
  · exact h.c1
  · exact h.c2

set_option maxHeartbeats 4000000 in
set_option maxRecDepth 100000 in
theorem dot_any (q S : Nat) (u : Value) (l p : C3) (w : World) (hq : q ∈ szs) (h : Fs w S u q) (hl : El q l) (hp : El q p) :
    Calls Tryd.prog 24 #[.pointer (some ⟨S, 0, none⟩), .agg (ka l), .agg (ka p)] w (bel (.int .i64 (dot q l p : Nat)) w) := by
  have QS := Lib.hid (szs_ok hq).1
  obtain ⟨B, hB⟩ : ∃ B, w.heap.size = B := ⟨_, rfl⟩
  have b1 : Below w.heap.size w ((w.alloc (.cells (ka l) 53)).alloc (.cells (ka p) 53)) := ((Below.refl w.heap.size w).alloc (Nat.le_refl _) _).alloc (by simp) _
  have r1 : At3 ((w.alloc (.cells (ka l) 53)).alloc (.cells (ka p) 53)) B 0 l := by
    subst hB; exact ((row_new' w _ _).at3).to ((Below.refl _ _).alloc (Nat.le_refl _) _)
  have r2 : At3 ((w.alloc (.cells (ka l) 53)).alloc (.cells (ka p) 53)) (B + 1) 0 p := by
    have := (row_new' (w.alloc (.cells (ka l) 53)) (ka p) 53).at3
    rwa [World.size_alloc, hB] at this
  have F1 := Lib.hid (h.to b1)
  have KI := Lib.hid (g3_at l)
  have SI := Lib.hid (si3 l)
  have LG := Lib.hid (fun k (hk : k < 3) => g3_lt hl hk)
  have PG := Lib.hid (fun k (hk : k < 3) => g3_lt hp hk)
  have DL := Lib.hid (fun k (hk : k ≤ 3) => dotTo_lt hq hl hp k hk)
  have D1 : Hid (∀ k, dotTo q l p (k + 1) = Sf.addF q (dotTo q l p k) (Sf.mulF q (g3 l k) (g3 p k))) := Lib.hid fun k => rfl
  have D0 : Hid (dotTo q l p 0 = 0) := Lib.hid rfl
  rw [← dotTo_3]
  have R1 : Hid (World.rangeAt _ w.heap.size 0 (kl l)) := Lib.hid (by rw [hB]; exact r1)
  have B1 := Lib.hid b1
  have R2 := Lib.hid r2
  have HB := Lib.hid hB
  clear r1 r2 b1 h hl hp hq hB
  obtain ⟨d, hd⟩ : ∃ d, dotTo q l p = d := ⟨_, rfl⟩
  obtain ⟨f, hf⟩ : ∃ f, g3 l = f := ⟨_, rfl⟩
  obtain ⟨C, hC⟩ : ∃ C, kl l = C := ⟨_, rfl⟩
  obtain ⟨D, hD⟩ : ∃ D, ka l = D := ⟨_, rfl⟩
  obtain ⟨E, hE⟩ : ∃ E, ka p = E := ⟨_, rfl⟩
  rw [hf, hC] at KI
  rw [hf] at LG
  rw [hd] at DL D0
  rw [hd, hf] at D1
  rw [hC] at SI
  rw [hC, hD, hE] at R1
  rw [hD, hE] at R2 B1 F1
  rw [hd, hD, hE]
  clear hf hC hD hE hd
  go_enter Tryd.func24, Tryd.ntmps24
  go_wp2_with (refine wpList_load_mid rfl _ _ rfl w.heap.size 0 rfl C _ R1.out Tryd.underlying53 rfl SI.out ?_)
  rw [HB.out]
  obtain ⟨w1, hw1⟩ : ∃ w1, (w.alloc (.cells D 53)).alloc (.cells E 53) = w1 := ⟨_, rfl⟩
  rw [hw1] at R2 B1 F1 ⊢
  clear R1 hw1
  go_loopw [7, 8, 9, 11] (fun s _ _ k wr => ∃ k' : Nat, k' ≤ 3 ∧ k = .int .i64 (k' : Int) ∧ s = .int .i64 (d k' : Nat) ∧ Hid (Below w.heap.size w wr ∧ Fs wr S u q ∧ At3 wr (B + 1) 0 p)) (fun _ _ _ k _ => 3 - (intOf k).toNat)
  case atStart => exact ⟨0, by omega, rfl, by rw [D0.out]; rfl, Lib.hid ⟨B1.out, F1.out, R2.out⟩⟩
  case round =>
    obtain ⟨k, hk, rfl, rfl, H⟩ := hrel
    by_cases hlt : k < 3
    · have hkI : (k : Int) < 3 := by omega
      have hidx := KI.out k hlt
      have hpt := H.out.2.2.at_ hlt
      rw [Nat.zero_add] at hpt
      obtain ⟨x, hx⟩ : ∃ x, f k = x := ⟨_, rfl⟩
      obtain ⟨y, hy⟩ : ∃ y, g3 p k = y := ⟨_, rfl⟩
      have xq : x < q := hx ▸ LG.out k hlt
      have yq : y < q := hy ▸ PG.out k hlt
      have E := D1.out k
      rw [hx, hy] at E
      have zq := DL.out k hk
      obtain ⟨z, hz⟩ : ∃ z, d k = z := ⟨_, rfl⟩
      obtain ⟨m, hm⟩ : ∃ m, Sf.mulF q x y = m := ⟨_, rfl⟩
      have mq : m < q := hm ▸ Sf.mul_lt QS.out xq yq
      obtain ⟨t, ht⟩ : ∃ t, Sf.addF q z m = t := ⟨_, rfl⟩
      rw [hz, hm, ht] at E
      rw [hz] at zq
      have E := Lib.hid E
      have CU := H.out.2.1.1
      have MM := fun n => Lib.hid (hm ▸ mul_ok q x y u (wr.drewN n) QS.out (H.out.2.1.2.to (below_drewN (Below.refl wr.heap.size wr) n)) xq yq)
      have MA := fun n => Lib.hid (ht ▸ add_ok q z m u (wr.drewN n) QS.out (H.out.2.1.2.to (below_drewN (Below.refl wr.heap.size wr) n)) zq mq)
      have MM' := Lib.hid MM
      have MA' := Lib.hid MA
      have H2 : Hid (∀ n, Below w.heap.size w (wr.drewN n) ∧ Fs (wr.drewN n) S u q ∧ At3 (wr.drewN n) (B + 1) 0 p) := Lib.hid fun n => ⟨below_drewN H.out.1 n, H.out.2.1.to (below_drewN (Below.refl wr.heap.size wr) n), H.out.2.2.to (below_drewN (Below.refl wr.heap.size wr) n)⟩
      rw [hy] at hpt
      rw [hx] at hidx
      rw [hz]
      clear MM MA H hx hy hm ht hz xq yq zq mq
      go_wp2_with fail
      go_quiet (first
        | (go_at_call 33; refine Calls.quiet_of_same ((MM'.out _).out.mono fun _ _ h => ⟨h.1, h.2⟩))
        | (go_at_call 32; refine Calls.quiet_of_same ((MA'.out _).out.mono fun _ _ h => ⟨h.1, h.2⟩)))
      go_wp2_with fail
      go_roundw
      case rel => exact ⟨k + 1, by omega, by go_num, by rw [E.out], H2.out nq⟩
      case measure => simp [intOf]; omega
    · obtain rfl : k = 3 := by omega
      have HB3 := Lib.hid H.out.1
      clear H
      go_wp2_with fail
      go_ret
      exact ⟨rfl, HB3.out⟩
end Go.Proofs.YtjbgfpbidjhlkaaDoor
