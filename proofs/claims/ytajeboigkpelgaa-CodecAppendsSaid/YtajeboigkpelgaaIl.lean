/- The reference's New. -/
import Derived.Test.YtajeboigkpelgaaIk
namespace Go.Proofs.Ytajeboigkpelgaa
open Go Go.RowKit
set_option linter.unusedVariables false
set_option linter.unusedSimpArgs false
def nPost (b : List Nat) (R : World → Nat → List Nat → Bool → (Nat → Prop) → Prop) (w : World) (e : Ending) (w' : World) : Prop :=
  ∃ S o, e = .returned (.pointer (some ⟨S, 0, none⟩)) ∧ R w' S b false o ∧ (∀ k, o k → w.heap.size ≤ k) ∧ Below w.heap.size w w'
/-- A value is returned, and below the new memory all is as it was. -/
def qPost (v : Value) (w : World) (e : Ending) (w' : World) : Prop := e = .returned v ∧ Below w.heap.size w w'
set_option maxHeartbeats 1000000 in
set_option maxRecDepth 100000 in
theorem rnew_any (v : Value) (b : List Nat) (w : World) (hb : Bs w v b) (hl : b.length ≤ 1000000) : Calls Try.prog 20 #[v] w (nPost b RdR w) := by
  have H := Lib.hid hb
  obtain ⟨A1, c1, e1⟩ := hb.form
  obtain ⟨m1, em⟩ : ∃ m, b.length = m := ⟨_, rfl⟩
  rw [em] at e1
  have E1 := Lib.hid e1
  have EM := Lib.hid em
  have ML := Lib.hid hl
  rw [e1]
  clear hb e1 em hl
  have MK := Lib.hid (OwB.made w (Nat.le_refl _))
  have HA := Lib.hid (show Bs (w.alloc (.cells #[] 5)) (.slice A1 m1 c1) b by rw [← E1.out]; exact H.out.alloc _)
  go_enter Try.func20, Try.ntmps20
  go_wp2_with (at_builtin; refine wp_app rfl (.tmp 3) (.tmp 4) rfl w.heap.size _ _ [] b rfl rfl MK.out HA.out (by have := ML.out; simp; omega) (by simp) ?_; intro x1 w1 hown1 hg1; have HO := Lib.hid (show OwB w1 w.heap.size x1 b from hown1); have HG := Lib.hid (((Below.refl w.heap.size w).alloc (Nat.le_refl _) (.cells #[] 5)).trans hg1); obtain ⟨A2, c2, rfl⟩ := hown1.bs.form; clear hown1 hg1)
  go_ret
  refine ⟨w1.heap.size, fun k => w.heap.size ≤ k ∧ k < (w1.alloc (.cells #[.slice A2 b.length c2, .bool false] 65)).heap.size, rfl, ⟨⟨HG.out.size, by simp⟩, fun k hk => hk.2, .slice A2 b.length c2, heap_alloc_new w1 _, HO.out.bs.alloc _, fun g hg => ?_⟩, fun k hk => hk.1, HG.out.alloc HG.out.size _⟩
  have := HO.out.own g hg
  refine ⟨⟨this.1, by simp; omega⟩, by omega⟩
end Go.Proofs.Ytajeboigkpelgaa
