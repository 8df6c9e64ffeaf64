/- Contracts of the reference's AppendInt, AppendBytes, AppendBlock. -/
import Derived.Test.YtajeboigkpelgaaIb
import Derived.BigQuiet
import Derived.Lib.SliceRun
namespace Go.Proofs.Ytajeboigkpelgaa
open Go Go.RowKit
set_option linter.unusedVariables false
set_option linter.unusedSimpArgs false
set_option maxHeartbeats 1000000 in
set_option maxRecDepth 100000 in
theorem rapi_any (v : Value) (b : List Nat) (n : Int) (w : World) (hb : Bs w v b) (h1 : -(2 ^ 63) ≤ n) (h2 : n < 2 ^ 63) (hl : b.length ≤ 1000000) :
    Calls Try.prog 14 #[v, .int .i64 n] w (newB (b ++ Cod.enc (Cod.zig n)) w) := by
  have U := Lib.hid fun m (hm : m < 2 ^ 64) => rapu_any v b m w hb hm hl
  obtain ⟨A1, c1, rfl⟩ := hb.form
  clear hb
  generalize b.length = n1 at *
  by_cases h0 : 0 ≤ n
  · obtain ⟨m, rfl⟩ : ∃ m : Nat, n = (m : Int) := ⟨n.toNat, by omega⟩
    have ez : Cod.zig (m : Int) = 2 * m := by unfold Cod.zig; rw [if_pos h0]; omega
    rw [ez]
    have C := Lib.hid (U.out (2 * m) (by omega))
    clear ez U
    go_enter Try.func14, Try.ntmps14
    go_wp2_with fail
    refine C.out.mono ?_
    rintro e w1 ⟨x, rfl, ho, hbel⟩
    go_wp2_with fail
    go_ret
    exact ⟨_, rfl, ho, hbel⟩
  · obtain ⟨m, rfl⟩ : ∃ m : Nat, n = -(m : Int) - 1 := ⟨(-n - 1).toNat, by omega⟩
    have ez : Cod.zig (-(m : Int) - 1) = 2 * m + 1 := by unfold Cod.zig; rw [if_neg h0]; omega
    rw [ez]
    have C := Lib.hid (U.out (2 * m + 1) (by omega))
    clear ez U
    have hI : ¬ (0 : Int) ≤ -(m : Int) - 1 := h0
    have e1 : -(-(m : Int) - 1 + 1) = (m : Int) := by omega
    go_enter Try.func14, Try.ntmps14
    go_wp2_with fail
    refine C.out.mono ?_
    rintro e w1 ⟨x, rfl, ho, hbel⟩
    go_wp2_with fail
    go_ret
    exact ⟨_, rfl, ho, hbel⟩
set_option maxHeartbeats 1000000 in
set_option maxRecDepth 100000 in
theorem rapb_any (v u : Value) (b x : List Nat) (w : World) (hb : Bs w v b) (hx : Bs w u x) (hl : b.length ≤ 1000000) (hl2 : x.length ≤ 1000000) :
    Calls Try.prog 16 #[v, u] w (newB (b ++ Cod.enc x.length ++ x) w) := by
  have U := Lib.hid (rapu_any v b x.length w hb (by omega) hl)
  have HX := Lib.hid hx
  have LL := Lib.hid (And.intro hl hl2)
  have L10 := Lib.hid (Cod.enc_len10 (show x.length < 2 ^ 64 by omega))
  obtain ⟨A1, c1, e1⟩ := hb.form
  obtain ⟨A2, c2, e2⟩ := hx.form
  have E2 := Lib.hid e2
  rw [e1] at U
  rw [e1, e2]
  clear hb hx e1 e2
  obtain ⟨n1, hn1⟩ : ∃ n, b.length = n := ⟨_, rfl⟩
  obtain ⟨n2, hn2⟩ : ∃ n, x.length = n := ⟨_, rfl⟩
  have EN := Lib.hid (And.intro hn1 hn2)
  rw [hn1] at U hl ⊢
  rw [hn2] at U hl2 E2 L10 ⊢
  clear hn1 hn2
  go_enter Try.func16, Try.ntmps16
  go_wp2_with fail
  refine U.out.mono ?_
  rintro e w1 ⟨y, rfl, ho, hbel⟩
  have H1 := Lib.hid ho
  have S1 := Lib.hid (show Bs w1 (.slice A2 n2 c2) x by rw [← E2.out]; exact HX.out.below hbel)
  have B1 := Lib.hid hbel
  clear ho hbel
  go_wp2_with (at_builtin; refine wp_app rfl (.tmp 9) (.tmp 10) rfl w.heap.size y _ _ x rfl rfl H1.out S1.out (by have := EN.out; have := LL.out; have := L10.out; rw [List.length_append]; omega) B1.out.size ?_; intro x2 w2 hown2 hg2)
  go_ret
  exact ⟨x2, rfl, hown2, B1.out.trans hg2⟩
end Go.Proofs.Ytajeboigkpelgaa
