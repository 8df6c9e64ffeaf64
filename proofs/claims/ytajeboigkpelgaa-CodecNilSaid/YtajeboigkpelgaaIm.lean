/- Layer 9: the examples of the document hold. -/
import Derived.Test.YtajeboigkpelgaaIp
import Derived.Test.YtajeboigkpelgaaGK
namespace Go.Proofs.Ytajeboigkpelgaa
open Go Go.RowKit
set_option linter.unusedVariables false
set_option linter.unusedSimpArgs false
theorem Cod.ex1 : Cod.dec 0 [128, 0] = none := by decide
theorem Cod.ex2 : [] ++ Cod.enc 300 ++ Cod.enc (Cod.zig (-1)) ++ Cod.enc [7, 8].length ++ [7, 8] = [172, 2, 1, 2, 7, 8] := by
  rw [Cod.enc_big (by decide : ¬ 300 < 128), Cod.enc_small (by decide : 300 / 128 < 128), show Cod.zig (-1) = 1 by decide, Cod.enc_small (by decide : 1 < 128), show [7, 8].length = 2 from rfl, Cod.enc_small (by decide : 2 < 128)]; rfl
theorem bs_two (w : World) (t : TypeId) (x y : Nat) (hx : x < 256) (hy : y < 256) : Bs (w.alloc (.cells #[.int .u8 (x : Int), .int .u8 (y : Int)] t)) (.slice (some ⟨w.heap.size, 0, none⟩) 2 2) [x, y] := by
  refine Bs.of_row (n := 2) (c := 2) (heap_alloc_new w _) rfl ⟨by decide, by decide⟩ (fun z hz => by simp at hz; omega) fun k hk => ?_
  match k, hk with
  | 0, _ => rfl
  | 1, _ => rfl
theorem bs_six (w : World) (t : TypeId) (a b c d e f : Nat) (h : a < 256 ∧ b < 256 ∧ c < 256 ∧ d < 256 ∧ e < 256 ∧ f < 256) : Bs (w.alloc (.cells #[.int .u8 (a : Int), .int .u8 (b : Int), .int .u8 (c : Int), .int .u8 (d : Int), .int .u8 (e : Int), .int .u8 (f : Int)] t)) (.slice (some ⟨w.heap.size, 0, none⟩) 6 6) [a, b, c, d, e, f] := by
  refine Bs.of_row (n := 6) (c := 6) (heap_alloc_new w _) rfl ⟨by decide, by decide⟩ (fun z hz => by simp at hz; omega) fun k hk => ?_
  match k, hk with
  | 0, _ => rfl
  | 1, _ => rfl
  | 2, _ => rfl
  | 3, _ => rfl
  | 4, _ => rfl
  | 5, _ => rfl
set_option maxHeartbeats 2000000 in
set_option maxRecDepth 100000 in
theorem awake9 (w : World) : Calls Try.prog 10 #[] w (qPost (.bool true) w) := by
  have N1 := Lib.hid (pnew_any _ [128, 0] _ (bs_two w 5 128 0 (by decide) (by decide)) (by decide))
  go_enter Try.func10, Try.ntmps10
  go_wp2_with fail
  refine N1.out.mono ?_
  rintro e w1 ⟨S, o, rfl, hr, ho, hb⟩
  have B1 := Lib.hid (((Below.refl w.heap.size w).alloc (Nat.le_refl _) (.cells #[.int .u8 128, .int .u8 0] 5)).trans (hb.mono (by simp)))
  have U := Lib.hid (puint_any S _ false o w1 hr (by decide))
  have O := Lib.hid (show ∀ k, o k → w.heap.size ≤ k from fun k hk => by have := ho k hk; simp at this; omega)
  clear hr ho hb N1
  go_wp2_with fail
  refine U.out.mono ?_
  unfold uPost
  rw [Cod.rU_none (bad := false) Cod.ex1]
  rintro e w2 ⟨rfl, -, hc⟩
  have B2 := Lib.hid (B1.out.trans (hc.below B1.out.size O.out))
  clear hc U O
  go_wp2_with fail
  refine (papu_any (.slice none 0 0) [] 300 w2 (Bs.nil_ _) (by decide) (by decide)).mono ?_
  rintro e w3 ⟨v3, rfl, h3, hb3⟩
  have B3 := Lib.hid (B2.out.trans (hb3.mono B2.out.size))
  have L3 := Lib.hid (show (([] : List Nat) ++ Cod.enc 300).length ≤ 10 by rw [List.nil_append]; exact Cod.enc_len10 (by decide))
  obtain ⟨l3, e3⟩ : ∃ l : List Nat, [] ++ Cod.enc 300 = l := ⟨_, rfl⟩
  rw [e3] at h3 L3
  have E3 := Lib.hid e3
  have H3 := Lib.hid h3.bs
  obtain ⟨A3, c3, rfl⟩ := h3.bs.form
  clear h3 hb3 e3
  go_wp2_with fail
  refine (papi_any _ _ (-1) w3 H3.out (by decide) (by decide) (by have := L3.out; omega)).mono ?_
  rintro e w4 ⟨v4, rfl, h4, hb4⟩
  have B4 := Lib.hid (B3.out.trans (hb4.mono B3.out.size))
  have L4 := Lib.hid (show (l3 ++ Cod.enc (Cod.zig (-1))).length ≤ 20 from by
    have := L3.out; have := Cod.enc_len10 (n := Cod.zig (-1)) (by decide); rw [List.length_append]; omega)
  obtain ⟨l4, e4⟩ : ∃ l : List Nat, l3 ++ Cod.enc (Cod.zig (-1)) = l := ⟨_, rfl⟩
  rw [e4] at h4 L4
  have E4 := Lib.hid e4
  have H4 := Lib.hid h4.bs
  obtain ⟨A4, c4, rfl⟩ := h4.bs.form
  clear h4 hb4 e4
  go_wp2_with fail
  have BA := Lib.hid ((Below.refl w4.heap.size w4).alloc (Nat.le_refl _) (.cells #[.int .u8 7, .int .u8 8] 5))
  refine (papb_any _ (.slice (some ⟨w4.heap.size, 0, none⟩) 2 2) _ [7, 8] _ (H4.out.below BA.out) (bs_two w4 5 7 8 (by decide) (by decide)) (by have := L4.out; omega) (by decide)).mono ?_
  rintro e w5 ⟨v5, rfl, h5, hb5⟩
  have B5 := Lib.hid ((B4.out.trans (BA.out.mono B4.out.size)).trans (hb5.mono (Nat.le_trans B4.out.size BA.out.size)))
  have H5 := Lib.hid (show Bs w5 v5 [172, 2, 1, 2, 7, 8] by rw [← Cod.ex2, E3.out, E4.out]; exact h5.bs)
  obtain ⟨A5, c5, e5⟩ := H5.out.form
  have e6 : v5 = .slice A5 6 c5 := e5
  clear h5 hb5 e5
  subst e6
  have k1 := fun o => conv_bs 22 5 9 Try.underlying22 Try.underlying5 Try.underlying9 (H5.out.alloc o)
  have k2 : (convert 22 9 (.slice (some ⟨w5.heap.size, 0, none⟩) 6 6)).run Try.prog (w5.alloc (.cells #[.int .u8 172, .int .u8 2, .int .u8 1, .int .u8 2, .int .u8 7, .int .u8 8] 5)) = .ok (.string (strOf [172, 2, 1, 2, 7, 8])) (w5.alloc (.cells #[.int .u8 172, .int .u8 2, .int .u8 1, .int .u8 2, .int .u8 7, .int .u8 8] 5)) := conv_bs 22 5 9 Try.underlying22 Try.underlying5 Try.underlying9 (bs_six w5 5 172 2 1 2 7 8 (by decide))
  have k3 := conv_bs 22 5 9 Try.underlying22 Try.underlying5 Try.underlying9 H5.out
  have E := Lib.hid (strOf_eq [172, 2, 1, 2, 7, 8] [172, 2, 1, 2, 7, 8] (by decide) (by decide))
  generalize strOf [172, 2, 1, 2, 7, 8] = q at *
  go_wp2_with fail
  go_ret
  exact ⟨congrArg (fun t => Ending.returned (.bool t)) rfl, B5.out.alloc B5.out.size _⟩
end Go.Proofs.Ytajeboigkpelgaa
