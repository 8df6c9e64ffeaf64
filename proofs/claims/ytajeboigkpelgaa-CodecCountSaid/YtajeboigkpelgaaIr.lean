/- Layer 9: the walk of CodecCount. -/
import Derived.Test.YtajeboigkpelgaaIq
namespace Go.Proofs.Ytajeboigkpelgaa
open Go Go.RowKit
set_option linter.unusedVariables false
set_option linter.unusedSimpArgs false
theorem Cod.enc_1 : Cod.enc 1 = [1] := Cod.enc_small (by decide)
theorem Cod.dec_1 : Cod.dec 0 [1] = some (1, []) := by decide
theorem Cod.dec_nil : Cod.dec 0 [] = none := by decide
set_option maxHeartbeats 4000000 in
set_option maxRecDepth 100000 in
theorem countlaw_neg (n : Nat) (most : Int) (w : World) (h : most < 0) :
    Calls Try.prog 7 #[.int .u64 (n : Int), .int .i64 most] w (lawPost w) := by
  go_enter Try.func7, Try.ntmps7
  go_wp2_with fail
  refine (awake9 w).mono ?_
  rintro e w1 ⟨rfl, hbel⟩
  have B1 := Lib.hid hbel
  clear hbel
  go_wp2_with fail
  go_ret
  exact ⟨rfl, B1.out⟩
set_option maxHeartbeats 4000000 in
set_option maxRecDepth 100000 in
theorem countlaw_main (n m : Nat) (w : World) (hn : n < 2 ^ 64) (hm : m < 2 ^ 63) :
    Calls Try.prog 7 #[.int .u64 (n : Int), .int .i64 (m : Int)] w (lawPost w) := by
  have m63 : m ≤ 9223372036854775807 := by omega
  have g0 : ¬ (m : Int) < 0 := by omega
  have N64 := Lib.hid hn
  have M63 := Lib.hid hm
  have L10 := Lib.hid (Cod.enc_len10 hn)
  have DE := Lib.hid (Cod.dec_enc0 hn [1])
  clear hm
  go_enter Try.func7, Try.ntmps7
  go_wp2_with fail
  refine (awake9 w).mono ?_
  rintro e w1 ⟨rfl, hbel⟩
  have B1 := Lib.hid hbel
  clear hbel
  go_wp2_with fail
  refine (papu_any (.slice none 0 0) [] n w1 (Bs.nil_ _) N64.out (by decide)).mono ?_
  rintro e w2 ⟨v2, rfl, h2, hbel⟩
  rw [List.nil_append] at h2
  have B2 := Lib.hid (B1.out.trans (hbel.mono B1.out.size))
  have E2 := Lib.hid h2.bs
  obtain ⟨A2, c2, rfl⟩ := h2.bs.form
  clear h2 hbel
  go_wp2_with fail
  refine (papu_any _ _ 1 w2 E2.out (by decide) (by have := L10.out; omega)).mono ?_
  rintro e w3 ⟨v3, rfl, h3, hbel⟩
  rw [Cod.enc_1] at h3
  have B3 := Lib.hid (B2.out.trans (hbel.mono B2.out.size))
  have L3 := Lib.hid (show (Cod.enc n ++ [1]).length ≤ 11 by rw [List.length_append]; have := L10.out; simp only [List.length_singleton]; omega)
  obtain ⟨l3, e3⟩ : ∃ l : List Nat, Cod.enc n ++ [1] = l := ⟨_, rfl⟩
  rw [e3] at h3 L3 DE
  have E3 := Lib.hid h3.bs
  obtain ⟨A3, c3, rfl⟩ := h3.bs.form
  clear h3 hbel e3
  go_wp2_with fail
  refine (pnew_any _ l3 w3 E3.out (by have := L3.out; omega)).mono ?_
  rintro e w4 ⟨S, o, rfl, hr, ho, hbel⟩
  have B4 := Lib.hid (B3.out.trans (hbel.mono B3.out.size))
  have O4 := Lib.hid (show ∀ k, o k → w.heap.size ≤ k from fun k hk => Nat.le_trans B3.out.size (ho k hk))
  have P4 := Lib.hid hr
  clear hr ho hbel
  go_wp2_with fail
  have CT := Lib.hid (pcount_any S l3 false o w4 P4.out (by have := L3.out; omega) (m : Int) (by omega) (by have := M63.out; omega))
  unfold cPost at CT
  by_cases hle : n ≤ m
  · rw [Cod.rC_in (most := m) (bad := false) DE.out (by omega)] at CT
    have hI : (n : Int) ≤ (m : Int) := by omega
    have hI' : decide ((n : Int) ≤ (m : Int)) = true := decide_eq_true hI
    refine CT.out.mono ?_
    rintro e w5 ⟨rfl, hr, hc⟩
    have B5 := Lib.hid (B4.out.trans (hc.below B4.out.size O4.out))
    have U := Lib.hid (puint_any S [1] false o w5 hr (by decide))
    clear hr hc
    unfold uPost at U
    rw [Cod.rU_some (bad := false) Cod.dec_1] at U
    go_wp2_with fail
    refine U.out.mono ?_
    rintro e w6 ⟨rfl, hr, hc⟩
    have B6 := Lib.hid (B5.out.trans (hc.below B5.out.size O4.out))
    have P6 := Lib.hid hr
    clear hr hc U
    have cz : IntKind.u64.wrap (n : Int) = (n : Int) := by rw [IntKind.wrap_u64]; omega
    have cm : IntKind.u64.wrap (m : Int) = (m : Int) := by rw [IntKind.wrap_u64]; omega
    go_wp2_with fail
    have DN := Lib.hid (pdone_any S [] false o w6 P6.out (by decide))
    refine DN.out.mono ?_
    rintro e w7 ⟨rfl, hbel⟩
    have B7 := Lib.hid (B6.out.trans (hbel.mono B6.out.size))
    clear hbel DN
    go_wp2_with fail
    go_ret
    exact ⟨rfl, B7.out⟩
  · rw [Cod.rC_out (most := m) (bad := false) DE.out (by omega)] at CT
    have hI : ¬ (n : Int) ≤ (m : Int) := by omega
    have hI' : decide ((n : Int) ≤ (m : Int)) = false := decide_eq_false hI
    refine CT.out.mono ?_
    rintro e w5 ⟨rfl, hr, hc⟩
    have B5 := Lib.hid (B4.out.trans (hc.below B4.out.size O4.out))
    have U := Lib.hid (puint_any S [] true o w5 hr (by decide))
    clear hr hc
    unfold uPost at U
    rw [Cod.rU_none (bad := true) Cod.dec_nil] at U
    go_wp2_with fail
    refine U.out.mono ?_
    rintro e w6 ⟨rfl, hr, hc⟩
    have B6 := Lib.hid (B5.out.trans (hc.below B5.out.size O4.out))
    have P6 := Lib.hid hr
    clear hr hc U
    go_wp2_with fail
    have LF := Lib.hid (pleft_any S [] true o w6 P6.out (by decide))
    refine LF.out.mono ?_
    rintro e w7 ⟨rfl, hbel⟩
    have B7 := Lib.hid (B6.out.trans (hbel.mono B6.out.size))
    have P7 := Lib.hid (P6.out.below hbel)
    clear hbel LF
    go_wp2_with fail
    have DN := Lib.hid (pdone_any S [] true o w7 P7.out (by decide))
    refine DN.out.mono ?_
    rintro e w8 ⟨rfl, hbel⟩
    have B8 := Lib.hid (B7.out.trans (hbel.mono B7.out.size))
    clear hbel DN
    go_wp2_with fail
    go_ret
    exact ⟨rfl, B8.out⟩
theorem countlaw_walk (n : Nat) (most : Int) (w : World) (hn : n < 2 ^ 64) (hm : (Lit.int .i64 most).wf = true) :
    Calls Try.prog 7 #[.int .u64 (n : Int), .int .i64 most] w (lawPost w) := by
  have h := bounds_i64 hm
  by_cases h0 : most < 0
  · exact countlaw_neg n most w h0
  · obtain ⟨m, rfl⟩ : ∃ m : Nat, most = (m : Int) := ⟨most.toNat, by omega⟩
    exact countlaw_main n m w hn (by omega)
end Go.Proofs.Ytajeboigkpelgaa
