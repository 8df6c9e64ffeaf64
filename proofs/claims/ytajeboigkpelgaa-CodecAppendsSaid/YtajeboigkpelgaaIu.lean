/- Layer 9: the walk of CodecAppends. WRITTEN BY gen_Iu.py. -/
import Derived.Test.YtajeboigkpelgaaIt
import Derived.Test.YtajeboigkpelgaaRu
import Derived.Deep.RegionHeld3
namespace Go.Proofs.Ytajeboigkpelgaa
open Go Go.RowKit
set_option linter.unusedVariables false
set_option linter.unusedSimpArgs false
/-- The cells of a value of every kind. -/
def vcs (n : Nat) (x : Int) (s : Value) (k : List Nat) : Array Value := (Value.int .u64 (n : Int) :: Value.int .i64 x :: s :: k.map bv).toArray
theorem vcs_0 (n : Nat) (x : Int) (s : Value) (k : List Nat) : (vcs n x s k)[0]? = some (.int .u64 (n : Int)) := rfl
theorem vcs_1 (n : Nat) (x : Int) (s : Value) (k : List Nat) : (vcs n x s k)[1]? = some (.int .i64 x) := rfl
theorem vcs_2 (n : Nat) (x : Int) (s : Value) (k : List Nat) : (vcs n x s k)[2]? = some s := rfl
theorem vcs_k {w : World} {g : Nat} {t : TypeId} {n : Nat} {x : Int} {s : Value} {k : List Nat} (h : Row w g t (vcs n x s k)) : w.rangeAt g 3 (k.map bv) := fun j v hv => by
  rw [h.cell]
  show (Value.int .u64 (n : Int) :: Value.int .i64 x :: s :: k.map bv).toArray[3 + j]? = _
  rw [List.getElem?_toArray, Nat.add_comm]; exact hv

set_option maxHeartbeats 4000000 in
set_option maxRecDepth 100000 in
theorem applaw_main (v s : Value) (b l k : List Nat) (n : Nat) (x : Int) (w : World) (hb : Bs w v b) (hs : Bs w s l) (hn : n < 2 ^ 64) (hx : -(2 ^ 63) ≤ x ∧ x < 2 ^ 63) (hk : E8 k) (h50 : b.length ≤ 50) (h100 : l.length ≤ 100) : Calls Try.prog 3 #[v, .agg (vcs n x s k)] w (lawPost w) := by
  have H0 := Lib.hid hb
  have H1 := Lib.hid hs
  obtain ⟨A0, c0, e0⟩ := hb.form
  obtain ⟨A1, c1, e1⟩ := hs.form
  obtain ⟨n0, en0⟩ : ∃ n, b.length = n := ⟨_, rfl⟩
  obtain ⟨n1, en1⟩ : ∃ n, l.length = n := ⟨_, rfl⟩
  have EN := Lib.hid (And.intro en0 en1)
  rw [en0] at e0 h50
  rw [en1] at e1 h100
  have N64 := Lib.hid hn
  have XI := Lib.hid hx
  have K8 := Lib.hid hk
  have g0 : decide ((50 : Int) < (n0 : Int)) = false := decide_eq_false (by omega)
  have g1 : decide ((100 : Int) < (n1 : Int)) = false := decide_eq_false (by omega)
  have LL := Lib.hid (And.intro h50 h100)
  have F0 := Lib.hid (show Bs w (.slice A0 n0 c0) b by rw [← e0]; exact H0.out)
  have F1 := Lib.hid (show Bs w (.slice A1 n1 c1) l by rw [← e1]; exact H1.out)
  rw [e0, e1]
  obtain ⟨B0, hB0⟩ : ∃ B, w.heap.size = B := ⟨_, rfl⟩
  obtain ⟨W0, hW0⟩ : ∃ W, w.alloc (.cells (vcs n x (.slice A1 n1 c1) k) 27) = W := ⟨_, rfl⟩
  have BW : Below w.heap.size w W0 := by subst hW0; exact (Below.refl _ _).alloc (Nat.le_refl _) _
  have RW0 : Hid (Row W0 B0 27 (vcs n x (.slice A1 n1 c1) k)) := Lib.hid (by subst hW0; exact rw_new w _ _ hB0)
  have HB0 := Lib.hid hB0
  have HW0 := Lib.hid hW0
  clear hb hs e0 e1 en0 en1 hn hx hk hB0 hW0 H0 H1
  go_enter Try.func3, Try.ntmps3
  go_wp2_with (first | rw [HB0.out] | rw [HW0.out])
  have F0_1 := Lib.hid (Bs.below F0.out (BW))
  have F1_2 := Lib.hid (Bs.below F1.out (BW))
  have hl3 := BW
  have HT_4 : Hid (Below w.heap.size w W0) := Lib.hid (hl3)
  clear BW
  refine (awake9 W0).mono ?_
  rintro e w1 ⟨rfl, hb5⟩
  have F0_6 := Lib.hid (Bs.below F0_1.out (hb5))
  have F1_7 := Lib.hid (Bs.below F1_2.out (hb5))
  have R_8 := Lib.hid (rw_fw RW0.out (hb5))
  have hl9 := hb5
  have HT_10 : Hid (Below w.heap.size w w1) := Lib.hid (HT_4.out.trans ((hl9).mono HT_4.out.size))
  clear hb5 
  have hcv := (R_8.out).cell 2
  rw [vcs_2] at hcv
  have kb := conv_bs 22 5 9 Try.underlying22 Try.underlying5 Try.underlying9 F0_6.out
  obtain ⟨tb, htb⟩ : ∃ t, strOf b = t := ⟨_, rfl⟩
  have TB := Lib.hid htb
  rw [htb] at kb
  clear htb
  go_wp2_with fail
  clear hcv kb
  refine wp_region_held (P := Try.prog) (S := (fun w' : World => Below w1.heap.size w1 w')) rfl ?_
  change wpAnyH _ _ _ _ _ _ _ _ w1.drew
  have hz12 : Below w1.heap.size w1 w1.drew := (Below.refl w1.heap.size w1).drew
  generalize w1.drew = wz11 at hz12 ⊢
  have F0_13 := Lib.hid (Bs.below F0_6.out (hz12))
  have F1_14 := Lib.hid (Bs.below F1_7.out (hz12))
  have R_15 := Lib.hid (rw_fw R_8.out (hz12))
  have hl16 := hz12
  have HT_17 : Hid (Below w.heap.size w wz11) := Lib.hid (HT_10.out.trans ((hl16).mono HT_10.out.size))
  refine wpAnyH_up (S' := (fun w' : World => Below wz11.heap.size wz11 w')) (fun w' h => hz12.trans (h.mono hz12.size)) ?_
  have hS18 : (fun w' : World => Below wz11.heap.size wz11 w') wz11 := Below.refl _ _
  refine takeD (i := 0) (v := .slice A0 n0 c0) (some 19) rfl rfl (by kernel_rfl) (by kernel_rfl) (by kernel_rfl) (fun _ _ _ h => h) (Or.inl ⟨by rfl, by rintro w' -; go_simp⟩) hS18 ?_
  simp only [Act.put, List.setIfInBounds_toArray, List.set_cons_zero, List.set_cons_succ]
  refine takeD (i := 1) (v := .pointer (some ⟨B0, 0, none⟩)) (some 20) rfl rfl (by kernel_rfl) (by kernel_rfl) (by kernel_rfl) (fun _ _ _ h => h) (Or.inl ⟨by rfl, by rintro w' -; go_simp⟩) hS18 ?_
  simp only [Act.put, List.setIfInBounds_toArray, List.set_cons_zero, List.set_cons_succ]
  refine takeD (i := 2) (v := .int .u64 (n : Int)) (some 21) rfl rfl (by kernel_rfl) (by kernel_rfl) (by kernel_rfl) (fun _ _ _ h => h) (Or.inl ⟨by rfl, by rintro w' h; have hc := (h.cell (p := ⟨B0, 0, none⟩) (R_15.out).lt).trans ((R_15.out).cell 0); simp only [vcs_0] at hc; go_simp⟩) hS18 ?_
  simp only [Act.put, List.setIfInBounds_toArray, List.set_cons_zero, List.set_cons_succ]
  refine takeD (i := 5) (v := .slice A0 n0 c0) (some 24) rfl rfl (by kernel_rfl) (by kernel_rfl) (by kernel_rfl) (fun _ _ _ h => h) (Or.inl ⟨by rfl, by rintro w' -; go_simp⟩) hS18 ?_
  simp only [Act.put, List.setIfInBounds_toArray, List.set_cons_zero, List.set_cons_succ]
  refine takeD (i := 6) (v := .pointer (some ⟨B0, 0, none⟩)) (some 25) rfl rfl (by kernel_rfl) (by kernel_rfl) (by kernel_rfl) (fun _ _ _ h => h) (Or.inl ⟨by rfl, by rintro w' -; go_simp⟩) hS18 ?_
  simp only [Act.put, List.setIfInBounds_toArray, List.set_cons_zero, List.set_cons_succ]
  refine takeD (i := 7) (v := .int .u64 (n : Int)) (some 26) rfl rfl (by kernel_rfl) (by kernel_rfl) (by kernel_rfl) (fun _ _ _ h => h) (Or.inl ⟨by rfl, by rintro w' h; have hc := (h.cell (p := ⟨B0, 0, none⟩) (R_15.out).lt).trans ((R_15.out).cell 0); simp only [vcs_0] at hc; go_simp⟩) hS18 ?_
  simp only [Act.put, List.setIfInBounds_toArray, List.set_cons_zero, List.set_cons_succ]
  refine wpAnyH_ready (rs := [3]) (by kernel_rfl) (by simp) ?_
  refine AllReadyH.cons rfl (fun K19 hK19 => ?_) AllReadyH.nil
  have HK19 := Lib.hid hK19
  clear hK19
  rw [if_pos (by rfl)]
  go_simp
  refine (papu_any (.slice A0 n0 c0) b n _ F0_13.out N64.out (by have := EN.out; have := LL.out; omega)).mono ?_
  rintro e x20 ⟨v22, rfl, hn22, hb21⟩
  have F0_23 := Lib.hid (Bs.below F0_13.out (hb21))
  have F1_24 := Lib.hid (Bs.below F1_14.out (hb21))
  have R_25 := Lib.hid (rw_fw R_15.out (hb21))
  have hl26 := hb21
  have HT_27 : Hid (Below w.heap.size w x20) := Lib.hid (HT_17.out.trans ((hl26).mono HT_17.out.size))
  have fpu_28 := Lib.hid ((hn22).bs)
  clear hb21 hn22
  have hb30 : Below wz11.heap.size wz11 x20 := hl26
  have hS29 : (fun w' : World => Below wz11.heap.size wz11 w') x20 := hb30
  refine HK19.out _ _ hS29 fun _ => ?_
  try simp only [Act.put, List.setIfInBounds_toArray, List.set_cons_zero, List.set_cons_succ]
  refine wpAnyH_up (S' := (fun w' : World => Below x20.heap.size x20 w')) (fun w' h => hb30.trans (h.mono hb30.size)) ?_
  have hS31 : (fun w' : World => Below x20.heap.size x20 w') x20 := Below.refl _ _
  refine takeD (i := 4) (v := .string (strOf (b ++ Cod.enc n))) (some 23) rfl rfl (by kernel_rfl) (by kernel_rfl) (by kernel_rfl) (fun _ _ _ h => h) (Or.inl ⟨by rfl, by rintro w' h; have hc := conv_bs 22 5 9 Try.underlying22 Try.underlying5 Try.underlying9 ((fpu_28.out).below h); go_simp⟩) hS31 ?_
  simp only [Act.put, List.setIfInBounds_toArray, List.set_cons_zero, List.set_cons_succ]
  refine wpAnyH_ready (rs := [8]) (by kernel_rfl) (by simp) ?_
  refine AllReadyH.cons rfl (fun K32 hK32 => ?_) AllReadyH.nil
  have HK32 := Lib.hid hK32
  clear hK32
  rw [if_pos (by rfl)]
  go_simp
  refine (rapu_any (.slice A0 n0 c0) b n _ F0_23.out N64.out (by have := EN.out; have := LL.out; omega)).mono ?_
  rintro e x33 ⟨v27, rfl, hn35, hb34⟩
  have F0_36 := Lib.hid (Bs.below F0_23.out (hb34))
  have F1_37 := Lib.hid (Bs.below F1_24.out (hb34))
  have R_38 := Lib.hid (rw_fw R_25.out (hb34))
  have fpu_39 := Lib.hid (Bs.below fpu_28.out (hb34))
  have hl40 := hb34
  have HT_41 : Hid (Below w.heap.size w x33) := Lib.hid (HT_27.out.trans ((hl40).mono HT_27.out.size))
  have fru_42 := Lib.hid ((hn35).bs)
  clear hb34 hn35
  have hb44 : Below x20.heap.size x20 x33 := hl40
  have hS43 : (fun w' : World => Below x20.heap.size x20 w') x33 := hb44
  refine HK32.out _ _ hS43 fun _ => ?_
  try simp only [Act.put, List.setIfInBounds_toArray, List.set_cons_zero, List.set_cons_succ]
  refine wpAnyH_up (S' := (fun w' : World => Below x33.heap.size x33 w')) (fun w' h => hb44.trans (h.mono hb44.size)) ?_
  have hS45 : (fun w' : World => Below x33.heap.size x33 w') x33 := Below.refl _ _
  refine takeD (i := 9) (v := .string (strOf (b ++ Cod.enc n))) (some 28) rfl rfl (by kernel_rfl) (by kernel_rfl) (by kernel_rfl) (fun _ _ _ h => h) (Or.inl ⟨by rfl, by rintro w' h; have hc := conv_bs 22 5 9 Try.underlying22 Try.underlying5 Try.underlying9 ((fru_42.out).below h); go_simp⟩) hS45 ?_
  simp only [Act.put, List.setIfInBounds_toArray, List.set_cons_zero, List.set_cons_succ]
  refine takeD (i := 10) (v := .bool true) (some 29) rfl rfl (by kernel_rfl) (by kernel_rfl) (by kernel_rfl) (fun _ _ _ h => h) (Or.inl ⟨by rfl, by rintro w' -; go_simp⟩) hS45 ?_
  simp only [Act.put, List.setIfInBounds_toArray, List.set_cons_zero, List.set_cons_succ]
  refine takeD (i := 11) (v := .bool true) (some 30) rfl rfl (by kernel_rfl) (by kernel_rfl) (by kernel_rfl) (fun _ _ _ h => h) (Or.inl ⟨by rfl, by rintro w' -; go_simp⟩) hS45 ?_
  simp only [Act.put, List.setIfInBounds_toArray, List.set_cons_zero, List.set_cons_succ]
  refine takeD (i := 12) (v := .slice A0 n0 c0) (some 31) rfl rfl (by kernel_rfl) (by kernel_rfl) (by kernel_rfl) (fun _ _ _ h => h) (Or.inl ⟨by rfl, by rintro w' -; go_simp⟩) hS45 ?_
  simp only [Act.put, List.setIfInBounds_toArray, List.set_cons_zero, List.set_cons_succ]
  refine takeD (i := 13) (v := .pointer (some ⟨B0, 1, none⟩)) (some 32) rfl rfl (by kernel_rfl) (by kernel_rfl) (by kernel_rfl) (fun _ _ _ h => h) (Or.inl ⟨by rfl, by rintro w' -; go_simp⟩) hS45 ?_
  simp only [Act.put, List.setIfInBounds_toArray, List.set_cons_zero, List.set_cons_succ]
  refine takeD (i := 14) (v := .int .i64 x) (some 33) rfl rfl (by kernel_rfl) (by kernel_rfl) (by kernel_rfl) (fun _ _ _ h => h) (Or.inl ⟨by rfl, by rintro w' h; have hc := (h.cell (p := ⟨B0, 1, none⟩) (R_38.out).lt).trans ((R_38.out).cell 1); simp only [vcs_1] at hc; go_simp⟩) hS45 ?_
  simp only [Act.put, List.setIfInBounds_toArray, List.set_cons_zero, List.set_cons_succ]
  refine takeD (i := 17) (v := .slice A0 n0 c0) (some 36) rfl rfl (by kernel_rfl) (by kernel_rfl) (by kernel_rfl) (fun _ _ _ h => h) (Or.inl ⟨by rfl, by rintro w' -; go_simp⟩) hS45 ?_
  simp only [Act.put, List.setIfInBounds_toArray, List.set_cons_zero, List.set_cons_succ]
  refine takeD (i := 18) (v := .pointer (some ⟨B0, 1, none⟩)) (some 37) rfl rfl (by kernel_rfl) (by kernel_rfl) (by kernel_rfl) (fun _ _ _ h => h) (Or.inl ⟨by rfl, by rintro w' -; go_simp⟩) hS45 ?_
  simp only [Act.put, List.setIfInBounds_toArray, List.set_cons_zero, List.set_cons_succ]
  refine takeD (i := 19) (v := .int .i64 x) (some 38) rfl rfl (by kernel_rfl) (by kernel_rfl) (by kernel_rfl) (fun _ _ _ h => h) (Or.inl ⟨by rfl, by rintro w' h; have hc := (h.cell (p := ⟨B0, 1, none⟩) (R_38.out).lt).trans ((R_38.out).cell 1); simp only [vcs_1] at hc; go_simp⟩) hS45 ?_
  simp only [Act.put, List.setIfInBounds_toArray, List.set_cons_zero, List.set_cons_succ]
  refine wpAnyH_ready (rs := [15]) (by kernel_rfl) (by simp) ?_
  refine AllReadyH.cons rfl (fun K46 hK46 => ?_) AllReadyH.nil
  have HK46 := Lib.hid hK46
  clear hK46
  rw [if_pos (by rfl)]
  go_simp
  refine (papi_any (.slice A0 n0 c0) b x _ F0_36.out XI.out.1 XI.out.2 (by have := EN.out; have := LL.out; omega)).mono ?_
  rintro e x47 ⟨v34, rfl, hn49, hb48⟩
  have F0_50 := Lib.hid (Bs.below F0_36.out (hb48))
  have F1_51 := Lib.hid (Bs.below F1_37.out (hb48))
  have R_52 := Lib.hid (rw_fw R_38.out (hb48))
  have fpu_53 := Lib.hid (Bs.below fpu_39.out (hb48))
  have fru_54 := Lib.hid (Bs.below fru_42.out (hb48))
  have hl55 := hb48
  have HT_56 : Hid (Below w.heap.size w x47) := Lib.hid (HT_41.out.trans ((hl55).mono HT_41.out.size))
  have fpi_57 := Lib.hid ((hn49).bs)
  clear hb48 hn49
  have hb59 : Below x33.heap.size x33 x47 := hl55
  have hS58 : (fun w' : World => Below x33.heap.size x33 w') x47 := hb59
  refine HK46.out _ _ hS58 fun _ => ?_
  try simp only [Act.put, List.setIfInBounds_toArray, List.set_cons_zero, List.set_cons_succ]
  refine wpAnyH_up (S' := (fun w' : World => Below x47.heap.size x47 w')) (fun w' h => hb59.trans (h.mono hb59.size)) ?_
  have hS60 : (fun w' : World => Below x47.heap.size x47 w') x47 := Below.refl _ _
  refine takeD (i := 16) (v := .string (strOf (b ++ Cod.enc (Cod.zig x)))) (some 35) rfl rfl (by kernel_rfl) (by kernel_rfl) (by kernel_rfl) (fun _ _ _ h => h) (Or.inl ⟨by rfl, by rintro w' h; have hc := conv_bs 22 5 9 Try.underlying22 Try.underlying5 Try.underlying9 ((fpi_57.out).below h); go_simp⟩) hS60 ?_
  simp only [Act.put, List.setIfInBounds_toArray, List.set_cons_zero, List.set_cons_succ]
  refine wpAnyH_ready (rs := [20]) (by kernel_rfl) (by simp) ?_
  refine AllReadyH.cons rfl (fun K61 hK61 => ?_) AllReadyH.nil
  have HK61 := Lib.hid hK61
  clear hK61
  rw [if_pos (by rfl)]
  go_simp
  refine (rapi_any (.slice A0 n0 c0) b x _ F0_50.out XI.out.1 XI.out.2 (by have := EN.out; have := LL.out; omega)).mono ?_
  rintro e x62 ⟨v39, rfl, hn64, hb63⟩
  have F0_65 := Lib.hid (Bs.below F0_50.out (hb63))
  have F1_66 := Lib.hid (Bs.below F1_51.out (hb63))
  have R_67 := Lib.hid (rw_fw R_52.out (hb63))
  have fpu_68 := Lib.hid (Bs.below fpu_53.out (hb63))
  have fru_69 := Lib.hid (Bs.below fru_54.out (hb63))
  have fpi_70 := Lib.hid (Bs.below fpi_57.out (hb63))
  have hl71 := hb63
  have HT_72 : Hid (Below w.heap.size w x62) := Lib.hid (HT_56.out.trans ((hl71).mono HT_56.out.size))
  have fri_73 := Lib.hid ((hn64).bs)
  clear hb63 hn64
  have hb75 : Below x47.heap.size x47 x62 := hl71
  have hS74 : (fun w' : World => Below x47.heap.size x47 w') x62 := hb75
  refine HK61.out _ _ hS74 fun _ => ?_
  try simp only [Act.put, List.setIfInBounds_toArray, List.set_cons_zero, List.set_cons_succ]
  refine wpAnyH_up (S' := (fun w' : World => Below x62.heap.size x62 w')) (fun w' h => hb75.trans (h.mono hb75.size)) ?_
  have hS76 : (fun w' : World => Below x62.heap.size x62 w') x62 := Below.refl _ _
  refine takeD (i := 21) (v := .string (strOf (b ++ Cod.enc (Cod.zig x)))) (some 40) rfl rfl (by kernel_rfl) (by kernel_rfl) (by kernel_rfl) (fun _ _ _ h => h) (Or.inl ⟨by rfl, by rintro w' h; have hc := conv_bs 22 5 9 Try.underlying22 Try.underlying5 Try.underlying9 ((fri_73.out).below h); go_simp⟩) hS76 ?_
  simp only [Act.put, List.setIfInBounds_toArray, List.set_cons_zero, List.set_cons_succ]
  refine takeD (i := 22) (v := .bool true) (some 41) rfl rfl (by kernel_rfl) (by kernel_rfl) (by kernel_rfl) (fun _ _ _ h => h) (Or.inl ⟨by rfl, by rintro w' -; go_simp⟩) hS76 ?_
  simp only [Act.put, List.setIfInBounds_toArray, List.set_cons_zero, List.set_cons_succ]
  refine takeD (i := 23) (v := .bool true) (some 42) rfl rfl (by kernel_rfl) (by kernel_rfl) (by kernel_rfl) (fun _ _ _ h => h) (Or.inl ⟨by rfl, by rintro w' -; go_simp⟩) hS76 ?_
  simp only [Act.put, List.setIfInBounds_toArray, List.set_cons_zero, List.set_cons_succ]
  refine takeD (i := 24) (v := .bool true) (some 43) rfl rfl (by kernel_rfl) (by kernel_rfl) (by kernel_rfl) (fun _ _ _ h => h) (Or.inl ⟨by rfl, by rintro w' -; go_simp⟩) hS76 ?_
  simp only [Act.put, List.setIfInBounds_toArray, List.set_cons_zero, List.set_cons_succ]
  refine takeD (i := 25) (v := .slice A0 n0 c0) (some 44) rfl rfl (by kernel_rfl) (by kernel_rfl) (by kernel_rfl) (fun _ _ _ h => h) (Or.inl ⟨by rfl, by rintro w' -; go_simp⟩) hS76 ?_
  simp only [Act.put, List.setIfInBounds_toArray, List.set_cons_zero, List.set_cons_succ]
  refine takeD (i := 26) (v := .pointer (some ⟨B0, 2, none⟩)) (some 45) rfl rfl (by kernel_rfl) (by kernel_rfl) (by kernel_rfl) (fun _ _ _ h => h) (Or.inl ⟨by rfl, by rintro w' -; go_simp⟩) hS76 ?_
  simp only [Act.put, List.setIfInBounds_toArray, List.set_cons_zero, List.set_cons_succ]
  refine takeD (i := 27) (v := .slice A1 n1 c1) (some 46) rfl rfl (by kernel_rfl) (by kernel_rfl) (by kernel_rfl) (fun _ _ _ h => h) (Or.inl ⟨by rfl, by rintro w' h; have hc := (h.cell (p := ⟨B0, 2, none⟩) (R_67.out).lt).trans ((R_67.out).cell 2); simp only [vcs_2] at hc; go_simp⟩) hS76 ?_
  simp only [Act.put, List.setIfInBounds_toArray, List.set_cons_zero, List.set_cons_succ]
  refine takeD (i := 30) (v := .slice A0 n0 c0) (some 49) rfl rfl (by kernel_rfl) (by kernel_rfl) (by kernel_rfl) (fun _ _ _ h => h) (Or.inl ⟨by rfl, by rintro w' -; go_simp⟩) hS76 ?_
  simp only [Act.put, List.setIfInBounds_toArray, List.set_cons_zero, List.set_cons_succ]
  refine takeD (i := 31) (v := .pointer (some ⟨B0, 2, none⟩)) (some 50) rfl rfl (by kernel_rfl) (by kernel_rfl) (by kernel_rfl) (fun _ _ _ h => h) (Or.inl ⟨by rfl, by rintro w' -; go_simp⟩) hS76 ?_
  simp only [Act.put, List.setIfInBounds_toArray, List.set_cons_zero, List.set_cons_succ]
  refine takeD (i := 32) (v := .slice A1 n1 c1) (some 51) rfl rfl (by kernel_rfl) (by kernel_rfl) (by kernel_rfl) (fun _ _ _ h => h) (Or.inl ⟨by rfl, by rintro w' h; have hc := (h.cell (p := ⟨B0, 2, none⟩) (R_67.out).lt).trans ((R_67.out).cell 2); simp only [vcs_2] at hc; go_simp⟩) hS76 ?_
  simp only [Act.put, List.setIfInBounds_toArray, List.set_cons_zero, List.set_cons_succ]
  refine wpAnyH_ready (rs := [28]) (by kernel_rfl) (by simp) ?_
  refine AllReadyH.cons rfl (fun K77 hK77 => ?_) AllReadyH.nil
  have HK77 := Lib.hid hK77
  clear hK77
  rw [if_pos (by rfl)]
  go_simp
  refine (papb_any (.slice A0 n0 c0) (.slice A1 n1 c1) b l _ F0_65.out F1_66.out (by have := EN.out; have := LL.out; omega) (by have := EN.out; have := LL.out; omega)).mono ?_
  rintro e x78 ⟨v47, rfl, hn80, hb79⟩
  have F0_81 := Lib.hid (Bs.below F0_65.out (hb79))
  have F1_82 := Lib.hid (Bs.below F1_66.out (hb79))
  have R_83 := Lib.hid (rw_fw R_67.out (hb79))
  have fpu_84 := Lib.hid (Bs.below fpu_68.out (hb79))
  have fru_85 := Lib.hid (Bs.below fru_69.out (hb79))
  have fpi_86 := Lib.hid (Bs.below fpi_70.out (hb79))
  have fri_87 := Lib.hid (Bs.below fri_73.out (hb79))
  have hl88 := hb79
  have HT_89 : Hid (Below w.heap.size w x78) := Lib.hid (HT_72.out.trans ((hl88).mono HT_72.out.size))
  have fpb_90 := Lib.hid ((hn80).bs)
  clear hb79 hn80
  have hb92 : Below x62.heap.size x62 x78 := hl88
  have hS91 : (fun w' : World => Below x62.heap.size x62 w') x78 := hb92
  refine HK77.out _ _ hS91 fun _ => ?_
  try simp only [Act.put, List.setIfInBounds_toArray, List.set_cons_zero, List.set_cons_succ]
  refine wpAnyH_up (S' := (fun w' : World => Below x78.heap.size x78 w')) (fun w' h => hb92.trans (h.mono hb92.size)) ?_
  have hS93 : (fun w' : World => Below x78.heap.size x78 w') x78 := Below.refl _ _
  refine takeD (i := 29) (v := .string (strOf (b ++ Cod.enc l.length ++ l))) (some 48) rfl rfl (by kernel_rfl) (by kernel_rfl) (by kernel_rfl) (fun _ _ _ h => h) (Or.inl ⟨by rfl, by rintro w' h; have hc := conv_bs 22 5 9 Try.underlying22 Try.underlying5 Try.underlying9 ((fpb_90.out).below h); go_simp⟩) hS93 ?_
  simp only [Act.put, List.setIfInBounds_toArray, List.set_cons_zero, List.set_cons_succ]
  refine wpAnyH_ready (rs := [33]) (by kernel_rfl) (by simp) ?_
  refine AllReadyH.cons rfl (fun K94 hK94 => ?_) AllReadyH.nil
  have HK94 := Lib.hid hK94
  clear hK94
  rw [if_pos (by rfl)]
  go_simp
  refine (rapb_any (.slice A0 n0 c0) (.slice A1 n1 c1) b l _ F0_81.out F1_82.out (by have := EN.out; have := LL.out; omega) (by have := EN.out; have := LL.out; omega)).mono ?_
  rintro e x95 ⟨v52, rfl, hn97, hb96⟩
  have F0_98 := Lib.hid (Bs.below F0_81.out (hb96))
  have F1_99 := Lib.hid (Bs.below F1_82.out (hb96))
  have R_100 := Lib.hid (rw_fw R_83.out (hb96))
  have fpu_101 := Lib.hid (Bs.below fpu_84.out (hb96))
  have fru_102 := Lib.hid (Bs.below fru_85.out (hb96))
  have fpi_103 := Lib.hid (Bs.below fpi_86.out (hb96))
  have fri_104 := Lib.hid (Bs.below fri_87.out (hb96))
  have fpb_105 := Lib.hid (Bs.below fpb_90.out (hb96))
  have hl106 := hb96
  have HT_107 : Hid (Below w.heap.size w x95) := Lib.hid (HT_89.out.trans ((hl106).mono HT_89.out.size))
  have frb_108 := Lib.hid ((hn97).bs)
  clear hb96 hn97
  have hb110 : Below x78.heap.size x78 x95 := hl106
  have hS109 : (fun w' : World => Below x78.heap.size x78 w') x95 := hb110
  refine HK94.out _ _ hS109 fun _ => ?_
  try simp only [Act.put, List.setIfInBounds_toArray, List.set_cons_zero, List.set_cons_succ]
  refine wpAnyH_up (S' := (fun w' : World => Below x95.heap.size x95 w')) (fun w' h => hb110.trans (h.mono hb110.size)) ?_
  have hS111 : (fun w' : World => Below x95.heap.size x95 w') x95 := Below.refl _ _
  refine takeD (i := 34) (v := .string (strOf (b ++ Cod.enc l.length ++ l))) (some 53) rfl rfl (by kernel_rfl) (by kernel_rfl) (by kernel_rfl) (fun _ _ _ h => h) (Or.inl ⟨by rfl, by rintro w' h; have hc := conv_bs 22 5 9 Try.underlying22 Try.underlying5 Try.underlying9 ((frb_108.out).below h); go_simp⟩) hS111 ?_
  simp only [Act.put, List.setIfInBounds_toArray, List.set_cons_zero, List.set_cons_succ]
  refine takeD (i := 35) (v := .bool true) (some 54) rfl rfl (by kernel_rfl) (by kernel_rfl) (by kernel_rfl) (fun _ _ _ h => h) (Or.inl ⟨by rfl, by rintro w' -; go_simp⟩) hS111 ?_
  simp only [Act.put, List.setIfInBounds_toArray, List.set_cons_zero, List.set_cons_succ]
  refine takeD (i := 36) (v := .bool true) (some 55) rfl rfl (by kernel_rfl) (by kernel_rfl) (by kernel_rfl) (fun _ _ _ h => h) (Or.inl ⟨by rfl, by rintro w' -; go_simp⟩) hS111 ?_
  simp only [Act.put, List.setIfInBounds_toArray, List.set_cons_zero, List.set_cons_succ]
  refine takeD (i := 37) (v := .bool true) (some 56) rfl rfl (by kernel_rfl) (by kernel_rfl) (by kernel_rfl) (fun _ _ _ h => h) (Or.inl ⟨by rfl, by rintro w' -; go_simp⟩) hS111 ?_
  simp only [Act.put, List.setIfInBounds_toArray, List.set_cons_zero, List.set_cons_succ]
  refine takeD (i := 38) (v := .slice A0 n0 c0) (some 57) rfl rfl (by kernel_rfl) (by kernel_rfl) (by kernel_rfl) (fun _ _ _ h => h) (Or.inl ⟨by rfl, by rintro w' -; go_simp⟩) hS111 ?_
  simp only [Act.put, List.setIfInBounds_toArray, List.set_cons_zero, List.set_cons_succ]
  refine takeD (i := 39) (v := .pointer (some ⟨B0, 3, none⟩)) (some 58) rfl rfl (by kernel_rfl) (by kernel_rfl) (by kernel_rfl) (fun _ _ _ h => h) (Or.inl ⟨by rfl, by rintro w' -; go_simp⟩) hS111 ?_
  simp only [Act.put, List.setIfInBounds_toArray, List.set_cons_zero, List.set_cons_succ]
  refine takeD (i := 40) (v := .agg (bkc k)) (some 59) rfl rfl (by kernel_rfl) (by kernel_rfl) (by kernel_rfl) (fun _ _ _ h => h) (yieldsIf_load_mid (by rfl) _ _ rfl B0 3 rfl (k.map bv) _ (fun w' h => vcs_k (rw_fw R_100.out h)) Try.underlying25 rfl (by rw [List.length_map, K8.out.1]; kernel_rfl)) hS111 ?_
  simp only [Act.put, List.setIfInBounds_toArray, List.set_cons_zero, List.set_cons_succ]
  refine takeD (i := 43) (v := .slice A0 n0 c0) (some 62) rfl rfl (by kernel_rfl) (by kernel_rfl) (by kernel_rfl) (fun _ _ _ h => h) (Or.inl ⟨by rfl, by rintro w' -; go_simp⟩) hS111 ?_
  simp only [Act.put, List.setIfInBounds_toArray, List.set_cons_zero, List.set_cons_succ]
  refine takeD (i := 44) (v := .pointer (some ⟨B0, 3, none⟩)) (some 63) rfl rfl (by kernel_rfl) (by kernel_rfl) (by kernel_rfl) (fun _ _ _ h => h) (Or.inl ⟨by rfl, by rintro w' -; go_simp⟩) hS111 ?_
  simp only [Act.put, List.setIfInBounds_toArray, List.set_cons_zero, List.set_cons_succ]
  refine takeD (i := 45) (v := .agg (bkc k)) (some 64) rfl rfl (by kernel_rfl) (by kernel_rfl) (by kernel_rfl) (fun _ _ _ h => h) (yieldsIf_load_mid (by rfl) _ _ rfl B0 3 rfl (k.map bv) _ (fun w' h => vcs_k (rw_fw R_100.out h)) Try.underlying25 rfl (by rw [List.length_map, K8.out.1]; kernel_rfl)) hS111 ?_
  simp only [Act.put, List.setIfInBounds_toArray, List.set_cons_zero, List.set_cons_succ]
  refine wpAnyH_ready (rs := [41]) (by kernel_rfl) (by simp) ?_
  refine AllReadyH.cons rfl (fun K112 hK112 => ?_) AllReadyH.nil
  have HK112 := Lib.hid hK112
  clear hK112
  rw [if_pos (by rfl)]
  go_simp
  refine (papk_any (.slice A0 n0 c0) b k _ F0_98.out K8.out (by have := EN.out; have := LL.out; omega)).mono ?_
  rintro e x113 ⟨v60, rfl, hn115, hb114⟩
  have F0_116 := Lib.hid (Bs.below F0_98.out (hb114))
  have F1_117 := Lib.hid (Bs.below F1_99.out (hb114))
  have R_118 := Lib.hid (rw_fw R_100.out (hb114))
  have fpu_119 := Lib.hid (Bs.below fpu_101.out (hb114))
  have fru_120 := Lib.hid (Bs.below fru_102.out (hb114))
  have fpi_121 := Lib.hid (Bs.below fpi_103.out (hb114))
  have fri_122 := Lib.hid (Bs.below fri_104.out (hb114))
  have fpb_123 := Lib.hid (Bs.below fpb_105.out (hb114))
  have frb_124 := Lib.hid (Bs.below frb_108.out (hb114))
  have hl125 := hb114
  have HT_126 : Hid (Below w.heap.size w x113) := Lib.hid (HT_107.out.trans ((hl125).mono HT_107.out.size))
  have fpk_127 := Lib.hid ((hn115).bs)
  clear hb114 hn115
  have hb129 : Below x95.heap.size x95 x113 := hl125
  have hS128 : (fun w' : World => Below x95.heap.size x95 w') x113 := hb129
  refine HK112.out _ _ hS128 fun _ => ?_
  try simp only [Act.put, List.setIfInBounds_toArray, List.set_cons_zero, List.set_cons_succ]
  refine wpAnyH_up (S' := (fun w' : World => Below x113.heap.size x113 w')) (fun w' h => hb129.trans (h.mono hb129.size)) ?_
  have hS130 : (fun w' : World => Below x113.heap.size x113 w') x113 := Below.refl _ _
  refine takeD (i := 42) (v := .string (strOf (b ++ k))) (some 61) rfl rfl (by kernel_rfl) (by kernel_rfl) (by kernel_rfl) (fun _ _ _ h => h) (Or.inl ⟨by rfl, by rintro w' h; have hc := conv_bs 22 5 9 Try.underlying22 Try.underlying5 Try.underlying9 ((fpk_127.out).below h); go_simp⟩) hS130 ?_
  simp only [Act.put, List.setIfInBounds_toArray, List.set_cons_zero, List.set_cons_succ]
  refine wpAnyH_ready (rs := [46]) (by kernel_rfl) (by simp) ?_
  refine AllReadyH.cons rfl (fun K131 hK131 => ?_) AllReadyH.nil
  have HK131 := Lib.hid hK131
  clear hK131
  rw [if_pos (by rfl)]
  go_simp
  refine (rapk_any (.slice A0 n0 c0) b k _ F0_116.out K8.out (by have := EN.out; have := LL.out; omega)).mono ?_
  rintro e x132 ⟨v65, rfl, hn134, hb133⟩
  have F0_135 := Lib.hid (Bs.below F0_116.out (hb133))
  have F1_136 := Lib.hid (Bs.below F1_117.out (hb133))
  have R_137 := Lib.hid (rw_fw R_118.out (hb133))
  have fpu_138 := Lib.hid (Bs.below fpu_119.out (hb133))
  have fru_139 := Lib.hid (Bs.below fru_120.out (hb133))
  have fpi_140 := Lib.hid (Bs.below fpi_121.out (hb133))
  have fri_141 := Lib.hid (Bs.below fri_122.out (hb133))
  have fpb_142 := Lib.hid (Bs.below fpb_123.out (hb133))
  have frb_143 := Lib.hid (Bs.below frb_124.out (hb133))
  have fpk_144 := Lib.hid (Bs.below fpk_127.out (hb133))
  have hl145 := hb133
  have HT_146 : Hid (Below w.heap.size w x132) := Lib.hid (HT_126.out.trans ((hl145).mono HT_126.out.size))
  have frk_147 := Lib.hid ((hn134).bs)
  clear hb133 hn134
  have hb149 : Below x113.heap.size x113 x132 := hl145
  have hS148 : (fun w' : World => Below x113.heap.size x113 w') x132 := hb149
  refine HK131.out _ _ hS148 fun _ => ?_
  try simp only [Act.put, List.setIfInBounds_toArray, List.set_cons_zero, List.set_cons_succ]
  refine wpAnyH_up (S' := (fun w' : World => Below x132.heap.size x132 w')) (fun w' h => hb149.trans (h.mono hb149.size)) ?_
  have hS150 : (fun w' : World => Below x132.heap.size x132 w') x132 := Below.refl _ _
  refine takeD (i := 47) (v := .string (strOf (b ++ k))) (some 66) rfl rfl (by kernel_rfl) (by kernel_rfl) (by kernel_rfl) (fun _ _ _ h => h) (Or.inl ⟨by rfl, by rintro w' h; have hc := conv_bs 22 5 9 Try.underlying22 Try.underlying5 Try.underlying9 ((frk_147.out).below h); go_simp⟩) hS150 ?_
  simp only [Act.put, List.setIfInBounds_toArray, List.set_cons_zero, List.set_cons_succ]
  refine takeD (i := 48) (v := .bool true) (some 67) rfl rfl (by kernel_rfl) (by kernel_rfl) (by kernel_rfl) (fun _ _ _ h => h) (Or.inl ⟨by rfl, by rintro w' -; go_simp⟩) hS150 ?_
  simp only [Act.put, List.setIfInBounds_toArray, List.set_cons_zero, List.set_cons_succ]
  refine takeD (i := 49) (v := .bool true) (some 68) rfl rfl (by kernel_rfl) (by kernel_rfl) (by kernel_rfl) (fun _ _ _ h => h) (Or.inl ⟨by rfl, by rintro w' -; go_simp⟩) hS150 ?_
  simp only [Act.put, List.setIfInBounds_toArray, List.set_cons_zero, List.set_cons_succ]
  refine takeD (i := 50) (v := .bool true) (some 69) rfl rfl (by kernel_rfl) (by kernel_rfl) (by kernel_rfl) (fun _ _ _ h => h) (Or.inl ⟨by rfl, by rintro w' -; go_simp⟩) hS150 ?_
  simp only [Act.put, List.setIfInBounds_toArray, List.set_cons_zero, List.set_cons_succ]
  refine takeD (i := 51) (v := .slice A0 n0 c0) (some 70) rfl rfl (by kernel_rfl) (by kernel_rfl) (by kernel_rfl) (fun _ _ _ h => h) (Or.inl ⟨by rfl, by rintro w' -; go_simp⟩) hS150 ?_
  simp only [Act.put, List.setIfInBounds_toArray, List.set_cons_zero, List.set_cons_succ]
  refine takeD (i := 52) (v := .string tb) (some 71) rfl rfl (by kernel_rfl) (by kernel_rfl) (by kernel_rfl) (fun _ _ _ h => h) (Or.inl ⟨by rfl, by rintro w' h; have hc := conv_bs 22 5 9 Try.underlying22 Try.underlying5 Try.underlying9 ((F0_135.out).below h); rw [TB.out] at hc; go_simp⟩) hS150 ?_
  simp only [Act.put, List.setIfInBounds_toArray, List.set_cons_zero, List.set_cons_succ]
  refine takeD (i := 53) (v := .string tb) (some 72) rfl rfl (by kernel_rfl) (by kernel_rfl) (by kernel_rfl) (fun _ _ _ h => h) (Or.inl ⟨by rfl, by rintro w' -; go_simp⟩) hS150 ?_
  simp only [Act.put, List.setIfInBounds_toArray, List.set_cons_zero, List.set_cons_succ]
  refine takeD (i := 54) (v := .bool true) (some 73) rfl rfl (by kernel_rfl) (by kernel_rfl) (by kernel_rfl) (fun _ _ _ h => h) (Or.inl ⟨by rfl, by rintro w' -; go_simp⟩) hS150 ?_
  simp only [Act.put, List.setIfInBounds_toArray, List.set_cons_zero, List.set_cons_succ]
  refine takeD (i := 55) (v := .bool true) (some 74) rfl rfl (by kernel_rfl) (by kernel_rfl) (by kernel_rfl) (fun _ _ _ h => h) (Or.inl ⟨by rfl, by rintro w' -; go_simp⟩) hS150 ?_
  simp only [Act.put, List.setIfInBounds_toArray, List.set_cons_zero, List.set_cons_succ]
  refine takeD (i := 56) (v := .bool true) (some 4) rfl rfl (by kernel_rfl) (by kernel_rfl) (by kernel_rfl) (fun _ _ _ h => h) (Or.inl ⟨by rfl, by rintro w' -; go_simp⟩) hS150 ?_
  simp only [Act.put, List.setIfInBounds_toArray, List.set_cons_zero, List.set_cons_succ]
  refine wpAnyH_done (by kernel_rfl) ?_ _
  go_wp2_with fail
  go_ret
  exact ⟨rfl, HT_146.out⟩
end Go.Proofs.Ytajeboigkpelgaa
