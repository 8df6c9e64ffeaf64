/- Layer 13: contracts of the reference: Number. WRITTEN BY gen_Fd.py. -/
import Derived.Test.YtffdmpicjhaniaaDoorFc
import Derived.Test.YtffdmpicjhaniaaDoorRu
namespace Go.Proofs.YtffdmpicjhaniaaDoor
open Go Go.RowKit Flt
set_option linter.unusedVariables false
set_option linter.unusedSimpArgs false
/-- A value is returned; what stood stands. -/
def mPost (v : Value) (w : World) (e : Ending) (w' : World) : Prop := e = .returned v ∧ Below w.heap.size w w'
theorem bs_byte (w : World) (t : TypeId) (x : Nat) (hx : x < 256) : Bs (w.alloc (.cells #[.int .u8 (x : Int)] t)) (.slice (some ⟨w.heap.size, 0, none⟩) 1 1) [x] := by
  refine Bs.of_row (n := 1) (c := 1) (heap_alloc_new w _) rfl ⟨by decide, by decide⟩ (fun y hy => by simp at hy; omega) fun k hk => ?_
  obtain rfl : k = 0 := by omega
  rfl
theorem cvs {w : World} (A : Option Addr) (n c : Nat) (l : List Nat) (h : Bs w (.slice A n c) l) : (convert 54 9 (.slice A n c)).run Tryd.prog w = .ok (.string (strOf l)) w :=
  conv_bs (P := Tryd.prog) 54 5 9 Tryd.underlying54 Tryd.underlying5 Tryd.underlying9 h
set_option maxHeartbeats 4000000 in
set_option maxRecDepth 100000 in
theorem rNu_any (n : Nat) : n < 9223372036854775808 → ∀ w : World, Calls Tryd.prog 37 #[.int .i64 (n : Int)] w (mPost (.string (strOf (dig n))) w) := by
  induction n using Nat.strongRecOn with
  | _ n ih =>
    intro hn w
    by_cases h : n < 10
    · rw [dig_small h]
      have hI : (n : Int) < 10 := by omega
      have e1 : IntKind.u8.wrap (48 + (n : Int)) = ((48 + n : Nat) : Int) := by rw [IntKind.wrap_u8]; omega
      have CV : Hid ((convert 54 9 (.slice (some ⟨w.heap.size, 0, none⟩) 1 1)).run Tryd.prog (w.alloc (.cells #[.int .u8 (48 + (n : Int))] 5)) = .ok (.string (strOf [48 + n])) _) := Lib.hid (cvs _ 1 1 [48 + n] (bs_byte w 5 (48 + n) (by omega)))
      obtain ⟨s, hs⟩ : ∃ s, strOf [48 + n] = s := ⟨_, rfl⟩
      rw [hs] at CV ⊢
      have cv := CV.out
      clear hs ih
      go_enter Tryd.func37, Tryd.ntmps37
      go_wp2_with fail
      go_ret
      exact ⟨rfl, (Below.refl _ _).alloc (Nat.le_refl _) _⟩
    · rw [dig_big h]
      have hI : ¬ (n : Int) < 10 := by omega
      obtain ⟨m, hm⟩ : ∃ m, n / 10 = m := ⟨_, rfl⟩
      obtain ⟨d, hd⟩ : ∃ d, n % 10 = d := ⟨_, rfl⟩
      have q1 : (n : Int) / 10 = (m : Int) := by omega
      have q2 : (n : Int) % 10 = (d : Int) := by omega
      have q3 : (n : Int).tmod 10 = (d : Int) := by rw [Int.tmod_eq_emod_of_nonneg (by omega)]; exact q2
      have IH := Lib.hid (ih m (by omega) (by omega))
      have LM := Lib.hid (dig_le (n := m) (by omega))
      have D10 := Lib.hid (show d < 10 by omega)
      rw [hm, hd]
      have NB := Lib.hid hn
      clear ih h hm hd hn
      go_enter Tryd.func37, Tryd.ntmps37
      go_wp2_with fail
      clear hI
      refine wp_region_held (P := Tryd.prog) (S := (fun w' : World => Below w.heap.size w w')) rfl ?_
      change wpAnyH _ _ _ _ _ _ _ _ w.drew
      have hz2 : Below w.heap.size w w.drew := (Below.refl w.heap.size w).drew
      generalize w.drew = wz1 at hz2 ⊢
      have hl3 := hz2
      have HT_4 : Hid (Below w.heap.size w wz1) := Lib.hid (hl3)
      refine wpAnyH_up (S' := (fun w' : World => Below wz1.heap.size wz1 w')) (fun w' h => hz2.trans (h.mono hz2.size)) ?_
      have hS5 : (fun w' : World => Below wz1.heap.size wz1 w') wz1 := Below.refl _ _
      refine takeD (i := 0) (v := .int .i64 (n : Int)) (some 10) rfl rfl (by kernel_rfl) (by kernel_rfl) (by kernel_rfl) (fun _ _ _ h => h) (Or.inl ⟨by rfl, by rintro w' -; go_simp⟩) hS5 ?_
      simp only [Act.put, List.setIfInBounds_toArray, List.set_cons_zero, List.set_cons_succ]
      refine takeD (i := 1) (v := .int .i64 (m : Int)) (some 11) rfl rfl (by kernel_rfl) (by kernel_rfl) (by kernel_rfl) (fun _ _ _ h => h) (Or.inl ⟨by rfl, by rintro w' -; go_simp; rw [IntKind.wrap_i64]; have := NB.out; omega⟩) hS5 ?_
      simp only [Act.put, List.setIfInBounds_toArray, List.set_cons_zero, List.set_cons_succ]
      refine takeD (i := 3) (v := .int .i64 (n : Int)) (some 13) rfl rfl (by kernel_rfl) (by kernel_rfl) (by kernel_rfl) (fun _ _ _ h => h) (Or.inl ⟨by rfl, by rintro w' -; go_simp⟩) hS5 ?_
      simp only [Act.put, List.setIfInBounds_toArray, List.set_cons_zero, List.set_cons_succ]
      refine takeD (i := 4) (v := .int .i64 (d : Int)) (some 14) rfl rfl (by kernel_rfl) (by kernel_rfl) (by kernel_rfl) (fun _ _ _ h => h) (Or.inl ⟨by rfl, by rintro w' -; go_simp; all_goals exact q3⟩) hS5 ?_
      simp only [Act.put, List.setIfInBounds_toArray, List.set_cons_zero, List.set_cons_succ]
      refine takeD (i := 5) (v := .int .i64 (48 + (d : Int))) (some 15) rfl rfl (by kernel_rfl) (by kernel_rfl) (by kernel_rfl) (fun _ _ _ h => h) (Or.inl ⟨by rfl, by rintro w' -; go_simp; rw [IntKind.wrap_i64]; have := D10.out; omega⟩) hS5 ?_
      simp only [Act.put, List.setIfInBounds_toArray, List.set_cons_zero, List.set_cons_succ]
      refine takeD (i := 6) (v := .int .u8 (48 + (d : Int))) (some 16) rfl rfl (by kernel_rfl) (by kernel_rfl) (by kernel_rfl) (fun _ _ _ h => h) (Or.inl ⟨by rfl, by rintro w' -; go_simp; rw [IntKind.wrap_u8]; have := D10.out; omega⟩) hS5 ?_
      simp only [Act.put, List.setIfInBounds_toArray, List.set_cons_zero, List.set_cons_succ]
      refine wpAnyH_ready (rs := [2, 7]) (by kernel_rfl) (by simp) ?_
      refine AllReadyH.cons rfl (fun KK hK => ?_) (AllReadyH.cons rfl (fun KK hK => ?_) AllReadyH.nil)
      · have HK6 := Lib.hid hK
        clear hK
        rw [if_pos (by rfl)]
        go_simp
        refine (IH.out _).mono ?_
        rintro e x7 ⟨rfl, hb8⟩
        have hl9 := hb8
        have HT_10 : Hid (Below w.heap.size w x7) := Lib.hid (HT_4.out.trans ((hl9).mono HT_4.out.size))
        clear hb8 
        have hb12 : Below wz1.heap.size wz1 x7 := hl9
        have hS11 : (fun w' : World => Below wz1.heap.size wz1 w') x7 := hb12
        refine HK6.out _ _ hS11 fun _ => ?_
        try simp only [Act.put, List.setIfInBounds_toArray, List.set_cons_zero, List.set_cons_succ]
        refine wpAnyH_up (S' := (fun w' : World => Below x7.heap.size x7 w')) (fun w' h => hb12.trans (h.mono hb12.size)) ?_
        have hS13 : (fun w' : World => Below x7.heap.size x7 w') x7 := Below.refl _ _
        refine wpAnyH_ready (rs := [7]) (by kernel_rfl) (by simp) ?_
        refine AllReadyH.cons rfl (fun K14 hK14 => ?_) AllReadyH.nil
        have HK14 := Lib.hid hK14
        clear hK14
        rw [if_pos (by rfl)]
        go_simp
        have hbs : Bs (x7.alloc (.cells #[.int .u8 (48 + (d : Int))] 5)) (.slice (some ⟨x7.heap.size, 0, none⟩) 1 1) [48 + d] := bs_byte x7 5 (48 + d) (by have := D10.out; omega)
        have hq16 : Below x7.heap.size x7 (x7.alloc (.cells #[.int .u8 (48 + (d : Int))] 5)) := (Below.refl _ _).alloc (Nat.le_refl _) _
        generalize x7.alloc (.cells #[.int .u8 (48 + (d : Int))] 5) = x15 at hq16 hbs ⊢
        obtain ⟨b1, hb1⟩ : ∃ b, x7.heap.size = b := ⟨_, rfl⟩
        rw [hb1] at hbs ⊢
        have hl17 := hq16
        have HT_18 : Hid (Below w.heap.size w x15) := Lib.hid (HT_10.out.trans ((hl17).mono HT_10.out.size))
        have BB1 := Lib.hid hbs
        clear hq16 hb1 hbs
        have hb20 : Below x7.heap.size x7 x15 := hl17
        have hS19 : (fun w' : World => Below x7.heap.size x7 w') x15 := hb20
        refine HK14.out _ _ hS19 fun _ => ?_
        try simp only [Act.put, List.setIfInBounds_toArray, List.set_cons_zero, List.set_cons_succ]
        refine wpAnyH_up (S' := (fun w' : World => Below x15.heap.size x15 w')) (fun w' h => hb20.trans (h.mono hb20.size)) ?_
        have hS21 : (fun w' : World => Below x15.heap.size x15 w') x15 := Below.refl _ _
        refine takeD (i := 8) (v := .string (strOf [48 + d])) (some 18) rfl rfl (by kernel_rfl) (by kernel_rfl) (by kernel_rfl) (fun _ _ _ h => h) (Or.inl ⟨by rfl, by rintro w' h; have hc := cvs _ 1 1 _ (Bs.below BB1.out h); go_simp⟩) hS21 ?_
        simp only [Act.put, List.setIfInBounds_toArray, List.set_cons_zero, List.set_cons_succ]
        refine takeD (i := 9) (v := .string (strOf (dig m ++ [48 + d]))) (some 19) rfl rfl (by kernel_rfl) (by kernel_rfl) (by kernel_rfl) (fun _ _ _ h => h) (Or.inl ⟨by rfl, by rintro w' -; have hc := sx_add (P := Tryd.prog) w' (a := dig m) (b := [48 + d]) (by have := LM.out; simp; omega); go_simp⟩) hS21 ?_
        simp only [Act.put, List.setIfInBounds_toArray, List.set_cons_zero, List.set_cons_succ]
        refine takeD (i := 10) (v := .string (strOf (dig m ++ [48 + d]))) (some 2) rfl rfl (by kernel_rfl) (by kernel_rfl) (by kernel_rfl) (fun _ _ _ h => h) (Or.inl ⟨by rfl, by rintro w' -; go_simp⟩) hS21 ?_
        simp only [Act.put, List.setIfInBounds_toArray, List.set_cons_zero, List.set_cons_succ]
        refine wpAnyH_done (by kernel_rfl) ?_ _
        go_wp2_with fail
        go_ret
        exact ⟨rfl, HT_18.out⟩
      · have HK6 := Lib.hid hK
        clear hK
        rw [if_pos (by rfl)]
        go_simp
        have hbs : Bs (wz1.alloc (.cells #[.int .u8 (48 + (d : Int))] 5)) (.slice (some ⟨wz1.heap.size, 0, none⟩) 1 1) [48 + d] := bs_byte wz1 5 (48 + d) (by have := D10.out; omega)
        have hq8 : Below wz1.heap.size wz1 (wz1.alloc (.cells #[.int .u8 (48 + (d : Int))] 5)) := (Below.refl _ _).alloc (Nat.le_refl _) _
        generalize wz1.alloc (.cells #[.int .u8 (48 + (d : Int))] 5) = x7 at hq8 hbs ⊢
        obtain ⟨b1, hb1⟩ : ∃ b, wz1.heap.size = b := ⟨_, rfl⟩
        rw [hb1] at hbs ⊢
        have hl9 := hq8
        have HT_10 : Hid (Below w.heap.size w x7) := Lib.hid (HT_4.out.trans ((hl9).mono HT_4.out.size))
        have BB1 := Lib.hid hbs
        clear hq8 hb1 hbs
        have hb12 : Below wz1.heap.size wz1 x7 := hl9
        have hS11 : (fun w' : World => Below wz1.heap.size wz1 w') x7 := hb12
        refine HK6.out _ _ hS11 fun _ => ?_
        try simp only [Act.put, List.setIfInBounds_toArray, List.set_cons_zero, List.set_cons_succ]
        refine wpAnyH_up (S' := (fun w' : World => Below x7.heap.size x7 w')) (fun w' h => hb12.trans (h.mono hb12.size)) ?_
        have hS13 : (fun w' : World => Below x7.heap.size x7 w') x7 := Below.refl _ _
        refine takeD (i := 8) (v := .string (strOf [48 + d])) (some 18) rfl rfl (by kernel_rfl) (by kernel_rfl) (by kernel_rfl) (fun _ _ _ h => h) (Or.inl ⟨by rfl, by rintro w' h; have hc := cvs _ 1 1 _ (Bs.below BB1.out h); go_simp⟩) hS13 ?_
        simp only [Act.put, List.setIfInBounds_toArray, List.set_cons_zero, List.set_cons_succ]
        refine wpAnyH_ready (rs := [2]) (by kernel_rfl) (by simp) ?_
        refine AllReadyH.cons rfl (fun K14 hK14 => ?_) AllReadyH.nil
        have HK14 := Lib.hid hK14
        clear hK14
        rw [if_pos (by rfl)]
        go_simp
        refine (IH.out _).mono ?_
        rintro e x15 ⟨rfl, hb16⟩
        have S_17 := Lib.hid (Bs.below BB1.out (hb16))
        have hl18 := hb16
        have HT_19 : Hid (Below w.heap.size w x15) := Lib.hid (HT_10.out.trans ((hl18).mono HT_10.out.size))
        clear hb16 
        have hb21 : Below x7.heap.size x7 x15 := hl18
        have hS20 : (fun w' : World => Below x7.heap.size x7 w') x15 := hb21
        refine HK14.out _ _ hS20 fun _ => ?_
        try simp only [Act.put, List.setIfInBounds_toArray, List.set_cons_zero, List.set_cons_succ]
        refine wpAnyH_up (S' := (fun w' : World => Below x15.heap.size x15 w')) (fun w' h => hb21.trans (h.mono hb21.size)) ?_
        have hS22 : (fun w' : World => Below x15.heap.size x15 w') x15 := Below.refl _ _
        refine takeD (i := 9) (v := .string (strOf (dig m ++ [48 + d]))) (some 19) rfl rfl (by kernel_rfl) (by kernel_rfl) (by kernel_rfl) (fun _ _ _ h => h) (Or.inl ⟨by rfl, by rintro w' -; have hc := sx_add (P := Tryd.prog) w' (a := dig m) (b := [48 + d]) (by have := LM.out; simp; omega); go_simp⟩) hS22 ?_
        simp only [Act.put, List.setIfInBounds_toArray, List.set_cons_zero, List.set_cons_succ]
        refine takeD (i := 10) (v := .string (strOf (dig m ++ [48 + d]))) (some 2) rfl rfl (by kernel_rfl) (by kernel_rfl) (by kernel_rfl) (fun _ _ _ h => h) (Or.inl ⟨by rfl, by rintro w' -; go_simp⟩) hS22 ?_
        simp only [Act.put, List.setIfInBounds_toArray, List.set_cons_zero, List.set_cons_succ]
        refine wpAnyH_done (by kernel_rfl) ?_ _
        go_wp2_with fail
        go_ret
        exact ⟨rfl, HT_19.out⟩
end Go.Proofs.YtffdmpicjhaniaaDoor
