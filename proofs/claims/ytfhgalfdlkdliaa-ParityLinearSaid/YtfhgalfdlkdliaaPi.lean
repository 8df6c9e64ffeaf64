/- parity's Check. -/
import Derived.Test.YtfhgalfdlkdliaaPk
import Derived.Test.YtfhgalfdlkdliaaBe
import Derived.Laws.Cover3
namespace Go.Proofs.Ytfhgalfdlkdliaa
open Go Go.RowKit
set_option linter.unusedVariables false
set_option linter.unusedSimpArgs false

theorem flat_inj : ∀ {D E : List (List Nat)}, (∀ d ∈ D, d.length = 8) → (∀ d ∈ E, d.length = 8) → D.length = E.length → D.flatten = E.flatten → D = E
  | [], [], _, _, _, _ => rfl
  | [], _ :: _, _, _, h, _ => by cases h
  | _ :: _, [], _, _, h, _ => by cases h
  | d :: r, e :: s, h1, h2, h, hf => by
    rw [List.flatten_cons, List.flatten_cons] at hf
    obtain ⟨a, b⟩ := List.append_inj hf ((h1 d List.mem_cons_self).trans (h2 e List.mem_cons_self).symm)
    rw [a, flat_inj (fun x hx => h1 x (List.mem_cons_of_mem _ hx)) (fun x hx => h2 x (List.mem_cons_of_mem _ hx)) (by simpa using h) b]
theorem chk_flat {D : List (List Nat)} (hD : ∀ d ∈ D, B8 d) (h4 : 4 ≤ D.length) (h16 : D.length ≤ 16) : chk D = decide ((parL (D.take (D.length - 3))).flatten = (D.drop (D.length - 3)).flatten) := by
  unfold chk
  refine decide_eq_decide.2 ⟨fun h => ?_, fun h => ⟨h4, h16, ?_⟩⟩
  · have := h.2.2
    conv at this => lhs; rw [← List.take_append_drop (D.length - 3) D]
    rw [List.append_cancel_left this]
  · have e := flat_inj (fun d hd => (parL_ok _ d hd).1) (fun d hd => (hD d (List.mem_of_mem_drop hd)).1) (by simp [parL]; omega) h
    rw [e, List.take_append_drop]
theorem cat3_drop {E : List (List Nat)} (hE : ∀ d ∈ E, B8 d) (h3 : E.length = 3) : cat3 (nth E hE) = E.flatten := by
  match E, h3, hE with
  | [a, b, c], _, _ => simp [cat3, nth]
theorem eql24 (S T : Nat → Blk) (w : World) : (binOp .eql 73 (.agg (bcs (cat3 S))) (.agg (bcs (cat3 T)))).run Try.prog w = .ok (.bool (decide (cat3 S = cat3 T))) w := by
  rw [run_eql_struct, eq24 9997 S T]; rfl

theorem drop_range {w : World} {b off : Nat} {D : List (List Nat)} (h : w.rangeAt b off (D.flatten.map bv)) (hD : ∀ d ∈ D, B8 d) (m : Nat) (hm : m ≤ D.length) : w.rangeAt b (off + m * 8) ((D.drop m).flatten.map bv) := fun j u hu => by
  rw [Nat.add_assoc]
  refine h (m * 8 + j) u ?_
  have e : D.flatten = (D.take m).flatten ++ (D.drop m).flatten := by rw [← List.flatten_append, List.take_append_drop]
  have l : (D.take m).flatten.length = m * 8 := by rw [flat_len fun d hd => (hD d (List.mem_of_mem_take hd)).1, List.length_take]; omega
  rw [e, List.map_append, List.getElem?_append_right (by rw [List.length_map, l]; omega), List.length_map, l, Nat.add_sub_cancel_left]; exact hu
theorem take_bl {w : World} {b off c n m : Nat} {D : List (List Nat)} (hr : w.rangeAt b off (D.flatten.map bv)) (hD : ∀ d ∈ D, B8 d) (hn : D.length = n) (hc : n ≤ c ∧ c ≤ maxLen) (hm : m ≤ n) : Bl w (.slice (some ⟨b, off, none⟩) m c) (D.take m) := by
  have l1 : (D.take m).length = m := by rw [List.length_take]; omega
  refine ⟨_, c, by rw [l1], ⟨by omega, hc.2⟩, fun d hd => hD d (List.mem_of_mem_take hd), fun e => (by cases e), fun _ => ⟨b, off, rfl, fun j u hu => ?_⟩⟩
  refine hr j u ?_
  obtain ⟨t, ht⟩ : ∃ t, D.flatten = (D.take m).flatten ++ t := ⟨(D.drop m).flatten, by rw [← List.flatten_append, List.take_append_drop]⟩
  rw [ht, List.map_append, List.getElem?_append_left (List.getElem?_eq_some_iff.1 hu).1]; exact hu

set_option maxHeartbeats 400000 in
theorem check_small (v : Value) (D : List (List Nat)) (w : World) (h : Bl w v D) (hs : D.length < 4 ∨ 16 < D.length) :
    Calls Try.prog 24 #[v] w fun e w' => e = .returned (.bool false) ∧ w = w' := by
  have hm : D.length ≤ maxLen := by obtain ⟨_, _, _, hm, _⟩ := h; omega
  obtain ⟨A, c, rfl⟩ := h.form
  obtain ⟨n, hn⟩ : ∃ n, D.length = n := ⟨_, rfl⟩
  rw [hn] at hm hs ⊢
  have hmm : (n : Int) ≤ 9223372036854775807 := by unfold maxLen at hm; omega
  have hw : wrap64 ((n : Int) - 3) = (n : Int) - 3 := IntWalk.wrap64_in _ ⟨by omega, by omega⟩
  have H := Lib.hid hs
  clear h hn hs hm
  go_enter Try.func24, Try.ntmps24
  go_wp2_with (go_at_call 37; refine (dcount_f _ _ (by have := H.out; omega)).mono ?_; rintro e w' ⟨rfl, rfl⟩)
  go_ret
  exact ⟨rfl, rfl⟩
set_option maxHeartbeats 2000000 in
set_option maxRecDepth 100000 in
theorem check_any (v : Value) (D : List (List Nat)) (w : World) (h : Bl w v D) :
    Calls Try.prog 24 #[v] w (belowB (chk D) w) := by
  by_cases hs : 4 ≤ D.length ∧ D.length ≤ 16
  case neg =>
    have e : chk D = false := decide_eq_false fun x => hs ⟨x.1, x.2.1⟩
    rw [e]
    exact (check_small v D w h (by omega)).mono fun _ _ ⟨a, b⟩ => ⟨a, b ▸ Below.refl _ _⟩
  obtain ⟨h4, h16⟩ := hs
  obtain ⟨b, off, c, rfl, hc, hb, hr⟩ := h.at_ (by omega)
  have CK := Lib.hid (chk_flat h.ok h4 h16)
  have hT := take_bl hr h.ok rfl hc (Nat.sub_le D.length 3)
  have hE : ∀ d ∈ D.drop (D.length - 3), B8 d := fun d hd => h.ok d (List.mem_of_mem_drop hd)
  have hL := cat3_drop hE (by rw [List.length_drop]; omega)
  have hR := drop_range hr h.ok (D.length - 3) (by omega)
  rw [← hL] at hR CK
  generalize nth (D.drop (D.length - 3)) hE = T at hR CK
  have EQ := fun w' => eql24 (parS (D.take (D.length - 3)) (fun d hd => h.ok d (List.mem_of_mem_take hd))) T w'
  rw [cat3_par] at EQ
  obtain ⟨L, hLL⟩ : ∃ L, (parL (D.take (D.length - 3))).flatten = L := ⟨_, rfl⟩
  have PA := Lib.hid (fun w' (hb : Below w.heap.size w w') => (parityOf_any _ (D.take (D.length - 3)) w' (hT.below hb (Nat.le_refl _)) (by rw [List.length_take]; omega) (by rw [List.length_take]; omega)).mono
    (fun e w'' ⟨hD, he, hb⟩ => (⟨by rw [he, cat3_par, hLL], hb⟩ : e = Ending.returned (.agg (bcs L)) ∧ Below w'.heap.size w' w'')))
  rw [hLL] at EQ CK
  obtain ⟨t, ht⟩ : ∃ t, decide (L = cat3 T) = t := ⟨_, rfl⟩
  rw [ht] at EQ CK
  have si : (Try.prog.info? 73).map (·.size) = some (bcs (cat3 T)).size := by rw [bcs_size, cat3_len]; kernel_rfl
  have SI := Lib.hid si
  obtain ⟨M, hM⟩ : ∃ M, cat3 T = M := ⟨_, rfl⟩
  rw [hM] at hR SI EQ
  obtain ⟨n, hn⟩ : ∃ n, D.length = n := ⟨_, rfl⟩
  have hm : n ≤ maxLen := by omega
  rw [hn] at h4 h16 hc hR PA ⊢
  have hmm : (n : Int) ≤ 9223372036854775807 := by unfold maxLen at hm; omega
  have hw : wrap64 ((n : Int) - 3) = (n : Int) - 3 := IntWalk.wrap64_in _ ⟨by omega, by omega⟩
  have g3 : (0 : Int) ≤ (n : Int) - 3 := by omega
  have g4 : (n : Int) - 3 ≤ (c : Int) := by omega
  have g5 : (n : Int) - 3 ≤ (n : Int) := by omega
  have g6 : ((n : Int) - 3).toNat = n - 3 := by omega
  have g7 : n - (n - 3) = 3 := by omega
  have g8 : ¬ (c = n - 3) := by omega
  have g9 : (3 : Int) ≤ (n : Int) := by omega
  have g10 : ¬ ((n : Int) < 3) := by omega
  have hat := fun w' => run_arrayAt (P := Try.prog) w' 73 _ 3 (some ⟨b, off + (n - 3) * 8, none⟩) 3 (c - (n - 3)) Try.underlying73 (Nat.le_refl 3)
  have U73 := Try.underlying73
  have HR := Lib.hid hR
  clear h hT hr hn hE hL hM hLL ht hR si
  go_enter Try.func24, Try.ntmps24
  go_wp2_with (go_at_call 37; refine (dcount_t _ _ (by omega) (by omega)).mono ?_; rintro e w' ⟨rfl, rfl⟩)
  have HS : (fun w' : World => w'.rangeAt b (off + (n - 3) * 8) (M.map bv)) w.drew := HR.out
  refine wp_region_held (S := fun w' : World => w'.rangeAt b (off + (n - 3) * 8) (M.map bv)) rfl ?_
  change wpAnyH _ _ _ _ _ _ _ _ w.drew
  refine takeD (i := 0) (v := .slice (some ⟨b, off, none⟩) n c) (some 10) rfl rfl (by kernel_rfl) (by kernel_rfl) (by kernel_rfl) (fun _ _ _ h => h) (Or.inl ⟨by rfl, by rintro w' -; go_simp⟩) HS ?_
  simp only [Act.put, List.setIfInBounds_toArray, List.set_cons_zero, List.set_cons_succ]
  refine takeD (i := 1) (v := .int .i64 ((n : Int) - 3)) (some 11) rfl rfl (by kernel_rfl) (by kernel_rfl) (by kernel_rfl) (fun _ _ _ h => h) (Or.inl ⟨by rfl, by rintro w' -; go_simp⟩) HS ?_
  simp only [Act.put, List.setIfInBounds_toArray, List.set_cons_zero, List.set_cons_succ]
  refine takeD (i := 2) (v := .slice (some ⟨b, off, none⟩) (n - 3) c) (some 12) rfl rfl (by kernel_rfl) (by kernel_rfl) (by kernel_rfl) (fun _ _ _ h => h) (Or.inl ⟨by rfl, by rintro w' -; go_simp⟩) HS ?_
  simp only [Act.put, List.setIfInBounds_toArray, List.set_cons_zero, List.set_cons_succ]
  refine takeD (i := 4) (v := .slice (some ⟨b, off, none⟩) n c) (some 14) rfl rfl (by kernel_rfl) (by kernel_rfl) (by kernel_rfl) (fun _ _ _ h => h) (Or.inl ⟨by rfl, by rintro w' -; go_simp⟩) HS ?_
  simp only [Act.put, List.setIfInBounds_toArray, List.set_cons_zero, List.set_cons_succ]
  refine takeD (i := 5) (v := .int .i64 ((n : Int) - 3)) (some 15) rfl rfl (by kernel_rfl) (by kernel_rfl) (by kernel_rfl) (fun _ _ _ h => h) (Or.inl ⟨by rfl, by rintro w' -; go_simp⟩) HS ?_
  simp only [Act.put, List.setIfInBounds_toArray, List.set_cons_zero, List.set_cons_succ]
  refine takeD (i := 6) (v := .slice (some ⟨b, off + (n - 3) * 8, none⟩) 3 (c - (n - 3))) (some 16) rfl rfl (by kernel_rfl) (by kernel_rfl) (by kernel_rfl) (fun _ _ _ h => h) (Or.inl ⟨by rfl, by rintro w' -; go_simp⟩) HS ?_
  simp only [Act.put, List.setIfInBounds_toArray, List.set_cons_zero, List.set_cons_succ]
  refine takeD (i := 7) (v := .pointer (some ⟨b, off + (n - 3) * 8, none⟩)) (some 17) rfl rfl (by kernel_rfl) (by kernel_rfl) (by kernel_rfl) (fun _ _ _ h => h) (Or.inl ⟨by rfl, by rintro w' -; go_simp⟩) HS ?_
  simp only [Act.put, List.setIfInBounds_toArray, List.set_cons_zero, List.set_cons_succ]
  refine takeD (i := 8) (v := .agg (bcs M)) (some 18) rfl rfl (by kernel_rfl) (by kernel_rfl) (by kernel_rfl) (fun _ _ _ h => h) (yieldsIf_load8 (by rfl) _ _ rfl _ _ rfl M _ (fun w' h => h) U73 rfl SI.out) HS ?_
  simp only [Act.put, List.setIfInBounds_toArray, List.set_cons_zero, List.set_cons_succ]
  refine wpAnyH_ready (rs := [3]) (by kernel_rfl) (by simp) ?_
  refine AllReadyH.cons rfl (fun K3 hK3 => ?_) AllReadyH.nil
  have HK3 := Lib.hid hK3
  clear hK3
  rw [if_pos (by rfl)]
  go_simp
  go_at_call 40
  refine (PA.out _ (Below.refl _ _).drew).mono ?_
  rintro e w1 ⟨rfl, hb1⟩
  have hb1 := (Below.refl w.heap.size w).drew.trans hb1
  have HS2 : (fun w' : World => w'.rangeAt b (off + (n - 3) * 8) (M.map bv)) w1 := fun j u hu => (hb1.cell (p := ⟨b, off + (n - 3) * 8 + j, none⟩) hb).trans (HR.out j u hu)
  refine HK3.out _ _ HS2 fun _ => ?_
  refine takeD (i := 9) (v := .bool t) (some 19) rfl rfl (by kernel_rfl) (by kernel_rfl) (by kernel_rfl) (fun _ _ _ h => h) (Or.inl ⟨by rfl, by rintro w' -; go_simp⟩) HS2 ?_
  simp only [Act.put, List.setIfInBounds_toArray, List.set_cons_zero, List.set_cons_succ]
  refine wpAnyH_ready (rs := [10]) (by kernel_rfl) (by simp) ?_
  refine AllReadyH.cons rfl (fun K10 hK10 => ?_) AllReadyH.nil
  have HK10 := Lib.hid hK10
  clear hK10
  rw [if_pos (by rfl)]
  go_simp
  refine HK10.out _ _ HS2 fun _ => ?_
  refine wpAnyH_done (by kernel_rfl) ?_ _
  have HB1 := Lib.hid hb1
  clear hb1 HS HS2 hat
  go_wp2
  go_ret
  exact ⟨ret_bool CK.out.symm, HB1.out⟩
end Go.Proofs.Ytfhgalfdlkdliaa
