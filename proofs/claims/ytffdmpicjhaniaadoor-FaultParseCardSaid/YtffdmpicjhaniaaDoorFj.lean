/- Layer 13: contract of the reference: read. WRITTEN BY gen_Fj.py. -/
import Derived.Test.YtffdmpicjhaniaaDoorFi
namespace Go.Proofs.YtffdmpicjhaniaaDoor
open Go Go.RowKit Flt
set_option linter.unusedVariables false
set_option linter.unusedSimpArgs false
/-- What read returns. -/
def rdV (l : List Nat) : Value := match rd1 l with
  | some p => .tuple #[fV p.1, .string (strOf p.2), .bool true]
  | none => .tuple #[fV ⟨0, 0, 0⟩, .string (strOf l), .bool false]
theorem rdF_hit {s : List Nat} {n : Nat} {k : Int} (h : (word k ++ [32]).isPrefixOf s = true) : rdF s (n + 1) k = some (rdK k (s.drop (word k ++ [32]).length)) := by
  rw [rdF]; unfold after; rw [if_pos h]
theorem rdF_miss {s : List Nat} {n : Nat} {k : Int} (h : (word k ++ [32]).isPrefixOf s = false) : rdF s (n + 1) k = rdF s n (k + 1) := by
  rw [rdF]; unfold after; rw [if_neg (by rw [h]; decide)]
theorem rdT_hit {p k : Int} {s : List Nat} (h : tos.isPrefixOf s = true) : rdT p k s = (⟨p, k, (rdN 0 (s.drop 4)).1⟩, (rdN 0 (s.drop 4)).2) := rdT_some (by unfold after; rw [if_pos h]; rfl)
theorem rdT_miss {p k : Int} {s : List Nat} (h : tos.isPrefixOf s = false) : rdT p k s = (⟨p, k, 0⟩, s) := rdT_none (by unfold after; rw [if_neg (by rw [h]; decide)])
theorem rdN_by : ∀ (s : List Nat) (n : Int), By s → By (rdN n s).2
  | [], _, _ => fun x hx => by cases hx
  | c :: s, n, h => by
    rw [rdN]
    split
    · exact rdN_by s _ h.tail
    · exact h
theorem oth13 {w : World} {b c : Nat} {t : TypeId} {cs : Array Value} (h : Row w b t cs) (hb : b ≠ c) (i : Nat) (u : Value) : Row (w.setCell ⟨c, i, none⟩ u) b t cs := (Below.heap_setCell w ⟨c, i, none⟩ u b hb).trans h
theorem row8 {w : World} {b : Nat} {t : TypeId} {x y z u : Value} (h : Row w b t ((#[x, y, z] : Array Value).setIfInBounds 0 u)) : Row w b t #[u, y, z] := h
theorem row9 {w : World} {b : Nat} {t : TypeId} {x y z u v : Value} (h : Row w b t (((#[x, y, z] : Array Value).setIfInBounds 0 u).setIfInBounds 2 v)) : Row w b t #[u, y, v] := h
theorem cell13 {w : World} {b : Nat} {t : TypeId} {x y z u : Value} (h : Row w b t ((#[x, y, z] : Array Value).setIfInBounds 0 u)) : w.cell? ⟨b, 2, none⟩ = some z := by rw [h.cell]; rfl
set_option maxHeartbeats 4000000 in
set_option maxRecDepth 100000 in
theorem rread_any (l : List Nat) (hl : By l) (ll : l.length ≤ 1000000000) (w : World) : Calls Tryd.prog 30 #[.string (strOf l)] w (mPost (rdV l) w) := by
  have HL := Lib.hid hl
  have LL := Lib.hid ll
  obtain ⟨s, hs⟩ : ∃ s, strOf l = s := ⟨_, rfl⟩
  have ES := Lib.hid hs
  have zs : Hid (s.size = l.length) := Lib.hid (by rw [← hs, strOf_sz])
  rw [hs]
  clear hl ll hs
  have R0 := Lib.hid (new13 w #[.int .i64 0, .int .i64 0, .int .i64 0] 26 rfl)
  have B0 : Hid (Below w.heap.size w (w.alloc (.cells #[.int .i64 0, .int .i64 0, .int .i64 0] 26))) := Lib.hid ((Below.refl _ _).alloc (Nat.le_refl _) _)
  go_enter Tryd.func30, Tryd.ntmps30
  go_wp2_with fail
  obtain ⟨b4, e4⟩ : ∃ b, w.heap.size = b := ⟨_, rfl⟩
  have E4 := Lib.hid e4
  rw [e4] at R0 ⊢
  obtain ⟨w1, hw1⟩ : ∃ x, w.alloc (.cells #[.int .i64 0, .int .i64 0, .int .i64 0] 26) = x := ⟨_, rfl⟩
  rw [hw1] at R0 B0 ⊢
  clear e4 hw1
  go_loopw [0, 5, 6] (fun sv i _ wr => ∃ k : Nat, 1 ≤ k ∧ k ≤ 8 ∧ sv = .string s ∧ i = .int .i64 (k : Int) ∧ wr = w1 ∧ Hid (rdF l (8 - k) (k : Int) = rd1 l)) (fun _ i _ _ => 8 - (intOf i).toNat)
  case atStart => exact ⟨1, by omega, by omega, rfl, rfl, rfl, Lib.hid rfl⟩
  case round =>
    obtain ⟨k, k1, k8, rfl, rfl, rfl, V⟩ := hrel
    by_cases hlt : k ≤ 7
    · have kI : (k : Int) ≤ 7 := by omega
      have WD := Lib.hid (rwo_any (k : Int) (by omega) kI wr)
      have a1 := fun w => sx_addc (P := Tryd.prog) (a := word (k : Int)) w s_blank (by have := word_le (k : Int); simp; omega)
      obtain ⟨q, hq⟩ : ∃ l, word (k : Int) ++ [32] = l := ⟨_, rfl⟩
      have LQ := Lib.hid (show q.length ≤ 6 by rw [← hq]; have := word_le (k : Int); simp; omega)
      have BQ := Lib.hid (show By q by rw [← hq]; exact By.app (word_by _) (by decide))
      have EQ := Lib.hid hq
      obtain ⟨sw, hsw⟩ : ∃ s, strOf (word (k : Int)) = s := ⟨_, rfl⟩
      rw [hsw] at WD a1
      obtain ⟨sq, hsq⟩ : ∃ s, strOf q = s := ⟨_, rfl⟩
      have zq : Hid (sq.size = q.length) := Lib.hid (by rw [← hsq, strOf_sz])
      rw [hq, hsq] at a1
      have BG := rbg_any l q HL.out BQ.out (by have := LL.out; omega) (by have := LQ.out; omega) wr
      rw [ES.out, hsq] at BG
      have BGH := Lib.hid BG
      clear hq hsw BG
      have N8 : Hid (8 - k = (7 - k) + 1) := Lib.hid (by omega)
      by_cases hp : q.isPrefixOf l = true
      · rw [hp] at BGH
        have HIT : Hid (rd1 l = some (rdK (k : Int) (l.drop q.length))) := Lib.hid (by rw [← V.out, N8.out, rdF_hit (by rw [EQ.out]; exact hp), EQ.out])
        have hle : q.length ≤ l.length := by
          have := after_take q l
          rw [hp] at this
          simp only [Bool.true_eq, Bool.and_eq_true, decide_eq_true_eq] at this
          exact this.1
        have sf := fun w => sx_from (P := Tryd.prog) Tryd.underlying9 w hle
        rw [ES.out] at sf
        obtain ⟨m, hm⟩ : ∃ m, q.length = m := ⟨_, rfl⟩
        have zz : sq.size = m := by rw [zq.out, hm]
        rw [hm] at sf HIT
        obtain ⟨r0, hr0⟩ : ∃ r, l.drop m = r := ⟨_, rfl⟩
        have BR0 := Lib.hid (show By r0 by rw [← hr0]; exact HL.out.drop _)
        have LR0 := Lib.hid (show r0.length ≤ 1000000000 by rw [← hr0, List.length_drop]; have := LL.out; omega)
        rw [hr0] at sf HIT
        have NM := rnum_any r0 BR0.out (by have := LR0.out; omega)
        obtain ⟨t0, ht0⟩ : ∃ s, strOf r0 = s := ⟨_, rfl⟩
        rw [ht0] at sf NM
        unfold nuPost at NM
        obtain ⟨n1, hn1⟩ : ∃ n, (rdN 0 r0).1 = n := ⟨_, rfl⟩
        obtain ⟨r1, hr1⟩ : ∃ n, (rdN 0 r0).2 = n := ⟨_, rfl⟩
        have BR1 := Lib.hid (show By r1 by rw [← hr1]; exact rdN_by _ _ BR0.out)
        have LR1 := Lib.hid (show r1.length ≤ 1000000000 by rw [← hr1]; exact Nat.le_trans (rdN_len _ _) LR0.out)
        obtain ⟨t1, ht1⟩ : ∃ s, strOf r1 = s := ⟨_, rfl⟩
        rw [hn1, hr1, ht1] at NM
        have NMH := Lib.hid NM
        unfold rdK at HIT
        rw [hn1, hr1] at HIT
        have RF := Lib.hid (new13 wr #[.int .i64 0, .int .i64 (k : Int), .int .i64 0] 26 rfl)
        have BF : Hid (Below wr.heap.size wr (wr.alloc (.cells #[.int .i64 0, .int .i64 (k : Int), .int .i64 0] 26))) := Lib.hid ((Below.refl _ _).alloc (Nat.le_refl _) _)
        have NB : Hid (b4 < wr.heap.size) := Lib.hid R0.out.lt
        clear hp hle hr0 ht0 hn1 hr1 NM V zs zq hm hsq
        go_wp2_with fail
        refine WD.out.mono ?_
        rintro e w' ⟨rfl, rfl⟩
        clear WD
        go_wp2_with fail
        refine BGH.out.mono ?_
        rintro e w' ⟨rfl, rfl⟩
        clear BGH a1
        go_wp2_with fail
        obtain ⟨b7, e7⟩ : ∃ b, wr.heap.size = b := ⟨_, rfl⟩
        obtain ⟨w7, hw7⟩ : ∃ x, wr.alloc (.cells #[.int .i64 0, .int .i64 (k : Int), .int .i64 0] 26) = x := ⟨_, rfl⟩
        have E7 := Lib.hid e7
        rw [hw7] at RF BF
        rw [e7] at RF NB
        (try rw [hw7])
        (try rw [e7])
        have BG2 := rbg_any r1 tos BR1.out (by decide) (by have := LR1.out; omega) (by decide)
        rw [ht1, s_tos] at BG2
        have BG2H := Lib.hid BG2
        have f0 := RF.out.frozen 0
        obtain ⟨c0, -, -⟩ := row3 RF.out
        have R7 : Hid (Row w7 b4 26 #[.int .i64 0, .int .i64 0, .int .i64 0]) := Lib.hid (rw13 R0.out BF.out)
        have B7 : Hid (Below w.heap.size w w7) := Lib.hid (B0.out.trans (BF.out.mono B0.out.size))
        have R8 := Lib.hid (RF.out.store 0 (.int .i64 n1))
        have NE := Lib.hid (show b4 ≠ b7 by have := NB.out; omega)
        have S8 := Lib.hid (oth13 R7.out NE.out 0 (.int .i64 n1))
        have GE : Hid (w.heap.size ≤ b7) := Lib.hid (by have := NB.out; have := E4.out; omega)
        have B8 := Lib.hid (B7.out.setCell (p := ⟨b7, 0, none⟩) GE.out (.int .i64 n1))
        clear BG2 hw7 e7
        refine (NMH.out w7).mono ?_
        rintro e w' ⟨rfl, rfl⟩
        go_wp2_with fail
        clear f0 c0
        obtain ⟨w8, hw8⟩ : ∃ x, w7.setCell ⟨b7, 0, none⟩ (.int .i64 n1) = x := ⟨_, rfl⟩
        rw [hw8] at R8 S8 B8
        (try rw [hw8])
        clear hw8
        refine (BG2H.out _).mono ?_
        rintro e w' ⟨rfl, rfl⟩
        by_cases ht : tos.isPrefixOf r1 = true
        · rw [ht]
          rw [rdT_hit ht] at HIT
          have le4 : 4 ≤ r1.length := by
            have := after_take tos r1
            rw [ht] at this
            simp only [Bool.true_eq, Bool.and_eq_true, decide_eq_true_eq] at this
            exact this.1
          have sf2 : ∀ w, (Instr.slice 9 (.string t1) (some (.int .i64 4)) none none).run Tryd.prog w = .ok (.string (strOf (r1.drop 4))) w := fun w => by
            rw [← ht1]; exact sx_from (P := Tryd.prog) Tryd.underlying9 w (l := r1) (k := 4) le4
          obtain ⟨r2, hr2⟩ : ∃ r, r1.drop 4 = r := ⟨_, rfl⟩
          have BR2 : By r2 := by rw [← hr2]; exact BR1.out.drop _
          have LR2 : r2.length ≤ 9223372036854775807 := by rw [← hr2, List.length_drop]; have := LR1.out; omega
          rw [hr2] at sf2 HIT
          have NM2 := rnum_any r2 BR2 LR2
          obtain ⟨t2, ht2⟩ : ∃ s, strOf r2 = s := ⟨_, rfl⟩
          rw [ht2] at sf2 NM2
          unfold nuPost at NM2
          obtain ⟨n2, hn2⟩ : ∃ n, (rdN 0 r2).1 = n := ⟨_, rfl⟩
          obtain ⟨r3, hr3⟩ : ∃ n, (rdN 0 r2).2 = n := ⟨_, rfl⟩
          rw [hn2, hr3] at NM2 HIT
          obtain ⟨t3, ht3⟩ : ∃ s, strOf r3 = s := ⟨_, rfl⟩
          rw [ht3] at NM2
          have OUT : Hid (rdV l = .tuple #[fV ⟨n1, (k : Int), n2⟩, .string t3, .bool true]) := Lib.hid (by unfold rdV; rw [HIT.out]; show Value.tuple #[_, .string (strOf r3), _] = _; rw [ht3])
          have NM2H := Lib.hid NM2
          have R9 := Lib.hid (R8.out.store 2 (.int .i64 n2))
          have S9 := Lib.hid (oth13 S8.out NE.out 2 (.int .i64 n2))
          have B9 := Lib.hid (B8.out.setCell (p := ⟨b7, 2, none⟩) GE.out (.int .i64 n2))
          have f2 := R8.out.frozen 2
          have c2 := cell13 R8.out
          clear ht hr2 BR2 LR2 ht2 hn2 hr3 ht3 NM2 le4 HIT ht1
          go_wp2_with fail
          refine (NM2H.out w8).mono ?_
          rintro e w' ⟨rfl, rfl⟩
          obtain ⟨d0, d1, d2⟩ := row3 (row9 R9.out)
          obtain ⟨h0, h1, h2⟩ := row3 S9.out
          have g0 := S9.out.frozen 0
          have g1 := S9.out.frozen 1
          have g2 := S9.out.frozen 2
          go_wp2_with fail
          refine bodyPost_ret (results_c1t2 (g := b4) (t := 26) (fr := (0, 0)) rfl _ _ _ _ rfl (row_set3 S9.out (x' := .int .i64 n1) (y' := .int .i64 (k : Int)) (z' := .int .i64 n2)) Tryd.underlying26 rfl (by kernel_rfl)) rfl ?_
          refine ⟨by rw [OUT.out]; rfl, ?_⟩
          exact ((B9.out.setCell (p := ⟨b4, 0, none⟩) (Nat.le_of_eq E4.out) _).setCell (p := ⟨b4, 1, none⟩) (Nat.le_of_eq E4.out) _).setCell (p := ⟨b4, 2, none⟩) (Nat.le_of_eq E4.out) _
        · have ht' : tos.isPrefixOf r1 = false := (Bool.not_eq_true _).mp ht
          rw [ht']
          rw [rdT_miss ht'] at HIT
          have OUT : Hid (rdV l = .tuple #[fV ⟨n1, (k : Int), 0⟩, .string t1, .bool true]) := Lib.hid (by unfold rdV; rw [HIT.out]; show Value.tuple #[_, .string (strOf r1), _] = _; rw [ht1])
          obtain ⟨d0, d1, d2⟩ := row3 (row8 R8.out)
          obtain ⟨h0, h1, h2⟩ := row3 S8.out
          have g0 := S8.out.frozen 0
          have g1 := S8.out.frozen 1
          have g2 := S8.out.frozen 2
          clear ht ht' HIT ht1
          go_wp2_with fail
          refine bodyPost_ret (results_c1t2 (g := b4) (t := 26) (fr := (0, 0)) rfl _ _ _ _ rfl (row_set3 S8.out (x' := .int .i64 n1) (y' := .int .i64 (k : Int)) (z' := .int .i64 0)) Tryd.underlying26 rfl (by kernel_rfl)) rfl ?_
          refine ⟨by rw [OUT.out]; rfl, ?_⟩
          exact ((B8.out.setCell (p := ⟨b4, 0, none⟩) (Nat.le_of_eq E4.out) _).setCell (p := ⟨b4, 1, none⟩) (Nat.le_of_eq E4.out) _).setCell (p := ⟨b4, 2, none⟩) (Nat.le_of_eq E4.out) _
      · have hp' : q.isPrefixOf l = false := (Bool.not_eq_true _).mp hp
        rw [hp'] at BGH
        have MISS : Hid (rdF l (8 - (k + 1)) ((k : Int) + 1) = rd1 l) := Lib.hid (by rw [← V.out, N8.out, rdF_miss (by rw [EQ.out]; exact hp'), show 8 - (k + 1) = 7 - k by omega])
        clear hp hp' V zs zq hsq
        go_wp2_with fail
        refine WD.out.mono ?_
        rintro e w' ⟨rfl, rfl⟩
        clear WD
        go_wp2_with fail
        refine BGH.out.mono ?_
        rintro e w' ⟨rfl, rfl⟩
        clear BGH a1
        go_wp2_with fail
        go_roundw
        case rel => exact ⟨k + 1, by omega, by omega, rfl, by go_num, by trivial, MISS⟩
        case measure => simp [intOf]; omega
    · obtain rfl : k = 8 := by omega
      have kI : ¬ ((8 : Nat) : Int) ≤ 7 := by omega
      have dk : decide (((8 : Nat) : Int) ≤ 7) = false := decide_eq_false kI
      have OUT : Hid (rdV l = .tuple #[fV ⟨0, 0, 0⟩, .string s, .bool false]) := Lib.hid (by
        have h : rd1 l = none := by rw [← V.out]; rfl
        unfold rdV; rw [h]; show Value.tuple #[_, .string (strOf l), _] = _; rw [ES.out])
      obtain ⟨h0, h1, h2⟩ := row3 R0.out
      have g0 := R0.out.frozen 0
      have g1 := R0.out.frozen 1
      have g2 := R0.out.frozen 2
      clear V
      go_wp2_with fail
      refine bodyPost_ret (results_c1t2 (g := b4) (t := 26) (fr := (0, 0)) rfl _ _ _ _ rfl (row_set3 R0.out (x' := .int .i64 0) (y' := .int .i64 0) (z' := .int .i64 0)) Tryd.underlying26 rfl (by kernel_rfl)) rfl ?_
      refine ⟨by rw [OUT.out]; rfl, ?_⟩
      exact ((B0.out.setCell (p := ⟨b4, 0, none⟩) (Nat.le_of_eq E4.out) _).setCell (p := ⟨b4, 1, none⟩) (Nat.le_of_eq E4.out) _).setCell (p := ⟨b4, 2, none⟩) (Nat.le_of_eq E4.out) _
end Go.Proofs.YtffdmpicjhaniaaDoor
