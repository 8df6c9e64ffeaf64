/- Joined: Yi Ya Yj Yk. -/
import Derived.Test.YtnnacofjogfkeaaDoorCof
import Derived.Test.YtnnacofjogfkeaaDoorGP
import Derived.Test.YtnnacofjogfkeaaDoorCod
import Derived.Lib.SliceRun
import Derived.Test.YtnnacofjogfkeaaDoorProg
import Derived.RangeFuncNested
import Derived.RangeFuncBox
import Derived.RangeFuncLeaves
import Derived.RangeFuncCalls
import Derived.Shelf.Abstract
import Derived.Shelf.RegionOpen
import Derived.OwnWalkIn
import Derived.TacticsInMore
import Derived.LoopNIn
import Derived.LoopIn
import Derived.Test.YtnnacofjogfkeaaDoorUg
namespace Go.Proofs.YtnnacofjogfkeaaDoor
open Go Go.RowKit Pl Co
set_option linter.unusedVariables false
set_option linter.unusedSimpArgs false

theorem Row.al {w : World} {g : Nat} {t : TypeId} {cs : Array Value} (h : Row w g t cs) (o : Obj) : Row (w.alloc o) g t cs := h.go ((Below.refl _ _).alloc (Nat.le_refl _) o)
theorem row_al {w : World} {k : Nat} (hk : w.heap.size = k) (cs : Array Value) (t : TypeId) : Row (w.alloc (.cells cs t)) k t cs := by subst hk; exact row_new' w cs t
/-- Of what lay before, block S alone has changed. -/
def Only (S : Nat) (w w' : World) : Prop := Below S w w' ∧ ∀ b, S < b → b < w.heap.size → w'.heap[b]? = w.heap[b]?
theorem Only.size {S : Nat} {w w' : World} (h : Only S w w') : w.heap.size ≤ w'.heap.size := h.1.size
theorem Only.at_ {S : Nat} {w w' : World} (h : Only S w w') {b : Nat} (hb : b ≠ S) (hl : b < w.heap.size) : w'.heap[b]? = w.heap[b]? := by
  rcases Nat.lt_or_gt_of_ne hb with e | e
  · exact h.1.block b e
  · exact h.2 b e hl
theorem Only.refl (S : Nat) (w : World) : Only S w w := ⟨Below.refl _ _, fun _ _ _ => rfl⟩
theorem Only.trans {S : Nat} {A B C : World} (h : Only S A B) (k : Only S B C) : Only S A C := ⟨h.1.trans k.1, fun b hb hl => (k.2 b hb (Nat.lt_of_lt_of_le hl h.size)).trans (h.2 b hb hl)⟩
theorem Only.set {S : Nat} {A B : World} (h : Only S A B) (i : Nat) (v : Value) : Only S A (B.setCell ⟨S, i, none⟩ v) :=
  ⟨h.1.setCell (p := ⟨S, i, none⟩) (Nat.le_refl _) v, fun b hb hl => (Below.heap_setCell B ⟨S, i, none⟩ v b (by show b ≠ S; omega)).trans (h.2 b hb hl)⟩
theorem Only.drew {S : Nat} {A B : World} (h : Only S A B) : Only S A B.drew := ⟨h.1.drew, h.2⟩
theorem Only.drewN {S : Nat} (A : World) (q : Nat) : Only S A (A.drewN q) := ⟨below_drewN (Below.refl S A) q, fun b _ hl => (below_drewN (Below.refl A.heap.size A) q).block b hl⟩
/-- The m-th set, as cells. -/
def cw (v k m : Nat) : Nat → Value := fun j => .int .i64 ((((comb v v k).getD m []).getD j 0 : Nat) : Int)
def cntPost (S k off n f : Nat) (g : Nat → Value) (w : World) (e : Ending) (w' : World) : Prop := (∃ u, e = .returned u) ∧ Only S w w' ∧ w'.rowIs S 3 k (fun j => if off ≤ j ∧ j < off + n then .int .i64 ((f + (j - off) : Nat) : Int) else g j)
set_option maxHeartbeats 4000000 in
set_option maxRecDepth 100000 in
theorem dcount_any (S k off n c f : Nat) (g : Nat → Value) (w : World) (hr : w.rowIs S 3 k g) (hn : off + n ≤ k) (hnc : n ≤ c) (hk : k ≤ 60) (hf : f ≤ 1000) :
    Calls Tryd.prog 36 #[.slice (some ⟨S, off, none⟩) n c, .int .i64 (f : Int)] w (cntPost S k off n f g w) := by
  have R := Lib.hid hr
  clear hr
  go_enter Tryd.func36, Tryd.ntmps36
  go_wp2_with fail
  go_loopw [4, 7] (fun _ i wr => ∃ t : Nat, t ≤ n ∧ i = .int .i64 (t : Int) ∧ Hid (Only S w wr ∧ wr.rowIs S 3 k (fun j => if off ≤ j ∧ j < off + t then .int .i64 ((f + (j - off) : Nat) : Int) else g j))) (fun _ i _ => n - (intOf i).toNat)
  case atStart => exact ⟨0, Nat.zero_le _, rfl, Lib.hid ⟨Only.refl _ _, R.out.congr fun j hj => by rw [if_neg (by omega)]⟩⟩
  case round =>
    obtain ⟨t, ht, rfl, I⟩ := hrel
    by_cases hlt : t < n
    · have tI : (t : Int) < (n : Int) := by omega
      have ff := I.out.2.frozen (off + t)
      have cc := I.out.2.cell (show off + t < k by omega)
      obtain ⟨y, hy⟩ : ∃ y : Value, (if off ≤ off + t ∧ off + t < off + t then Value.int .i64 ((f + (off + t - off) : Nat) : Int) else g (off + t)) = y := ⟨_, rfl⟩
      simp only [hy] at cc
      have I1 := Lib.hid I.out.1
      have I2 := Lib.hid I.out.2
      clear hy I
      go_wp2_with fail
      go_roundw
      case rel =>
        refine ⟨t + 1, by omega, by go_num, Lib.hid ⟨I1.out.set _ _, (I2.out.set (off + t) _).congr fun j hj => ?_⟩⟩
        by_cases e : j = off + t
        · rw [if_pos e, if_pos (by omega)]
          show Value.int .i64 ((f : Int) + (t : Int)) = _
          congr 1; omega
        · rw [if_neg e]
          by_cases e2 : off ≤ j ∧ j < off + t
          · rw [if_pos e2, if_pos (by omega)]
          · rw [if_neg e2, if_neg (by omega)]
      case measure => simp [intOf]; omega
    · obtain rfl : t = n := by omega
      have tI : ¬ (t : Int) < (t : Int) := by omega
      have I1 := Lib.hid I.out.1
      have I2 := Lib.hid I.out.2
      clear I
      go_wp2_with fail
      go_end0
      exact ⟨⟨_, rfl⟩, I1.out, I2.out⟩
def advPost (v k S m : Nat) (w : World) (e : Ending) (w' : World) : Prop := Only S w w' ∧ ((m + 1 = ch v k ∧ e = .returned (.bool false) ∧ w'.rowIs S 3 k (cw v k m)) ∨ (m + 1 < ch v k ∧ e = .returned (.bool true) ∧ w'.rowIs S 3 k (cw v k (m + 1))))
set_option maxHeartbeats 4000000 in
set_option maxRecDepth 100000 in
theorem advance_any (v k S m : Nat) (w : World) (hkv : k ≤ v) (h60 : v ≤ 60) (hm : m < ch v k) (hr : w.rowIs S 3 k (cw v k m)) :
    Calls Tryd.prog 37 #[.slice (some ⟨S, 0, none⟩) k k, .int .i64 (v : Int)] w (advPost v k S m w) := by
  have CL := comb_len v v k
  have hm' : m < (comb v v k).length := by rw [CL]; exact hm
  have SL := Lib.hid (seq_last hkv hm')
  have SN := Lib.hid fun p (hp : p < k) => seq_next hkv hm' hp
  have AT := Lib.hid (show ∀ p, p < k → (comb v v k)[m].getD p 0 ≤ v - k + p from fun p hp => by
    obtain ⟨a1, a2, a3⟩ := comb_at hm'
    have := (inc_at a2 a3 p (by omega)).2
    rw [getD_at (by omega)]
    omega)
  have NX := Lib.hid (show ∀ hn : m + 1 < (comb v v k).length, (comb v v k).getD (m + 1) [] = (comb v v k)[m + 1] from fun hn => getD_in hn)
  have hL : (comb v v k).getD m [] = (comb v v k)[m] := getD_in hm'
  unfold cw at hr
  rw [hL] at hr
  obtain ⟨L, hLL⟩ : ∃ L, (comb v v k)[m] = L := ⟨_, rfl⟩
  simp only [hLL] at hr SL SN AT
  have CLH := Lib.hid CL
  have HLH := Lib.hid (show (comb v v k).getD m [] = L by rw [hL, hLL])
  have R := Lib.hid hr
  clear hr hL hLL CL
  go_enter Tryd.func37, Tryd.ntmps37
  go_wp2_with fail
  go_loopw [5] (fun i wr => wr = w ∧ ∃ t : Nat, t ≤ k ∧ i = .int .i64 ((t : Int) - 1) ∧ Hid (∀ j, t ≤ j → j < k → L.getD j 0 = v - k + j)) (fun i _ => (intOf i + 1).toNat)
  case atStart => exact ⟨rfl, k, Nat.le_refl _, rfl, Lib.hid fun j h1 h2 => absurd h2 (by omega)⟩
  case round =>
    obtain ⟨rfl, t, ht, rfl, T⟩ := hrel
    by_cases t0 : t = 0
    · subst t0
      have END := Lib.hid (SL.out fun j hj => T.out j (Nat.zero_le _) hj)
      clear T
      go_wp2_with fail
      go_ret
      exact ⟨Only.refl _ _, .inl ⟨by rw [END.out, CLH.out], rfl, by unfold cw; rw [HLH.out]; exact R.out⟩⟩
    · obtain ⟨p, rfl⟩ : ∃ p, t = p + 1 := ⟨t - 1, by omega⟩
      rw [show (((p + 1 : Nat) : Int) - 1) = (p : Int) by omega]
      have pk : p < k := by omega
      have pI : (p : Int) < (k : Int) := by omega
      have pJ : (p : Int) ≤ (k : Int) := by omega
      have cp := R.out.cell pk
      have LP := AT.out p pk
      have SNp := Lib.hid (SN.out p pk)
      obtain ⟨y, hy⟩ : ∃ y, L.getD p 0 = y := ⟨_, rfl⟩
      simp only [hy] at cp LP SNp
      obtain ⟨x, hx⟩ : ∃ x, v - k = x := ⟨_, rfl⟩
      have ev : (v : Int) - (k : Int) = (x : Int) := by omega
      obtain ⟨s, hs⟩ : ∃ s, x + p = s := ⟨_, rfl⟩
      have es : (x : Int) + (p : Int) = (s : Int) := by omega
      rw [hx] at LP SNp
      have VX := Lib.hid hx
      by_cases ys : y < s
      · have yI : (y : Int) < (s : Int) := by omega
        have N1 := Lib.hid (SNp.out (by omega) (fun j h1 h2 => by rw [← VX.out]; exact T.out j (by omega) h2))
        have y60 : y ≤ 60 := by omega
        obtain ⟨y1, hy1⟩ : ∃ y1, y + 1 = y1 := ⟨_, rfl⟩
        have ey : (y : Int) + 1 = (y1 : Int) := by omega
        have CN := Lib.hid fun q => dcount_any S k p (k - p) (k - p) y1 (fun j => .int .i64 ((L.getD j 0 : Nat) : Int)) (wr.drewN q) (rowTo R.out (below_drewN (Below.refl _ _) q)) (by omega) (Nat.le_refl _) (by omega) (by omega)
        have HY1 := Lib.hid hy1
        clear T ys SNp hs hy1 SN SL AT hx hy
        go_wp2_with fail
        refine wp_region_still_tail 8 (by kernel_rfl) (by kernel_rfl) ?_
        simp only [List.take_succ_cons, List.take_zero, List.drop_succ_cons, List.drop_zero]
        repeat (first | still_step)
        refine wpStill_nil ?_
        change wpList _ _ _ _ _ (wr.drewN 1)
        go_wp2_with fail
        refine (CN.out 1).mono ?_
        rintro e z ⟨⟨u, rfl⟩, ho, hrow⟩
        have O1 := Lib.hid (show Only S wr z from (Only.drewN wr 1).trans ho)
        have R1 := Lib.hid hrow
        clear CN ho hrow
        go_wp2_with fail
        go_ret
        obtain ⟨hn, hv⟩ := N1.out
        exact ⟨O1.out, .inr ⟨by rw [← CLH.out]; exact hn, rfl, R1.out.congr fun j hj => by
          unfold cw
          rw [NX.out hn, hv j hj]
          by_cases e : j < p
          · rw [if_neg (by omega), if_pos e]
          · rw [if_pos (by omega), if_neg e, HY1.out]⟩⟩
      · obtain rfl : y = s := by omega
        have yI : ¬ (y : Int) < (y : Int) := by omega
        have T2 : Hid (∀ j, p ≤ j → j < k → L.getD j 0 = v - k + j) := Lib.hid fun j h1 h2 => by
          rcases Nat.eq_or_lt_of_le h1 with h | h
          · rw [← h, hy, VX.out]; omega
          · exact T.out j h h2
        clear ys T hy hs SNp hx
        go_wp2_with fail
        go_roundw
        case rel => exact ⟨trivial, p, by omega, rfl, T2⟩
        case measure => simp [intOf]
end Go.Proofs.YtnnacofjogfkeaaDoor
namespace Go.Proofs.YtnnacofjogfkeaaDoor
open Go Go.RowKit Go.Shelf
set_option linter.unusedVariables false

/-- The loop's two blocks, d and d + 1, lie as they lay. -/
def Held2 (d : Nat) (W W' : World) : Prop := W'.heap[d]? = W.heap[d]? ∧ W'.heap[d + 1]? = W.heap[d + 1]?
theorem Held2.refl (d : Nat) (W : World) : Held2 d W W := ⟨rfl, rfl⟩
theorem Held2.trans {d : Nat} {A B C : World} (h : Held2 d A B) (k : Held2 d B C) : Held2 d A C := ⟨k.1.trans h.1, k.2.trans h.2⟩
theorem Held2.below {d N : Nat} {A B : World} (h : Below N A B) (hd : d + 1 < N) : Held2 d A B := ⟨h.block _ (by omega), h.block _ hd⟩
/-- What a round says when it ends. -/
def endPost (d : Nat) (E : World → Prop) (Ix : World → Prop) (W : World) : Exit → Act → World → Prop
  | .normal, _, W' => Held2 d W W' ∧ E W'
  | .ret, _, W' => Held2 d W W' ∧ Ix W'
  | .exit _, _, _ => False
  | .goto _, _, _ => False
  | .panic _, _, _ => False
  | .outgrown, _, _ => False

/-- I m: ahead of round m; E m: behind it; Ix: a round has returned; Z: all rounds are over. -/
theorem rangeFunc_rounds {F : Fence} {n : Nat} {P : Program} {g : Operand} {ps : Array Tmp} {assign body : Code} {Q : Exit → Act → World → Prop} {a : Act} {w : World}
    (hro : F.round = none) (h1 : 1 ≤ n) {gf : Nat} {lb : Array Value} (hg : a.eval g = .func (.func gf) #[] lb) (hFg : F.fn gf) (eg : ∀ args w, (callFunc gf args).run P w = .ok (.enter gf args) w)
    (args : Array Value) (hps : args.size = ps.size) (d : Nat) (hd : w.heap.size = d)
    (I E : Nat → World → Prop) (Ix Z : World → Prop)
    (kI : ∀ m W l o, d ≤ l → l < d + 2 → I m W → I m (W.putObj l o)) (kE : ∀ m W l o, d ≤ l → l < d + 2 → E m W → E m (W.putObj l o)) (kX : ∀ W l o, d ≤ l → l < d + 2 → Ix W → Ix (W.putObj l o)) (kZ : ∀ W l o, d ≤ l → l < d + 2 → Z W → Z (W.putObj l o))
    (a₁ : Act)
    (hcall : ∀ (W : World) (R Rx : World → Prop), Below d w W → W.heap.size = d + 2 → (∀ A B, Held2 d A B → R A → R B) → R W →
      (∀ m A, I m A → R A → YieldAt F (n - 1 - 1) P (d + 1) args A fun e B => (e = .returned (.bool true) ∧ E m B ∧ R B) ∨ (e = .returned (.bool false) ∧ Ix B ∧ Rx B)) →
      CallsIn F (n - 1) P gf (#[.func (.yield (d + 1)) #[] #[]] ++ lb) W fun e B => (∃ v, e = .returned v) ∧ ((Z B ∧ R B) ∨ (Ix B ∧ Rx B)))
    (hassign : ∀ (W : World) (K : Act → World → Prop), K a₁ W →
      assign.wpIn (F.inRound (d + 1)) (n - 1 - 1) P (Exit.then K (fun _ _ _ => False)) { tmps := (ps.zip args).foldl (fun t (p, v) => t.setIfInBounds p v) a.tmps, defers := [] } W)
    (hbody : ∀ (m : Nat) (W : World), d + 2 ≤ W.heap.size → I m W → body.wpIn (F.inRound (d + 1)) (n - 1 - 1) P (endPost d (E m) Ix W) a₁ W)
    (hdone : ∀ W, Z W → W.heap[d]? = some (.deferred (some [])) → Q .normal { a with defers := { target := .collected d, args := #[] } :: a.defers } W)
    (hstop : ∀ W, Ix W → W.heap[d]? = some (.deferred (some [])) → Code.ret.wpIn F n P Q { a with defers := { target := .collected d, args := #[] } :: a.defers } W) :
    (Code.rangeFunc g ps assign body).wpIn F n P Q a w := by
  subst hd
  refine wpIn_rangeFunc fun fn hfn => ?_
  rw [hro]
  obtain ⟨rec, hrec⟩ : ∃ rec : LoopState → Option Code → Loop, rec = fun s p => { state := s, pending := p, fn, tmps := a.tmps, params := ps, assign, body, defers := w.heap.size } := ⟨_, rfl⟩
  have f1 : ∀ s p, (rec s p).params = ps := fun s p => by rw [hrec]
  have f2 : ∀ s p, (rec s p).state = s := fun s p => by rw [hrec]
  have f3 : ∀ s p, (rec s p).pending = p := fun s p => by rw [hrec]
  have f4 : ∀ s p s' p', { rec s p with state := s', pending := p' } = rec s' p' := fun s p s' p' => by rw [hrec]
  have f5 : ∀ s p s', { rec s p with state := s' } = rec s' p := fun s p s' => by rw [hrec]
  have f6 : ∀ s p, (rec s p).fn = fn ∧ (rec s p).tmps = a.tmps ∧ (rec s p).assign = assign ∧ (rec s p).body = body := fun s p => by rw [hrec]; exact ⟨rfl, rfl, rfl, rfl⟩
  obtain ⟨W1, hW1⟩ : ∃ W1, (w.alloc (.deferred (some []))).alloc (.loop (rec .ready none)) = W1 := ⟨_, rfl⟩
  have s1 : W1.heap.size = w.heap.size + 2 := by rw [← hW1]; simp
  have b1 : Below w.heap.size w W1 := by rw [← hW1]; exact ((Below.refl _ w).alloc (Nat.le_refl _) _).alloc (by simp) _
  have l1 : W1.heap[w.heap.size + 1]? = some (.loop (rec .ready none)) := by
    have h := World.alloc_heap_new (w.alloc (.deferred (some []))) (.loop (rec .ready none))
    rw [World.size_alloc] at h
    rw [← hW1]; exact h
  have k1 : W1.heap[w.heap.size]? = some (.deferred (some [])) := by
    rw [← hW1]; exact (Below.heap_alloc _ _ _ (by simp)).trans (World.alloc_heap_new w _)
  have hlt : ∀ {W : World} {o : Obj}, W.heap[w.heap.size + 1]? = some o → w.heap.size + 1 < W.heap.size := fun h => (Array.getElem?_eq_some_iff.1 h).1
  have off : ∀ (W : World) (o : Obj), (W.putObj (w.heap.size + 1) o).heap[w.heap.size]? = W.heap[w.heap.size]? := fun W o => World.putObj_heap_other (by omega)
  refine ⟨w.heap.size + 1, [{ target := .collected w.heap.size, args := #[] }], W1, { target := .fn (.func gf) lb, args := #[.func (.yield (w.heap.size + 1)) #[] #[]] }, W1, gf,
    #[.func (.yield (w.heap.size + 1)) #[] #[]] ++ lb, W1, by rw [← hW1, hrec]; exact run_enterLoop_outer _ _ _ _ _, by simp only [resolve, hg]; simp [go_sem], fun f' hf' => by simp [Target.leads] at hf'; subst hf'; exact hFg, by simp [invoke, go_sem, eg], fun _ => h1, ?_⟩
  refine (hcall W1 (fun W => W.heap[w.heap.size + 1]? = some (.loop (rec .ready none)) ∧ W.heap[w.heap.size]? = some (.deferred (some [])))
    (fun W => W.heap[w.heap.size + 1]? = some (.loop (rec .done (some .ret))) ∧ W.heap[w.heap.size]? = some (.deferred (some []))) b1 s1 (fun A B h r => ⟨h.2.trans r.1, h.1.trans r.2⟩) ⟨l1, k1⟩ ?_).mono ?_
  · rintro m A hi ⟨hl, hk⟩
    have hy := run_yield (P := P) (args := args) hl (by rw [f1]; exact hps)
    rw [f1, (f6 _ _).1, (f6 _ _).2.1, (f6 _ _).2.2.1, (f6 _ _).2.2.2] at hy
    refine ⟨fn, _, assign, body, hy, roundIn_of_wpIn hfn (hassign _ _ ⟨_, run_beginRound hl (f2 _ _), ?_⟩)⟩
    rw [f5]
    obtain ⟨B, hB⟩ : ∃ B, A.putObj (w.heap.size + 1) (.loop (rec .busy none)) = B := ⟨_, rfl⟩
    have hlB : B.heap[w.heap.size + 1]? = some (.loop (rec .busy none)) := by rw [← hB]; exact World.putObj_heap_same (hlt hl)
    have hkB : B.heap[w.heap.size]? = some (.deferred (some [])) := by rw [← hB]; exact (off _ _).trans hk
    have hiB : I m B := by rw [← hB]; exact kI m A _ _ (by omega) (by omega) hi
    rw [hB]
    refine wpIn_mono (hbody m B (by have := hlt hlB; omega) hiB) fun e a3 C hp => ?_
    cases e with
    | normal =>
      obtain ⟨⟨c1, c2⟩, he⟩ := hp
      have hl3 := c2.trans hlB
      refine ⟨_, _, run_endRound none hl3, .inl ⟨rfl, kE m C _ _ (by omega) (by omega) he, ?_, ?_⟩⟩
      · rw [f4]; exact World.putObj_heap_same (hlt hl3)
      · exact (off _ _).trans (c1.trans hkB)
    | ret =>
      obtain ⟨⟨c1, c2⟩, he⟩ := hp
      have hl3 := c2.trans hlB
      refine ⟨_, _, run_endRound (some .ret) hl3, .inr ⟨rfl, kX C _ _ (by omega) (by omega) he, ?_, ?_⟩⟩
      · rw [f4]; exact World.putObj_heap_same (hlt hl3)
      · exact (off _ _).trans (c1.trans hkB)
    | exit id => exact hp.elim
    | goto t => exact hp.elim
    | panic ch => exact hp.elim
    | outgrown => exact hp.elim
  · rintro e B ⟨⟨v, rfl⟩, ⟨hz, hl, hk⟩ | ⟨hx, hl, hk⟩⟩
    · have h := run_endLoop (P := P) hl (by rw [f2]; simp)
      rw [f3] at h
      exact ⟨none, _, h, hdone _ (kZ _ _ _ (by omega) (by omega) hz) ((off _ _).trans hk)⟩
    · have h := run_endLoop (P := P) hl (by rw [f2]; simp)
      rw [f3] at h
      exact ⟨some .ret, _, h, hstop _ (kX _ _ _ (by omega) (by omega) hx) ((off _ _).trans hk)⟩
end Go.Proofs.YtnnacofjogfkeaaDoor
namespace Go.Proofs.YtnnacofjogfkeaaDoor
open Go Go.RowKit Go.Shelf Pl Co
set_option linter.unusedVariables false
set_option linter.unusedSimpArgs false

def clnPost (k : Nat) (l : List Nat) (w : World) (e : Ending) (w' : World) : Prop := ∃ g cap, e = .returned (.slice (some ⟨g, 0, none⟩) k cap) ∧ OwnL Nv w' w.heap.size 3 (.slice (some ⟨g, 0, none⟩) k cap) l ∧ Below w.heap.size w w'
set_option maxHeartbeats 1000000 in
set_option maxRecDepth 100000 in
theorem clone_n (S off k c : Nat) (l : List Nat) (w : World) (hl : l.length = k) (hk : 0 < k) (hk2 : k ≤ 1000) (hcell : ∀ j, j < k → w.cell? ⟨S, off + j, none⟩ = some (.int .i64 ((l.getD j 0 : Nat) : Int))) :
    Calls Tryd.prog 24 #[.slice (some ⟨S, off, none⟩) k c] w (clnPost k l w) := by
  have hnil := fun w => Lib.run_eql_slice_nil (P := Tryd.prog) w 40 3 (some ⟨S, off, none⟩) k c 0 0 Tryd.underlying40
  have hcell2 : ∀ j, j < k → (w.alloc (.cells #[] 3)).cell? ((⟨S, off, none⟩ : Addr).add j) = some (.int .i64 ((l.getD j 0 : Nat) : Int)) := fun j hj => by
    rw [Go.WideShapes.add_plain, World.cell?_alloc_lt _ _ _ (World.block_lt_of_cell? w _ (hcell j hj))]
    exact hcell j hj
  have HC := Lib.hid hcell2
  have HL := Lib.hid hl
  have R0 := Lib.hid (row_new' w #[] 3)
  clear hcell hcell2 hl
  go_enter Tryd.func24, Tryd.ntmps24
  go_wp2_with (first | (refine wpList_plain rfl fun _ hK' => wp_build_0 rfl (hK' _ _ ?_)) | (at_builtin; refine wpList_plain rfl fun _ hK' => wp_copy_n _ _ rfl w.heap.size ⟨S, off, none⟩ k c l rfl R0.out rfl HL.out hk (by omega) HC.out w.heap.size (Nat.le_refl _) ?_; intro g cap w1 ho hg hat; refine hK' _ _ ?_))
  have hb1 : Below w.heap.size w w1 := ((Below.refl _ w).alloc (Nat.le_refl _) _).grown hg (by simp) fun q hq => by injection hq with hq; exact Nat.le_of_eq hq
  have P := Lib.hid (And.intro ho hb1)
  clear ho hg hat hb1
  go_wp2_with fail
  go_ret
  exact ⟨g, cap, rfl, P.out.1, P.out.2⟩
def setsPost (v k : Nat) (w : World) (e : Ending) (w' : World) : Prop := e = .returned (.func (.func 35) #[] #[.pointer (some ⟨w.heap.size + 1, 0, none⟩), .pointer (some ⟨w.heap.size, 0, none⟩)]) ∧ w' = (w.alloc (.cells #[.int .i64 (v : Int)] 3)).alloc (.cells #[.int .i64 (k : Int)] 3)
set_option maxHeartbeats 1000000 in
set_option maxRecDepth 100000 in
theorem sets_any (v k : Nat) (w : World) : Calls Tryd.prog 23 #[.int .i64 (v : Int), .int .i64 (k : Int)] w (setsPost v k w) := by
  have hmf : ∀ (fn : Fn) (first cap : Array Value) (w : World), (Instr.makeFunc fn first cap).run Tryd.prog w = .ok (.func fn first cap) w := fun _ _ _ _ => rfl
  go_enter Tryd.func23, Tryd.ntmps23
  go_wp2
  go_ret
  exact ⟨rfl, rfl⟩
set_option maxHeartbeats 4000000 in
set_option maxRecDepth 100000 in
/-- The iterator: it changes one block of its own. -/
theorem sets1_in (n : Nat) (hn : 4 ≤ n) (v k l Bv Bk S : Nat) (hk2 : 2 ≤ k) (hkv : k ≤ v) (h60 : v ≤ 60) (J E : Nat → World → Prop) (Jx : World → Prop) (W : World) (hS : W.heap.size = S) (μ : World → Nat) (hμ : ∀ m A, J m A → μ A = m)
    (cBv : ∀ m A, E m A → A.cell? ⟨Bv, 0, none⟩ = some (.int .i64 (v : Int))) (cBk : W.cell? ⟨Bk, 0, none⟩ = some (.int .i64 (k : Int)))
    (start : ∀ A, Below S W A → S < A.heap.size → J 0 A) (next : ∀ m A B, E m A → Only S A B → J (m + 1) B)
    (hY : ∀ m A, m < ch v k → J m A → A.rowIs S 3 k (cw v k m) → YieldAt Fence.wide (n - 1) Tryd.prog l #[.slice (some ⟨S, 0, none⟩) k k] A fun e B => (e = .returned (.bool true) ∧ E m B ∧ B.rowIs S 3 k (cw v k m)) ∨ (e = .returned (.bool false) ∧ Jx B)) :
    CallsIn Fence.wide n Tryd.prog 35 #[.func (.yield l) #[] #[], .pointer (some ⟨Bk, 0, none⟩), .pointer (some ⟨Bv, 0, none⟩)] W fun e B => (∃ u, e = .returned u) ∧ ((∃ m, m + 1 = ch v k ∧ ∃ A, E m A ∧ Only S A B) ∨ Jx B) := by
  have hm2 := run_make_row' (P := Tryd.prog) 40 3 _ _ Tryd.underlying40 info_int rfl .i64 .i64 k (by omega) (by omega)
  obtain ⟨W1, hW1⟩ : ∃ W1, W.alloc (.cells (madeCells #[.int .i64 0] k) 3) = W1 := ⟨_, rfl⟩
  have Q1 : Hid (W1.rowIs S 3 k (fun _ => .int .i64 0)) := Lib.hid (by rw [← hW1, ← hS]; exact World.rowIs_made W _ k _)
  have HW1 := Lib.hid hW1
  have HS := Lib.hid hS
  have BW1 : Hid (Below W.heap.size W W1 ∧ S < W1.heap.size) := Lib.hid ⟨by rw [← hW1]; exact (Below.refl _ _).alloc (Nat.le_refl _) _, by rw [← hW1, World.size_alloc, hS]; exact Nat.lt_succ_self S⟩
  have c0 : 0 < ch v k := ch_pos hkv
  have FST : Hid (∀ j, j < k → ((comb v v k).getD 0 []).getD j 0 = j) := Lib.hid fun j hj => by
    rw [getD_in (show 0 < (comb v v k).length by rw [comb_len]; exact c0)]
    exact comb_first hkv (by rw [comb_len]; exact c0) j hj
  have CN := Lib.hid (dcount_any S k 0 k k 0 (fun _ => .int .i64 0) W1 Q1.out (by omega) (Nat.le_refl _) (by omega) (by omega))
  have ST := Lib.hid start
  have NX := Lib.hid next
  have YY := Lib.hid hY
  have CV := Lib.hid cBv
  have MU := Lib.hid hμ
  clear hW1 hS start next hY cBv hμ
  refine callsIn_of_wp Tryd.func35 rfl trivial ?_ rfl
  simp only [Tryd.ntmps35, List.size_toArray, List.length_cons, List.length_nil, Nat.reduceAdd, Nat.reduceSub, Array.replicate_succ, Array.replicate_zero, List.push_toArray, List.append_toArray, List.nil_append, List.cons_append]
  gi_wp2_with fail
  rw [HS.out, HW1.out]
  refine ⟨trivial, fun _ => by omega, (callsIn_wide.2 CN.out).mono ?_⟩
  rintro e z ⟨⟨u, rfl⟩, ho, hrow⟩
  have J0 : Hid (J 0 z ∧ z.rowIs S 3 k (cw v k 0)) := Lib.hid ⟨ST.out z ((BW1.out.1.mono (Nat.le_of_eq HS.out.symm)).trans ho.1) (Nat.lt_of_lt_of_le BW1.out.2 ho.size), hrow.congr fun j hj => by
    unfold cw
    rw [if_pos (by omega), FST.out j hj, Nat.zero_add, Nat.sub_zero]⟩
  clear ho hrow CN cBk
  gi_wp2_with fail
  gi_loopw [16] (fun _ wr => ∃ m : Nat, m < ch v k ∧ Hid (J m wr ∧ wr.rowIs S 3 k (cw v k m))) (fun _ wr => ch v k - μ wr)
  case atStart => exact ⟨0, c0, J0⟩
  case round =>
    obtain ⟨m, hm, H⟩ := hrel
    obtain ⟨fn, tmps, assign, body, hy, hR⟩ := YY.out m wr hm H.out.1 H.out.2
    have M1 := Lib.hid (MU.out m wr H.out.1)
    gi_wp2_with fail
    refine ⟨fun _ => by omega, hR.mono ?_⟩
    rintro e B (⟨rfl, hE, hrow⟩ | ⟨rfl, hx⟩)
    · have cb := CV.out m B hE
      have AV := Lib.hid (advance_any v k S m B hkv h60 hm hrow)
      have EH := Lib.hid hE
      clear hR hy H hE hrow
      gi_wp2_with fail
      refine ⟨trivial, fun _ => by omega, (callsIn_wide.2 AV.out).mono ?_⟩
      rintro e Z ⟨ho, ⟨he, rfl, hrow⟩ | ⟨hlt, rfl, hrow⟩⟩
      · have R := Lib.hid (show (∃ m, m + 1 = ch v k ∧ ∃ A, E m A ∧ Only S A Z) ∨ Jx Z from .inl ⟨m, he, B, EH.out, ho⟩)
        clear cb AV ho he hrow
        gi_wp2_with fail
        go_end0
        exact ⟨⟨_, rfl⟩, R.out⟩
      · have NJ := Lib.hid (And.intro (NX.out m B Z EH.out ho) hrow)
        have M2 := Lib.hid (MU.out (m + 1) Z NJ.out.1)
        have HL := Lib.hid hlt
        clear cb AV ho hrow hlt
        gi_wp2_with fail
        go_roundw
        case rel => exact ⟨m + 1, HL.out, NJ⟩
        case measure => rw [M1.out, M2.out]; have := HL.out; omega
    · have R := Lib.hid (show (∃ m, m + 1 = ch v k ∧ ∃ A, E m A ∧ Only S A B) ∨ Jx B from .inr hx)
      clear hR hy H hx
      gi_wp2_with fail
      refine ⟨trivial, ?_⟩
      gi_wp2_with fail
      go_end0
      exact ⟨⟨_, rfl⟩, R.out⟩
end Go.Proofs.YtnnacofjogfkeaaDoor
namespace Go.Proofs.YtnnacofjogfkeaaDoor
open Go Go.RowKit Go.Shelf Pl Co
set_option linter.unusedVariables false
set_option linter.unusedSimpArgs false
attribute [local go_sem] Oper.semAt_some

theorem results_cell_cell {P : Program} {fn : Func} {p q : Tmp} {ty tq : TypeId} (h : fn.results = #[.cell p ty, .cell q tq]) (tmps : Array Value) (w : World) (g g2 : Nat) (t : TypeId) (cs : Array Value) (fr : Nat × Nat) (d : TypeDesc) (u : Value) (k : IntKind)
    (hp : tmps.getD p undef = .pointer (some ⟨g, 0, none⟩)) (hg : w.heap[g]? = some (.cells cs t fr))
    (hu : P.underlying ty = some d) (hd : (match d with | .struct _ | .array _ _ => true | _ => false) = true) (hi : (P.info? ty).map (·.size) = some cs.size)
    (hq : tmps.getD q undef = .pointer (some ⟨g2, 0, none⟩)) (hc : w.cell? ⟨g2, 0, none⟩ = some u) (hk : P.underlying tq = some (.int k)) :
    (results fn tmps).run P w = .ok (.tuple #[.agg cs, u]) w := by
  have hp' : tmps[p]?.getD undef = .pointer (some ⟨g, 0, none⟩) := by simpa using hp
  have hq' : tmps[q]?.getD undef = .pointer (some ⟨g2, 0, none⟩) := by simpa using hq
  have h1 := run_loadVar_row w g t ty cs fr d hg hu hd hi
  have h2 : (loadVar tq ⟨g2, 0, none⟩).run P w = .ok u w := by
    simp [loadVar, isAgg, run_underlying hk, hc, go_sem]
  simp [results, h, hp', hq', asAddr, h1, h2]
theorem Held2.set {d : Nat} {W A : World} (h : Held2 d W A) {p : Addr} (h1 : d ≠ p.block) (h2 : d + 1 ≠ p.block) (u : Value) : Held2 d W (A.setCell p u) := h.trans ⟨Below.heap_setCell _ _ _ _ h1, Below.heap_setCell _ _ _ _ h2⟩
theorem set_size (w : World) (p : Addr) (u : Value) : (w.setCell p u).heap.size = w.heap.size := by simp [World.setCell]
/-- The loop's two blocks, and that they are there. -/
def Keep2 (d : Nat) (W A : World) : Prop := Held2 d W A ∧ d + 1 < A.heap.size
theorem Keep2.refl {d : Nat} {W : World} (h : d + 1 < W.heap.size) : Keep2 d W W := ⟨Held2.refl _ _, h⟩
theorem Keep2.to {d : Nat} {W A B : World} (h : Keep2 d W A) (hb : Below A.heap.size A B) : Keep2 d W B := ⟨h.1.trans ⟨hb.block _ (Nat.lt_of_succ_lt h.2), hb.block _ h.2⟩, Nat.lt_of_lt_of_le h.2 hb.size⟩
theorem Keep2.gr {d : Nat} {W A B : World} {row : Option Nat} (h : Keep2 d W A) (hg : A.grownBy B row) (h1 : some d ≠ row) (h2 : some (d + 1) ≠ row) : Keep2 d W B :=
  ⟨h.1.trans ⟨hg.block _ (Nat.lt_of_succ_lt h.2) h1, hg.block _ h.2 h2⟩, Nat.lt_of_lt_of_le h.2 hg.size⟩
theorem Keep2.set {d : Nat} {W A : World} (h : Keep2 d W A) {p : Addr} (h1 : d ≠ p.block) (h2 : d + 1 ≠ p.block) (u : Value) : Keep2 d W (A.setCell p u) :=
  ⟨h.1.trans ⟨Below.heap_setCell _ _ _ _ h1, Below.heap_setCell _ _ _ _ h2⟩, by have := h.2; simpa [World.setCell] using this⟩
/-- How many rows the list in block b has. -/
def lenAt (w : World) (b : Nat) : Nat := match w.cell? ⟨b, 0, none⟩ with | some (.slice _ n _) => n | _ => 0
theorem lenAt_of {w : World} {b : Nat} {t : TypeId} {A : Option Addr} {n c : Nat} (h : Row w b t #[.slice A n c]) : lenAt w b = n := by
  have := h.cell 0
  unfold lenAt
  rw [this]; rfl
/-- What holds of the caller's blocks when m sets have been taken. -/
structure Cpl (w : World) (B v k : Nat) (m : Nat) (W : World) : Prop where
  le : m ≤ 4096
  lt : m ≤ ch v k
  bel : Below B w W
  list : ∃ lv, Row W (B + 2) 23 #[lv] ∧ OwnR (B + 8) W lv ((comb v v k).take m)
  res : Row W B 25 #[.int .i64 0, .slice none 0 0]
  err : Row W (B + 1) 26 #[.int .i64 0]
  cv : Row W (B + 3) 3 #[.int .i64 (v : Int)]
  big : B + 8 ≤ W.heap.size
structure CplX (w : World) (B v k : Nat) (W : World) : Prop where
  gt : 4096 < ch v k
  bel : Below B w W
  res : Row W B 25 #[.int .i64 0, .slice none 0 0]
  err : W.cell? ⟨B + 1, 0, none⟩ = some (.int .i64 7)
theorem Row.only {w w' : World} {g S : Nat} {t : TypeId} {cs : Array Value} (h : Row w g t cs) (ho : Only S w w') (hg : g ≠ S) : Row w' g t cs := (ho.at_ hg h.lt).trans h
theorem Cpl.only {w W W' : World} {B v k m : Nat} (h : Cpl w B v k m W) (ho : Only (B + 7) W W') : Cpl w B v k m W' := by
  obtain ⟨lv, h1, h2⟩ := h.list
  exact ⟨h.le, h.lt, h.bel.trans (ho.1.mono (by omega)), ⟨lv, h1.only ho (by omega), h2.fix fun b hb hl => ho.at_ (by omega) hl⟩, h.res.only ho (by omega), h.err.only ho (by omega), h.cv.only ho (by omega), Nat.le_trans h.big ho.size⟩
theorem Row.putO {w : World} {g l : Nat} {t : TypeId} {cs : Array Value} {o : Obj} (h : Row w g t cs) (hg : g ≠ l) : Row (w.putObj l o) g t cs := (World.putObj_heap_other hg).trans h
theorem put_size (w : World) (l : Nat) (o : Obj) : (w.putObj l o).heap.size = w.heap.size := by simp [World.putObj]
theorem Cpl.put {w W : World} {B v k m l : Nat} {o : Obj} (h : Cpl w B v k m W) (h1 : B + 5 ≤ l) (h2 : l < B + 7) : Cpl w B v k m (W.putObj l o) := by
  obtain ⟨lv, q1, q2⟩ := h.list
  exact ⟨h.le, h.lt, h.bel.grown (grownBy_putObj' W l o) (by have := h.big; omega) (fun j e => by cases e; omega), ⟨lv, q1.putO (by omega), q2.fix fun b hb hl => World.putObj_heap_other (by omega)⟩, h.res.putO (by omega), h.err.putO (by omega), h.cv.putO (by omega), by rw [put_size]; exact h.big⟩
theorem CplX.put {w W : World} {B v k l : Nat} {o : Obj} (h : CplX w B v k W) (h1 : B + 5 ≤ l) (h3 : B ≤ W.heap.size) : CplX w B v k (W.putObj l o) :=
  ⟨h.gt, h.bel.grown (grownBy_putObj' W l o) h3 (fun j e => by cases e; omega), h.res.putO (by omega), (World.cell?_of_block (World.putObj_heap_other (by show B + 1 ≠ l; omega))).trans h.err⟩
theorem Cpl.len {w W : World} {B v k m : Nat} (h : Cpl w B v k m W) : lenAt W (B + 2) = m := by
  obtain ⟨lv, h1, h2⟩ := h.list
  obtain ⟨A, c, rfl⟩ := h2.form
  rw [lenAt_of h1, List.length_take, comb_len]
  have := h.lt
  omega
theorem rowIs_put {w : World} {g n l : Nat} {t : TypeId} {f : Nat → Value} {o : Obj} (h : w.rowIs g t n f) (hl : g ≠ l) : (w.putObj l o).rowIs g t n f := h.of_block (World.putObj_heap_other hl)
def cplPost (v k : Nat) (w : World) (e : Ending) (w' : World) : Prop := Below w.heap.size w w' ∧ ((ch v k ≤ 4096 ∧ ∃ x, e = .returned (.tuple #[dv v x, .int .i64 0]) ∧ Fx w.heap.size w' x (comb v v k)) ∨ (4096 < ch v k ∧ e = .returned (.tuple #[.agg #[.int .i64 0, .slice none 0 0], .int .i64 7])))
set_option maxHeartbeats 8000000 in
set_option maxRecDepth 100000 in
theorem complete_ok (v k : Nat) (w : World) (h2 : 2 ≤ k) (hkv : k ≤ v) (h60 : v ≤ 60) : Calls Tryd.prog 11 #[.int .i64 (v : Int), .int .i64 (k : Int)] w (cplPost v k w) := by
  obtain ⟨B, hB⟩ : ∃ B, w.heap.size = B := ⟨_, rfl⟩
  obtain ⟨W5, hW5⟩ : ∃ W5, ((((w.alloc (.cells #[.int .i64 0, .slice none 0 0] 25)).alloc (.cells #[.int .i64 0] 26)).alloc (.cells #[.slice none 0 0] 23)).alloc (.cells #[.int .i64 (v : Int)] 3)).alloc (.cells #[.int .i64 (k : Int)] 3) = W5 := ⟨_, rfl⟩
  have SZ : W5.heap.size = B + 5 := by rw [← hW5]; simp [hB]
  have R0 : Row W5 B 25 #[.int .i64 0, .slice none 0 0] := by
    rw [← hW5, ← hB]; exact (((row_new' w _ _).al _).al _ |>.al _).al _
  have R1 : Row W5 (B + 1) 26 #[.int .i64 0] := by
    rw [← hW5, ← hB]; exact (((row_al (by simp) _ _).al _).al _).al _
  have R2 : Row W5 (B + 2) 23 #[.slice none 0 0] := by
    rw [← hW5, ← hB]; exact ((row_al (by simp) _ _).al _).al _
  have R3 : Row W5 (B + 3) 3 #[.int .i64 (v : Int)] := by
    rw [← hW5, ← hB]; exact (row_al (by simp) _ _).al _
  have R4 : Row W5 (B + 4) 3 #[.int .i64 (k : Int)] := by
    rw [← hW5, ← hB]; exact row_al (by simp) _ _
  have BW : Below B w W5 := by
    rw [← hW5, ← hB]; exact (((((Below.refl _ w).alloc (Nat.le_refl _) _).alloc (by simp) _).alloc (by simp; omega) _).alloc (by simp; omega) _).alloc (by simp; omega) _
  have C0 : ∀ A, Below (B + 5) W5 A → B + 8 ≤ A.heap.size → Cpl w B v k 0 A := fun A hb hs =>
    ⟨by omega, Nat.zero_le _, BW.trans (hb.mono (by omega)), ⟨_, R2.below hb (by omega), by rw [List.take_zero]; exact OwnR.nil_ _ _⟩, R0.below hb (by omega), R1.below hb (by omega), R3.below hb (by omega), hs⟩
  have HC0 := Lib.hid C0
  have HBW := Lib.hid BW
  have HR4 := Lib.hid R4
  have HSZ := Lib.hid SZ
  have HE := Lib.hid hB
  have HW5 := Lib.hid hW5
  clear C0 R0 R1 R2 R3 R4 SZ BW hW5 hB
  refine (callsIn_wide (n := 9)).1 ?_
  refine callsIn_of_wp_marks Tryd.func11 rfl trivial ?_ rfl
  simp only [Tryd.ntmps11, List.size_toArray, List.length_cons, List.length_nil, Nat.reduceAdd, Nat.reduceSub, Array.replicate_succ, Array.replicate_zero, List.push_toArray, List.append_toArray, List.nil_append, List.cons_append]
  have g1 : ¬ (v : Int) < 2 := by omega
  have g2 : ¬ (60 : Int) < (v : Int) := by omega
  have g3 : ¬ (k : Int) < 2 := by omega
  have g4 : ¬ v < k := by omega
  gi_wp2_with fail
  refine ⟨trivial, (callsIn_wide.2 (sets_any v k _)).mono ?_⟩
  rintro e z ⟨rfl, rfl⟩
  gi_wp2_with fail
  rw [HE.out, HW5.out]
  simp only [Nat.add_assoc, Nat.reduceAdd]
  clear g1 g2 g3 g4
  refine rangeFunc_rounds rfl (by omega) (gf := 35) (lb := #[.pointer (some ⟨B + 4, 0, none⟩), .pointer (some ⟨B + 3, 0, none⟩)]) rfl trivial (enters_of Tryd.func35 (by kernel_rfl) rfl) #[.slice (some ⟨B + 7, 0, none⟩) k k] rfl (B + 5) HSZ.out
    (fun m W => m < ch v k ∧ Cpl w B v k m W ∧ W.rowIs (B + 7) 3 k (cw v k m)) (fun m W => Cpl w B v k (m + 1) W ∧ W.rowIs (B + 7) 3 k (cw v k m)) (fun W => CplX w B v k W ∧ B ≤ W.heap.size) (fun W => Cpl w B v k (ch v k) W)
    (fun m W l o h1 h2 h => ⟨h.1, h.2.1.put h1 (by omega), rowIs_put h.2.2 (by omega)⟩) (fun m W l o h1 h2 h => ⟨h.1.put h1 (by omega), rowIs_put h.2 (by omega)⟩) (fun W l o h1 h2 h => ⟨h.1.put h1 h.2, by rw [put_size]; exact h.2⟩) (fun W l o h1 h2 h => h.put h1 (by omega))
    { tmps := #[.int .i64 (v : Int), .int .i64 (k : Int), undef, undef, .pointer (some ⟨B, 0, none⟩), .pointer (some ⟨B + 1, 0, none⟩), .pointer (some ⟨B + 2, 0, none⟩), .slice (some ⟨B + 7, 0, none⟩) k k, .int .i64 (v : Int), .bool false, .bool false, .int .i64 (v : Int), .bool false, .bool false, .bool false, .int .i64 (k : Int), .bool false, .bool false, .bool false, .int .i64 (k : Int), .int .i64 (v : Int), .bool false, .bool false, undef, .int .i64 (v : Int), .int .i64 (k : Int), .func (.func 35) #[] #[.pointer (some ⟨B + 4, 0, none⟩), .pointer (some ⟨B + 3, 0, none⟩)], .slice (some ⟨B + 7, 0, none⟩) k k, undef, undef, undef, undef, undef, undef, undef, undef, undef, undef, undef, undef], defers := [] } ?call ?assign ?body ?done ?stop
  case call =>
    intro W R Rx hb hs hRs hR hy
    refine (sets1_in 8 (by omega) v k (B + 6) (B + 3) (B + 4) (B + 7) h2 hkv h60 (fun m A => Cpl w B v k m A ∧ R A) (fun m A => Cpl w B v k (m + 1) A ∧ R A) (fun A => (CplX w B v k A ∧ B ≤ A.heap.size) ∧ Rx A) W (by omega) (fun A => lenAt A (B + 2)) (fun m A h => h.1.len) (fun m A h => h.1.cv.cell 0) ((HR4.out.below hb (by have := HSZ.out; omega)).cell 0)
      (fun A hA hsz => ⟨HC0.out A (hb.trans (hA.mono (by omega))) (by omega), hRs W A ⟨hA.block _ (by omega), hA.block _ (by omega)⟩ hR⟩)
      (fun m A A' h ho => ⟨h.1.only ho, hRs A A' ⟨ho.at_ (by omega) (by have := h.1.big; omega), ho.at_ (by omega) (by have := h.1.big; omega)⟩ h.2⟩)
      (fun m A hm h hrow => by
        obtain ⟨fn, tm, sg, bd, y1, y2⟩ := hy m A ⟨hm, h.1, hrow⟩ h.2
        refine ⟨fn, tm, sg, bd, y1, y2.mono ?_⟩
        rintro e A' (⟨he, ⟨q1, q2⟩, q3⟩ | ⟨he, q1, q2⟩)
        · exact .inl ⟨he, ⟨q1, q3⟩, q2⟩
        · exact .inr ⟨he, q1, q2⟩)).mono ?_
    rintro e A' ⟨hu, ⟨m, hm, A, ⟨hc, hr⟩, ho⟩ | hx⟩
    · exact ⟨hu, .inl ⟨by rw [← hm]; exact hc.only ho, hRs A A' ⟨ho.at_ (by omega) (by have := hc.big; omega), ho.at_ (by omega) (by have := hc.big; omega)⟩ hr⟩⟩
    · exact ⟨hu, .inr hx⟩
  case assign =>
    intro W K hK
    gi_wp2
    exact hK
  case body =>
    rintro m W hs ⟨hm, hc, hrow⟩
    obtain ⟨lv, q1, q2⟩ := hc.list
    have TL : ((comb v v k).take m).length = m := by rw [List.length_take, comb_len]; omega
    obtain ⟨A6, c6, rfl⟩ := q2.form
    rw [TL] at q1 q2
    have cl := q1.cell 0
    by_cases mB : m = 4096
    · have mI : ((m : Int) == 4096) = true := by rw [beq_iff_eq]; omega
      have d0 := hc.res.cell 0
      have d1 := hc.res.cell 1
      have f0 := hc.res.frozen 0
      have f1 := hc.res.frozen 1
      have d2 := hc.err.cell 0
      have f2 := hc.err.frozen 0
      have RS := Lib.hid ((hc.res.store 0 (.int .i64 0)).store 1 (.slice none 0 0))
      have BL := Lib.hid hc.bel
      have BG := Lib.hid hc.big
      have ER := Lib.hid hc.err
      have LT : Hid (4096 < ch v k) := Lib.hid (by omega)
      clear q1 q2 hrow hc mB hm
      gi_wp2_with fail
      refine ⟨(((Held2.refl _ _).set (by show B + 5 ≠ B; omega) (by show B + 5 + 1 ≠ B; omega) _).set (by show B + 5 ≠ B; omega) (by show B + 5 + 1 ≠ B; omega) _).set (by show B + 5 ≠ B + 1; omega) (by show B + 5 + 1 ≠ B + 1; omega) _, ⟨LT.out, ((BL.out.setCell (p := ⟨B, 0, none⟩) (Nat.le_refl _) _).setCell (p := ⟨B, 1, none⟩) (Nat.le_refl _) _).setCell (p := ⟨B + 1, 0, none⟩) (Nat.le_succ _) _, RS.out.oth (k := B + 1) (by omega) 0 _, ?_⟩, ?_⟩
      · exact (((ER.out.oth (k := B) (by omega) 0 (.int .i64 0)).oth (k := B) (by omega) 1 (.slice none 0 0)).store 0 (.int .i64 7)).cell 0
      · rw [set_size, set_size, set_size]; have := BG.out; omega
    · have hm4 : m < 4096 := by have := hc.le; omega
      have mI : ((m : Int) == 4096) = false := by rw [beq_eq_false_iff_ne]; omega
      have hm' : m < (comb v v k).length := by rw [comb_len]; exact hm
      have TU : Hid ((comb v v k).take (m + 1) = (comb v v k).take m ++ [(comb v v k).getD m []]) := Lib.hid (by rw [List.take_succ_eq_append_getElem hm', getD_in hm'])
      have L1 : Hid (((comb v v k).getD m []).length = k) := Lib.hid (by rw [getD_in hm']; exact (comb_at hm').1)
      have TLH := Lib.hid TL
      have CWL := Lib.hid (show cw v k m = fun j => .int .i64 ((((comb v v k).getD m []).getD j 0 : Nat) : Int) from rfl)
      have HB : Hid (Below w.heap.size w W) := Lib.hid (by rw [HE.out]; exact hc.bel)
      have HR := Lib.hid q1
      have HO := Lib.hid q2
      have HQ := Lib.hid hrow
      have HP0 := Lib.hid hc.res
      have HP1 := Lib.hid hc.err
      have HP3 := Lib.hid hc.cv
      have HZ0 := Lib.hid hc.big
      have HKP : Hid (Keep2 (B + 5) W W) := Lib.hid (Keep2.refl (by have := hc.big; omega))
      have HMC := Lib.hid hm
      rw [CWL.out] at HQ
      clear hc q1 q2 hrow hm hm' TL
      obtain ⟨L, hL⟩ : ∃ L, (comb v v k).getD m [] = L := ⟨_, rfl⟩
      rw [hL] at TU L1
      simp only [hL] at HQ CWL
      clear hL
      gi_wp2_with fail
      clear cl
      refine region_round (S := (fun w' : World => True)) (by rintro ⟨a, w, h⟩; exact h) (by kernel_rfl) rfl ?_
      change wpAnyH _ _ _ _ _ _ _ _ W.drew
      have zhz2 : Below W.heap.size W W.drew := (Below.refl W.heap.size W).drew
      generalize W.drew = zwz1 at zhz2 ⊢
      have zhq3 : Below W.heap.size W zwz1 := zhz2
      have zW_4 := Lib.hid (Row.go HR.out zhq3)
      have zR_5 := Lib.hid (OwnR.to HO.out zhq3)
      have zQ_6 := Lib.hid (rowTo HQ.out zhq3)
      have zP0_7 := Lib.hid (Row.go HP0.out zhq3)
      have zP1_8 := Lib.hid (Row.go HP1.out zhq3)
      have zP3_9 := Lib.hid (Row.go HP3.out zhq3)
      have zZ_10 := Lib.hid (Nat.le_trans HZ0.out (Below.size zhq3))
      have zK_11 := Lib.hid (Keep2.to HKP.out zhq3)
      have zHB_12 : Hid (Below w.heap.size w zwz1) := Lib.hid (HB.out.trans (zhq3.mono HB.out.size))
      clear zhq3
      clear zhz2
      have zhS13 : (fun w' : World => True) zwz1 := trivial
      refine takeD (i := 1) (v := .slice (some ⟨B + 7, 0, none⟩) k k) (some 33) rfl rfl (by kernel_rfl) (by kernel_rfl) (by kernel_rfl) (fun _ _ _ h => h) (Or.inl ⟨by rfl, by rintro w' -; go_simp⟩) zhS13 ?_
      simp only [Act.put, List.setIfInBounds_toArray, List.set_cons_zero, List.set_cons_succ]
      refine wpAnyH_ready (rs := [0, 2]) (by kernel_rfl) (by simp) ?_
      refine AllReadyH.cons rfl (fun K hK => ?_) (AllReadyH.cons rfl (fun K hK => ?_) AllReadyH.nil)
      · have HzK14 := Lib.hid hK
        clear hK
        rw [if_pos (by rfl)]
        have cc := (show _ = some _ from zW_4.out.cell 0)
        go_simp
        clear cc
        skip
        refine HzK14.out _ _ zhS13 fun _ => ?_
        try simp only [Act.put, List.setIfInBounds_toArray, List.set_cons_zero, List.set_cons_succ]
        refine wpAnyH_ready (rs := [2]) (by kernel_rfl) (by simp) ?_
        refine AllReadyH.cons rfl (fun zK15 hzK15 => ?_) AllReadyH.nil
        have HzK15 := Lib.hid hzK15
        clear hzK15
        rw [if_pos (by rfl)]
        go_simp
        obtain ⟨bu, hbu⟩ : ∃ b, zwz1.heap.size = b := ⟨_, rfl⟩
        have HBU := Lib.hid hbu
        refine (clone_n (B + 7) 0 k k L zwz1 L1.out (by omega) (by omega) (fun j hj => by rw [Nat.zero_add]; exact zQ_6.out.cell hj)).mono ?_
        rintro e zx16 ⟨gr, cr, rfl, ho, hb⟩
        rw [hbu] at ho
        have zhq17 : Below zwz1.heap.size zwz1 zx16 := hb
        have zW_18 := Lib.hid (Row.go zW_4.out zhq17)
        have zR_19 := Lib.hid (OwnR.to zR_5.out zhq17)
        have zQ_20 := Lib.hid (rowTo zQ_6.out zhq17)
        have zP0_21 := Lib.hid (Row.go zP0_7.out zhq17)
        have zP1_22 := Lib.hid (Row.go zP1_8.out zhq17)
        have zP3_23 := Lib.hid (Row.go zP3_9.out zhq17)
        have zZ_24 := Lib.hid (Nat.le_trans zZ_10.out (Below.size zhq17))
        have zK_25 := Lib.hid (Keep2.to zK_11.out zhq17)
        have zHB_26 : Hid (Below w.heap.size w zx16) := Lib.hid (zHB_12.out.trans (zhq17.mono zHB_12.out.size))
        clear zhq17
        have NR := Lib.hid ho
        clear ho hb hbu
        have zhS27 : (fun w' : World => True) zx16 := trivial
        refine HzK15.out _ _ zhS27 fun _ => ?_
        try simp only [Act.put, List.setIfInBounds_toArray, List.set_cons_zero, List.set_cons_succ]
        refine wpAnyH_ready (rs := [3]) (by kernel_rfl) (by simp) ?_
        refine AllReadyH.cons rfl (fun zK28 hzK28 => ?_) AllReadyH.nil
        have HzK28 := Lib.hid hzK28
        clear hzK28
        rw [if_pos (by rfl)]
        refine wp_build_s _ rfl (.slice (some ⟨gr, 0, none⟩) k cr) (by rfl) rfl ?_
        obtain ⟨zx29, hxb⟩ : ∃ q, zx16.alloc (.cells #[.slice (some ⟨gr, 0, none⟩) k cr] 40) = q := ⟨_, rfl⟩
        have hbx : Below zx16.heap.size zx16 zx29 := by rw [← hxb]; exact (Below.refl _ _).alloc (Nat.le_refl _) _
        have LIT : Hid (zx29.cell? ⟨zx16.heap.size, 0, none⟩ = some (.slice (some ⟨gr, 0, none⟩) k cr)) := Lib.hid (by rw [← hxb]; exact (row_new' _ _ _).cell 0)
        obtain ⟨lb, hlb⟩ : ∃ q, zx16.heap.size = q := ⟨_, rfl⟩
        rw [hlb] at LIT
        rw [hxb, hlb]
        have zhq30 : Below zx16.heap.size zx16 zx29 := hbx
        have zW_31 := Lib.hid (Row.go zW_18.out zhq30)
        have zR_32 := Lib.hid (OwnR.to zR_19.out zhq30)
        have zQ_33 := Lib.hid (rowTo zQ_20.out zhq30)
        have zP0_34 := Lib.hid (Row.go zP0_21.out zhq30)
        have zP1_35 := Lib.hid (Row.go zP1_22.out zhq30)
        have zP3_36 := Lib.hid (Row.go zP3_23.out zhq30)
        have zZ_37 := Lib.hid (Nat.le_trans zZ_24.out (Below.size zhq30))
        have zK_38 := Lib.hid (Keep2.to zK_25.out zhq30)
        have zN_39 := Lib.hid (OwnL.gto NR.out zhq30)
        have zHB_40 : Hid (Below w.heap.size w zx29) := Lib.hid (zHB_26.out.trans (zhq30.mono zHB_26.out.size))
        clear zhq30
        clear hbx hxb hlb
        have zhS41 : (fun w' : World => True) zx29 := trivial
        refine HzK28.out _ _ zhS41 fun _ => ?_
        try simp only [Act.put, List.setIfInBounds_toArray, List.set_cons_zero, List.set_cons_succ]
        refine wpAnyH_ready (rs := [4]) (by kernel_rfl) (by simp) ?_
        refine AllReadyH.cons rfl (fun zK42 hzK42 => ?_) AllReadyH.nil
        have HzK42 := Lib.hid hzK42
        clear hzK42
        rw [if_pos (by rfl)]
        refine wp_push_R (K := B + 8) (.tmp 32) (.tmp 35) rfl (.slice A6 m c6) ((comb v v k).take m) m lb (.slice (some ⟨gr, 0, none⟩) k cr) L bu rfl zR_32.out TLH.out rfl LIT.out zN_39.out (by have := HBU.out; have := zZ_10.out; omega) (fun j e => by have := (zR_5.out.own j e).2; have := HBU.out; omega) (by omega) zZ_37.out ?_
        intro gs cq zx43 ho hg hat
        have ZB2 : Hid (Below w.heap.size w zx43) := Lib.hid (zHB_40.out.grown hg zHB_40.out.size (fun j e => by have h1 := (zR_32.out.own j e).1; have h2 := HE.out; omega))
        have ZW2 := Lib.hid (zW_31.out.gr hg (fun e => by have := (zR_32.out.own _ e.symm).1; omega))
        have ZA2 := Lib.hid (zP0_34.out.gr hg (fun e => by have := (zR_32.out.own _ e.symm).1; omega))
        have ZE2 := Lib.hid (zP1_35.out.gr hg (fun e => by have := (zR_32.out.own _ e.symm).1; omega))
        have ZV2 := Lib.hid (zP3_36.out.gr hg (fun e => by have := (zR_32.out.own _ e.symm).1; omega))
        have ZK2 := Lib.hid (zK_38.out.gr hg (fun e => by have := (zR_32.out.own _ e.symm).1; omega) (fun e => by have := (zR_32.out.own _ e.symm).1; omega))
        have ZQ2 : Hid (zx43.rowIs (B + 7) 3 k _) := Lib.hid (zQ_33.out.of_block (hg.block _ zQ_33.out.lt (fun e => by have := (zR_32.out.own _ e.symm).1; omega)))
        have ZR2 := Lib.hid ho
        have ZS2 : Hid (B + 8 ≤ zx43.heap.size) := Lib.hid (by have := hg.size; have := zZ_37.out; omega)
        clear ho hg hat
        have zhS44 : (fun w' : World => True) zx43 := trivial
        refine HzK42.out _ _ zhS44 fun _ => ?_
        try simp only [Act.put, List.setIfInBounds_toArray, List.set_cons_zero, List.set_cons_succ]
        refine wpAnyH_ready (rs := [5]) (by kernel_rfl) (by simp) ?_
        refine AllReadyH.cons rfl (fun zK45 hzK45 => ?_) AllReadyH.nil
        have HzK45 := Lib.hid hzK45
        clear hzK45
        rw [if_pos (by rfl)]
        have cc := (show _ = some _ from ZW2.out.cell 0)
        have ff := ZW2.out.frozen 0
        go_simp
        clear cc ff
        have ZB3 := Lib.hid (ZB2.out.setCell (p := ⟨B + 2, 0, none⟩) (by have := HE.out; show _ ≤ B + 2; omega) (.slice (some ⟨gs, 0, none⟩) (m + 1) cq))
        have ZW3 := Lib.hid (ZW2.out.store 0 (.slice (some ⟨gs, 0, none⟩) (m + 1) cq))
        have ZA3 := Lib.hid (ZA2.out.oth (k := B + 2) (by omega) 0 (.slice (some ⟨gs, 0, none⟩) (m + 1) cq))
        have ZE3 := Lib.hid (ZE2.out.oth (k := B + 2) (by omega) 0 (.slice (some ⟨gs, 0, none⟩) (m + 1) cq))
        have ZV3 := Lib.hid (ZV2.out.oth (k := B + 2) (by omega) 0 (.slice (some ⟨gs, 0, none⟩) (m + 1) cq))
        have ZK3 := Lib.hid (ZK2.out.set (p := ⟨B + 2, 0, none⟩) (by show B + 5 ≠ B + 2; omega) (by show B + 5 + 1 ≠ B + 2; omega) (.slice (some ⟨gs, 0, none⟩) (m + 1) cq))
        have ZR3 := Lib.hid (ZR2.out.set (g := B + 2) (by omega) 0 (.slice (some ⟨gs, 0, none⟩) (m + 1) cq))
        have ZQ3 := Lib.hid (World.rowIs.setOther ZQ2.out (a := ⟨B + 2, 0, none⟩) (by show B + 7 ≠ B + 2; omega) (.slice (some ⟨gs, 0, none⟩) (m + 1) cq))
        have ZS3 : Hid (B + 8 ≤ (zx43.setCell ⟨B + 2, 0, none⟩ (.slice (some ⟨gs, 0, none⟩) (m + 1) cq)).heap.size) := Lib.hid (by have := ZS2.out; simpa [World.setCell] using this)
        obtain ⟨W9, hW9⟩ : ∃ W9, zx43.setCell ⟨B + 2, 0, none⟩ (.slice (some ⟨gs, 0, none⟩) (m + 1) cq) = W9 := ⟨_, rfl⟩
        rw [hW9] at ZB3 ZW3 ZA3 ZE3 ZV3 ZK3 ZR3 ZQ3 ZS3 ⊢
        clear hW9
        have zhS46 : (fun w' : World => True) W9 := trivial
        refine HzK45.out _ _ zhS46 fun _ => ?_
        refine wpAnyH_done (by kernel_rfl) ?_ _
        exact ⟨ZK3.out.1, ⟨by omega, HMC.out, by have := ZB3.out; rwa [HE.out] at this, ⟨_, ZW3.out, by rw [TU.out]; exact ZR3.out⟩, ZA3.out, ZE3.out, ZV3.out, ZS3.out⟩, by rw [CWL.out]; exact ZQ3.out⟩
      · have HzK14 := Lib.hid hK
        clear hK
        rw [if_pos (by rfl)]
        go_simp
        obtain ⟨bu, hbu⟩ : ∃ b, zwz1.heap.size = b := ⟨_, rfl⟩
        have HBU := Lib.hid hbu
        refine (clone_n (B + 7) 0 k k L zwz1 L1.out (by omega) (by omega) (fun j hj => by rw [Nat.zero_add]; exact zQ_6.out.cell hj)).mono ?_
        rintro e zx15 ⟨gr, cr, rfl, ho, hb⟩
        rw [hbu] at ho
        have zhq16 : Below zwz1.heap.size zwz1 zx15 := hb
        have zW_17 := Lib.hid (Row.go zW_4.out zhq16)
        have zR_18 := Lib.hid (OwnR.to zR_5.out zhq16)
        have zQ_19 := Lib.hid (rowTo zQ_6.out zhq16)
        have zP0_20 := Lib.hid (Row.go zP0_7.out zhq16)
        have zP1_21 := Lib.hid (Row.go zP1_8.out zhq16)
        have zP3_22 := Lib.hid (Row.go zP3_9.out zhq16)
        have zZ_23 := Lib.hid (Nat.le_trans zZ_10.out (Below.size zhq16))
        have zK_24 := Lib.hid (Keep2.to zK_11.out zhq16)
        have zHB_25 : Hid (Below w.heap.size w zx15) := Lib.hid (zHB_12.out.trans (zhq16.mono zHB_12.out.size))
        clear zhq16
        have NR := Lib.hid ho
        clear ho hb hbu
        have zhS26 : (fun w' : World => True) zx15 := trivial
        refine HzK14.out _ _ zhS26 fun _ => ?_
        try simp only [Act.put, List.setIfInBounds_toArray, List.set_cons_zero, List.set_cons_succ]
        refine wpAnyH_ready (rs := [0, 3]) (by kernel_rfl) (by simp) ?_
        refine AllReadyH.cons rfl (fun K hK => ?_) (AllReadyH.cons rfl (fun K hK => ?_) AllReadyH.nil)
        · have HzK27 := Lib.hid hK
          clear hK
          rw [if_pos (by rfl)]
          have cc := (show _ = some _ from zW_17.out.cell 0)
          go_simp
          clear cc
          skip
          refine HzK27.out _ _ zhS26 fun _ => ?_
          try simp only [Act.put, List.setIfInBounds_toArray, List.set_cons_zero, List.set_cons_succ]
          refine wpAnyH_ready (rs := [3]) (by kernel_rfl) (by simp) ?_
          refine AllReadyH.cons rfl (fun zK28 hzK28 => ?_) AllReadyH.nil
          have HzK28 := Lib.hid hzK28
          clear hzK28
          rw [if_pos (by rfl)]
          refine wp_build_s _ rfl (.slice (some ⟨gr, 0, none⟩) k cr) (by rfl) rfl ?_
          obtain ⟨zx29, hxb⟩ : ∃ q, zx15.alloc (.cells #[.slice (some ⟨gr, 0, none⟩) k cr] 40) = q := ⟨_, rfl⟩
          have hbx : Below zx15.heap.size zx15 zx29 := by rw [← hxb]; exact (Below.refl _ _).alloc (Nat.le_refl _) _
          have LIT : Hid (zx29.cell? ⟨zx15.heap.size, 0, none⟩ = some (.slice (some ⟨gr, 0, none⟩) k cr)) := Lib.hid (by rw [← hxb]; exact (row_new' _ _ _).cell 0)
          obtain ⟨lb, hlb⟩ : ∃ q, zx15.heap.size = q := ⟨_, rfl⟩
          rw [hlb] at LIT
          rw [hxb, hlb]
          have zhq30 : Below zx15.heap.size zx15 zx29 := hbx
          have zW_31 := Lib.hid (Row.go zW_17.out zhq30)
          have zR_32 := Lib.hid (OwnR.to zR_18.out zhq30)
          have zQ_33 := Lib.hid (rowTo zQ_19.out zhq30)
          have zP0_34 := Lib.hid (Row.go zP0_20.out zhq30)
          have zP1_35 := Lib.hid (Row.go zP1_21.out zhq30)
          have zP3_36 := Lib.hid (Row.go zP3_22.out zhq30)
          have zZ_37 := Lib.hid (Nat.le_trans zZ_23.out (Below.size zhq30))
          have zK_38 := Lib.hid (Keep2.to zK_24.out zhq30)
          have zN_39 := Lib.hid (OwnL.gto NR.out zhq30)
          have zHB_40 : Hid (Below w.heap.size w zx29) := Lib.hid (zHB_25.out.trans (zhq30.mono zHB_25.out.size))
          clear zhq30
          clear hbx hxb hlb
          have zhS41 : (fun w' : World => True) zx29 := trivial
          refine HzK28.out _ _ zhS41 fun _ => ?_
          try simp only [Act.put, List.setIfInBounds_toArray, List.set_cons_zero, List.set_cons_succ]
          refine wpAnyH_ready (rs := [4]) (by kernel_rfl) (by simp) ?_
          refine AllReadyH.cons rfl (fun zK42 hzK42 => ?_) AllReadyH.nil
          have HzK42 := Lib.hid hzK42
          clear hzK42
          rw [if_pos (by rfl)]
          refine wp_push_R (K := B + 8) (.tmp 32) (.tmp 35) rfl (.slice A6 m c6) ((comb v v k).take m) m lb (.slice (some ⟨gr, 0, none⟩) k cr) L bu rfl zR_32.out TLH.out rfl LIT.out zN_39.out (by have := HBU.out; have := zZ_10.out; omega) (fun j e => by have := (zR_5.out.own j e).2; have := HBU.out; omega) (by omega) zZ_37.out ?_
          intro gs cq zx43 ho hg hat
          have ZB2 : Hid (Below w.heap.size w zx43) := Lib.hid (zHB_40.out.grown hg zHB_40.out.size (fun j e => by have h1 := (zR_32.out.own j e).1; have h2 := HE.out; omega))
          have ZW2 := Lib.hid (zW_31.out.gr hg (fun e => by have := (zR_32.out.own _ e.symm).1; omega))
          have ZA2 := Lib.hid (zP0_34.out.gr hg (fun e => by have := (zR_32.out.own _ e.symm).1; omega))
          have ZE2 := Lib.hid (zP1_35.out.gr hg (fun e => by have := (zR_32.out.own _ e.symm).1; omega))
          have ZV2 := Lib.hid (zP3_36.out.gr hg (fun e => by have := (zR_32.out.own _ e.symm).1; omega))
          have ZK2 := Lib.hid (zK_38.out.gr hg (fun e => by have := (zR_32.out.own _ e.symm).1; omega) (fun e => by have := (zR_32.out.own _ e.symm).1; omega))
          have ZQ2 : Hid (zx43.rowIs (B + 7) 3 k _) := Lib.hid (zQ_33.out.of_block (hg.block _ zQ_33.out.lt (fun e => by have := (zR_32.out.own _ e.symm).1; omega)))
          have ZR2 := Lib.hid ho
          have ZS2 : Hid (B + 8 ≤ zx43.heap.size) := Lib.hid (by have := hg.size; have := zZ_37.out; omega)
          clear ho hg hat
          have zhS44 : (fun w' : World => True) zx43 := trivial
          refine HzK42.out _ _ zhS44 fun _ => ?_
          try simp only [Act.put, List.setIfInBounds_toArray, List.set_cons_zero, List.set_cons_succ]
          refine wpAnyH_ready (rs := [5]) (by kernel_rfl) (by simp) ?_
          refine AllReadyH.cons rfl (fun zK45 hzK45 => ?_) AllReadyH.nil
          have HzK45 := Lib.hid hzK45
          clear hzK45
          rw [if_pos (by rfl)]
          have cc := (show _ = some _ from ZW2.out.cell 0)
          have ff := ZW2.out.frozen 0
          go_simp
          clear cc ff
          have ZB3 := Lib.hid (ZB2.out.setCell (p := ⟨B + 2, 0, none⟩) (by have := HE.out; show _ ≤ B + 2; omega) (.slice (some ⟨gs, 0, none⟩) (m + 1) cq))
          have ZW3 := Lib.hid (ZW2.out.store 0 (.slice (some ⟨gs, 0, none⟩) (m + 1) cq))
          have ZA3 := Lib.hid (ZA2.out.oth (k := B + 2) (by omega) 0 (.slice (some ⟨gs, 0, none⟩) (m + 1) cq))
          have ZE3 := Lib.hid (ZE2.out.oth (k := B + 2) (by omega) 0 (.slice (some ⟨gs, 0, none⟩) (m + 1) cq))
          have ZV3 := Lib.hid (ZV2.out.oth (k := B + 2) (by omega) 0 (.slice (some ⟨gs, 0, none⟩) (m + 1) cq))
          have ZK3 := Lib.hid (ZK2.out.set (p := ⟨B + 2, 0, none⟩) (by show B + 5 ≠ B + 2; omega) (by show B + 5 + 1 ≠ B + 2; omega) (.slice (some ⟨gs, 0, none⟩) (m + 1) cq))
          have ZR3 := Lib.hid (ZR2.out.set (g := B + 2) (by omega) 0 (.slice (some ⟨gs, 0, none⟩) (m + 1) cq))
          have ZQ3 := Lib.hid (World.rowIs.setOther ZQ2.out (a := ⟨B + 2, 0, none⟩) (by show B + 7 ≠ B + 2; omega) (.slice (some ⟨gs, 0, none⟩) (m + 1) cq))
          have ZS3 : Hid (B + 8 ≤ (zx43.setCell ⟨B + 2, 0, none⟩ (.slice (some ⟨gs, 0, none⟩) (m + 1) cq)).heap.size) := Lib.hid (by have := ZS2.out; simpa [World.setCell] using this)
          obtain ⟨W9, hW9⟩ : ∃ W9, zx43.setCell ⟨B + 2, 0, none⟩ (.slice (some ⟨gs, 0, none⟩) (m + 1) cq) = W9 := ⟨_, rfl⟩
          rw [hW9] at ZB3 ZW3 ZA3 ZE3 ZV3 ZK3 ZR3 ZQ3 ZS3 ⊢
          clear hW9
          have zhS46 : (fun w' : World => True) W9 := trivial
          refine HzK45.out _ _ zhS46 fun _ => ?_
          refine wpAnyH_done (by kernel_rfl) ?_ _
          exact ⟨ZK3.out.1, ⟨by omega, HMC.out, by have := ZB3.out; rwa [HE.out] at this, ⟨_, ZW3.out, by rw [TU.out]; exact ZR3.out⟩, ZA3.out, ZE3.out, ZV3.out, ZS3.out⟩, by rw [CWL.out]; exact ZQ3.out⟩
        · have HzK27 := Lib.hid hK
          clear hK
          rw [if_pos (by rfl)]
          refine wp_build_s _ rfl (.slice (some ⟨gr, 0, none⟩) k cr) (by rfl) rfl ?_
          obtain ⟨zx28, hxb⟩ : ∃ q, zx15.alloc (.cells #[.slice (some ⟨gr, 0, none⟩) k cr] 40) = q := ⟨_, rfl⟩
          have hbx : Below zx15.heap.size zx15 zx28 := by rw [← hxb]; exact (Below.refl _ _).alloc (Nat.le_refl _) _
          have LIT : Hid (zx28.cell? ⟨zx15.heap.size, 0, none⟩ = some (.slice (some ⟨gr, 0, none⟩) k cr)) := Lib.hid (by rw [← hxb]; exact (row_new' _ _ _).cell 0)
          obtain ⟨lb, hlb⟩ : ∃ q, zx15.heap.size = q := ⟨_, rfl⟩
          rw [hlb] at LIT
          rw [hxb, hlb]
          have zhq29 : Below zx15.heap.size zx15 zx28 := hbx
          have zW_30 := Lib.hid (Row.go zW_17.out zhq29)
          have zR_31 := Lib.hid (OwnR.to zR_18.out zhq29)
          have zQ_32 := Lib.hid (rowTo zQ_19.out zhq29)
          have zP0_33 := Lib.hid (Row.go zP0_20.out zhq29)
          have zP1_34 := Lib.hid (Row.go zP1_21.out zhq29)
          have zP3_35 := Lib.hid (Row.go zP3_22.out zhq29)
          have zZ_36 := Lib.hid (Nat.le_trans zZ_23.out (Below.size zhq29))
          have zK_37 := Lib.hid (Keep2.to zK_24.out zhq29)
          have zN_38 := Lib.hid (OwnL.gto NR.out zhq29)
          have zHB_39 : Hid (Below w.heap.size w zx28) := Lib.hid (zHB_25.out.trans (zhq29.mono zHB_25.out.size))
          clear zhq29
          clear hbx hxb hlb
          have zhS40 : (fun w' : World => True) zx28 := trivial
          refine HzK27.out _ _ zhS40 fun _ => ?_
          try simp only [Act.put, List.setIfInBounds_toArray, List.set_cons_zero, List.set_cons_succ]
          refine wpAnyH_ready (rs := [0]) (by kernel_rfl) (by simp) ?_
          refine AllReadyH.cons rfl (fun zK41 hzK41 => ?_) AllReadyH.nil
          have HzK41 := Lib.hid hzK41
          clear hzK41
          rw [if_pos (by rfl)]
          have cc := (show _ = some _ from zW_30.out.cell 0)
          go_simp
          clear cc
          skip
          refine HzK41.out _ _ zhS40 fun _ => ?_
          try simp only [Act.put, List.setIfInBounds_toArray, List.set_cons_zero, List.set_cons_succ]
          refine wpAnyH_ready (rs := [4]) (by kernel_rfl) (by simp) ?_
          refine AllReadyH.cons rfl (fun zK42 hzK42 => ?_) AllReadyH.nil
          have HzK42 := Lib.hid hzK42
          clear hzK42
          rw [if_pos (by rfl)]
          refine wp_push_R (K := B + 8) (.tmp 32) (.tmp 35) rfl (.slice A6 m c6) ((comb v v k).take m) m lb (.slice (some ⟨gr, 0, none⟩) k cr) L bu rfl zR_31.out TLH.out rfl LIT.out zN_38.out (by have := HBU.out; have := zZ_10.out; omega) (fun j e => by have := (zR_5.out.own j e).2; have := HBU.out; omega) (by omega) zZ_36.out ?_
          intro gs cq zx43 ho hg hat
          have ZB2 : Hid (Below w.heap.size w zx43) := Lib.hid (zHB_39.out.grown hg zHB_39.out.size (fun j e => by have h1 := (zR_31.out.own j e).1; have h2 := HE.out; omega))
          have ZW2 := Lib.hid (zW_30.out.gr hg (fun e => by have := (zR_31.out.own _ e.symm).1; omega))
          have ZA2 := Lib.hid (zP0_33.out.gr hg (fun e => by have := (zR_31.out.own _ e.symm).1; omega))
          have ZE2 := Lib.hid (zP1_34.out.gr hg (fun e => by have := (zR_31.out.own _ e.symm).1; omega))
          have ZV2 := Lib.hid (zP3_35.out.gr hg (fun e => by have := (zR_31.out.own _ e.symm).1; omega))
          have ZK2 := Lib.hid (zK_37.out.gr hg (fun e => by have := (zR_31.out.own _ e.symm).1; omega) (fun e => by have := (zR_31.out.own _ e.symm).1; omega))
          have ZQ2 : Hid (zx43.rowIs (B + 7) 3 k _) := Lib.hid (zQ_32.out.of_block (hg.block _ zQ_32.out.lt (fun e => by have := (zR_31.out.own _ e.symm).1; omega)))
          have ZR2 := Lib.hid ho
          have ZS2 : Hid (B + 8 ≤ zx43.heap.size) := Lib.hid (by have := hg.size; have := zZ_36.out; omega)
          clear ho hg hat
          have zhS44 : (fun w' : World => True) zx43 := trivial
          refine HzK42.out _ _ zhS44 fun _ => ?_
          try simp only [Act.put, List.setIfInBounds_toArray, List.set_cons_zero, List.set_cons_succ]
          refine wpAnyH_ready (rs := [5]) (by kernel_rfl) (by simp) ?_
          refine AllReadyH.cons rfl (fun zK45 hzK45 => ?_) AllReadyH.nil
          have HzK45 := Lib.hid hzK45
          clear hzK45
          rw [if_pos (by rfl)]
          have cc := (show _ = some _ from ZW2.out.cell 0)
          have ff := ZW2.out.frozen 0
          go_simp
          clear cc ff
          have ZB3 := Lib.hid (ZB2.out.setCell (p := ⟨B + 2, 0, none⟩) (by have := HE.out; show _ ≤ B + 2; omega) (.slice (some ⟨gs, 0, none⟩) (m + 1) cq))
          have ZW3 := Lib.hid (ZW2.out.store 0 (.slice (some ⟨gs, 0, none⟩) (m + 1) cq))
          have ZA3 := Lib.hid (ZA2.out.oth (k := B + 2) (by omega) 0 (.slice (some ⟨gs, 0, none⟩) (m + 1) cq))
          have ZE3 := Lib.hid (ZE2.out.oth (k := B + 2) (by omega) 0 (.slice (some ⟨gs, 0, none⟩) (m + 1) cq))
          have ZV3 := Lib.hid (ZV2.out.oth (k := B + 2) (by omega) 0 (.slice (some ⟨gs, 0, none⟩) (m + 1) cq))
          have ZK3 := Lib.hid (ZK2.out.set (p := ⟨B + 2, 0, none⟩) (by show B + 5 ≠ B + 2; omega) (by show B + 5 + 1 ≠ B + 2; omega) (.slice (some ⟨gs, 0, none⟩) (m + 1) cq))
          have ZR3 := Lib.hid (ZR2.out.set (g := B + 2) (by omega) 0 (.slice (some ⟨gs, 0, none⟩) (m + 1) cq))
          have ZQ3 := Lib.hid (World.rowIs.setOther ZQ2.out (a := ⟨B + 2, 0, none⟩) (by show B + 7 ≠ B + 2; omega) (.slice (some ⟨gs, 0, none⟩) (m + 1) cq))
          have ZS3 : Hid (B + 8 ≤ (zx43.setCell ⟨B + 2, 0, none⟩ (.slice (some ⟨gs, 0, none⟩) (m + 1) cq)).heap.size) := Lib.hid (by have := ZS2.out; simpa [World.setCell] using this)
          obtain ⟨W9, hW9⟩ : ∃ W9, zx43.setCell ⟨B + 2, 0, none⟩ (.slice (some ⟨gs, 0, none⟩) (m + 1) cq) = W9 := ⟨_, rfl⟩
          rw [hW9] at ZB3 ZW3 ZA3 ZE3 ZV3 ZK3 ZR3 ZQ3 ZS3 ⊢
          clear hW9
          have zhS46 : (fun w' : World => True) W9 := trivial
          refine HzK45.out _ _ zhS46 fun _ => ?_
          refine wpAnyH_done (by kernel_rfl) ?_ _
          exact ⟨ZK3.out.1, ⟨by omega, HMC.out, by have := ZB3.out; rwa [HE.out] at this, ⟨_, ZW3.out, by rw [TU.out]; exact ZR3.out⟩, ZA3.out, ZE3.out, ZV3.out, ZS3.out⟩, by rw [CWL.out]; exact ZQ3.out⟩
  case done =>
    rintro W hz hk
    obtain ⟨lv, h1, h2'⟩ := hz.list
    have TL : (comb v v k).take (ch v k) = comb v v k := by rw [← comb_len v v k]; exact List.take_length
    rw [TL] at h2'
    obtain ⟨A6, c6, rfl⟩ := h2'.form
    have cl := h1.cell 0
    have d0 := hz.res.cell 0
    have d1 := hz.res.cell 1
    have f0 := hz.res.frozen 0
    have f1 := hz.res.frozen 1
    have d2 := hz.err.cell 0
    have f2 := hz.err.frozen 0
    have HZ := Lib.hid hz
    have HO := Lib.hid h2'
    have HK := Lib.hid hk
    clear hz h1 h2' hk TL
    gi_wp2_with fail
    refine ⟨by simp, .inl ⟨_, _, rfl, run_takeDeferred (b := B + 5) (ds := []) ?_, ?_⟩⟩
    · exact ((((Held2.refl (B + 5) W).set (by show B + 5 ≠ B; omega) (by show B + 5 + 1 ≠ B; omega) _).set (by show B + 5 ≠ B; omega) (by show B + 5 + 1 ≠ B; omega) _).set (by show B + 5 ≠ B + 1; omega) (by show B + 5 + 1 ≠ B + 1; omega) _).1.trans HK.out
    have R1 := (((HZ.out.res.store 0 (.int .i64 (v : Int))).store 1 (.slice A6 (comb v v k).length c6)).oth (k := B + 1) (by omega) 0 (.int .i64 0)).putO (l := B + 5) (o := .deferred none) (by omega)
    have R2 := (((HZ.out.err.oth (k := B) (by omega) 0 (.int .i64 (v : Int))).oth (k := B) (by omega) 1 (.slice A6 (comb v v k).length c6)).store 0 (.int .i64 0)).putO (l := B + 5) (o := .deferred none) (by omega)
    have B1 := ((HZ.out.bel.setCell (p := ⟨B, 0, none⟩) (Nat.le_refl _) (.int .i64 (v : Int))).setCell (p := ⟨B, 1, none⟩) (Nat.le_refl _) (.slice A6 (comb v v k).length c6)).setCell (p := ⟨B + 1, 0, none⟩) (Nat.le_succ _) (.int .i64 0)
    have O1 := ((HO.out.set (g := B) (by omega) 0 (.int .i64 (v : Int))).set (g := B) (by omega) 1 (.slice A6 (comb v v k).length c6)).set (g := B + 1) (by omega) 0 (.int .i64 0)
    have O2 := O1.fix (w' := World.putObj _ (B + 5) (.deferred none)) fun b hb _ => World.putObj_heap_other (by omega)
    have B2 := B1.grown (grownBy_putObj' _ (B + 5) (.deferred none)) (by rw [set_size, set_size, set_size]; have := HZ.out.big; omega) (fun j e => by cases e; omega)
    refine ⟨_, results_cell_cell (g := B) (g2 := B + 1) (t := 25) (fr := (0, 0)) rfl _ _ _ _ _ _ rfl R1 Tryd.underlying25 rfl (by kernel_rfl) rfl (R2.cell 0) Tryd.underlying26, ?_⟩
    exact ⟨by rw [HE.out]; exact B2, .inl ⟨HZ.out.le, _, rfl, O2.fx.low (by rw [HE.out]; omega)⟩⟩
  case stop =>
    rintro W ⟨hx, hsz⟩ hk
    gi_wp2
    refine ⟨by simp, .inl ⟨_, _, rfl, run_takeDeferred hk, ?_⟩⟩
    have rx := hx.put (l := B + 5) (o := .deferred none) (by omega) hsz
    refine ⟨_, results_cell_cell (g := B) (g2 := B + 1) (t := 25) (fr := (0, 0)) rfl _ _ _ _ _ _ rfl rx.res Tryd.underlying25 rfl (by kernel_rfl) rfl rx.err Tryd.underlying26, ?_⟩
    exact ⟨by rw [HE.out]; exact rx.bel, .inr ⟨rx.gt, rfl⟩⟩
end Go.Proofs.YtnnacofjogfkeaaDoor
