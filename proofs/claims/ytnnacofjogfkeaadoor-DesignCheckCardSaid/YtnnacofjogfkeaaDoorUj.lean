/- Contracts: Affine. WRITTEN BY gen_Uj.py. -/
import Derived.Test.YtnnacofjogfkeaaDoorUg
import Derived.Lib.JoinLaws
namespace Go.Proofs.YtnnacofjogfkeaaDoor
open Go Go.RowKit Pl
set_option linter.unusedVariables false
set_option linter.unusedSimpArgs false

/-- A function value that gives the coordinates of the points of a line, in this world and later ones. -/
def Pv (q : Nat) (f g : Nat → Nat) (w : World) (v : Value) : Prop := ∃ k lb, v = .func (.func k) #[] lb ∧ Enters Tryd.prog k ∧
  ∀ w', Below w.heap.size w w' → ∀ i, i < q → Calls Tryd.prog k (#[.int .i64 (i : Int)] ++ lb) w' (qui (.tuple #[.int .i64 (f i : Nat), .int .i64 (g i : Nat)]) w')
def pts (q : Nat) (f g : Nat → Nat) : List Nat := (List.range q).map fun i => q * f i + g i
theorem Wk.of_rowIs {w : World} {b n : Nat} {t : TypeId} {F : Nat → Nat} (h : w.rowIs b t n (fun j => .int .i64 ((F j : Nat) : Int))) (hn : n ≤ maxLen) : Wk Nv w b t n ((List.range n).map F) := by
  obtain ⟨c, hh, hs, hc⟩ := h
  refine ⟨c, hh, hs, hn, by simp, fun k hk => ?_⟩
  have hk' : k < n := by simpa using hk
  exact ⟨_, hc k hk', fun _ _ => by simp [Nv]⟩
def lnPost (l : List Nat) (w : World) (e : Ending) (w' : World) : Prop := ∃ v, e = .returned v ∧ OwnL Nv w' w.heap.size 3 v l ∧ Below w.heap.size w w'

set_option maxHeartbeats 4000000 in
set_option maxRecDepth 100000 in
theorem affline_any (q : Nat) (f g : Nat → Nat) (v : Value) (w : World) (hq : q ≤ 9) (hF : Pv q f g w v) (hfg : ∀ i, i < q → f i < q ∧ g i < q) : Calls Tryd.prog 40 #[.int .i64 (q : Int), v] w (lnPost (pts q f g) w) := by
  have hm2 := run_make_row' (P := Tryd.prog) 40 3 _ _ Tryd.underlying40 info_int rfl .i64 .i64 q (by omega) (by omega)
  obtain ⟨K, lb, rfl, hent, hcalls⟩ := hF
  have eK := hent
  have HC := Lib.hid hcalls
  have FG := Lib.hid hfg
  obtain ⟨B, hB⟩ : ∃ B, w.heap.size = B := ⟨_, rfl⟩
  have HE := Lib.hid hB
  clear hcalls hent hfg hB
  unfold Enters at eK
  go_enter Tryd.func40, Tryd.ntmps40
  go_wp2_with fail
  rw [HE.out]
  go_loopw [6, 7, 8, 13] (fun _ _ _ i wr => ∃ k : Nat, k ≤ q ∧ i = .int .i64 (k : Int) ∧ Hid (Below w.heap.size w wr ∧ wr.rowIs B 3 q (fun j => .int .i64 (((if j < k then q * f j + g j else 0) : Nat) : Int)))) (fun _ _ _ i _ => q - (intOf i).toNat)
  case atStart =>
    refine ⟨0, Nat.zero_le _, rfl, Lib.hid ⟨(Below.refl _ _).alloc (Nat.le_refl _) _, ?_⟩⟩
    rw [← HE.out]
    exact (World.rowIs_made w _ q _).congr fun i _ => by rw [if_neg (Nat.not_lt_zero i)]; rfl
  case round =>
    obtain ⟨k, hk, rfl, H⟩ := hrel
    by_cases hlt : k < q
    · have hkI : (k : Int) < (q : Int) := by omega
      have cF := Lib.hid (HC.out wr H.out.1 k hlt)
      have HB := Lib.hid H.out.1
      have HR := Lib.hid H.out.2
      obtain ⟨xq, yq⟩ := FG.out k hlt
      have SUC : Hid ((fun j => Value.int .i64 (((if j < k + 1 then q * f j + g j else 0) : Nat) : Int)) = fun j => if j = k then .int .i64 ((q * f k + g k : Nat) : Int) else .int .i64 (((if j < k then q * f j + g j else 0) : Nat) : Int)) := Lib.hid (by
        funext j
        by_cases e : j = k
        · subst e; rw [if_pos (by omega), if_pos rfl]
        · rw [if_neg e]
          by_cases e2 : j < k
          · rw [if_pos (by omega), if_pos e2]
          · rw [if_neg (by omega), if_neg e2])
      obtain ⟨x, hx⟩ : ∃ x, f k = x := ⟨_, rfl⟩
      obtain ⟨y, hy⟩ : ∃ y, g k = y := ⟨_, rfl⟩
      rw [hx, hy] at cF SUC
      rw [hx] at xq
      rw [hy] at yq
      clear hx hy H
      obtain ⟨t, ht⟩ : ∃ t, q * x = t := ⟨_, rfl⟩
      have et : (q : Int) * (x : Int) = (t : Int) := by rw [← ht]; rfl
      have t81 : t ≤ 81 := by rw [← ht]; exact Nat.mul_le_mul hq (by omega : x ≤ 9)
      rw [ht] at SUC
      clear ht
      go_wp2_with (first | (go_at_fn K; refine cF.out.mono ?_; rintro e w2 ⟨rfl, nq, rfl⟩; have HR2 : Hid ((wr.drewN nq).rowIs _ _ _ _) := Lib.hid HR.out; have c3 := HR2.out.cell hlt; have c4 := HR2.out.frozen k))
      go_roundw
      case rel =>
        refine ⟨k + 1, by omega, by go_num, Lib.hid ⟨(below_drewN HB.out nq).setCell (by show w.heap.size ≤ B; rw [HE.out]; exact Nat.le_refl _) _, ?_⟩⟩
        rw [SUC.out]
        have := HR2.out.set k (.int .i64 ((t + y : Nat) : Int))
        rw [Int.natCast_add] at this
        exact this
      case measure => simp [intOf]; omega
    · obtain rfl : k = q := by omega
      have kI : ¬ (k : Int) < (k : Int) := by omega
      have OW : Hid (OwnL Nv wr w.heap.size 3 (.slice (some ⟨B, 0, none⟩) k k) (pts k f g)) := Lib.hid (by
        refine OwnL.of_wk (Wk.of_rowIs (F := fun i => k * f i + g i) (H.out.2.congr fun i hi => by rw [if_pos hi]) (by unfold maxLen; omega)) (by rw [HE.out]; exact Nat.le_refl _) (by simp [pts]))
      have HB := Lib.hid H.out.1
      clear H
      go_wp2_with fail
      go_ret
      exact ⟨_, rfl, OW.out, HB.out⟩
set_option maxHeartbeats 4000000 in
set_option maxRecDepth 100000 in
theorem aff1_any (q m b i B1 B2 B3 : Nat) (u : Value) (w : World) (hq : q ∈ szs) (h1 : w.cell? ⟨B1, 0, none⟩ = some u) (hf : Fd w u q) (h2 : w.cell? ⟨B2, 0, none⟩ = some (.int .i64 (m : Int))) (h3 : w.cell? ⟨B3, 0, none⟩ = some (.int .i64 (b : Int))) (hm : m < q) (hb : b < q) (hi : i < q) :
    Calls Tryd.prog 41 #[.int .i64 (i : Int), .pointer (some ⟨B1, 0, none⟩), .pointer (some ⟨B2, 0, none⟩), .pointer (some ⟨B3, 0, none⟩)] w (qui (.tuple #[.int .i64 (i : Int), .int .i64 (Sf.addF q (Sf.mulF q m i) b : Nat)]) w) := by
  have QS := (szs_ok hq).1
  have m0 := Sf.mul_lt QS hm hi
  have MM := Lib.hid (fun n x y (hx : x < q) (hy : y < q) => mul_ok q x y u (w.drewN n) QS (hf.to (below_drewN (Below.refl w.heap.size w) n)) hx hy)
  have MA := Lib.hid (fun n x y (hx : x < q) (hy : y < q) => add_ok q x y u (w.drewN n) QS (hf.to (below_drewN (Below.refl w.heap.size w) n)) hx hy)
  clear QS hq hf
  go_enter Tryd.func41, Tryd.ntmps41
  go_wp2_with fail
  go_quiet (first
    | (go_at_call 43; refine Calls.quiet_of_same ((MM.out _ _ _ (by assumption) (by assumption)).mono fun _ _ h => ⟨h.1, h.2⟩))
    | (go_at_call 42; refine Calls.quiet_of_same ((MA.out _ _ _ (by assumption) (by assumption)).mono fun _ _ h => ⟨h.1, h.2⟩)))
  go_wp2_with fail
  go_ret2
  exact ⟨rfl, _, rfl⟩
theorem aff2_any (c i B1 : Nat) (w : World) (h1 : w.cell? ⟨B1, 0, none⟩ = some (.int .i64 (c : Int))) :
    Calls Tryd.prog 44 #[.int .i64 (i : Int), .pointer (some ⟨B1, 0, none⟩)] w (qui (.tuple #[.int .i64 (c : Int), .int .i64 (i : Int)]) w) := by
  go_enter Tryd.func44, Tryd.ntmps44
  go_wp2
  go_ret2
  exact ⟨rfl, 0, rfl⟩

/-- Affine lines below n. -/
def afT (q n : Nat) : List (List Nat) := (List.range n).map (aff q)
theorem afT_len (q n : Nat) : (afT q n).length = n := by simp [afT]
theorem afT_succ (q n : Nat) : afT q (n + 1) = afT q n ++ [aff q n] := by unfold afT; rw [List.range_succ, List.map_append]; rfl
theorem aff_1 {q m b : Nat} (hm : m < q) (hb : b < q) : pts q (fun i => i) (fun i => Sf.addF q (Sf.mulF q m i) b) = aff q (q * m + b) := by
  have h1 : q * m + b < q * q := by
    have : q * (m + 1) ≤ q * q := Nat.mul_le_mul_left q hm
    rw [Nat.mul_add] at this; omega
  have h2 : (q * m + b) / q = m := by rw [Nat.mul_add_div (by omega), Nat.div_eq_of_lt hb]; rfl
  have h3 : (q * m + b) % q = b := by rw [Nat.mul_add_mod, Nat.mod_eq_of_lt hb]
  unfold pts aff
  rw [h2, h3]
  refine List.map_congr_left fun i _ => ?_
  rw [if_pos h1]
theorem aff_2 {q c : Nat} : pts q (fun _ => c) (fun i => i) = aff q (q * q + c) := by
  unfold pts aff
  refine List.map_congr_left fun i _ => ?_
  rw [if_neg (by omega), Nat.add_sub_cancel_left]
theorem own_ne {v : Value} {g n cap bm N : Nat} (hat : v.ownBlock = some g ∨ g = N) (h : ∀ k, v.ownBlock = some k → k ≠ bm) (hlt : bm < N) : ∀ k, (Value.slice (some ⟨g, 0, none⟩) n cap).ownBlock = some k → k ≠ bm := by
  intro k e
  have e : some g = some k := e
  injection e with e
  rcases hat with hat | hat
  · rw [← e]; exact h _ hat
  · omega
theorem NsB.keeps (B : Nat) : Keeps (NsB B) := fun _ _ _ _ h k w'' k' => h w'' ((Up.of_same k).trans k')
/-- 'append(v, u)' of rows. -/
theorem wpList_push_r {B : Nat} {w : World} {ops : Array Oper} {rest : List Oper} {o : Oper} {a : Act} {Q : Exit → Act → World → Prop} (hgd : o.guard = none) (s x : Operand)
    (ho : o.op = .call { callee := .builtin .append, args := #[s, x], argTypes := #[23, 23] })
    (base : Nat) (v : Value) (l : List (List Nat)) (n b : Nat) (u : Value) (y : List Nat) (bu : Nat) (e' : TypeId) (hs : a.eval s = v) (hown : OwnL (NsB B) w base 40 v l) (hn : l.length = n) (hx : a.eval x = .slice (some ⟨b, 0, none⟩) 1 1) (hcell : w.cell? ⟨b, 0, none⟩ = some u)
    (hu : OwnL Nv w bu e' u y) (hB : B < bu) (hv : ∀ k, v.ownBlock = some k → k < bu) (hlen : n ≤ 100000) (hbase : base ≤ w.heap.size)
    (h : ∀ g cap w', OwnL (NsB B) w' base 40 (.slice (some ⟨g, 0, none⟩) (n + 1) cap) (l ++ [y]) → w.grownBy w' v.ownBlock → (v.ownBlock = some g ∨ g = w.heap.size) → wpList Tryd.prog ops Q rest (a.put o.dst (.slice (some ⟨g, 0, none⟩) (n + 1) cap)) w') : wpList Tryd.prog ops Q (o :: rest) a w := by
  obtain ⟨i, hi, hz, hsz, hby⟩ := info_parts info_rows
  refine wpList_push_at hgd s x _ ho base _ i _ 24 Tryd.underlying23 hi hz hsz hby rfl (NsB.keeps B) v l hs hown n hn b u y hx hcell (by obtain ⟨A, c, rfl⟩ := slform hu.sl; rfl) (fun _ k => hu.nsUp hB k) (fun g hg => hu.nsOff2 (hv g hg) hB) (by unfold maxLen; omega) (by omega) hbase h

set_option maxHeartbeats 4000000 in
set_option maxRecDepth 100000 in
theorem affine_fx (q : Nat) (w : World) (hK : Kd w) (hq : q ∈ szs) : Calls Tryd.prog 29 #[.int .i64 (q : Int)] w (dsFx (q * q) ((List.range (q * q + q)).map (aff q)) w) := by
  have so := szs_ok hq
  obtain ⟨p, hp⟩ : ∃ p : Nat, q * q = p := ⟨_, rfl⟩
  have ep : (q : Int) * (q : Int) = (p : Int) := by rw [← hp]; rfl
  have p49 : p + q ≤ 56 := by have := so.2.2.2.1; unfold cN at this; omega
  have q2 := so.2.1
  have q7 := so.2.2.1
  obtain ⟨B, hB⟩ : ∃ B, w.heap.size = B := ⟨_, rfl⟩
  obtain ⟨W, hW⟩ : ∃ W, w.alloc (.cells #[.int .i64 0, .slice none 0 0] 25) = W := ⟨_, rfl⟩
  have b0 : Below w.heap.size w W := by rw [← hW]; exact (Below.refl _ _).alloc (Nat.le_refl _) _
  have r0 : Row W B 25 #[.int .i64 0, .slice none 0 0] := by rw [← hW, ← hB]; exact row_new' _ _ _
  have NE := Lib.hid (lf_ok q (p : Int) W (hK.below b0) so.1 (by omega))
  have B0 := Lib.hid b0
  have R0 := Lib.hid r0
  have HW := Lib.hid hW
  have HE := Lib.hid hB
  have QS := Lib.hid hq
  have HP := Lib.hid hp
  have hm1 := run_make_room (P := Tryd.prog) 23 40 _ _ Tryd.underlying23 info_rows rfl .i64 .i64 (p + q) (by omega) (by omega)
  rw [Int.natCast_add] at hm1
  clear so b0 r0 hq hK hp hW hB
  go_enter Tryd.func29, Tryd.ntmps29
  go_wp2_with fail
  rw [HE.out, HW.out]
  refine NE.out.mono ?_
  rintro e w1 ⟨u, rfl, hf, hb⟩
  have FD := Lib.hid hf
  have B1 := Lib.hid (B0.out.trans (hb.mono B0.out.size))
  have R1 := Lib.hid (R0.out.go hb)
  obtain ⟨bf, rfl⟩ := hf.ptr
  clear hf hb
  have hb0 : Below w1.heap.size w1 (w1.alloc (.cells #[.pointer (some ⟨bf, 0, none⟩)] 69)) := (Below.refl _ _).alloc (Nat.le_refl _) _
  have c0 := (row_new' w1 #[.pointer (some ⟨bf, 0, none⟩)] 69).cell 0
  have hsz0 : (w1.alloc (.cells #[.pointer (some ⟨bf, 0, none⟩)] 69)).heap.size = w1.heap.size + 1 := World.size_alloc _ _
  have F0 := Lib.hid (FD.out.to hb0)
  have B2 := Lib.hid (B1.out.trans (hb0.mono B1.out.size))
  have R2 := Lib.hid (R1.out.go hb0)
  obtain ⟨w0, hw0⟩ : ∃ w0, w1.alloc (.cells #[.pointer (some ⟨bf, 0, none⟩)] 69) = w0 := ⟨_, rfl⟩
  rw [hw0] at hb0 c0 F0 B2 R2 hsz0
  have SZ0 := Lib.hid hsz0
  have O0 : Hid (OwnL (NsB B) (w0.alloc (.cells (madeCells #[.slice none 0 0] (p + q)) 40)) w0.heap.size 40 (.slice (some ⟨w0.heap.size, 0, none⟩) 0 (p + q)) (afT q 0)) := Lib.hid (by
    refine OwnL.of_wk ⟨_, row_new' _ _ _, by simp [madeCells], by unfold maxLen; omega, by simp [afT], fun k hk => by simp [afT] at hk⟩ (Nat.le_refl _) rfl)
  clear hsz0
  go_wp2_with fail
  clear hw0
  have C0 : Hid (w0.cell? ⟨w1.heap.size, 0, none⟩ = some (.pointer (some ⟨bf, 0, none⟩))) := Lib.hid c0
  obtain ⟨fc, hfc⟩ : ∃ fc, w1.heap.size = fc := ⟨_, rfl⟩
  rw [hfc] at C0 SZ0 ⊢
  have BN : Hid (B < w0.heap.size) := Lib.hid R2.out.lt
  have QN := Lib.hid (show ∀ W, Below w0.heap.size w0 W → W.cell? ⟨fc, 0, none⟩ = some (.pointer (some ⟨bf, 0, none⟩)) ∧ Fd W (.pointer (some ⟨bf, 0, none⟩)) q from fun W hb => ⟨cell_to C0.out hb, F0.out.to hb⟩)
  have AW := Lib.hid ((Below.refl w0.heap.size w0).alloc (Nat.le_refl _) (.cells (madeCells #[.slice none 0 0] (p + q)) 40))
  clear hb0 c0 hfc R1 B1 FD NE HW R0 B0
  go_loopw [6, 7, 8, 29] (fun v _ _ i wr => ∃ m : Nat, m ≤ q ∧ i = .int .i64 (m : Int) ∧ Hid (Below w0.heap.size w0 wr ∧ OwnL (NsB B) wr w0.heap.size 40 v (afT q (q * m)))) (fun _ _ _ i _ => q - (intOf i).toNat)
  case atStart => exact ⟨0, Nat.zero_le _, rfl, Lib.hid ⟨AW.out, by rw [Nat.mul_zero]; exact O0.out⟩⟩
  case round =>
    obtain ⟨m, hm, rfl, H⟩ := hrel
    obtain ⟨wo, rfl⟩ : ∃ wo, wo = wr := ⟨_, rfl⟩
    obtain ⟨A5, c5, rfl⟩ := slform H.out.2.sl
    rw [afT_len] at H ⊢
    by_cases hlt : m < q
    · have hkI : (m : Int) < (q : Int) := by omega
      have HB := Lib.hid H.out.1
      have HO := Lib.hid H.out.2
      have hbx : Below wo.heap.size wo (wo.alloc (.cells #[.int .i64 (m : Int)] 3)) := (Below.refl _ _).alloc (Nat.le_refl _) _
      have CM := Lib.hid (show (wo.alloc (.cells #[.int .i64 (m : Int)] 3)).cell? ⟨wo.heap.size, 0, none⟩ = some (.int .i64 (m : Int)) from (row_new' wo #[.int .i64 (m : Int)] 3).cell 0)
      have HB2 := Lib.hid (HB.out.trans (hbx.mono HB.out.size))
      have HO2 := Lib.hid (HO.out.gto hbx)
      have NBM := Lib.hid (show ∀ k, (Value.slice A5 (q * m) c5).ownBlock = some k → k ≠ wo.heap.size from fun k e => by have := (HO.out.own k e).2; omega)
      have LBM := Lib.hid (show wo.heap.size < (wo.alloc (.cells #[.int .i64 (m : Int)] 3)).heap.size from by rw [World.size_alloc]; omega)
      have S0 : Hid (q * m + 0 = q * m) := Lib.hid rfl
      obtain ⟨t, ht⟩ : ∃ t, q * m = t := ⟨_, rfl⟩
      rw [ht] at HO2 NBM S0 ⊢
      have TM := Lib.hid ht
      clear hbx H HB HO ht
      go_wp2_with fail
      obtain ⟨bm, hbm⟩ : ∃ bm, wo.heap.size = bm := ⟨_, rfl⟩
      rw [hbm] at CM NBM ⊢
      obtain ⟨wa, hwa⟩ : ∃ wa, wo.alloc (.cells #[.int .i64 (m : Int)] 3) = wa := ⟨_, rfl⟩
      rw [hwa] at CM HB2 HO2 ⊢
      have t49 : t ≤ 49 := by rw [← TM.out]; exact Nat.mul_le_mul q7 (by omega : m ≤ 7)
      clear hbm hwa LBM
      go_loopw [6, 8, 33] (fun v _ i wr => ∃ b : Nat, b ≤ q ∧ i = .int .i64 (b : Int) ∧ Hid (Below w0.heap.size w0 wr ∧ OwnL (NsB B) wr w0.heap.size 40 v (afT q (t + b)) ∧ wr.cell? ⟨bm, 0, none⟩ = some (.int .i64 (m : Int)) ∧ ∀ k, v.ownBlock = some k → k ≠ bm)) (fun _ _ i _ => q - (intOf i).toNat)
      case atStart => exact ⟨0, Nat.zero_le _, rfl, Lib.hid ⟨HB2.out, HO2.out, CM.out, NBM.out⟩⟩
      case round =>
        obtain ⟨b, hb, rfl, I⟩ := hrel
        obtain ⟨A6, c6, rfl⟩ := slform I.out.2.1.sl
        rw [afT_len] at I ⊢
        by_cases hltb : b < q
        · have hbI : (b : Int) < (q : Int) := by omega
          have hby : Below wr.heap.size wr (wr.alloc (.cells #[.int .i64 (b : Int)] 3)) := (Below.refl _ _).alloc (Nat.le_refl _) _
          have CB := Lib.hid (show (wr.alloc (.cells #[.int .i64 (b : Int)] 3)).cell? ⟨wr.heap.size, 0, none⟩ = some (.int .i64 (b : Int)) from (row_new' wr #[.int .i64 (b : Int)] 3).cell 0)
          have J1 := Lib.hid (I.out.1.trans (hby.mono I.out.1.size))
          have J2 := Lib.hid (I.out.2.1.gto hby)
          have J3 := Lib.hid (cell_to I.out.2.2.1 hby)
          have NB := Lib.hid I.out.2.2.2
          have QS' := Lib.hid (szs_ok QS.out).1
          have AL0 := affline_any q (fun i => i) (fun i => Sf.addF q (Sf.mulF q m i) b) (.func (.func 41) #[] #[.pointer (some ⟨fc, 0, none⟩), .pointer (some ⟨bm, 0, none⟩), .pointer (some ⟨wr.heap.size, 0, none⟩)]) (wr.alloc (.cells #[.int .i64 (b : Int)] 3)) (by omega)
            ⟨_, _, rfl, enters_of Tryd.func41 (by kernel_rfl) rfl, fun w' hb' i hi => aff1_any q m b i fc bm wr.heap.size _ w' QS.out (QN.out w' (J1.out.trans (hb'.mono J1.out.size))).1 (QN.out w' (J1.out.trans (hb'.mono J1.out.size))).2 (cell_to J3.out hb') (cell_to CB.out hb') hlt hltb hi⟩
            (fun i hi => ⟨hi, Sf.add_lt QS'.out (Sf.mul_lt QS'.out hlt hi) hltb⟩)
          rw [aff_1 hlt hltb, TM.out] at AL0
          have AL := Lib.hid AL0
          have SUC := Lib.hid (afT_succ q (t + b))
          have BU : Hid (B < (wr.alloc (.cells #[.int .i64 (b : Int)] 3)).heap.size) := Lib.hid (Nat.lt_of_lt_of_le BN.out J1.out.size)
          have OV := Lib.hid fun k e => (J2.out.own k e).2
          obtain ⟨l, hl⟩ : ∃ l, aff q (t + b) = l := ⟨_, rfl⟩
          rw [hl] at AL SUC
          clear AL0 hl hby I QS' CB
          go_wp2_with fail
          refine AL.out.mono ?_
          rintro e x2 ⟨u, rfl, hu, hb2⟩
          obtain ⟨Au, cu, rfl⟩ := slform hu.sl
          obtain ⟨n, hn⟩ : ∃ n, l.length = n := ⟨_, rfl⟩
          rw [hn] at hu ⊢
          have hb3 : Below x2.heap.size x2 (x2.alloc (.cells #[.slice Au n cu] 40)) := (Below.refl _ _).alloc (Nat.le_refl _) _
          have CU := Lib.hid (show (x2.alloc (.cells #[.slice Au n cu] 40)).cell? ⟨x2.heap.size, 0, none⟩ = some (.slice Au n cu) from (row_new' x2 #[.slice Au n cu] 40).cell 0)
          have hb4 := hb2.trans (hb3.mono hb2.size)
          have K1 := Lib.hid (J1.out.trans (hb4.mono J1.out.size))
          have K2 := Lib.hid (J2.out.gto hb4)
          have K3 := Lib.hid (cell_to J3.out hb4)
          have HU := Lib.hid (hu.gto hb3)
          clear hn hu hb2 hb3 hb4 J1 J2 J3 AL
          go_wp2_with (first | (at_builtin; refine wpList_push_r (B := B) rfl (.tmp 36) (.tmp 40) rfl w0.heap.size (.slice A6 (t + b) c6) (afT q (t + b)) (t + b) x2.heap.size (.slice Au n cu) l _ _ rfl K2.out (afT_len _ _) rfl CU.out HU.out BU.out OV.out (by omega) K1.out.size ?_; intro gs cq x4 ho hg hat; have ZB := Lib.hid (K1.out.grown hg K1.out.size (fun k e => (K2.out.own k e).1)); have ZO := Lib.hid ho; have ZC := Lib.hid ((World.cell?_of_block (hg.block bm (World.block_lt_of_cell? _ _ K3.out) (fun e => NB.out _ e.symm rfl))).trans K3.out); have ZN : Hid (∀ k, (Value.slice (some ⟨gs, 0, none⟩) (t + b + 1) cq).ownBlock = some k → k ≠ bm) := Lib.hid (own_ne hat NB.out (World.block_lt_of_cell? _ _ K3.out)); clear ho hg hat))
          go_roundw
          case rel => exact ⟨b + 1, by omega, by go_num, Lib.hid ⟨ZB.out, by rw [← Nat.add_assoc, SUC.out]; exact ZO.out, ZC.out, ZN.out⟩⟩
          case measure => simp [intOf]; omega
        · have eb : b = q := by omega
          have bI : ¬ (b : Int) < (q : Int) := by omega
          have ZB := Lib.hid I.out.1
          have ZO : Hid (OwnL (NsB B) wr w0.heap.size 40 (.slice A6 (t + b) c6) (afT q (q * (m + 1)))) := Lib.hid (by rw [show afT q (q * (m + 1)) = afT q (t + b) by rw [Nat.mul_succ, TM.out, eb]]; exact I.out.2.1)
          clear eb I
          go_wp2_with fail
          go_roundw
          case rel => exact ⟨m + 1, by omega, by go_num, Lib.hid ⟨ZB.out, ZO.out⟩⟩
          case measure => simp [intOf]; omega
    · have em : m = q := by omega
      have mI : ¬ (m : Int) < (q : Int) := by omega
      rw [em, HP.out] at H ⊢
      rw [em] at mI
      have HB2 := Lib.hid H.out.1
      have HO2 := Lib.hid H.out.2
      clear H em
      go_wp2_with fail
      go_loopw [6, 9, 45] (fun v _ i wr => ∃ b : Nat, b ≤ q ∧ i = .int .i64 (b : Int) ∧ Hid (Below w0.heap.size w0 wr ∧ OwnL (NsB B) wr w0.heap.size 40 v (afT q (p + b)))) (fun _ _ i _ => q - (intOf i).toNat)
      case atStart => exact ⟨0, Nat.zero_le _, rfl, Lib.hid ⟨HB2.out, HO2.out⟩⟩
      case round =>
        obtain ⟨b, hb, rfl, I⟩ := hrel
        obtain ⟨A6, c6, rfl⟩ := slform I.out.2.sl
        rw [afT_len] at I ⊢
        by_cases hltb : b < q
        · have hbI : (b : Int) < (q : Int) := by omega
          have hby : Below wr.heap.size wr (wr.alloc (.cells #[.int .i64 (b : Int)] 3)) := (Below.refl _ _).alloc (Nat.le_refl _) _
          have CB := Lib.hid (show (wr.alloc (.cells #[.int .i64 (b : Int)] 3)).cell? ⟨wr.heap.size, 0, none⟩ = some (.int .i64 (b : Int)) from (row_new' wr #[.int .i64 (b : Int)] 3).cell 0)
          have J1 := Lib.hid (I.out.1.trans (hby.mono I.out.1.size))
          have J2 := Lib.hid (I.out.2.gto hby)
          have AL0 := affline_any q (fun _ => b) (fun i => i) (.func (.func 44) #[] #[.pointer (some ⟨wr.heap.size, 0, none⟩)]) (wr.alloc (.cells #[.int .i64 (b : Int)] 3)) (by omega)
            ⟨_, _, rfl, enters_of Tryd.func44 (by kernel_rfl) rfl, fun w' hb' i hi => aff2_any b i wr.heap.size w' (cell_to CB.out hb')⟩
            (fun i hi => ⟨hltb, hi⟩)
          rw [aff_2, HP.out] at AL0
          have AL := Lib.hid AL0
          have SUC := Lib.hid (afT_succ q (p + b))
          have BU : Hid (B < (wr.alloc (.cells #[.int .i64 (b : Int)] 3)).heap.size) := Lib.hid (Nat.lt_of_lt_of_le BN.out J1.out.size)
          have OV := Lib.hid fun k e => (J2.out.own k e).2
          obtain ⟨l, hl⟩ : ∃ l, aff q (p + b) = l := ⟨_, rfl⟩
          rw [hl] at AL SUC
          clear AL0 hl hby I CB
          go_wp2_with fail
          refine AL.out.mono ?_
          rintro e x2 ⟨u, rfl, hu, hb2⟩
          obtain ⟨Au, cu, rfl⟩ := slform hu.sl
          obtain ⟨n, hn⟩ : ∃ n, l.length = n := ⟨_, rfl⟩
          rw [hn] at hu ⊢
          have hb3 : Below x2.heap.size x2 (x2.alloc (.cells #[.slice Au n cu] 40)) := (Below.refl _ _).alloc (Nat.le_refl _) _
          have CU := Lib.hid (show (x2.alloc (.cells #[.slice Au n cu] 40)).cell? ⟨x2.heap.size, 0, none⟩ = some (.slice Au n cu) from (row_new' x2 #[.slice Au n cu] 40).cell 0)
          have hb4 := hb2.trans (hb3.mono hb2.size)
          have K1 := Lib.hid (J1.out.trans (hb4.mono J1.out.size))
          have K2 := Lib.hid (J2.out.gto hb4)
          have HU := Lib.hid (hu.gto hb3)
          clear hn hu hb2 hb3 hb4 J1 J2 AL
          go_wp2_with (first | (at_builtin; refine wpList_push_r (B := B) rfl (.tmp 48) (.tmp 52) rfl w0.heap.size (.slice A6 (p + b) c6) (afT q (p + b)) (p + b) x2.heap.size (.slice Au n cu) l _ _ rfl K2.out (afT_len _ _) rfl CU.out HU.out BU.out OV.out (by omega) K1.out.size ?_; intro gs cq x4 ho hg hat; have ZB := Lib.hid (K1.out.grown hg K1.out.size (fun k e => (K2.out.own k e).1)); have ZO := Lib.hid ho; clear ho hg hat))
          go_roundw
          case rel => exact ⟨b + 1, by omega, by go_num, Lib.hid ⟨ZB.out, by rw [← Nat.add_assoc, SUC.out]; exact ZO.out⟩⟩
          case measure => simp [intOf]; omega
        · obtain rfl : b = q := by omega
          have bI : ¬ (b : Int) < (b : Int) := by omega
          obtain ⟨g9, rfl, hg9⟩ : ∃ g9, A6 = some ⟨g9, 0, none⟩ ∧ w0.heap.size ≤ g9 := by
            obtain ⟨g9, cap, e, hb9, _⟩ := I.out.2.wk (by rw [afT_len]; omega)
            injection e with e _ _
            exact ⟨g9, e, hb9⟩
          have GS := Lib.hid I.out.2.sl
          have R9 := Lib.hid (R2.out.go I.out.1)
          have c0 := R9.out.cell 0
          have c1 := R9.out.cell 1
          have f0 := R9.out.frozen 0
          have f1 := R9.out.frozen 1
          have R8 := Lib.hid ((R9.out.store 0 (.int .i64 (p : Int))).store 1 (.slice (some ⟨g9, 0, none⟩) (p + b) c6))
          have HB8 := Lib.hid (B2.out.trans (I.out.1.mono B2.out.size))
          have HB9 := Lib.hid ((HB8.out.setCell (p := ⟨B, 0, none⟩) (Nat.le_of_eq HE.out) (.int .i64 (p : Int))).setCell (p := ⟨B, 1, none⟩) (Nat.le_of_eq HE.out) (.slice (some ⟨g9, 0, none⟩) (p + b) c6))
          have SO := Lib.hid (((SameOff.refl B wr).trans (setCell_off wr B 0 (.int .i64 (p : Int)))).trans (setCell_off _ B 1 (.slice (some ⟨g9, 0, none⟩) (p + b) c6)))
          have NB9 : Hid (B < g9) := Lib.hid (by have := BN.out; omega)
          clear I
          go_wp2_with fail
          refine bodyPost_ret (results_cell_tmp (g := B) (t := 25) (fr := (0, 0)) rfl _ _ _ _ rfl R8.out Tryd.underlying25 rfl (by kernel_rfl)) rfl ?_
          rw [HP.out]
          exact ⟨_, rfl, by rw [HE.out]; exact NsB.fx GS.out SO.out NB9.out, HB9.out⟩

set_option maxHeartbeats 4000000 in
set_option maxRecDepth 100000 in
theorem affine_arg (q : Int) (w : World) (hK : Kd w) (hq : ∀ k, k < 7 → (kS k : Int) ≠ q) : Calls Tryd.prog 29 #[.int .i64 q] w (bel (.tuple #[dv 0 (.slice none 0 0), .int .i64 1]) w) := by
  obtain ⟨B, hB⟩ : ∃ B, w.heap.size = B := ⟨_, rfl⟩
  obtain ⟨W, hW⟩ : ∃ W, w.alloc (.cells #[.int .i64 0, .slice none 0 0] 25) = W := ⟨_, rfl⟩
  have b0 : Below w.heap.size w W := by rw [← hW]; exact (Below.refl _ _).alloc (Nat.le_refl _) _
  have r0 : Row W B 25 #[.int .i64 0, .slice none 0 0] := by rw [← hW, ← hB]; exact row_new' _ _ _
  have NE := Lib.hid (fun p => lf_arg q p W (hK.below b0) hq)
  have B0 := Lib.hid b0
  have R0 := Lib.hid r0
  have HW := Lib.hid hW
  have HE := Lib.hid hB
  clear hq hK b0 r0 hW hB
  go_enter Tryd.func29, Tryd.ntmps29
  go_wp2_with fail
  rw [HE.out, HW.out]
  refine (NE.out _).mono ?_
  rintro e w1 ⟨rfl, hb⟩
  have hbx : Below w1.heap.size w1 (w1.alloc (.cells #[.pointer none] 69)) := (Below.refl _ _).alloc (Nat.le_refl _) _
  have hbb := hb.trans (hbx.mono hb.size)
  have HB := Lib.hid (B0.out.trans (hbb.mono B0.out.size))
  have R1 := Lib.hid (R0.out.go hbb)
  have c0 := R1.out.cell 0
  have c1 := R1.out.cell 1
  have f0 := R1.out.frozen 0
  have f1 := R1.out.frozen 1
  have R2 := Lib.hid ((R1.out.store 0 (.int .i64 0)).store 1 (.slice none 0 0))
  have HB2 := Lib.hid ((HB.out.setCell (p := ⟨B, 0, none⟩) (Nat.le_of_eq HE.out) (.int .i64 0)).setCell (p := ⟨B, 1, none⟩) (Nat.le_of_eq HE.out) (.slice none 0 0))
  clear hb hbx hbb
  go_wp2_with fail
  refine bodyPost_ret (results_cell_tmp (g := B) (t := 25) (fr := (0, 0)) rfl _ _ _ _ rfl R2.out Tryd.underlying25 rfl (by kernel_rfl)) rfl ?_
  exact ⟨rfl, HB2.out⟩
set_option maxHeartbeats 4000000 in
set_option maxRecDepth 100000 in
theorem affine_limit (q : Nat) (w : World) (hK : Kd w) (hq : q ∈ Sf.sizes) (h8 : q ∉ szs) : Calls Tryd.prog 29 #[.int .i64 (q : Int)] w (bel (.tuple #[dv 0 (.slice none 0 0), .int .i64 7]) w) := by
  obtain ⟨p, hp⟩ : ∃ p : Nat, q * q = p := ⟨_, rfl⟩
  have e8 := kS_big q hq h8
  have p60 : 60 < p ∧ p ≤ 81 ∧ q ≤ 9 := by rcases e8 with rfl | rfl <;> omega
  have ep : (q : Int) * (q : Int) = (p : Int) := by rw [← hp]; rfl
  obtain ⟨B, hB⟩ : ∃ B, w.heap.size = B := ⟨_, rfl⟩
  obtain ⟨W, hW⟩ : ∃ W, w.alloc (.cells #[.int .i64 0, .slice none 0 0] 25) = W := ⟨_, rfl⟩
  have b0 : Below w.heap.size w W := by rw [← hW]; exact (Below.refl _ _).alloc (Nat.le_refl _) _
  have r0 : Row W B 25 #[.int .i64 0, .slice none 0 0] := by rw [← hW, ← hB]; exact row_new' _ _ _
  have NE := Lib.hid (fun (_ : Unit) => lf_limit q (p : Int) W (hK.below b0) hq (by omega))
  have B0 := Lib.hid b0
  have R0 := Lib.hid r0
  have HW := Lib.hid hW
  have HE := Lib.hid hB
  clear hq hK b0 r0 hW hB h8 hp e8
  go_enter Tryd.func29, Tryd.ntmps29
  go_wp2_with fail
  rw [HE.out, HW.out]
  refine (NE.out ()).mono ?_
  rintro e w1 ⟨rfl, hb⟩
  have hbx : Below w1.heap.size w1 (w1.alloc (.cells #[.pointer none] 69)) := (Below.refl _ _).alloc (Nat.le_refl _) _
  have hbb := hb.trans (hbx.mono hb.size)
  have HB := Lib.hid (B0.out.trans (hbb.mono B0.out.size))
  have R1 := Lib.hid (R0.out.go hbb)
  have c0 := R1.out.cell 0
  have c1 := R1.out.cell 1
  have f0 := R1.out.frozen 0
  have f1 := R1.out.frozen 1
  have R2 := Lib.hid ((R1.out.store 0 (.int .i64 0)).store 1 (.slice none 0 0))
  have HB2 := Lib.hid ((HB.out.setCell (p := ⟨B, 0, none⟩) (Nat.le_of_eq HE.out) (.int .i64 0)).setCell (p := ⟨B, 1, none⟩) (Nat.le_of_eq HE.out) (.slice none 0 0))
  clear hb hbx hbb
  go_wp2_with fail
  refine bodyPost_ret (results_cell_tmp (g := B) (t := 25) (fr := (0, 0)) rfl _ _ _ _ rfl R2.out Tryd.underlying25 rfl (by kernel_rfl)) rfl ?_
  exact ⟨rfl, HB2.out⟩
theorem affine_ok (q : Nat) (w : World) (hK : Kd w) (hq : q ∈ szs) : Calls Tryd.prog 29 #[.int .i64 (q : Int)] w (dsPost (q * q) ((List.range (q * q + q)).map (aff q)) w) :=
  (affine_fx q w hK hq).mono fun e w' ⟨v, he, hf, hb⟩ => ⟨v, he, hf.gs, hb⟩
end Go.Proofs.YtnnacofjogfkeaaDoor
