/- The walk of the law DecodeLocates. WRITTEN BY gen_Vfs.py. -/
import Derived.Test.YtheijobnmdbodaaVe
namespace Go.Proofs.Ytheijobnmdbodaa
open Go Go.RowKit Lin
set_option linter.unusedVariables false
set_option linter.unusedSimpArgs false

/-- A load behind a guard that says yes. -/
theorem wpList_load8w {P : Program} {ops : Array Oper} {rest : List Oper} {op : Oper} {a : Act} {w : World} {Q : Exit → Act → World → Prop} (hw : Region.wanted op (yielded ops a.tmps) = true) (ty : TypeId) (x : Operand) (ho : op.op = .load ty x)
    (b o : Nat) (hx : a.eval x = .pointer (some ⟨b, o, none⟩)) (l : List Nat) (d : TypeDesc) (hc : At8 w b o l)
    (hu : P.underlying ty = some d) (hd : d.isRow = true) (hi : (P.info? ty).map (·.size) = some (bcs l).size)
    (h : wpList P ops Q rest (a.put op.dst (.agg (bcs l))) w) : wpList P ops Q (op :: rest) a w :=
  wpList_step fun K hK => by rw [if_pos hw]; exact wp_load8 ty x ho b o hx l d hc hu hd hi (hK _ _ h)
theorem Row.there8 {w : World} {g : Nat} {t : TypeId} {cs : Array Value} (h : Row w g t cs) (hs : cs.size = 8) : w.there g 0 8 := fun j hj => by
  exact ⟨by rw [h.cell, Array.getElem?_eq_getElem (by omega)]; rfl, by rw [h.frozen]⟩
/-- A new block of zeros. -/
theorem wp_alloc8 {o : Oper} {a : Act} {w : World} {K : Act → World → Prop} {Q : Exit → Act → World → Prop} (ho : o.op = .alloc 33)
    (hk : K (a.put o.dst (.pointer (some ⟨w.heap.size, 0, none⟩))) (w.alloc (.cells (bcs zeroB.1) 33))) : o.wp Try.prog a w K Q := by
  have hr : (execOp a.eval o).run Try.prog w = .ok (.value (.pointer (some ⟨w.heap.size, 0, none⟩))) (w.alloc (.cells (bcs zeroB.1) 33)) := by
    simp only [execOp, ho]
    kernel_rfl
  unfold Oper.wp
  rw [hr]
  exact hk
/-- One changed piece. -/
def chg (G : List (List Nat)) (a : Nat) (x : List Nat) : List (List Nat) := G.set a (xorB (G.getD a []) x)
theorem chg_ok {G : List (List Nat)} (hG : ∀ d ∈ G, B8 d) {a : Nat} (ha : a < G.length) {x : List Nat} (hx : B8 x) : ∀ d ∈ chg G a x, B8 d := set_ok hG (xorB_ok (by rw [getD_in ha]; exact hG _ (List.getElem_mem ha)) hx) a
theorem chg_at {G : List (List Nat)} {a : Nat} (ha : a < G.length) (x : List Nat) {k : Nat} (hk : k < 8) : el (chg G a x) a k = el G a k ^^^ x.getD k 0 := by
  rw [chg, el_set _ ha, if_pos rfl, xorB, blk_at _ hk]; rfl
theorem chg_off {G : List (List Nat)} {a i : Nat} (ha : a < G.length) (x : List Nat) (hi : i ≠ a) (k : Nat) : el (chg G a x) i k = el G i k := by rw [chg, el_set _ ha, if_neg hi]
theorem nz_at {x : List Nat} (hx : B8 x) (h0 : x ≠ zeroB.1) : ∃ k, k < 8 ∧ x.getD k 0 ≠ 0 := by
  apply Classical.byContradiction
  intro hn
  refine h0 (hx.ext zeroB.2 fun k hk => ?_)
  rw [show zeroB.1.getD k 0 = 0 from blk_at (fun _ => 0) hk]
  exact Classical.byContradiction fun h => hn ⟨k, hk, h⟩
theorem xor_self0 {a b : Nat} (h : a ^^^ b = a) : b = 0 := by
  have := congrArg (a ^^^ ·) h
  simp only [← Nat.xor_assoc, Nat.xor_self, Nat.zero_xor] at this
  exact this
theorem loc_group {G : List (List Nat)} (hc : chk G = true) {k e : Nat} (h : locR G k e) : k = 0 ∧ e = 9 := by
  rcases h with ⟨-, h1, h2⟩ | ⟨h, -⟩ | ⟨h, -⟩
  · exact ⟨h1, h2⟩
  · rw [hc] at h; cases h
  · rw [hc] at h; cases h
theorem one_not {G : List (List Nat)} (hG : ∀ d ∈ G, B8 d) (hc : chk G = true) {a : Nat} (ha : a < G.length) {x : List Nat} (hx : B8 x) (h0 : x ≠ zeroB.1) : chk (chg G a x) = false := Bool.eq_false_iff.2 fun e => by
  have := chk_three hG (chg_ok hG ha hx) (by simp [chg]) hc e ha ha ha fun i hi h1 _ _ k _ => chg_off ha x h1 k
  obtain ⟨k, hk, hne⟩ := nz_at hx h0
  have h2 := chg_at ha x hk
  rw [this] at h2
  exact hne (xor_self0 h2.symm)
theorem loc_one {G : List (List Nat)} (hG : ∀ d ∈ G, B8 d) (hc : chk G = true) {a : Nat} (ha : a < G.length) {x : List Nat} (hx : B8 x) (h0 : x ≠ zeroB.1) {k e : Nat} (h : locR (chg G a x) k e) : k = a ∧ e = 0 := by
  have hn := one_not hG hc ha hx h0
  have h8 : B8 (G.getD a []) := by rw [getD_in ha]; exact hG _ (List.getElem_mem ha)
  have hf : chk ((chg G a x).set a (G.getD a [])) = true := by
    have : (chg G a x).set a (G.getD a []) = G := by
      refine list_ext [] (by simp [chg]) fun i hi => ?_
      have hi : i < G.length := by simpa [chg] using hi
      rw [getD_set]
      by_cases e : a = i
      · subst e; rw [if_pos ⟨rfl, by simpa [chg] using ha⟩]
      · rw [if_neg fun h => e h.1, chg, getD_set, if_neg fun h => e h.1]
    rw [this]; exact hc
  have hl : (chg G a x).length = G.length := by simp [chg]
  rcases h with ⟨h, -⟩ | ⟨-, h1, h2, b, hb, h3⟩ | ⟨-, -, -, h3⟩
  · rw [hn] at h; cases h
  · exact ⟨fix_one (chg_ok hG ha hx) hn h2 (by rw [hl]; exact ha) hb h8 h3 hf, h1⟩
  · have := h3 a (by rw [hl]; exact ha) _ h8
    rw [hf] at this; cases this
theorem loc_two {G : List (List Nat)} (hG : ∀ d ∈ G, B8 d) (hc : chk G = true) {a b : Nat} (ha : a < G.length) (hb : b < G.length) (hab : a ≠ b) {x y : List Nat} (hx : B8 x) (hy : B8 y) (h0 : x ≠ zeroB.1) (h1 : y ≠ zeroB.1) {k e : Nat} (h : locR (chg (chg G a x) b y) k e) : k = 0 ∧ e = 12 := by
  have hG1 := chg_ok hG ha hx
  have hl1 : (chg G a x).length = G.length := by simp [chg]
  have hb1 : b < (chg G a x).length := by rw [hl1]; exact hb
  have hG2 := chg_ok hG1 hb1 hy
  have hl2 : (chg (chg G a x) b y).length = G.length := by simp [chg]
  have ea : ∀ k, k < 8 → el (chg (chg G a x) b y) a k = el G a k ^^^ x.getD k 0 := fun k hk => by rw [chg_off hb1 y hab, chg_at ha x hk]
  have eb : ∀ k, k < 8 → el (chg (chg G a x) b y) b k = el G b k ^^^ y.getD k 0 := fun k hk => by rw [chg_at hb1 y hk, chg_off ha x (fun e => hab e.symm)]
  have eo : ∀ i, i ≠ a → i ≠ b → ∀ k, el (chg (chg G a x) b y) i k = el G i k := fun i h1 h2 k => by rw [chg_off hb1 y h2, chg_off ha x h1]
  obtain ⟨p, hp, np⟩ := nz_at hx h0
  obtain ⟨q, hq, nq⟩ := nz_at hy h1
  rcases h with ⟨h, -⟩ | ⟨-, h1, h2, c, hcb, h3⟩ | ⟨-, h1, h2, -⟩
  · have := chk_three hG hG2 hl2 hc h ha hb hb fun i hi h1 h2 _ k _ => eo i h1 h2 k
    have h2 := ea p hp
    rw [this] at h2
    exact absurd (xor_self0 h2.symm) np
  · have hk : k < G.length := by rw [← hl2]; exact h2
    have := chk_three hG (set_ok hG2 hcb k) (by rw [List.length_set, hl2]) hc h3 ha hb hk fun i hi h4 h5 h6 m _ => by rw [el_set _ h2, if_neg h6, eo i h4 h5 m]
    by_cases e : k = a
    · have h4 := eb q hq
      have h5 : el ((chg (chg G a x) b y).set k c) b q = el (chg (chg G a x) b y) b q := by rw [el_set _ h2, if_neg fun h => hab (by rw [← e, h])]
      rw [this, h4] at h5
      exact absurd (xor_self0 h5.symm) nq
    · have h4 := ea p hp
      have h5 : el ((chg (chg G a x) b y).set k c) a p = el (chg (chg G a x) b y) a p := by rw [el_set _ h2, if_neg fun h => e h.symm]
      rw [this, h4] at h5
      exact absurd (xor_self0 h5.symm) np
  · exact ⟨h2, h1⟩

set_option maxHeartbeats 4000000 in
set_option maxRecDepth 100000 in
theorem locw_x0 (D : List (List Nat)) (a : Nat) (K : List Nat) (C : List (List Nat)) (w : World) (h : D.length = 13) (hD : ∀ d ∈ D, B8 d) (ha : a < 256) (hK : K.length = 3) (hKb : ∀ x ∈ K, x < 256) (hC : C.length = 3) (hC8 : ∀ d ∈ C, B8 d) (hs : C.getD 0 [] = zeroB.1) : Calls Try.prog 9 #[.agg (bcs D.flatten), .int .u8 (a : Int), .agg (bcs (lostL K C))] w (lawPost w) := by
  obtain ⟨m, hm⟩ : ∃ m, m = 1 + a % 13 := ⟨_, rfl⟩
  obtain ⟨N, hN⟩ : ∃ N, N = m + 3 := ⟨_, rfl⟩
  have hm1 : 1 ≤ m := by omega
  have hm13 : m ≤ 13 := by omega
  have LG := Lib.hid fun w => lgroup_N D a m N w h hD ha hm hN
  have R0 := Lib.hid (row_new w (bcs D.flatten) 38)
  have S13 := Lib.hid (size13 h hD)
  have GL : Hid ((grpG D m).length = N) := Lib.hid (by rw [grpG_len (by omega), hN])
  have G8 := Lib.hid (grpG_ok hD m)
  have NM := Lib.hid hN
  have CG : Hid (chk (grpG D m) = true) := Lib.hid (chk_group (by rw [List.length_take]; omega) (by rw [List.length_take]; omega))
  have hN4 : 4 ≤ N := by omega
  have hN16 : N ≤ 16 := by omega
  have HNI : (N : Int) ≤ 16 := by omega
  have LA := Lib.hid fun w b (hh : At8 w b 0 (lostL K C)) => lost_which hh
  have LC := Lib.hid fun w b (hh : At8 w b 0 (lostL K C)) i (hi : i < C.length) => lost_at hh hK hC8 hi
  have CL := Lib.hid hC
  obtain ⟨k0, hk0⟩ : ∃ k, K.getD 0 0 = k := ⟨_, rfl⟩
  obtain ⟨k1, hk1⟩ : ∃ k, K.getD 1 0 = k := ⟨_, rfl⟩
  obtain ⟨x, hx⟩ : ∃ x, C.getD 0 [] = x := ⟨_, rfl⟩
  obtain ⟨y, hy⟩ : ∃ y, C.getD 1 [] = y := ⟨_, rfl⟩
  have x8 : B8 x := by rw [← hx, getD_in (by rw [hC]; decide)]; exact hC8 _ (List.getElem_mem _)
  have y8 : B8 y := by rw [← hy, getD_in (by rw [hC]; decide)]; exact hC8 _ (List.getElem_mem _)
  have hkb0 : k0 < 256 := by rw [← hk0]; exact getD_bytes hKb 0
  have hkb1 : k1 < 256 := by rw [← hk1]; exact getD_bytes hKb 1
  have KK0 := Lib.hid hk0
  have KK1 := Lib.hid hk1
  have XX := Lib.hid hx
  have YY := Lib.hid hy
  have KL := Lib.hid hK
  obtain ⟨pa, hpa⟩ : ∃ p, k0 % N = p := ⟨_, rfl⟩
  obtain ⟨pb, hpb⟩ : ∃ p, k1 % N = p := ⟨_, rfl⟩
  rw [hx] at hs
  have hpaN : pa < N := by rw [← hpa]; exact Nat.mod_lt _ (by omega)
  have hpbN : pb < N := by rw [← hpb]; exact Nat.mod_lt _ (by omega)
  have ea : (k0 : Int).tmod (N : Int) = (pa : Int) := by rw [← hpa]; rfl
  have eb : (k1 : Int).tmod (N : Int) = (pb : Int) := by rw [← hpb]; rfl
  have wk0 : IntKind.i64.wrap (k0 : Int) = (k0 : Int) := by rw [IntKind.wrap_i64]; omega
  have wk1 : IntKind.i64.wrap (k1 : Int) = (k1 : Int) := by rw [IntKind.wrap_i64]; omega
  have hN0 : ¬ (N = 0) := by omega
  have hpaI : (pa : Int) < (N : Int) := by omega
  have hpbI : (pb : Int) < (N : Int) := by omega
  have hNz : ((N : Int) == 0) = false := by simp; omega
  have hNz2 : ¬ ((N : Int) = 0) := by omega
  obtain ⟨G, hG⟩ : ∃ G, grpG D m = G := ⟨_, rfl⟩
  rw [hG] at LG GL G8 CG
  have LOC := Lib.hid fun w v (h : Bl w v G) => loc_any v G w h (by rw [GL.out]; exact hN4) (by rw [GL.out]; exact hN16)
  have LG0 := Lib.hid fun k e (h : locR G k e) => loc_group CG.out h
  have ZZ : Hid ((#[.int .u8 0, .int .u8 0, .int .u8 0, .int .u8 0, .int .u8 0, .int .u8 0, .int .u8 0, .int .u8 0] : Array Value) = bcs zeroB.1) := Lib.hid rfl
  have EX : ∀ w', (binOp .eql 33 (.agg (bcs x)) (.agg #[.int .u8 0, .int .u8 0, .int .u8 0, .int .u8 0, .int .u8 0, .int .u8 0, .int .u8 0, .int .u8 0])).run Try.prog w' = .ok (.bool (decide (x = zeroB.1))) w' := fun q => by rw [ZZ.out]; exact eql8 x zeroB.1 x8 zeroB.2 q
  have EY : ∀ w', (binOp .eql 33 (.agg (bcs y)) (.agg #[.int .u8 0, .int .u8 0, .int .u8 0, .int .u8 0, .int .u8 0, .int .u8 0, .int .u8 0, .int .u8 0])).run Try.prog w' = .ok (.bool (decide (y = zeroB.1))) w' := fun q => by rw [ZZ.out]; exact eql8 y zeroB.1 y8 zeroB.2 q
  simp only [decide_eq_true hs] at EX
  clear EY
  clear h hD hK hKb hC hC8 hm hN hG hk0 hk1 hx hy hpa hpb hs
  obtain ⟨c0, hc0⟩ : ∃ c, bcs D.flatten = c := ⟨_, rfl⟩
  obtain ⟨c1, hc1⟩ : ∃ c, bcs (lostL K C) = c := ⟨_, rfl⟩
  have C0 := Lib.hid hc0
  have C1 := Lib.hid hc1
  rw [hc0] at R0 S13 LG ⊢
  rw [hc1]
  clear hc0 hc1
  go_enter Try.func9, Try.ntmps9
  go_wp2_with fail
  obtain ⟨W0, hW0⟩ : ∃ W0, (w.alloc (.cells c0 38)).alloc (.cells c1 51) = W0 := ⟨_, rfl⟩
  have HB0 : Hid (Below w.heap.size w W0) := Lib.hid (by rw [← hW0]; exact ((Below.refl w.heap.size w).alloc (Nat.le_refl _) _).alloc (by simp) _)
  have HX0 : Hid (Row W0 w.heap.size 38 c0) := Lib.hid (by rw [← hW0]; exact R0.out.alloc _)
  have HY0 : Hid (Row W0 (w.heap.size + 1) 51 (bcs (lostL K C))) := Lib.hid (by rw [← hW0, C1.out]; exact row_at (by simp) _ _)
  rw [hW0]
  clear hW0 R0
  refine (dawake_any _).mono ?_
  rintro e ux2 ⟨rfl, uhb1⟩
  have uhq3 : Below W0.heap.size W0 ux2 := uhb1
  have uX_4 := Lib.hid (Row.to HX0.out uhq3)
  have uL_5 := Lib.hid (Row.to HY0.out uhq3)
  have uHB_6 : Hid (Below w.heap.size w ux2) := Lib.hid (HB0.out.trans (uhq3.mono HB0.out.size))
  clear uhq3
  clear uhb1
  go_wp2_with (refine wpList_load_row rfl _ _ rfl _ rfl _ _ (0, 0) _ uX_4.out Try.underlying38 rfl S13.out ?_)
  obtain ⟨bx, hbx⟩ : ∃ b, w.heap.size + 1 = b := ⟨_, rfl⟩
  rw [hbx] at uL_5 ⊢
  clear hbx
  refine (LG.out _).mono ?_
  rintro e ux8 ⟨gg, cg, rfl, uhn9, hgg, uhb7⟩
  have uhq10 : Below ux2.heap.size ux2 ux8 := uhb7
  have uL_11 := Lib.hid (Row.to uL_5.out uhq10)
  have uHB_12 : Hid (Below w.heap.size w ux8) := Lib.hid (uHB_6.out.trans (uhq10.mono uHB_6.out.size))
  clear uhq10
  have uG_13 := Lib.hid uhn9
  clear uhb7 uhn9
  have HGG := Lib.hid (Nat.le_trans uHB_6.out.size hgg)
  clear hgg
  go_wp2_with fail
  refine (LOC.out _ _ uG_13.out.bl).mono ?_
  rintro e ux14 ⟨lk, le, rfl, lr, hb⟩
  obtain ⟨ek, ee⟩ := LG0.out _ _ lr
  rw [ek, ee]
  clear ek ee lr
  have uhq15 : Below ux8.heap.size ux8 ux14 := hb
  have uL_16 := Lib.hid (Row.to uL_11.out uhq15)
  have uG_17 := Lib.hid (OwnB.to uG_13.out uhq15)
  have uHB_18 : Hid (Below w.heap.size w ux14) := Lib.hid (uHB_12.out.trans (uhq15.mono uHB_12.out.size))
  clear uhq15
  clear hb
  go_wp2_with fail
  have h := (LA.out _ _ (Row.at8 uL_16.out)).cell (k := 0) (by rw [KL.out]; decide)
  rw [KK0.out] at h
  have k0c := Lib.hid h
  clear h
  have h := (LA.out _ _ (Row.at8 uL_16.out)).cell (k := 1) (by rw [KL.out]; decide)
  rw [KK1.out] at h
  have k1c := Lib.hid h
  clear h
  refine wp_region_held (P := Try.prog) (S := (fun w' : World => w'.cell? ⟨bx, 0 + 0, none⟩ = some (.int .u8 (k0 : Int)) ∧ w'.cell? ⟨bx, 0 + 1, none⟩ = some (.int .u8 (k1 : Int)))) rfl ?_
  change wpAnyH _ _ _ _ _ _ _ _ ux14.drew
  have uhz20 : Below ux14.heap.size ux14 ux14.drew := (Below.refl ux14.heap.size ux14).drew
  generalize ux14.drew = uwz19 at uhz20 ⊢
  have uhq21 : Below ux14.heap.size ux14 uwz19 := uhz20
  have uL_22 := Lib.hid (Row.to uL_16.out uhq21)
  have uG_23 := Lib.hid (OwnB.to uG_17.out uhq21)
  have uK0_24 := Lib.hid (cellTo k0c.out uhq21)
  have uK1_25 := Lib.hid (cellTo k1c.out uhq21)
  have uHB_26 : Hid (Below w.heap.size w uwz19) := Lib.hid (uHB_18.out.trans (uhq21.mono uHB_18.out.size))
  clear uhq21
  clear uhz20
  have uhS27 : (fun w' : World => w'.cell? ⟨bx, 0 + 0, none⟩ = some (.int .u8 (k0 : Int)) ∧ w'.cell? ⟨bx, 0 + 1, none⟩ = some (.int .u8 (k1 : Int))) uwz19 := ⟨uK0_24.out, uK1_25.out⟩
  refine takeD (i := 0) (v := .pointer (some ⟨bx, 0, none⟩)) (some 30) rfl rfl (by kernel_rfl) (by kernel_rfl) (by kernel_rfl) (fun _ _ _ h => h) (Or.inl ⟨by rfl, by rintro w' -; go_simp⟩) uhS27 ?_
  simp only [Act.put, List.setIfInBounds_toArray, List.set_cons_zero, List.set_cons_succ]
  refine takeD (i := 1) (v := .pointer (some ⟨bx, 0, none⟩)) (some 31) rfl rfl (by kernel_rfl) (by kernel_rfl) (by kernel_rfl) (fun _ _ _ h => h) (Or.inl ⟨by rfl, by rintro w' -; go_simp⟩) uhS27 ?_
  simp only [Act.put, List.setIfInBounds_toArray, List.set_cons_zero, List.set_cons_succ]
  refine takeD (i := 2) (v := .int .u8 (k0 : Int)) (some 32) rfl rfl (by kernel_rfl) (by kernel_rfl) (by kernel_rfl) (fun _ _ _ h => h) (Or.inl ⟨by rfl, by rintro w' h; have hc := h.1; go_simp⟩) uhS27 ?_
  simp only [Act.put, List.setIfInBounds_toArray, List.set_cons_zero, List.set_cons_succ]
  refine takeD (i := 3) (v := .int .i64 (k0 : Int)) (some 33) rfl rfl (by kernel_rfl) (by kernel_rfl) (by kernel_rfl) (fun _ _ _ h => h) (Or.inl ⟨by rfl, by rintro w' -; go_simp⟩) uhS27 ?_
  simp only [Act.put, List.setIfInBounds_toArray, List.set_cons_zero, List.set_cons_succ]
  refine takeD (i := 4) (v := .slice (some ⟨gg, 0, none⟩) N cg) (some 34) rfl rfl (by kernel_rfl) (by kernel_rfl) (by kernel_rfl) (fun _ _ _ h => h) (Or.inl ⟨by rfl, by rintro w' -; go_simp⟩) uhS27 ?_
  simp only [Act.put, List.setIfInBounds_toArray, List.set_cons_zero, List.set_cons_succ]
  refine takeD (i := 5) (v := .int .i64 (N : Int)) (some 35) rfl rfl (by kernel_rfl) (by kernel_rfl) (by kernel_rfl) (fun _ _ _ h => h) (Or.inl ⟨by rfl, by rintro w' -; go_simp⟩) uhS27 ?_
  simp only [Act.put, List.setIfInBounds_toArray, List.set_cons_zero, List.set_cons_succ]
  refine takeD (i := 6) (v := .int .i64 (pa : Int)) (some 36) rfl rfl (by kernel_rfl) (by kernel_rfl) (by kernel_rfl) (fun _ _ _ h => h) (Or.inl ⟨by rfl, by rintro w' -; go_simp⟩) uhS27 ?_
  simp only [Act.put, List.setIfInBounds_toArray, List.set_cons_zero, List.set_cons_succ]
  refine takeD (i := 7) (v := .pointer (some ⟨bx, 0, none⟩)) (some 37) rfl rfl (by kernel_rfl) (by kernel_rfl) (by kernel_rfl) (fun _ _ _ h => h) (Or.inl ⟨by rfl, by rintro w' -; go_simp⟩) uhS27 ?_
  simp only [Act.put, List.setIfInBounds_toArray, List.set_cons_zero, List.set_cons_succ]
  refine takeD (i := 8) (v := .pointer (some ⟨bx, 1, none⟩)) (some 38) rfl rfl (by kernel_rfl) (by kernel_rfl) (by kernel_rfl) (fun _ _ _ h => h) (Or.inl ⟨by rfl, by rintro w' -; go_simp⟩) uhS27 ?_
  simp only [Act.put, List.setIfInBounds_toArray, List.set_cons_zero, List.set_cons_succ]
  refine takeD (i := 9) (v := .int .u8 (k1 : Int)) (some 39) rfl rfl (by kernel_rfl) (by kernel_rfl) (by kernel_rfl) (fun _ _ _ h => h) (Or.inl ⟨by rfl, by rintro w' h; have hc := h.2; go_simp⟩) uhS27 ?_
  simp only [Act.put, List.setIfInBounds_toArray, List.set_cons_zero, List.set_cons_succ]
  refine takeD (i := 10) (v := .int .i64 (k1 : Int)) (some 40) rfl rfl (by kernel_rfl) (by kernel_rfl) (by kernel_rfl) (fun _ _ _ h => h) (Or.inl ⟨by rfl, by rintro w' -; go_simp⟩) uhS27 ?_
  simp only [Act.put, List.setIfInBounds_toArray, List.set_cons_zero, List.set_cons_succ]
  refine takeD (i := 11) (v := .slice (some ⟨gg, 0, none⟩) N cg) (some 41) rfl rfl (by kernel_rfl) (by kernel_rfl) (by kernel_rfl) (fun _ _ _ h => h) (Or.inl ⟨by rfl, by rintro w' -; go_simp⟩) uhS27 ?_
  simp only [Act.put, List.setIfInBounds_toArray, List.set_cons_zero, List.set_cons_succ]
  refine takeD (i := 12) (v := .int .i64 (N : Int)) (some 42) rfl rfl (by kernel_rfl) (by kernel_rfl) (by kernel_rfl) (fun _ _ _ h => h) (Or.inl ⟨by rfl, by rintro w' -; go_simp⟩) uhS27 ?_
  simp only [Act.put, List.setIfInBounds_toArray, List.set_cons_zero, List.set_cons_succ]
  refine takeD (i := 13) (v := .int .i64 (pb : Int)) (some 43) rfl rfl (by kernel_rfl) (by kernel_rfl) (by kernel_rfl) (fun _ _ _ h => h) (Or.inl ⟨by rfl, by rintro w' -; go_simp⟩) uhS27 ?_
  simp only [Act.put, List.setIfInBounds_toArray, List.set_cons_zero, List.set_cons_succ]
  refine takeD (i := 14) (v := .int .i64 (pa : Int)) (some 10) rfl rfl (by kernel_rfl) (by kernel_rfl) (by kernel_rfl) (fun _ _ _ h => h) (Or.inl ⟨by rfl, by rintro w' -; go_simp⟩) uhS27 ?_
  simp only [Act.put, List.setIfInBounds_toArray, List.set_cons_zero, List.set_cons_succ]
  refine takeD (i := 15) (v := .int .i64 (pb : Int)) (some 11) rfl rfl (by kernel_rfl) (by kernel_rfl) (by kernel_rfl) (fun _ _ _ h => h) (Or.inl ⟨by rfl, by rintro w' -; go_simp⟩) uhS27 ?_
  simp only [Act.put, List.setIfInBounds_toArray, List.set_cons_zero, List.set_cons_succ]
  refine wpAnyH_done (by kernel_rfl) ?_ _
  go_wp2_with fail
  have cx : Hid (At8 uwz19 bx 3 x) := Lib.hid (by have h := LC.out _ _ (Row.at8 uL_22.out) 0 (by rw [CL.out]; decide); rw [XX.out] at h; exact h)
  have cy : Hid (At8 uwz19 bx 11 y) := Lib.hid (by have h := LC.out _ _ (Row.at8 uL_22.out) 1 (by rw [CL.out]; decide); rw [YY.out] at h; exact h)
  refine wp_region_held (P := Try.prog) (S := (fun w' : World => At8 w' bx 3 x ∧ At8 w' bx 11 y)) rfl ?_
  change wpAnyH _ _ _ _ _ _ _ _ uwz19.drew
  have uhz29 : Below uwz19.heap.size uwz19 uwz19.drew := (Below.refl uwz19.heap.size uwz19).drew
  generalize uwz19.drew = uwz28 at uhz29 ⊢
  have uhq30 : Below uwz19.heap.size uwz19 uwz28 := uhz29
  have uG_31 := Lib.hid (OwnB.to uG_23.out uhq30)
  have uCX_32 := Lib.hid (At8.to cx.out uhq30)
  have uCY_33 := Lib.hid (At8.to cy.out uhq30)
  have uHB_34 : Hid (Below w.heap.size w uwz28) := Lib.hid (uHB_26.out.trans (uhq30.mono uHB_26.out.size))
  clear uhq30
  clear uhz29
  have uhS35 : (fun w' : World => At8 w' bx 3 x ∧ At8 w' bx 11 y) uwz28 := ⟨uCX_32.out, uCY_33.out⟩
  refine takeD (i := 0) (v := .pointer (some ⟨bx, 3, none⟩)) (some 44) rfl rfl (by kernel_rfl) (by kernel_rfl) (by kernel_rfl) (fun _ _ _ h => h) (Or.inl ⟨by rfl, by rintro w' -; go_simp⟩) uhS35 ?_
  simp only [Act.put, List.setIfInBounds_toArray, List.set_cons_zero, List.set_cons_succ]
  refine takeD (i := 1) (v := .pointer (some ⟨bx, 3, none⟩)) (some 45) rfl rfl (by kernel_rfl) (by kernel_rfl) (by kernel_rfl) (fun _ _ _ h => h) (Or.inl ⟨by rfl, by rintro w' -; go_simp⟩) uhS35 ?_
  simp only [Act.put, List.setIfInBounds_toArray, List.set_cons_zero, List.set_cons_succ]
  refine takeD (i := 2) (v := .agg (bcs x)) (some 46) rfl rfl (by kernel_rfl) (by kernel_rfl) (by kernel_rfl) (fun _ _ _ h => h) (yieldsIf_load8 (by rfl) _ _ rfl _ _ rfl x _ (fun w' h => h.1) Try.underlying33 rfl (size8 x8.1)) uhS35 ?_
  simp only [Act.put, List.setIfInBounds_toArray, List.set_cons_zero, List.set_cons_succ]
  refine takeD (i := 3) (v := .pointer (some ⟨bx, 3, none⟩)) (some 47) rfl rfl (by kernel_rfl) (by kernel_rfl) (by kernel_rfl) (fun _ _ _ h => h) (Or.inl ⟨by rfl, by rintro w' -; go_simp⟩) uhS35 ?_
  simp only [Act.put, List.setIfInBounds_toArray, List.set_cons_zero, List.set_cons_succ]
  refine takeD (i := 4) (v := .pointer (some ⟨bx, 11, none⟩)) (some 48) rfl rfl (by kernel_rfl) (by kernel_rfl) (by kernel_rfl) (fun _ _ _ h => h) (Or.inl ⟨by rfl, by rintro w' -; go_simp⟩) uhS35 ?_
  simp only [Act.put, List.setIfInBounds_toArray, List.set_cons_zero, List.set_cons_succ]
  refine takeD (i := 5) (v := .agg (bcs y)) (some 49) rfl rfl (by kernel_rfl) (by kernel_rfl) (by kernel_rfl) (fun _ _ _ h => h) (yieldsIf_load8 (by rfl) _ _ rfl _ _ rfl y _ (fun w' h => h.2) Try.underlying33 rfl (size8 y8.1)) uhS35 ?_
  simp only [Act.put, List.setIfInBounds_toArray, List.set_cons_zero, List.set_cons_succ]
  refine wpAnyH_ready (rs := [6, 7]) (by kernel_rfl) (by simp) ?_
  refine AllReadyH.cons rfl (fun K hK => ?_) (AllReadyH.cons rfl (fun K hK => ?_) AllReadyH.nil)
  · have HuK36 := Lib.hid hK
    clear hK
    rw [if_pos (by rfl)]
    refine wp_alloc8 rfl ?_
    obtain ⟨ux37, hxb⟩ : ∃ q, uwz28.alloc (.cells (bcs zeroB.1) 33) = q := ⟨_, rfl⟩
    have hbx : Below uwz28.heap.size uwz28 ux37 := by rw [← hxb]; exact (Below.refl _ _).alloc (Nat.le_refl _) _
    have hnr : Row ux37 uwz28.heap.size 33 (bcs zeroB.1) := by rw [← hxb]; exact row_new _ _ _
    have hle : uwz28.heap.size ≤ uwz28.heap.size := Nat.le_refl _
    obtain ⟨na, hnm⟩ : ∃ q, uwz28.heap.size = q := ⟨_, rfl⟩
    have Lna : Hid (uwz28.heap.size ≤ na) := Lib.hid (by rw [← hnm]; exact hle)
    rw [hnm] at hnr
    rw [hxb, hnm]
    have urw38 := Lib.hid hnr
    clear hnr hle
    have hQ : Below uwz28.heap.size uwz28 ux37 := hbx
    have uQ40 := Lib.hid hQ
    have uhq41 : Below uwz28.heap.size uwz28 ux37 := hQ
    have uG_42 := Lib.hid (OwnB.to uG_31.out uhq41)
    have uCX_43 := Lib.hid (At8.to uCX_32.out uhq41)
    have uCY_44 := Lib.hid (At8.to uCY_33.out uhq41)
    have uHB_45 : Hid (Below w.heap.size w ux37) := Lib.hid (uHB_34.out.trans (uhq41.mono uHB_34.out.size))
    clear uhq41
    clear hQ
    clear hbx hxb hnm
    have uhS46 : (fun w' : World => At8 w' bx 3 x ∧ At8 w' bx 11 y) ux37 := ⟨uCX_43.out, uCY_44.out⟩
    refine HuK36.out _ _ uhS46 fun _ => ?_
    try simp only [Act.put, List.setIfInBounds_toArray, List.set_cons_zero, List.set_cons_succ]
    refine wpAnyH_ready (rs := [7]) (by kernel_rfl) (by simp) ?_
    refine AllReadyH.cons rfl (fun uK47 huK47 => ?_) AllReadyH.nil
    have HuK47 := Lib.hid huK47
    clear huK47
    rw [if_pos (by rfl)]
    refine wp_alloc8 rfl ?_
    obtain ⟨ux48, hxb⟩ : ∃ q, ux37.alloc (.cells (bcs zeroB.1) 33) = q := ⟨_, rfl⟩
    have hbx : Below uwz28.heap.size uwz28 ux48 := by rw [← hxb]; exact uQ40.out.alloc uQ40.out.size _
    have hnr : Row ux48 ux37.heap.size 33 (bcs zeroB.1) := by rw [← hxb]; exact row_new _ _ _
    have h := Row.alloc urw38.out (.cells (bcs zeroB.1) 33)
    rw [hxb] at h
    have urw51 := Lib.hid h
    clear h
    have NE : Hid (na < ux37.heap.size) := Lib.hid (Row.lt urw38.out)
    have hle : uwz28.heap.size ≤ ux37.heap.size := uQ40.out.size
    obtain ⟨nb, hnm⟩ : ∃ q, ux37.heap.size = q := ⟨_, rfl⟩
    have Lnb : Hid (uwz28.heap.size ≤ nb) := Lib.hid (by rw [← hnm]; exact hle)
    rw [hnm] at hnr NE
    rw [hxb, hnm]
    have urw49 := Lib.hid hnr
    clear hnr hle
    have hQ : Below uwz28.heap.size uwz28 ux48 := hbx
    have uQ52 := Lib.hid hQ
    have uhq53 : Below uwz28.heap.size uwz28 ux48 := hQ
    have uG_54 := Lib.hid (OwnB.to uG_31.out uhq53)
    have uCX_55 := Lib.hid (At8.to uCX_32.out uhq53)
    have uCY_56 := Lib.hid (At8.to uCY_33.out uhq53)
    have uHB_57 : Hid (Below w.heap.size w ux48) := Lib.hid (uHB_34.out.trans (uhq53.mono uHB_34.out.size))
    clear uhq53
    clear hQ
    clear hbx hxb hnm
    have uhS58 : (fun w' : World => At8 w' bx 3 x ∧ At8 w' bx 11 y) ux48 := ⟨uCX_55.out, uCY_56.out⟩
    refine HuK47.out _ _ uhS58 fun _ => ?_
    try simp only [Act.put, List.setIfInBounds_toArray, List.set_cons_zero, List.set_cons_succ]
    refine wpAnyH_ready (rs := [8]) (by kernel_rfl) (by simp) ?_
    refine AllReadyH.cons rfl (fun uK59 huK59 => ?_) AllReadyH.nil
    have HuK59 := Lib.hid huK59
    clear huK59
    rw [if_pos (by rfl)]
    have th : ux48.there na 0 (bcs x).size := by rw [bcs_size, x8.1]; exact Row.there8 urw51.out (by rfl)
    refine wp_store8 _ _ _ rfl _ _ x rfl rfl th (size8 x8.1) ?_
    clear th
    obtain ⟨ux60, hxb⟩ : ∃ q, ux48.setCells na 0 (x.map bv) = q := ⟨_, rfl⟩
    have hbx : Below uwz28.heap.size uwz28 ux60 := by rw [← hxb]; exact below_setCells uQ52.out _ _ _ Lna.out
    have h := Row.put urw51.out (by rfl) x8.1
    rw [hxb] at h
    have urw61 := Lib.hid h
    clear h
    have h := Row.otherCells urw49.out (k := na) (by have := NE.out; omega) (x.map bv) 0
    rw [hxb] at h
    have urw62 := Lib.hid h
    clear h
    rw [hxb]
    have hQ : Below uwz28.heap.size uwz28 ux60 := hbx
    have uQ63 := Lib.hid hQ
    have uhq64 : Below uwz28.heap.size uwz28 ux60 := hQ
    have uG_65 := Lib.hid (OwnB.to uG_31.out uhq64)
    have uCX_66 := Lib.hid (At8.to uCX_32.out uhq64)
    have uCY_67 := Lib.hid (At8.to uCY_33.out uhq64)
    have uHB_68 : Hid (Below w.heap.size w ux60) := Lib.hid (uHB_34.out.trans (uhq64.mono uHB_34.out.size))
    clear uhq64
    clear hQ
    clear hbx hxb
    have uhS69 : (fun w' : World => At8 w' bx 3 x ∧ At8 w' bx 11 y) ux60 := ⟨uCX_66.out, uCY_67.out⟩
    refine HuK59.out _ _ uhS69 fun _ => ?_
    refine wpAnyH_ready (rs := [9]) (by kernel_rfl) (by simp) ?_
    refine AllReadyH.cons rfl (fun uK70 huK70 => ?_) AllReadyH.nil
    have HuK70 := Lib.hid huK70
    clear huK70
    rw [if_pos (by rfl)]
    have th : ux60.there nb 0 (bcs y).size := by rw [bcs_size, y8.1]; exact Row.there8 urw62.out (by rfl)
    refine wp_store8 _ _ _ rfl _ _ y rfl rfl th (size8 y8.1) ?_
    clear th
    obtain ⟨ux71, hxb⟩ : ∃ q, ux60.setCells nb 0 (y.map bv) = q := ⟨_, rfl⟩
    have hbx : Below uwz28.heap.size uwz28 ux71 := by rw [← hxb]; exact below_setCells uQ63.out _ _ _ Lnb.out
    have h := Row.put urw62.out (by rfl) y8.1
    rw [hxb] at h
    have urw72 := Lib.hid h
    clear h
    have h := Row.otherCells urw61.out (k := nb) (by have := NE.out; omega) (y.map bv) 0
    rw [hxb] at h
    have urw73 := Lib.hid h
    clear h
    rw [hxb]
    have hQ : Below uwz28.heap.size uwz28 ux71 := hbx
    have uQ74 := Lib.hid hQ
    have uhq75 : Below uwz28.heap.size uwz28 ux71 := hQ
    have uG_76 := Lib.hid (OwnB.to uG_31.out uhq75)
    have uCX_77 := Lib.hid (At8.to uCX_32.out uhq75)
    have uCY_78 := Lib.hid (At8.to uCY_33.out uhq75)
    have uHB_79 : Hid (Below w.heap.size w ux71) := Lib.hid (uHB_34.out.trans (uhq75.mono uHB_34.out.size))
    clear uhq75
    clear hQ
    clear hbx hxb
    have uhS80 : (fun w' : World => At8 w' bx 3 x ∧ At8 w' bx 11 y) ux71 := ⟨uCX_77.out, uCY_78.out⟩
    refine HuK70.out _ _ uhS80 fun _ => ?_
    refine wpAnyH_done (by kernel_rfl) ?_ _
    have XA := Lib.hid (Row.at8 urw73.out)
    have YB := Lib.hid (Row.at8 urw72.out)
    have GLT := Lib.hid (show gg < _ from (uG_31.out.lt gg rfl).2)
    go_wp2_with (first | (refine wpList_load8 rfl _ _ rfl _ _ rfl x _ XA.out Try.underlying33 rfl (size8 x8.1) ?_) | (refine wpList_load8w (by rfl) _ _ rfl _ _ rfl y _ YB.out Try.underlying33 rfl (size8 y8.1) ?_))
    go_ret
    exact ⟨by first | rfl | simp, uHB_79.out⟩
  · have HuK36 := Lib.hid hK
    clear hK
    rw [if_pos (by rfl)]
    refine wp_alloc8 rfl ?_
    obtain ⟨ux37, hxb⟩ : ∃ q, uwz28.alloc (.cells (bcs zeroB.1) 33) = q := ⟨_, rfl⟩
    have hbx : Below uwz28.heap.size uwz28 ux37 := by rw [← hxb]; exact (Below.refl _ _).alloc (Nat.le_refl _) _
    have hnr : Row ux37 uwz28.heap.size 33 (bcs zeroB.1) := by rw [← hxb]; exact row_new _ _ _
    have hle : uwz28.heap.size ≤ uwz28.heap.size := Nat.le_refl _
    obtain ⟨nb, hnm⟩ : ∃ q, uwz28.heap.size = q := ⟨_, rfl⟩
    have Lnb : Hid (uwz28.heap.size ≤ nb) := Lib.hid (by rw [← hnm]; exact hle)
    rw [hnm] at hnr
    rw [hxb, hnm]
    have urw38 := Lib.hid hnr
    clear hnr hle
    have hQ : Below uwz28.heap.size uwz28 ux37 := hbx
    have uQ40 := Lib.hid hQ
    have uhq41 : Below uwz28.heap.size uwz28 ux37 := hQ
    have uG_42 := Lib.hid (OwnB.to uG_31.out uhq41)
    have uCX_43 := Lib.hid (At8.to uCX_32.out uhq41)
    have uCY_44 := Lib.hid (At8.to uCY_33.out uhq41)
    have uHB_45 : Hid (Below w.heap.size w ux37) := Lib.hid (uHB_34.out.trans (uhq41.mono uHB_34.out.size))
    clear uhq41
    clear hQ
    clear hbx hxb hnm
    have uhS46 : (fun w' : World => At8 w' bx 3 x ∧ At8 w' bx 11 y) ux37 := ⟨uCX_43.out, uCY_44.out⟩
    refine HuK36.out _ _ uhS46 fun _ => ?_
    try simp only [Act.put, List.setIfInBounds_toArray, List.set_cons_zero, List.set_cons_succ]
    refine wpAnyH_ready (rs := [6]) (by kernel_rfl) (by simp) ?_
    refine AllReadyH.cons rfl (fun uK47 huK47 => ?_) AllReadyH.nil
    have HuK47 := Lib.hid huK47
    clear huK47
    rw [if_pos (by rfl)]
    refine wp_alloc8 rfl ?_
    obtain ⟨ux48, hxb⟩ : ∃ q, ux37.alloc (.cells (bcs zeroB.1) 33) = q := ⟨_, rfl⟩
    have hbx : Below uwz28.heap.size uwz28 ux48 := by rw [← hxb]; exact uQ40.out.alloc uQ40.out.size _
    have hnr : Row ux48 ux37.heap.size 33 (bcs zeroB.1) := by rw [← hxb]; exact row_new _ _ _
    have h := Row.alloc urw38.out (.cells (bcs zeroB.1) 33)
    rw [hxb] at h
    have urw51 := Lib.hid h
    clear h
    have NE : Hid (nb < ux37.heap.size) := Lib.hid (Row.lt urw38.out)
    have hle : uwz28.heap.size ≤ ux37.heap.size := uQ40.out.size
    obtain ⟨na, hnm⟩ : ∃ q, ux37.heap.size = q := ⟨_, rfl⟩
    have Lna : Hid (uwz28.heap.size ≤ na) := Lib.hid (by rw [← hnm]; exact hle)
    rw [hnm] at hnr NE
    rw [hxb, hnm]
    have urw49 := Lib.hid hnr
    clear hnr hle
    have hQ : Below uwz28.heap.size uwz28 ux48 := hbx
    have uQ52 := Lib.hid hQ
    have uhq53 : Below uwz28.heap.size uwz28 ux48 := hQ
    have uG_54 := Lib.hid (OwnB.to uG_31.out uhq53)
    have uCX_55 := Lib.hid (At8.to uCX_32.out uhq53)
    have uCY_56 := Lib.hid (At8.to uCY_33.out uhq53)
    have uHB_57 : Hid (Below w.heap.size w ux48) := Lib.hid (uHB_34.out.trans (uhq53.mono uHB_34.out.size))
    clear uhq53
    clear hQ
    clear hbx hxb hnm
    have uhS58 : (fun w' : World => At8 w' bx 3 x ∧ At8 w' bx 11 y) ux48 := ⟨uCX_55.out, uCY_56.out⟩
    refine HuK47.out _ _ uhS58 fun _ => ?_
    try simp only [Act.put, List.setIfInBounds_toArray, List.set_cons_zero, List.set_cons_succ]
    refine wpAnyH_ready (rs := [8]) (by kernel_rfl) (by simp) ?_
    refine AllReadyH.cons rfl (fun uK59 huK59 => ?_) AllReadyH.nil
    have HuK59 := Lib.hid huK59
    clear huK59
    rw [if_pos (by rfl)]
    have th : ux48.there na 0 (bcs x).size := by rw [bcs_size, x8.1]; exact Row.there8 urw49.out (by rfl)
    refine wp_store8 _ _ _ rfl _ _ x rfl rfl th (size8 x8.1) ?_
    clear th
    obtain ⟨ux60, hxb⟩ : ∃ q, ux48.setCells na 0 (x.map bv) = q := ⟨_, rfl⟩
    have hbx : Below uwz28.heap.size uwz28 ux60 := by rw [← hxb]; exact below_setCells uQ52.out _ _ _ Lna.out
    have h := Row.put urw49.out (by rfl) x8.1
    rw [hxb] at h
    have urw61 := Lib.hid h
    clear h
    have h := Row.otherCells urw51.out (k := na) (by have := NE.out; omega) (x.map bv) 0
    rw [hxb] at h
    have urw62 := Lib.hid h
    clear h
    rw [hxb]
    have hQ : Below uwz28.heap.size uwz28 ux60 := hbx
    have uQ63 := Lib.hid hQ
    have uhq64 : Below uwz28.heap.size uwz28 ux60 := hQ
    have uG_65 := Lib.hid (OwnB.to uG_31.out uhq64)
    have uCX_66 := Lib.hid (At8.to uCX_32.out uhq64)
    have uCY_67 := Lib.hid (At8.to uCY_33.out uhq64)
    have uHB_68 : Hid (Below w.heap.size w ux60) := Lib.hid (uHB_34.out.trans (uhq64.mono uHB_34.out.size))
    clear uhq64
    clear hQ
    clear hbx hxb
    have uhS69 : (fun w' : World => At8 w' bx 3 x ∧ At8 w' bx 11 y) ux60 := ⟨uCX_66.out, uCY_67.out⟩
    refine HuK59.out _ _ uhS69 fun _ => ?_
    refine wpAnyH_ready (rs := [9]) (by kernel_rfl) (by simp) ?_
    refine AllReadyH.cons rfl (fun uK70 huK70 => ?_) AllReadyH.nil
    have HuK70 := Lib.hid huK70
    clear huK70
    rw [if_pos (by rfl)]
    have th : ux60.there nb 0 (bcs y).size := by rw [bcs_size, y8.1]; exact Row.there8 urw62.out (by rfl)
    refine wp_store8 _ _ _ rfl _ _ y rfl rfl th (size8 y8.1) ?_
    clear th
    obtain ⟨ux71, hxb⟩ : ∃ q, ux60.setCells nb 0 (y.map bv) = q := ⟨_, rfl⟩
    have hbx : Below uwz28.heap.size uwz28 ux71 := by rw [← hxb]; exact below_setCells uQ63.out _ _ _ Lnb.out
    have h := Row.put urw62.out (by rfl) y8.1
    rw [hxb] at h
    have urw72 := Lib.hid h
    clear h
    have h := Row.otherCells urw61.out (k := nb) (by have := NE.out; omega) (y.map bv) 0
    rw [hxb] at h
    have urw73 := Lib.hid h
    clear h
    rw [hxb]
    have hQ : Below uwz28.heap.size uwz28 ux71 := hbx
    have uQ74 := Lib.hid hQ
    have uhq75 : Below uwz28.heap.size uwz28 ux71 := hQ
    have uG_76 := Lib.hid (OwnB.to uG_31.out uhq75)
    have uCX_77 := Lib.hid (At8.to uCX_32.out uhq75)
    have uCY_78 := Lib.hid (At8.to uCY_33.out uhq75)
    have uHB_79 : Hid (Below w.heap.size w ux71) := Lib.hid (uHB_34.out.trans (uhq75.mono uHB_34.out.size))
    clear uhq75
    clear hQ
    clear hbx hxb
    have uhS80 : (fun w' : World => At8 w' bx 3 x ∧ At8 w' bx 11 y) ux71 := ⟨uCX_77.out, uCY_78.out⟩
    refine HuK70.out _ _ uhS80 fun _ => ?_
    refine wpAnyH_done (by kernel_rfl) ?_ _
    have XA := Lib.hid (Row.at8 urw73.out)
    have YB := Lib.hid (Row.at8 urw72.out)
    have GLT := Lib.hid (show gg < _ from (uG_31.out.lt gg rfl).2)
    go_wp2_with (first | (refine wpList_load8 rfl _ _ rfl _ _ rfl x _ XA.out Try.underlying33 rfl (size8 x8.1) ?_) | (refine wpList_load8w (by rfl) _ _ rfl _ _ rfl y _ YB.out Try.underlying33 rfl (size8 y8.1) ?_))
    go_ret
    exact ⟨by first | rfl | simp, uHB_79.out⟩
set_option maxHeartbeats 4000000 in
set_option maxRecDepth 100000 in
theorem locw_y0 (D : List (List Nat)) (a : Nat) (K : List Nat) (C : List (List Nat)) (w : World) (h : D.length = 13) (hD : ∀ d ∈ D, B8 d) (ha : a < 256) (hK : K.length = 3) (hKb : ∀ x ∈ K, x < 256) (hC : C.length = 3) (hC8 : ∀ d ∈ C, B8 d) (hs : C.getD 0 [] ≠ zeroB.1 ∧ C.getD 1 [] = zeroB.1) : Calls Try.prog 9 #[.agg (bcs D.flatten), .int .u8 (a : Int), .agg (bcs (lostL K C))] w (lawPost w) := by
  obtain ⟨m, hm⟩ : ∃ m, m = 1 + a % 13 := ⟨_, rfl⟩
  obtain ⟨N, hN⟩ : ∃ N, N = m + 3 := ⟨_, rfl⟩
  have hm1 : 1 ≤ m := by omega
  have hm13 : m ≤ 13 := by omega
  have LG := Lib.hid fun w => lgroup_N D a m N w h hD ha hm hN
  have R0 := Lib.hid (row_new w (bcs D.flatten) 38)
  have S13 := Lib.hid (size13 h hD)
  have GL : Hid ((grpG D m).length = N) := Lib.hid (by rw [grpG_len (by omega), hN])
  have G8 := Lib.hid (grpG_ok hD m)
  have NM := Lib.hid hN
  have CG : Hid (chk (grpG D m) = true) := Lib.hid (chk_group (by rw [List.length_take]; omega) (by rw [List.length_take]; omega))
  have hN4 : 4 ≤ N := by omega
  have hN16 : N ≤ 16 := by omega
  have HNI : (N : Int) ≤ 16 := by omega
  have LA := Lib.hid fun w b (hh : At8 w b 0 (lostL K C)) => lost_which hh
  have LC := Lib.hid fun w b (hh : At8 w b 0 (lostL K C)) i (hi : i < C.length) => lost_at hh hK hC8 hi
  have CL := Lib.hid hC
  obtain ⟨k0, hk0⟩ : ∃ k, K.getD 0 0 = k := ⟨_, rfl⟩
  obtain ⟨k1, hk1⟩ : ∃ k, K.getD 1 0 = k := ⟨_, rfl⟩
  obtain ⟨x, hx⟩ : ∃ x, C.getD 0 [] = x := ⟨_, rfl⟩
  obtain ⟨y, hy⟩ : ∃ y, C.getD 1 [] = y := ⟨_, rfl⟩
  have x8 : B8 x := by rw [← hx, getD_in (by rw [hC]; decide)]; exact hC8 _ (List.getElem_mem _)
  have y8 : B8 y := by rw [← hy, getD_in (by rw [hC]; decide)]; exact hC8 _ (List.getElem_mem _)
  have hkb0 : k0 < 256 := by rw [← hk0]; exact getD_bytes hKb 0
  have hkb1 : k1 < 256 := by rw [← hk1]; exact getD_bytes hKb 1
  have KK0 := Lib.hid hk0
  have KK1 := Lib.hid hk1
  have XX := Lib.hid hx
  have YY := Lib.hid hy
  have KL := Lib.hid hK
  obtain ⟨pa, hpa⟩ : ∃ p, k0 % N = p := ⟨_, rfl⟩
  obtain ⟨pb, hpb⟩ : ∃ p, k1 % N = p := ⟨_, rfl⟩
  rw [hx, hy] at hs
  have hpaN : pa < N := by rw [← hpa]; exact Nat.mod_lt _ (by omega)
  have hpbN : pb < N := by rw [← hpb]; exact Nat.mod_lt _ (by omega)
  have ea : (k0 : Int).tmod (N : Int) = (pa : Int) := by rw [← hpa]; rfl
  have eb : (k1 : Int).tmod (N : Int) = (pb : Int) := by rw [← hpb]; rfl
  have wk0 : IntKind.i64.wrap (k0 : Int) = (k0 : Int) := by rw [IntKind.wrap_i64]; omega
  have wk1 : IntKind.i64.wrap (k1 : Int) = (k1 : Int) := by rw [IntKind.wrap_i64]; omega
  have hN0 : ¬ (N = 0) := by omega
  have hpaI : (pa : Int) < (N : Int) := by omega
  have hpbI : (pb : Int) < (N : Int) := by omega
  have hNz : ((N : Int) == 0) = false := by simp; omega
  have hNz2 : ¬ ((N : Int) = 0) := by omega
  obtain ⟨G, hG⟩ : ∃ G, grpG D m = G := ⟨_, rfl⟩
  rw [hG] at LG GL G8 CG
  have LOC := Lib.hid fun w v (h : Bl w v G) => loc_any v G w h (by rw [GL.out]; exact hN4) (by rw [GL.out]; exact hN16)
  have LG0 := Lib.hid fun k e (h : locR G k e) => loc_group CG.out h
  have ZZ : Hid ((#[.int .u8 0, .int .u8 0, .int .u8 0, .int .u8 0, .int .u8 0, .int .u8 0, .int .u8 0, .int .u8 0] : Array Value) = bcs zeroB.1) := Lib.hid rfl
  have EX : ∀ w', (binOp .eql 33 (.agg (bcs x)) (.agg #[.int .u8 0, .int .u8 0, .int .u8 0, .int .u8 0, .int .u8 0, .int .u8 0, .int .u8 0, .int .u8 0])).run Try.prog w' = .ok (.bool (decide (x = zeroB.1))) w' := fun q => by rw [ZZ.out]; exact eql8 x zeroB.1 x8 zeroB.2 q
  have EY : ∀ w', (binOp .eql 33 (.agg (bcs y)) (.agg #[.int .u8 0, .int .u8 0, .int .u8 0, .int .u8 0, .int .u8 0, .int .u8 0, .int .u8 0, .int .u8 0])).run Try.prog w' = .ok (.bool (decide (y = zeroB.1))) w' := fun q => by rw [ZZ.out]; exact eql8 y zeroB.1 y8 zeroB.2 q
  simp only [decide_eq_false hs.1] at EX
  simp only [decide_eq_true hs.2] at EY
  clear h hD hK hKb hC hC8 hm hN hG hk0 hk1 hx hy hpa hpb hs
  obtain ⟨c0, hc0⟩ : ∃ c, bcs D.flatten = c := ⟨_, rfl⟩
  obtain ⟨c1, hc1⟩ : ∃ c, bcs (lostL K C) = c := ⟨_, rfl⟩
  have C0 := Lib.hid hc0
  have C1 := Lib.hid hc1
  rw [hc0] at R0 S13 LG ⊢
  rw [hc1]
  clear hc0 hc1
  go_enter Try.func9, Try.ntmps9
  go_wp2_with fail
  obtain ⟨W0, hW0⟩ : ∃ W0, (w.alloc (.cells c0 38)).alloc (.cells c1 51) = W0 := ⟨_, rfl⟩
  have HB0 : Hid (Below w.heap.size w W0) := Lib.hid (by rw [← hW0]; exact ((Below.refl w.heap.size w).alloc (Nat.le_refl _) _).alloc (by simp) _)
  have HX0 : Hid (Row W0 w.heap.size 38 c0) := Lib.hid (by rw [← hW0]; exact R0.out.alloc _)
  have HY0 : Hid (Row W0 (w.heap.size + 1) 51 (bcs (lostL K C))) := Lib.hid (by rw [← hW0, C1.out]; exact row_at (by simp) _ _)
  rw [hW0]
  clear hW0 R0
  refine (dawake_any _).mono ?_
  rintro e ux2 ⟨rfl, uhb1⟩
  have uhq3 : Below W0.heap.size W0 ux2 := uhb1
  have uX_4 := Lib.hid (Row.to HX0.out uhq3)
  have uL_5 := Lib.hid (Row.to HY0.out uhq3)
  have uHB_6 : Hid (Below w.heap.size w ux2) := Lib.hid (HB0.out.trans (uhq3.mono HB0.out.size))
  clear uhq3
  clear uhb1
  go_wp2_with (refine wpList_load_row rfl _ _ rfl _ rfl _ _ (0, 0) _ uX_4.out Try.underlying38 rfl S13.out ?_)
  obtain ⟨bx, hbx⟩ : ∃ b, w.heap.size + 1 = b := ⟨_, rfl⟩
  rw [hbx] at uL_5 ⊢
  clear hbx
  refine (LG.out _).mono ?_
  rintro e ux8 ⟨gg, cg, rfl, uhn9, hgg, uhb7⟩
  have uhq10 : Below ux2.heap.size ux2 ux8 := uhb7
  have uL_11 := Lib.hid (Row.to uL_5.out uhq10)
  have uHB_12 : Hid (Below w.heap.size w ux8) := Lib.hid (uHB_6.out.trans (uhq10.mono uHB_6.out.size))
  clear uhq10
  have uG_13 := Lib.hid uhn9
  clear uhb7 uhn9
  have HGG := Lib.hid (Nat.le_trans uHB_6.out.size hgg)
  clear hgg
  go_wp2_with fail
  refine (LOC.out _ _ uG_13.out.bl).mono ?_
  rintro e ux14 ⟨lk, le, rfl, lr, hb⟩
  obtain ⟨ek, ee⟩ := LG0.out _ _ lr
  rw [ek, ee]
  clear ek ee lr
  have uhq15 : Below ux8.heap.size ux8 ux14 := hb
  have uL_16 := Lib.hid (Row.to uL_11.out uhq15)
  have uG_17 := Lib.hid (OwnB.to uG_13.out uhq15)
  have uHB_18 : Hid (Below w.heap.size w ux14) := Lib.hid (uHB_12.out.trans (uhq15.mono uHB_12.out.size))
  clear uhq15
  clear hb
  go_wp2_with fail
  have h := (LA.out _ _ (Row.at8 uL_16.out)).cell (k := 0) (by rw [KL.out]; decide)
  rw [KK0.out] at h
  have k0c := Lib.hid h
  clear h
  have h := (LA.out _ _ (Row.at8 uL_16.out)).cell (k := 1) (by rw [KL.out]; decide)
  rw [KK1.out] at h
  have k1c := Lib.hid h
  clear h
  refine wp_region_held (P := Try.prog) (S := (fun w' : World => w'.cell? ⟨bx, 0 + 0, none⟩ = some (.int .u8 (k0 : Int)) ∧ w'.cell? ⟨bx, 0 + 1, none⟩ = some (.int .u8 (k1 : Int)))) rfl ?_
  change wpAnyH _ _ _ _ _ _ _ _ ux14.drew
  have uhz20 : Below ux14.heap.size ux14 ux14.drew := (Below.refl ux14.heap.size ux14).drew
  generalize ux14.drew = uwz19 at uhz20 ⊢
  have uhq21 : Below ux14.heap.size ux14 uwz19 := uhz20
  have uL_22 := Lib.hid (Row.to uL_16.out uhq21)
  have uG_23 := Lib.hid (OwnB.to uG_17.out uhq21)
  have uK0_24 := Lib.hid (cellTo k0c.out uhq21)
  have uK1_25 := Lib.hid (cellTo k1c.out uhq21)
  have uHB_26 : Hid (Below w.heap.size w uwz19) := Lib.hid (uHB_18.out.trans (uhq21.mono uHB_18.out.size))
  clear uhq21
  clear uhz20
  have uhS27 : (fun w' : World => w'.cell? ⟨bx, 0 + 0, none⟩ = some (.int .u8 (k0 : Int)) ∧ w'.cell? ⟨bx, 0 + 1, none⟩ = some (.int .u8 (k1 : Int))) uwz19 := ⟨uK0_24.out, uK1_25.out⟩
  refine takeD (i := 0) (v := .pointer (some ⟨bx, 0, none⟩)) (some 30) rfl rfl (by kernel_rfl) (by kernel_rfl) (by kernel_rfl) (fun _ _ _ h => h) (Or.inl ⟨by rfl, by rintro w' -; go_simp⟩) uhS27 ?_
  simp only [Act.put, List.setIfInBounds_toArray, List.set_cons_zero, List.set_cons_succ]
  refine takeD (i := 1) (v := .pointer (some ⟨bx, 0, none⟩)) (some 31) rfl rfl (by kernel_rfl) (by kernel_rfl) (by kernel_rfl) (fun _ _ _ h => h) (Or.inl ⟨by rfl, by rintro w' -; go_simp⟩) uhS27 ?_
  simp only [Act.put, List.setIfInBounds_toArray, List.set_cons_zero, List.set_cons_succ]
  refine takeD (i := 2) (v := .int .u8 (k0 : Int)) (some 32) rfl rfl (by kernel_rfl) (by kernel_rfl) (by kernel_rfl) (fun _ _ _ h => h) (Or.inl ⟨by rfl, by rintro w' h; have hc := h.1; go_simp⟩) uhS27 ?_
  simp only [Act.put, List.setIfInBounds_toArray, List.set_cons_zero, List.set_cons_succ]
  refine takeD (i := 3) (v := .int .i64 (k0 : Int)) (some 33) rfl rfl (by kernel_rfl) (by kernel_rfl) (by kernel_rfl) (fun _ _ _ h => h) (Or.inl ⟨by rfl, by rintro w' -; go_simp⟩) uhS27 ?_
  simp only [Act.put, List.setIfInBounds_toArray, List.set_cons_zero, List.set_cons_succ]
  refine takeD (i := 4) (v := .slice (some ⟨gg, 0, none⟩) N cg) (some 34) rfl rfl (by kernel_rfl) (by kernel_rfl) (by kernel_rfl) (fun _ _ _ h => h) (Or.inl ⟨by rfl, by rintro w' -; go_simp⟩) uhS27 ?_
  simp only [Act.put, List.setIfInBounds_toArray, List.set_cons_zero, List.set_cons_succ]
  refine takeD (i := 5) (v := .int .i64 (N : Int)) (some 35) rfl rfl (by kernel_rfl) (by kernel_rfl) (by kernel_rfl) (fun _ _ _ h => h) (Or.inl ⟨by rfl, by rintro w' -; go_simp⟩) uhS27 ?_
  simp only [Act.put, List.setIfInBounds_toArray, List.set_cons_zero, List.set_cons_succ]
  refine takeD (i := 6) (v := .int .i64 (pa : Int)) (some 36) rfl rfl (by kernel_rfl) (by kernel_rfl) (by kernel_rfl) (fun _ _ _ h => h) (Or.inl ⟨by rfl, by rintro w' -; go_simp⟩) uhS27 ?_
  simp only [Act.put, List.setIfInBounds_toArray, List.set_cons_zero, List.set_cons_succ]
  refine takeD (i := 7) (v := .pointer (some ⟨bx, 0, none⟩)) (some 37) rfl rfl (by kernel_rfl) (by kernel_rfl) (by kernel_rfl) (fun _ _ _ h => h) (Or.inl ⟨by rfl, by rintro w' -; go_simp⟩) uhS27 ?_
  simp only [Act.put, List.setIfInBounds_toArray, List.set_cons_zero, List.set_cons_succ]
  refine takeD (i := 8) (v := .pointer (some ⟨bx, 1, none⟩)) (some 38) rfl rfl (by kernel_rfl) (by kernel_rfl) (by kernel_rfl) (fun _ _ _ h => h) (Or.inl ⟨by rfl, by rintro w' -; go_simp⟩) uhS27 ?_
  simp only [Act.put, List.setIfInBounds_toArray, List.set_cons_zero, List.set_cons_succ]
  refine takeD (i := 9) (v := .int .u8 (k1 : Int)) (some 39) rfl rfl (by kernel_rfl) (by kernel_rfl) (by kernel_rfl) (fun _ _ _ h => h) (Or.inl ⟨by rfl, by rintro w' h; have hc := h.2; go_simp⟩) uhS27 ?_
  simp only [Act.put, List.setIfInBounds_toArray, List.set_cons_zero, List.set_cons_succ]
  refine takeD (i := 10) (v := .int .i64 (k1 : Int)) (some 40) rfl rfl (by kernel_rfl) (by kernel_rfl) (by kernel_rfl) (fun _ _ _ h => h) (Or.inl ⟨by rfl, by rintro w' -; go_simp⟩) uhS27 ?_
  simp only [Act.put, List.setIfInBounds_toArray, List.set_cons_zero, List.set_cons_succ]
  refine takeD (i := 11) (v := .slice (some ⟨gg, 0, none⟩) N cg) (some 41) rfl rfl (by kernel_rfl) (by kernel_rfl) (by kernel_rfl) (fun _ _ _ h => h) (Or.inl ⟨by rfl, by rintro w' -; go_simp⟩) uhS27 ?_
  simp only [Act.put, List.setIfInBounds_toArray, List.set_cons_zero, List.set_cons_succ]
  refine takeD (i := 12) (v := .int .i64 (N : Int)) (some 42) rfl rfl (by kernel_rfl) (by kernel_rfl) (by kernel_rfl) (fun _ _ _ h => h) (Or.inl ⟨by rfl, by rintro w' -; go_simp⟩) uhS27 ?_
  simp only [Act.put, List.setIfInBounds_toArray, List.set_cons_zero, List.set_cons_succ]
  refine takeD (i := 13) (v := .int .i64 (pb : Int)) (some 43) rfl rfl (by kernel_rfl) (by kernel_rfl) (by kernel_rfl) (fun _ _ _ h => h) (Or.inl ⟨by rfl, by rintro w' -; go_simp⟩) uhS27 ?_
  simp only [Act.put, List.setIfInBounds_toArray, List.set_cons_zero, List.set_cons_succ]
  refine takeD (i := 14) (v := .int .i64 (pa : Int)) (some 10) rfl rfl (by kernel_rfl) (by kernel_rfl) (by kernel_rfl) (fun _ _ _ h => h) (Or.inl ⟨by rfl, by rintro w' -; go_simp⟩) uhS27 ?_
  simp only [Act.put, List.setIfInBounds_toArray, List.set_cons_zero, List.set_cons_succ]
  refine takeD (i := 15) (v := .int .i64 (pb : Int)) (some 11) rfl rfl (by kernel_rfl) (by kernel_rfl) (by kernel_rfl) (fun _ _ _ h => h) (Or.inl ⟨by rfl, by rintro w' -; go_simp⟩) uhS27 ?_
  simp only [Act.put, List.setIfInBounds_toArray, List.set_cons_zero, List.set_cons_succ]
  refine wpAnyH_done (by kernel_rfl) ?_ _
  go_wp2_with fail
  have cx : Hid (At8 uwz19 bx 3 x) := Lib.hid (by have h := LC.out _ _ (Row.at8 uL_22.out) 0 (by rw [CL.out]; decide); rw [XX.out] at h; exact h)
  have cy : Hid (At8 uwz19 bx 11 y) := Lib.hid (by have h := LC.out _ _ (Row.at8 uL_22.out) 1 (by rw [CL.out]; decide); rw [YY.out] at h; exact h)
  refine wp_region_held (P := Try.prog) (S := (fun w' : World => At8 w' bx 3 x ∧ At8 w' bx 11 y)) rfl ?_
  change wpAnyH _ _ _ _ _ _ _ _ uwz19.drew
  have uhz29 : Below uwz19.heap.size uwz19 uwz19.drew := (Below.refl uwz19.heap.size uwz19).drew
  generalize uwz19.drew = uwz28 at uhz29 ⊢
  have uhq30 : Below uwz19.heap.size uwz19 uwz28 := uhz29
  have uG_31 := Lib.hid (OwnB.to uG_23.out uhq30)
  have uCX_32 := Lib.hid (At8.to cx.out uhq30)
  have uCY_33 := Lib.hid (At8.to cy.out uhq30)
  have uHB_34 : Hid (Below w.heap.size w uwz28) := Lib.hid (uHB_26.out.trans (uhq30.mono uHB_26.out.size))
  clear uhq30
  clear uhz29
  have uhS35 : (fun w' : World => At8 w' bx 3 x ∧ At8 w' bx 11 y) uwz28 := ⟨uCX_32.out, uCY_33.out⟩
  refine takeD (i := 0) (v := .pointer (some ⟨bx, 3, none⟩)) (some 44) rfl rfl (by kernel_rfl) (by kernel_rfl) (by kernel_rfl) (fun _ _ _ h => h) (Or.inl ⟨by rfl, by rintro w' -; go_simp⟩) uhS35 ?_
  simp only [Act.put, List.setIfInBounds_toArray, List.set_cons_zero, List.set_cons_succ]
  refine takeD (i := 1) (v := .pointer (some ⟨bx, 3, none⟩)) (some 45) rfl rfl (by kernel_rfl) (by kernel_rfl) (by kernel_rfl) (fun _ _ _ h => h) (Or.inl ⟨by rfl, by rintro w' -; go_simp⟩) uhS35 ?_
  simp only [Act.put, List.setIfInBounds_toArray, List.set_cons_zero, List.set_cons_succ]
  refine takeD (i := 2) (v := .agg (bcs x)) (some 46) rfl rfl (by kernel_rfl) (by kernel_rfl) (by kernel_rfl) (fun _ _ _ h => h) (yieldsIf_load8 (by rfl) _ _ rfl _ _ rfl x _ (fun w' h => h.1) Try.underlying33 rfl (size8 x8.1)) uhS35 ?_
  simp only [Act.put, List.setIfInBounds_toArray, List.set_cons_zero, List.set_cons_succ]
  refine takeD (i := 3) (v := .pointer (some ⟨bx, 3, none⟩)) (some 47) rfl rfl (by kernel_rfl) (by kernel_rfl) (by kernel_rfl) (fun _ _ _ h => h) (Or.inl ⟨by rfl, by rintro w' -; go_simp⟩) uhS35 ?_
  simp only [Act.put, List.setIfInBounds_toArray, List.set_cons_zero, List.set_cons_succ]
  refine takeD (i := 4) (v := .pointer (some ⟨bx, 11, none⟩)) (some 48) rfl rfl (by kernel_rfl) (by kernel_rfl) (by kernel_rfl) (fun _ _ _ h => h) (Or.inl ⟨by rfl, by rintro w' -; go_simp⟩) uhS35 ?_
  simp only [Act.put, List.setIfInBounds_toArray, List.set_cons_zero, List.set_cons_succ]
  refine takeD (i := 5) (v := .agg (bcs y)) (some 49) rfl rfl (by kernel_rfl) (by kernel_rfl) (by kernel_rfl) (fun _ _ _ h => h) (yieldsIf_load8 (by rfl) _ _ rfl _ _ rfl y _ (fun w' h => h.2) Try.underlying33 rfl (size8 y8.1)) uhS35 ?_
  simp only [Act.put, List.setIfInBounds_toArray, List.set_cons_zero, List.set_cons_succ]
  refine wpAnyH_ready (rs := [6, 7]) (by kernel_rfl) (by simp) ?_
  refine AllReadyH.cons rfl (fun K hK => ?_) (AllReadyH.cons rfl (fun K hK => ?_) AllReadyH.nil)
  · have HuK36 := Lib.hid hK
    clear hK
    rw [if_pos (by rfl)]
    refine wp_alloc8 rfl ?_
    obtain ⟨ux37, hxb⟩ : ∃ q, uwz28.alloc (.cells (bcs zeroB.1) 33) = q := ⟨_, rfl⟩
    have hbx : Below uwz28.heap.size uwz28 ux37 := by rw [← hxb]; exact (Below.refl _ _).alloc (Nat.le_refl _) _
    have hnr : Row ux37 uwz28.heap.size 33 (bcs zeroB.1) := by rw [← hxb]; exact row_new _ _ _
    have hle : uwz28.heap.size ≤ uwz28.heap.size := Nat.le_refl _
    obtain ⟨na, hnm⟩ : ∃ q, uwz28.heap.size = q := ⟨_, rfl⟩
    have Lna : Hid (uwz28.heap.size ≤ na) := Lib.hid (by rw [← hnm]; exact hle)
    rw [hnm] at hnr
    rw [hxb, hnm]
    have urw38 := Lib.hid hnr
    clear hnr hle
    have hQ : Below uwz28.heap.size uwz28 ux37 := hbx
    have uQ40 := Lib.hid hQ
    have uhq41 : Below uwz28.heap.size uwz28 ux37 := hQ
    have uG_42 := Lib.hid (OwnB.to uG_31.out uhq41)
    have uCX_43 := Lib.hid (At8.to uCX_32.out uhq41)
    have uCY_44 := Lib.hid (At8.to uCY_33.out uhq41)
    have uHB_45 : Hid (Below w.heap.size w ux37) := Lib.hid (uHB_34.out.trans (uhq41.mono uHB_34.out.size))
    clear uhq41
    clear hQ
    clear hbx hxb hnm
    have uhS46 : (fun w' : World => At8 w' bx 3 x ∧ At8 w' bx 11 y) ux37 := ⟨uCX_43.out, uCY_44.out⟩
    refine HuK36.out _ _ uhS46 fun _ => ?_
    try simp only [Act.put, List.setIfInBounds_toArray, List.set_cons_zero, List.set_cons_succ]
    refine wpAnyH_ready (rs := [7]) (by kernel_rfl) (by simp) ?_
    refine AllReadyH.cons rfl (fun uK47 huK47 => ?_) AllReadyH.nil
    have HuK47 := Lib.hid huK47
    clear huK47
    rw [if_pos (by rfl)]
    refine wp_alloc8 rfl ?_
    obtain ⟨ux48, hxb⟩ : ∃ q, ux37.alloc (.cells (bcs zeroB.1) 33) = q := ⟨_, rfl⟩
    have hbx : Below uwz28.heap.size uwz28 ux48 := by rw [← hxb]; exact uQ40.out.alloc uQ40.out.size _
    have hnr : Row ux48 ux37.heap.size 33 (bcs zeroB.1) := by rw [← hxb]; exact row_new _ _ _
    have h := Row.alloc urw38.out (.cells (bcs zeroB.1) 33)
    rw [hxb] at h
    have urw51 := Lib.hid h
    clear h
    have NE : Hid (na < ux37.heap.size) := Lib.hid (Row.lt urw38.out)
    have hle : uwz28.heap.size ≤ ux37.heap.size := uQ40.out.size
    obtain ⟨nb, hnm⟩ : ∃ q, ux37.heap.size = q := ⟨_, rfl⟩
    have Lnb : Hid (uwz28.heap.size ≤ nb) := Lib.hid (by rw [← hnm]; exact hle)
    rw [hnm] at hnr NE
    rw [hxb, hnm]
    have urw49 := Lib.hid hnr
    clear hnr hle
    have hQ : Below uwz28.heap.size uwz28 ux48 := hbx
    have uQ52 := Lib.hid hQ
    have uhq53 : Below uwz28.heap.size uwz28 ux48 := hQ
    have uG_54 := Lib.hid (OwnB.to uG_31.out uhq53)
    have uCX_55 := Lib.hid (At8.to uCX_32.out uhq53)
    have uCY_56 := Lib.hid (At8.to uCY_33.out uhq53)
    have uHB_57 : Hid (Below w.heap.size w ux48) := Lib.hid (uHB_34.out.trans (uhq53.mono uHB_34.out.size))
    clear uhq53
    clear hQ
    clear hbx hxb hnm
    have uhS58 : (fun w' : World => At8 w' bx 3 x ∧ At8 w' bx 11 y) ux48 := ⟨uCX_55.out, uCY_56.out⟩
    refine HuK47.out _ _ uhS58 fun _ => ?_
    try simp only [Act.put, List.setIfInBounds_toArray, List.set_cons_zero, List.set_cons_succ]
    refine wpAnyH_ready (rs := [8]) (by kernel_rfl) (by simp) ?_
    refine AllReadyH.cons rfl (fun uK59 huK59 => ?_) AllReadyH.nil
    have HuK59 := Lib.hid huK59
    clear huK59
    rw [if_pos (by rfl)]
    have th : ux48.there na 0 (bcs x).size := by rw [bcs_size, x8.1]; exact Row.there8 urw51.out (by rfl)
    refine wp_store8 _ _ _ rfl _ _ x rfl rfl th (size8 x8.1) ?_
    clear th
    obtain ⟨ux60, hxb⟩ : ∃ q, ux48.setCells na 0 (x.map bv) = q := ⟨_, rfl⟩
    have hbx : Below uwz28.heap.size uwz28 ux60 := by rw [← hxb]; exact below_setCells uQ52.out _ _ _ Lna.out
    have h := Row.put urw51.out (by rfl) x8.1
    rw [hxb] at h
    have urw61 := Lib.hid h
    clear h
    have h := Row.otherCells urw49.out (k := na) (by have := NE.out; omega) (x.map bv) 0
    rw [hxb] at h
    have urw62 := Lib.hid h
    clear h
    rw [hxb]
    have hQ : Below uwz28.heap.size uwz28 ux60 := hbx
    have uQ63 := Lib.hid hQ
    have uhq64 : Below uwz28.heap.size uwz28 ux60 := hQ
    have uG_65 := Lib.hid (OwnB.to uG_31.out uhq64)
    have uCX_66 := Lib.hid (At8.to uCX_32.out uhq64)
    have uCY_67 := Lib.hid (At8.to uCY_33.out uhq64)
    have uHB_68 : Hid (Below w.heap.size w ux60) := Lib.hid (uHB_34.out.trans (uhq64.mono uHB_34.out.size))
    clear uhq64
    clear hQ
    clear hbx hxb
    have uhS69 : (fun w' : World => At8 w' bx 3 x ∧ At8 w' bx 11 y) ux60 := ⟨uCX_66.out, uCY_67.out⟩
    refine HuK59.out _ _ uhS69 fun _ => ?_
    refine wpAnyH_ready (rs := [9]) (by kernel_rfl) (by simp) ?_
    refine AllReadyH.cons rfl (fun uK70 huK70 => ?_) AllReadyH.nil
    have HuK70 := Lib.hid huK70
    clear huK70
    rw [if_pos (by rfl)]
    have th : ux60.there nb 0 (bcs y).size := by rw [bcs_size, y8.1]; exact Row.there8 urw62.out (by rfl)
    refine wp_store8 _ _ _ rfl _ _ y rfl rfl th (size8 y8.1) ?_
    clear th
    obtain ⟨ux71, hxb⟩ : ∃ q, ux60.setCells nb 0 (y.map bv) = q := ⟨_, rfl⟩
    have hbx : Below uwz28.heap.size uwz28 ux71 := by rw [← hxb]; exact below_setCells uQ63.out _ _ _ Lnb.out
    have h := Row.put urw62.out (by rfl) y8.1
    rw [hxb] at h
    have urw72 := Lib.hid h
    clear h
    have h := Row.otherCells urw61.out (k := nb) (by have := NE.out; omega) (y.map bv) 0
    rw [hxb] at h
    have urw73 := Lib.hid h
    clear h
    rw [hxb]
    have hQ : Below uwz28.heap.size uwz28 ux71 := hbx
    have uQ74 := Lib.hid hQ
    have uhq75 : Below uwz28.heap.size uwz28 ux71 := hQ
    have uG_76 := Lib.hid (OwnB.to uG_31.out uhq75)
    have uCX_77 := Lib.hid (At8.to uCX_32.out uhq75)
    have uCY_78 := Lib.hid (At8.to uCY_33.out uhq75)
    have uHB_79 : Hid (Below w.heap.size w ux71) := Lib.hid (uHB_34.out.trans (uhq75.mono uHB_34.out.size))
    clear uhq75
    clear hQ
    clear hbx hxb
    have uhS80 : (fun w' : World => At8 w' bx 3 x ∧ At8 w' bx 11 y) ux71 := ⟨uCX_77.out, uCY_78.out⟩
    refine HuK70.out _ _ uhS80 fun _ => ?_
    refine wpAnyH_done (by kernel_rfl) ?_ _
    have XA := Lib.hid (Row.at8 urw73.out)
    have YB := Lib.hid (Row.at8 urw72.out)
    have GLT := Lib.hid (show gg < _ from (uG_31.out.lt gg rfl).2)
    go_wp2_with (first | (refine wpList_load8 rfl _ _ rfl _ _ rfl x _ XA.out Try.underlying33 rfl (size8 x8.1) ?_) | (refine wpList_load8w (by rfl) _ _ rfl _ _ rfl y _ YB.out Try.underlying33 rfl (size8 y8.1) ?_))
    go_ret
    exact ⟨by first | rfl | simp, uHB_79.out⟩
  · have HuK36 := Lib.hid hK
    clear hK
    rw [if_pos (by rfl)]
    refine wp_alloc8 rfl ?_
    obtain ⟨ux37, hxb⟩ : ∃ q, uwz28.alloc (.cells (bcs zeroB.1) 33) = q := ⟨_, rfl⟩
    have hbx : Below uwz28.heap.size uwz28 ux37 := by rw [← hxb]; exact (Below.refl _ _).alloc (Nat.le_refl _) _
    have hnr : Row ux37 uwz28.heap.size 33 (bcs zeroB.1) := by rw [← hxb]; exact row_new _ _ _
    have hle : uwz28.heap.size ≤ uwz28.heap.size := Nat.le_refl _
    obtain ⟨nb, hnm⟩ : ∃ q, uwz28.heap.size = q := ⟨_, rfl⟩
    have Lnb : Hid (uwz28.heap.size ≤ nb) := Lib.hid (by rw [← hnm]; exact hle)
    rw [hnm] at hnr
    rw [hxb, hnm]
    have urw38 := Lib.hid hnr
    clear hnr hle
    have hQ : Below uwz28.heap.size uwz28 ux37 := hbx
    have uQ40 := Lib.hid hQ
    have uhq41 : Below uwz28.heap.size uwz28 ux37 := hQ
    have uG_42 := Lib.hid (OwnB.to uG_31.out uhq41)
    have uCX_43 := Lib.hid (At8.to uCX_32.out uhq41)
    have uCY_44 := Lib.hid (At8.to uCY_33.out uhq41)
    have uHB_45 : Hid (Below w.heap.size w ux37) := Lib.hid (uHB_34.out.trans (uhq41.mono uHB_34.out.size))
    clear uhq41
    clear hQ
    clear hbx hxb hnm
    have uhS46 : (fun w' : World => At8 w' bx 3 x ∧ At8 w' bx 11 y) ux37 := ⟨uCX_43.out, uCY_44.out⟩
    refine HuK36.out _ _ uhS46 fun _ => ?_
    try simp only [Act.put, List.setIfInBounds_toArray, List.set_cons_zero, List.set_cons_succ]
    refine wpAnyH_ready (rs := [6]) (by kernel_rfl) (by simp) ?_
    refine AllReadyH.cons rfl (fun uK47 huK47 => ?_) AllReadyH.nil
    have HuK47 := Lib.hid huK47
    clear huK47
    rw [if_pos (by rfl)]
    refine wp_alloc8 rfl ?_
    obtain ⟨ux48, hxb⟩ : ∃ q, ux37.alloc (.cells (bcs zeroB.1) 33) = q := ⟨_, rfl⟩
    have hbx : Below uwz28.heap.size uwz28 ux48 := by rw [← hxb]; exact uQ40.out.alloc uQ40.out.size _
    have hnr : Row ux48 ux37.heap.size 33 (bcs zeroB.1) := by rw [← hxb]; exact row_new _ _ _
    have h := Row.alloc urw38.out (.cells (bcs zeroB.1) 33)
    rw [hxb] at h
    have urw51 := Lib.hid h
    clear h
    have NE : Hid (nb < ux37.heap.size) := Lib.hid (Row.lt urw38.out)
    have hle : uwz28.heap.size ≤ ux37.heap.size := uQ40.out.size
    obtain ⟨na, hnm⟩ : ∃ q, ux37.heap.size = q := ⟨_, rfl⟩
    have Lna : Hid (uwz28.heap.size ≤ na) := Lib.hid (by rw [← hnm]; exact hle)
    rw [hnm] at hnr NE
    rw [hxb, hnm]
    have urw49 := Lib.hid hnr
    clear hnr hle
    have hQ : Below uwz28.heap.size uwz28 ux48 := hbx
    have uQ52 := Lib.hid hQ
    have uhq53 : Below uwz28.heap.size uwz28 ux48 := hQ
    have uG_54 := Lib.hid (OwnB.to uG_31.out uhq53)
    have uCX_55 := Lib.hid (At8.to uCX_32.out uhq53)
    have uCY_56 := Lib.hid (At8.to uCY_33.out uhq53)
    have uHB_57 : Hid (Below w.heap.size w ux48) := Lib.hid (uHB_34.out.trans (uhq53.mono uHB_34.out.size))
    clear uhq53
    clear hQ
    clear hbx hxb hnm
    have uhS58 : (fun w' : World => At8 w' bx 3 x ∧ At8 w' bx 11 y) ux48 := ⟨uCX_55.out, uCY_56.out⟩
    refine HuK47.out _ _ uhS58 fun _ => ?_
    try simp only [Act.put, List.setIfInBounds_toArray, List.set_cons_zero, List.set_cons_succ]
    refine wpAnyH_ready (rs := [8]) (by kernel_rfl) (by simp) ?_
    refine AllReadyH.cons rfl (fun uK59 huK59 => ?_) AllReadyH.nil
    have HuK59 := Lib.hid huK59
    clear huK59
    rw [if_pos (by rfl)]
    have th : ux48.there na 0 (bcs x).size := by rw [bcs_size, x8.1]; exact Row.there8 urw49.out (by rfl)
    refine wp_store8 _ _ _ rfl _ _ x rfl rfl th (size8 x8.1) ?_
    clear th
    obtain ⟨ux60, hxb⟩ : ∃ q, ux48.setCells na 0 (x.map bv) = q := ⟨_, rfl⟩
    have hbx : Below uwz28.heap.size uwz28 ux60 := by rw [← hxb]; exact below_setCells uQ52.out _ _ _ Lna.out
    have h := Row.put urw49.out (by rfl) x8.1
    rw [hxb] at h
    have urw61 := Lib.hid h
    clear h
    have h := Row.otherCells urw51.out (k := na) (by have := NE.out; omega) (x.map bv) 0
    rw [hxb] at h
    have urw62 := Lib.hid h
    clear h
    rw [hxb]
    have hQ : Below uwz28.heap.size uwz28 ux60 := hbx
    have uQ63 := Lib.hid hQ
    have uhq64 : Below uwz28.heap.size uwz28 ux60 := hQ
    have uG_65 := Lib.hid (OwnB.to uG_31.out uhq64)
    have uCX_66 := Lib.hid (At8.to uCX_32.out uhq64)
    have uCY_67 := Lib.hid (At8.to uCY_33.out uhq64)
    have uHB_68 : Hid (Below w.heap.size w ux60) := Lib.hid (uHB_34.out.trans (uhq64.mono uHB_34.out.size))
    clear uhq64
    clear hQ
    clear hbx hxb
    have uhS69 : (fun w' : World => At8 w' bx 3 x ∧ At8 w' bx 11 y) ux60 := ⟨uCX_66.out, uCY_67.out⟩
    refine HuK59.out _ _ uhS69 fun _ => ?_
    refine wpAnyH_ready (rs := [9]) (by kernel_rfl) (by simp) ?_
    refine AllReadyH.cons rfl (fun uK70 huK70 => ?_) AllReadyH.nil
    have HuK70 := Lib.hid huK70
    clear huK70
    rw [if_pos (by rfl)]
    have th : ux60.there nb 0 (bcs y).size := by rw [bcs_size, y8.1]; exact Row.there8 urw62.out (by rfl)
    refine wp_store8 _ _ _ rfl _ _ y rfl rfl th (size8 y8.1) ?_
    clear th
    obtain ⟨ux71, hxb⟩ : ∃ q, ux60.setCells nb 0 (y.map bv) = q := ⟨_, rfl⟩
    have hbx : Below uwz28.heap.size uwz28 ux71 := by rw [← hxb]; exact below_setCells uQ63.out _ _ _ Lnb.out
    have h := Row.put urw62.out (by rfl) y8.1
    rw [hxb] at h
    have urw72 := Lib.hid h
    clear h
    have h := Row.otherCells urw61.out (k := nb) (by have := NE.out; omega) (y.map bv) 0
    rw [hxb] at h
    have urw73 := Lib.hid h
    clear h
    rw [hxb]
    have hQ : Below uwz28.heap.size uwz28 ux71 := hbx
    have uQ74 := Lib.hid hQ
    have uhq75 : Below uwz28.heap.size uwz28 ux71 := hQ
    have uG_76 := Lib.hid (OwnB.to uG_31.out uhq75)
    have uCX_77 := Lib.hid (At8.to uCX_32.out uhq75)
    have uCY_78 := Lib.hid (At8.to uCY_33.out uhq75)
    have uHB_79 : Hid (Below w.heap.size w ux71) := Lib.hid (uHB_34.out.trans (uhq75.mono uHB_34.out.size))
    clear uhq75
    clear hQ
    clear hbx hxb
    have uhS80 : (fun w' : World => At8 w' bx 3 x ∧ At8 w' bx 11 y) ux71 := ⟨uCX_77.out, uCY_78.out⟩
    refine HuK70.out _ _ uhS80 fun _ => ?_
    refine wpAnyH_done (by kernel_rfl) ?_ _
    have XA := Lib.hid (Row.at8 urw73.out)
    have YB := Lib.hid (Row.at8 urw72.out)
    have GLT := Lib.hid (show gg < _ from (uG_31.out.lt gg rfl).2)
    go_wp2_with (first | (refine wpList_load8 rfl _ _ rfl _ _ rfl x _ XA.out Try.underlying33 rfl (size8 x8.1) ?_) | (refine wpList_load8w (by rfl) _ _ rfl _ _ rfl y _ YB.out Try.underlying33 rfl (size8 y8.1) ?_))
    go_ret
    exact ⟨by first | rfl | simp, uHB_79.out⟩
end Go.Proofs.Ytheijobnmdbodaa
