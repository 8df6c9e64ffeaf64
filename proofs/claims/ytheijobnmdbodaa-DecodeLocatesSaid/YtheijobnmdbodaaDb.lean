/- Contracts: decode's Combine, the reference's Combine. WRITTEN BY gen_Db.py. -/
import Derived.Test.YtheijobnmdbodaaDa
import Derived.Test.YtheijobnmdbodaaGI
namespace Go.Proofs.Ytheijobnmdbodaa
open Go Go.RowKit Lin
set_option linter.unusedVariables false
set_option linter.unusedSimpArgs false

theorem Row.to {w w' : World} {g : Nat} {t : TypeId} {cs : Array Value} (h : Row w g t cs) (hb : Below w.heap.size w w') : Row w' g t cs := h.below hb h.lt
theorem cellTo {w w' : World} {p : Addr} {u : Value} (h : w.cell? p = some u) (hb : Below w.heap.size w w') : w'.cell? p = some u := (hb.cell (World.block_lt_of_cell? w _ h)).trans h
theorem Bs.to {w w' : World} {v : Value} {l : List Nat} (h : Bs w v l) (hb : Below w.heap.size w w') : Bs w' v l := h.below hb
theorem At8.to {w w' : World} {b o : Nat} {l : List Nat} (h : At8 w b o l) (hb : Below w.heap.size w w') : At8 w' b o l := rangeTo h hb
/-- The sum of the first k multiples. -/
def prt (l : List Nat) (D : List (List Nat)) (k : Nat) : List Nat := blk fun b => xs k (fun i => Gf.mul (l.getD i 0) (el D i b))
theorem prt_ok {l : List Nat} (hl : ∀ x ∈ l, x < 256) (D : List (List Nat)) (k : Nat) : B8 (prt l D k) := blk_ok fun _ _ => xs_lt _ _ fun i _ => Gf.mul_lt _ _ (getD_bytes hl i)
theorem prt_zero (l : List Nat) (D : List (List Nat)) : bcs (prt l D 0) = #[.int .u8 0, .int .u8 0, .int .u8 0, .int .u8 0, .int .u8 0, .int .u8 0, .int .u8 0, .int .u8 0] := rfl
theorem prt_all {l : List Nat} {D : List (List Nat)} : prt l D l.length = combB l D := rfl
theorem prt_succ (l : List Nat) (D : List (List Nat)) (k : Nat) : prt l D (k + 1) = xorB (prt l D k) (sclB (l.getD k 0) (D.getD k [])) :=
  blk_congr fun b hb => by rw [prt, blk_at _ hb, sclB, blk_at _ hb, xs_succ]; rfl
theorem plus_b (a b s : List Nat) (w : World) (ha : B8 a) (hb : B8 b) (hs : xorB a b = s) : Calls Try.prog 36 #[.agg (bcs a), .agg (bcs b)] w (bPost (.agg (bcs s)) w) :=
  (plus_any a b w ha hb).mono fun _ _ ⟨he, hb⟩ => ⟨by rw [he, hs]; rfl, hb⟩
theorem mulb_b (a : List Nat) (c : Nat) (s : List Nat) (w : World) (ha : B8 a) (hc : c < 256) (hs : sclB c a = s) : Calls Try.prog 37 #[.agg (bcs a), .int .u8 (c : Int)] w (bPost (.agg (bcs s)) w) :=
  (mulb_any a c w ha hc).mono fun _ _ ⟨he, hb⟩ => ⟨by rw [he, hs]; rfl, hb⟩
theorem new8 {w : World} {l : List Nat} (hl : l.length = 8) : (w.alloc (.cells #[.int .u8 0, .int .u8 0, .int .u8 0, .int .u8 0, .int .u8 0, .int .u8 0, .int .u8 0, .int .u8 0] 33)).there w.heap.size 0 (bcs l).size := (row_new w #[.int .u8 0, .int .u8 0, .int .u8 0, .int .u8 0, .int .u8 0, .int .u8 0, .int .u8 0, .int .u8 0] 33).there (by rw [bcs_size, hl]; exact Nat.le_refl _)
theorem put8 {w : World} {l : List Nat} (hl : l.length = 8) : Row ((w.alloc (.cells #[.int .u8 0, .int .u8 0, .int .u8 0, .int .u8 0, .int .u8 0, .int .u8 0, .int .u8 0, .int .u8 0] 33)).setCells w.heap.size 0 (l.map bv)) w.heap.size 33 (bcs l) := (row_new w #[.int .u8 0, .int .u8 0, .int .u8 0, .int .u8 0, .int .u8 0, .int .u8 0, .int .u8 0, .int .u8 0] 33).put rfl hl
theorem new8_below (w : World) (l : List Nat) : Below w.heap.size w ((w.alloc (.cells #[.int .u8 0, .int .u8 0, .int .u8 0, .int .u8 0, .int .u8 0, .int .u8 0, .int .u8 0, .int .u8 0] 33)).setCells w.heap.size 0 (l.map bv)) := below_setCells ((Below.refl w.heap.size w).alloc (Nat.le_refl _) _) _ _ _ (Nat.le_refl _)
theorem results_row_tmp {P : Program} {fn : Func} {p q : Tmp} {ty : TypeId} (h : fn.results = #[.cell p ty, .tmp q]) (tmps : Array Value) (w : World) (g : Nat) (t : TypeId) (cs : Array Value) (fr : Nat × Nat) (d : TypeDesc)
    (hp : tmps.getD p undef = .pointer (some ⟨g, 0, none⟩)) (hg : w.heap[g]? = some (.cells cs t fr))
    (hu : P.underlying ty = some d) (hd : (match d with | .struct _ | .array _ _ => true | _ => false) = true) (hi : (P.info? ty).map (·.size) = some cs.size) :
    (results fn tmps).run P w = .ok (.tuple #[.agg cs, tmps.getD q undef]) w := by
  have hp' : tmps[p]?.getD undef = .pointer (some ⟨g, 0, none⟩) := by simpa using hp
  simp [results, h, hp', asAddr, run_loadVar_row w g t ty cs fr d hg hu hd hi]
set_option maxHeartbeats 400000 in
set_option maxRecDepth 100000 in
theorem comb_err (v1 v2 : Value) (l : List Nat) (D : List (List Nat)) (w : World) (h1 : Bs w v1 l) (h2 : Bl w v2 D) (hl : l.length ≠ D.length) : Calls Try.prog 15 #[v1, v2] w (bPost (.tuple #[.agg (bcs zeroB.1), .int .i64 1]) w) := by
  have h1' := h1.len
  have h2' : D.length ≤ maxLen := by obtain ⟨_, _, _, hm, _⟩ := h2; omega
  obtain ⟨A1, c1, rfl⟩ := h1.form
  obtain ⟨A2, c2, rfl⟩ := h2.form
  obtain ⟨m, hm⟩ : ∃ m, l.length = m := ⟨_, rfl⟩
  obtain ⟨n, hn⟩ : ∃ n, D.length = n := ⟨_, rfl⟩
  rw [hm, hn] at hl
  rw [hm] at h1' ⊢
  rw [hn] at h2' ⊢
  have hm' : (m : Int) ≤ 9223372036854775807 := by unfold maxLen at h1'; omega
  have hn' : (n : Int) ≤ 9223372036854775807 := by unfold maxLen at h2'; omega
  have g : ((m : Int) != (n : Int)) = true := by simp; omega
  clear h1 h2 hm hn h1' h2'
  have TH := Lib.hid (new8 (w := w) (l := zeroB.1) zeroB.2.1)
  have SI := Lib.hid (size8 zeroB.2.1)
  have R5 := Lib.hid (put8 (w := w) (l := zeroB.1) zeroB.2.1)
  have B5 := Lib.hid (new8_below w zeroB.1)
  have ZZ : Hid ((#[.int .u8 0, .int .u8 0, .int .u8 0, .int .u8 0, .int .u8 0, .int .u8 0, .int .u8 0, .int .u8 0] : Array Value) = bcs zeroB.1) := Lib.hid rfl
  generalize zeroB.1 = z at TH SI R5 B5 ZZ ⊢
  go_enter Try.func15, Try.ntmps15
  go_wp2_with (refine wpList_store8 rfl _ _ _ rfl _ 0 _ rfl (congrArg Value.agg ZZ.out) TH.out SI.out ?_)
  refine bodyPost_ret (results_row_tmp (g := w.heap.size) (t := 33) (fr := (0, 0)) rfl _ _ _ _ rfl R5.out Try.underlying33 rfl SI.out) rfl ?_
  exact ⟨rfl, B5.out⟩

set_option maxHeartbeats 4000000 in
set_option maxRecDepth 100000 in
theorem comb_ok (v1 v2 : Value) (l : List Nat) (D : List (List Nat)) (w : World) (h1 : Bs w v1 l) (h2 : Bl w v2 D) (hl : l.length = D.length) (hm : l.length ≤ 1000) : Calls Try.prog 15 #[v1, v2] w (bPost (.tuple #[.agg (bcs (combB l D)), .int .i64 0]) w) := by
  have h1' := h1.len
  have H1 := Lib.hid h1
  have H2 := Lib.hid h2
  obtain ⟨A1, c1, rfl⟩ := h1.form
  obtain ⟨A2, c2, rfl⟩ := h2.form
  obtain ⟨n, hn⟩ : ∃ n, l.length = n := ⟨_, rfl⟩
  have N1 := Lib.hid hn
  have N2 := Lib.hid (hl.symm.trans hn)
  rw [← hl]
  rw [hn] at h1' hm ⊢
  rw [← hl, hn] at H2
  rw [hn] at H1
  have hn' : (n : Int) ≤ 9223372036854775807 := by unfold maxLen at h1'; omega
  have SI := Lib.hid fun (l : List Nat) (h : l.length = 8) => size8 h
  have L8 := Lib.hid h1.lt
  have D8 := Lib.hid h2.ok
  clear h1 h2 hl hn h1'
  have g0 : ((n : Int) != (n : Int)) = false := by simp
  go_enter Try.func15, Try.ntmps15
  go_wp2_with fail
  go_loopw [7, 8, 17] (fun _ _ q wr => ∃ k : Nat, k ≤ n ∧ q = .int .i64 (k : Int) ∧ Hid (Below w.heap.size w wr ∧ Row wr (w.heap.size + 1) 33 (bcs (prt l D k)) ∧ Row wr w.heap.size 33 #[.int .u8 0, .int .u8 0, .int .u8 0, .int .u8 0, .int .u8 0, .int .u8 0, .int .u8 0, .int .u8 0])) (fun _ _ q _ => n - (intOf q).toNat)
  case atStart => exact ⟨0, Nat.zero_le _, rfl, Lib.hid ⟨((Below.refl w.heap.size w).alloc (Nat.le_refl _) _).alloc (by simp) _, by rw [prt_zero]; exact row_at (by simp) _ _, (row_new _ _ _).alloc _⟩⟩
  case round =>
    obtain ⟨k, hk, rfl, H⟩ := hrel
    by_cases hlt : k < n
    · have hkI : (k : Int) < (n : Int) := by omega
      obtain ⟨hbel, r1, r0⟩ := H.out
      have hD' : k < D.length := by rw [N2.out]; exact hlt
      have b1 := Bs.at_ (H1.out.below hbel) (by rw [N1.out]; omega)
      rw [N1.out] at b1
      obtain ⟨bw, ow, cw, hv, -, hc⟩ := b1
      injection hv with e1 e2 e3
      subst e1
      have APW : Hid (bw < w.heap.size) := Lib.hid (by
        have b0 := Bs.at_ H1.out (by rw [N1.out]; omega)
        rw [N1.out] at b0
        obtain ⟨_, _, _, hv, -, hc0⟩ := b0
        injection hv with q1 q2 q3
        injection q1 with q1
        injection q1 with q1 q4
        subst q1 q4
        exact World.block_lt_of_cell? w _ (hc0 k hlt))
      have cw := hc k hlt
      clear hc e2 e3
      have b2 := (H2.out.below hbel (Nat.le_refl _))
      obtain ⟨bd, od, cd, hv, -, -, -⟩ := Bl.at_ b2 (by rw [N2.out]; omega)
      injection hv with e1 e2 e3
      subst e1
      clear e2 e3
      have APD : Hid (bd < w.heap.size) := Lib.hid (by
        obtain ⟨_, _, _, hv, -, hb0, -⟩ := Bl.at_ H2.out (by rw [N2.out]; omega)
        injection hv with q1 q2 q3
        injection q1 with q1
        injection q1 with q1 q4
        subst q1
        exact hb0)
      have dd := Bl.at8 b2 hD'
      have d8 : B8 (D.getD k []) := by rw [getD_in hD']; exact D8.out _ (List.getElem_mem hD')
      have x8 : l.getD k 0 < 256 := getD_bytes L8.out k
      have s8 := prt_ok L8.out D k
      obtain ⟨s', hs'⟩ : ∃ s', prt l D (k + 1) = s' := ⟨_, rfl⟩
      have PS := prt_succ l D k
      rw [hs'] at PS
      have s8' : B8 s' := hs' ▸ prt_ok L8.out D (k + 1)
      obtain ⟨s, hs⟩ : ∃ s, prt l D k = s := ⟨_, rfl⟩
      obtain ⟨x, hx⟩ : ∃ x, l.getD k 0 = x := ⟨_, rfl⟩
      obtain ⟨d, hd⟩ : ∃ d, D.getD k [] = d := ⟨_, rfl⟩
      rw [hs] at r1 s8 PS
      rw [hx] at cw x8 PS
      rw [hd] at dd d8 PS
      obtain ⟨m, hm⟩ : ∃ m, sclB x d = m := ⟨_, rfl⟩
      rw [hm] at PS
      have m8 : B8 m := hm ▸ sclB_ok x8 d8
      have R1 := Lib.hid r1
      have R0 := Lib.hid r0
      have HB := Lib.hid hbel
      have CW := Lib.hid cw
      have DD := Lib.hid dd
      have PS' := Lib.hid PS
      have HM := Lib.hid hm
      have HS' := Lib.hid hs'
      have TH := Lib.hid (new8 (w := wr) d8.1)
      have R5 := Lib.hid (put8 (w := wr) d8.1)
      have B5 := Lib.hid (new8_below wr d)
      clear r1 r0 hbel b2 hd hx hs PS hm H hs' 
      go_wp2_with (first | (refine wpList_load8 rfl _ _ rfl _ _ rfl d _ DD.out Try.underlying33 rfl (SI.out _ d8.1) ?_) | (refine wpList_store8 rfl _ _ _ rfl _ 0 _ rfl rfl TH.out (SI.out _ d8.1) ?_))
      obtain ⟨W2, hW2⟩ : ∃ W2, (wr.alloc (.cells #[.int .u8 0, .int .u8 0, .int .u8 0, .int .u8 0, .int .u8 0, .int .u8 0, .int .u8 0, .int .u8 0] 33)).setCells wr.heap.size 0 (d.map bv) = W2 := ⟨_, rfl⟩
      rw [hW2] at R5 B5 ⊢
      clear hW2
      have hq1 : Below wr.heap.size wr W2 := B5.out
      have S_2 := Lib.hid (Row.to R1.out hq1)
      have Z_3 := Lib.hid (Row.to R0.out hq1)
      have C_4 := Lib.hid (cellTo CW.out hq1)
      have E_5 := Lib.hid (At8.to DD.out hq1)
      have HB_6 : Hid (Below w.heap.size w W2) := Lib.hid (HB.out.trans (hq1.mono HB.out.size))
      clear hq1
      obtain ⟨Q, hQ⟩ : ∃ Q, wr.heap.size = Q := ⟨_, rfl⟩
      have lP : w.heap.size + 1 < wr.heap.size := R1.out.lt
      rw [hQ] at R5 lP ⊢
      clear hQ
      have hne : (⟨bw, ow + k, none⟩ : Addr).block ≠ w.heap.size + 1 := by have := APW.out; show bw ≠ _; omega
      have hne2 : bd ≠ w.heap.size + 1 := by have := APD.out; omega
      refine wp_region_held (P := Try.prog) (S := (fun w' : World => At8 w' Q 0 d ∧ w'.cell? ⟨bw, ow + k, none⟩ = some (.int .u8 (x : Int)))) rfl ?_
      change wpAnyH _ _ _ _ _ _ _ _ W2.drew
      have hz8 : Below W2.heap.size W2 W2.drew := (Below.refl W2.heap.size W2).drew
      generalize W2.drew = wz7 at hz8 ⊢
      have hq9 : Below W2.heap.size W2 wz7 := hz8
      have S_10 := Lib.hid (Row.to S_2.out hq9)
      have Z_11 := Lib.hid (Row.to Z_3.out hq9)
      have C_12 := Lib.hid (cellTo C_4.out hq9)
      have E_13 := Lib.hid (At8.to E_5.out hq9)
      have P_14 := Lib.hid (Row.to R5.out hq9)
      have HB_15 : Hid (Below w.heap.size w wz7) := Lib.hid (HB_6.out.trans (hq9.mono HB_6.out.size))
      clear hq9
      clear hz8
      have hS16 : (fun w' : World => At8 w' Q 0 d ∧ w'.cell? ⟨bw, ow + k, none⟩ = some (.int .u8 (x : Int))) wz7 := ⟨P_14.out.at8, C_12.out⟩
      refine takeD (i := 1) (v := .agg (bcs d)) (some 23) rfl rfl (by kernel_rfl) (by kernel_rfl) (by kernel_rfl) (fun _ _ _ h => h) (yieldsIf_load8 (by rfl) _ _ rfl _ _ rfl d _ (fun w' h => h.1) Try.underlying33 rfl (size8 d8.1)) hS16 ?_
      simp only [Act.put, List.setIfInBounds_toArray, List.set_cons_zero, List.set_cons_succ]
      refine takeD (i := 2) (v := .slice (some ⟨bw, ow, none⟩) n c1) (some 24) rfl rfl (by kernel_rfl) (by kernel_rfl) (by kernel_rfl) (fun _ _ _ h => h) (Or.inl ⟨by rfl, by rintro w' -; go_simp⟩) hS16 ?_
      simp only [Act.put, List.setIfInBounds_toArray, List.set_cons_zero, List.set_cons_succ]
      refine takeD (i := 3) (v := .int .i64 (k : Int)) (some 25) rfl rfl (by kernel_rfl) (by kernel_rfl) (by kernel_rfl) (fun _ _ _ h => h) (Or.inl ⟨by rfl, by rintro w' -; go_simp⟩) hS16 ?_
      simp only [Act.put, List.setIfInBounds_toArray, List.set_cons_zero, List.set_cons_succ]
      refine takeD (i := 4) (v := .pointer (some ⟨bw, ow + k * 1, none⟩)) (some 26) rfl rfl (by kernel_rfl) (by kernel_rfl) (by kernel_rfl) (fun _ _ _ h => h) (Or.inl ⟨by rfl, by rintro w' -; go_simp⟩) hS16 ?_
      simp only [Act.put, List.setIfInBounds_toArray, List.set_cons_zero, List.set_cons_succ]
      refine takeD (i := 5) (v := .int .u8 (x : Int)) (some 27) rfl rfl (by kernel_rfl) (by kernel_rfl) (by kernel_rfl) (fun _ _ _ h => h) (Or.inl ⟨by rfl, by rintro w' ⟨s1, s2⟩; go_simp⟩) hS16 ?_
      simp only [Act.put, List.setIfInBounds_toArray, List.set_cons_zero, List.set_cons_succ]
      refine wpAnyH_ready (rs := [0, 6]) (by kernel_rfl) (by simp) ?_
      refine AllReadyH.cons rfl (fun K hK => ?_) (AllReadyH.cons rfl (fun K hK => ?_) AllReadyH.nil)
      · have HK17 := Lib.hid hK
        clear hK
        rw [if_pos (by rfl)]
        refine wp_load8 _ _ rfl _ _ rfl s _ S_10.out.at8 Try.underlying33 rfl (size8 s8.1) ?_
        refine HK17.out _ _ hS16 fun _ => ?_
        try simp only [Act.put, List.setIfInBounds_toArray, List.set_cons_zero, List.set_cons_succ]
        refine wpAnyH_ready (rs := [6]) (by kernel_rfl) (by simp) ?_
        refine AllReadyH.cons rfl (fun K18 hK18 => ?_) AllReadyH.nil
        have HK18 := Lib.hid hK18
        clear hK18
        rw [if_pos (by rfl)]
        go_simp
        go_at_call 37
        refine (mulb_b d x m _ d8 x8 HM.out).mono ?_
        rintro e x19 ⟨rfl, hb⟩
        have hq20 : Below wz7.heap.size wz7 x19 := hb
        have S_21 := Lib.hid (Row.to S_10.out hq20)
        have Z_22 := Lib.hid (Row.to Z_11.out hq20)
        have C_23 := Lib.hid (cellTo C_12.out hq20)
        have E_24 := Lib.hid (At8.to E_13.out hq20)
        have P_25 := Lib.hid (Row.to P_14.out hq20)
        have HB_26 : Hid (Below w.heap.size w x19) := Lib.hid (HB_15.out.trans (hq20.mono HB_15.out.size))
        clear hq20
        clear hb
        have hS27 : (fun w' : World => At8 w' Q 0 d ∧ w'.cell? ⟨bw, ow + k, none⟩ = some (.int .u8 (x : Int))) x19 := ⟨P_25.out.at8, C_23.out⟩
        refine HK18.out _ _ hS27 fun _ => ?_
        try simp only [Act.put, List.setIfInBounds_toArray, List.set_cons_zero, List.set_cons_succ]
        refine wpAnyH_ready (rs := [7]) (by kernel_rfl) (by simp) ?_
        refine AllReadyH.cons rfl (fun K28 hK28 => ?_) AllReadyH.nil
        have HK28 := Lib.hid hK28
        clear hK28
        rw [if_pos (by rfl)]
        go_simp
        go_at_call 36
        refine (plus_b s m s' _ s8 m8 PS'.out.symm).mono ?_
        rintro e x29 ⟨rfl, hb⟩
        have hq30 : Below x19.heap.size x19 x29 := hb
        have S_31 := Lib.hid (Row.to S_21.out hq30)
        have Z_32 := Lib.hid (Row.to Z_22.out hq30)
        have C_33 := Lib.hid (cellTo C_23.out hq30)
        have E_34 := Lib.hid (At8.to E_24.out hq30)
        have P_35 := Lib.hid (Row.to P_25.out hq30)
        have HB_36 : Hid (Below w.heap.size w x29) := Lib.hid (HB_26.out.trans (hq30.mono HB_26.out.size))
        clear hq30
        clear hb
        have hS37 : (fun w' : World => At8 w' Q 0 d ∧ w'.cell? ⟨bw, ow + k, none⟩ = some (.int .u8 (x : Int))) x29 := ⟨P_35.out.at8, C_33.out⟩
        refine HK28.out _ _ hS37 fun _ => ?_
        try simp only [Act.put, List.setIfInBounds_toArray, List.set_cons_zero, List.set_cons_succ]
        refine wpAnyH_ready (rs := [8]) (by kernel_rfl) (by simp) ?_
        refine AllReadyH.cons rfl (fun K38 hK38 => ?_) AllReadyH.nil
        have HK38 := Lib.hid hK38
        clear hK38
        rw [if_pos (by rfl)]
        have th : x29.there (w.heap.size + 1) 0 (bcs s').size := S_31.out.there (by rw [bcs_size, bcs_size, s8.1, s8'.1]; exact Nat.le_refl _)
        refine wp_store8 _ _ _ rfl _ _ s' rfl rfl th (size8 s8'.1) ?_
        have ZS := Lib.hid (S_31.out.put (by rw [bcs_size, s8.1]) s8'.1)
        have ZB := Lib.hid (below_setCells HB_36.out (s'.map bv) (w.heap.size + 1) 0 (by omega))
        have ZZ := Lib.hid (Z_32.out.otherCells (k := w.heap.size + 1) (by omega) (s'.map bv) 0)
        have ZC := Lib.hid ((World.cell?_of_block (heap_setCells_other hne (s'.map bv) 0)).trans C_33.out)
        have ZP := Lib.hid (P_35.out.otherCells (k := w.heap.size + 1) (by omega) (s'.map bv) 0)
        have hS39 : (fun w' : World => At8 w' Q 0 d ∧ w'.cell? ⟨bw, ow + k, none⟩ = some (.int .u8 (x : Int))) (x29.setCells (w.heap.size + 1) 0 (s'.map bv)) := ⟨ZP.out.at8, ZC.out⟩
        refine HK38.out _ _ hS39 fun _ => ?_
        refine wpAnyH_done (by kernel_rfl) ?_ _
        go_wp2
        go_roundw
        case rel => exact ⟨k + 1, by omega, by go_num, Lib.hid ⟨ZB.out, by rw [HS'.out]; exact ZS.out, ZZ.out⟩⟩
        case measure => simp [intOf]; omega
      · have HK17 := Lib.hid hK
        clear hK
        rw [if_pos (by rfl)]
        go_simp
        go_at_call 37
        refine (mulb_b d x m _ d8 x8 HM.out).mono ?_
        rintro e x18 ⟨rfl, hb⟩
        have hq19 : Below wz7.heap.size wz7 x18 := hb
        have S_20 := Lib.hid (Row.to S_10.out hq19)
        have Z_21 := Lib.hid (Row.to Z_11.out hq19)
        have C_22 := Lib.hid (cellTo C_12.out hq19)
        have E_23 := Lib.hid (At8.to E_13.out hq19)
        have P_24 := Lib.hid (Row.to P_14.out hq19)
        have HB_25 : Hid (Below w.heap.size w x18) := Lib.hid (HB_15.out.trans (hq19.mono HB_15.out.size))
        clear hq19
        clear hb
        have hS26 : (fun w' : World => At8 w' Q 0 d ∧ w'.cell? ⟨bw, ow + k, none⟩ = some (.int .u8 (x : Int))) x18 := ⟨P_24.out.at8, C_22.out⟩
        refine HK17.out _ _ hS26 fun _ => ?_
        try simp only [Act.put, List.setIfInBounds_toArray, List.set_cons_zero, List.set_cons_succ]
        refine wpAnyH_ready (rs := [0]) (by kernel_rfl) (by simp) ?_
        refine AllReadyH.cons rfl (fun K27 hK27 => ?_) AllReadyH.nil
        have HK27 := Lib.hid hK27
        clear hK27
        rw [if_pos (by rfl)]
        refine wp_load8 _ _ rfl _ _ rfl s _ S_20.out.at8 Try.underlying33 rfl (size8 s8.1) ?_
        refine HK27.out _ _ hS26 fun _ => ?_
        try simp only [Act.put, List.setIfInBounds_toArray, List.set_cons_zero, List.set_cons_succ]
        refine wpAnyH_ready (rs := [7]) (by kernel_rfl) (by simp) ?_
        refine AllReadyH.cons rfl (fun K28 hK28 => ?_) AllReadyH.nil
        have HK28 := Lib.hid hK28
        clear hK28
        rw [if_pos (by rfl)]
        go_simp
        go_at_call 36
        refine (plus_b s m s' _ s8 m8 PS'.out.symm).mono ?_
        rintro e x29 ⟨rfl, hb⟩
        have hq30 : Below x18.heap.size x18 x29 := hb
        have S_31 := Lib.hid (Row.to S_20.out hq30)
        have Z_32 := Lib.hid (Row.to Z_21.out hq30)
        have C_33 := Lib.hid (cellTo C_22.out hq30)
        have E_34 := Lib.hid (At8.to E_23.out hq30)
        have P_35 := Lib.hid (Row.to P_24.out hq30)
        have HB_36 : Hid (Below w.heap.size w x29) := Lib.hid (HB_25.out.trans (hq30.mono HB_25.out.size))
        clear hq30
        clear hb
        have hS37 : (fun w' : World => At8 w' Q 0 d ∧ w'.cell? ⟨bw, ow + k, none⟩ = some (.int .u8 (x : Int))) x29 := ⟨P_35.out.at8, C_33.out⟩
        refine HK28.out _ _ hS37 fun _ => ?_
        try simp only [Act.put, List.setIfInBounds_toArray, List.set_cons_zero, List.set_cons_succ]
        refine wpAnyH_ready (rs := [8]) (by kernel_rfl) (by simp) ?_
        refine AllReadyH.cons rfl (fun K38 hK38 => ?_) AllReadyH.nil
        have HK38 := Lib.hid hK38
        clear hK38
        rw [if_pos (by rfl)]
        have th : x29.there (w.heap.size + 1) 0 (bcs s').size := S_31.out.there (by rw [bcs_size, bcs_size, s8.1, s8'.1]; exact Nat.le_refl _)
        refine wp_store8 _ _ _ rfl _ _ s' rfl rfl th (size8 s8'.1) ?_
        have ZS := Lib.hid (S_31.out.put (by rw [bcs_size, s8.1]) s8'.1)
        have ZB := Lib.hid (below_setCells HB_36.out (s'.map bv) (w.heap.size + 1) 0 (by omega))
        have ZZ := Lib.hid (Z_32.out.otherCells (k := w.heap.size + 1) (by omega) (s'.map bv) 0)
        have ZC := Lib.hid ((World.cell?_of_block (heap_setCells_other hne (s'.map bv) 0)).trans C_33.out)
        have ZP := Lib.hid (P_35.out.otherCells (k := w.heap.size + 1) (by omega) (s'.map bv) 0)
        have hS39 : (fun w' : World => At8 w' Q 0 d ∧ w'.cell? ⟨bw, ow + k, none⟩ = some (.int .u8 (x : Int))) (x29.setCells (w.heap.size + 1) 0 (s'.map bv)) := ⟨ZP.out.at8, ZC.out⟩
        refine HK38.out _ _ hS39 fun _ => ?_
        refine wpAnyH_done (by kernel_rfl) ?_ _
        go_wp2
        go_roundw
        case rel => exact ⟨k + 1, by omega, by go_num, Lib.hid ⟨ZB.out, by rw [HS'.out]; exact ZS.out, ZZ.out⟩⟩
        case measure => simp [intOf]; omega
    · obtain rfl : k = n := by omega
      obtain ⟨hbel, r1, r0⟩ := H.out
      have s8 := prt_ok L8.out D k
      have hE : prt l D k = combB l D := by rw [← N1.out]; rfl
      rw [hE] at r1 s8
      obtain ⟨s, hs⟩ : ∃ s, combB l D = s := ⟨_, rfl⟩
      rw [hs] at r1 s8
      have R1 := Lib.hid r1
      have TH := Lib.hid (r0.there (n := (bcs s).size) (by rw [bcs_size, s8.1]; exact Nat.le_refl _))
      have R5 := Lib.hid (r0.put rfl s8.1)
      have B5 := Lib.hid (below_setCells hbel (s.map bv) w.heap.size 0 (Nat.le_refl _))
      have SS := Lib.hid (size8 s8.1)
      have HCB := Lib.hid hs
      clear r1 r0 hbel hE hs s8 H
      go_wp2_with (first | (refine wpList_load_row rfl _ _ rfl _ rfl _ _ (0, 0) _ R1.out Try.underlying33 rfl SS.out ?_) | (refine wpList_store8 rfl _ _ _ rfl _ 0 _ rfl rfl TH.out SS.out ?_))
      refine bodyPost_ret (results_row_tmp (g := w.heap.size) (t := 33) (fr := (0, 0)) rfl _ _ _ _ rfl R5.out Try.underlying33 rfl SS.out) rfl ?_
      exact ⟨by rw [HCB.out]; rfl, B5.out⟩
set_option maxHeartbeats 4000000 in
set_option maxRecDepth 100000 in
theorem rcomb_ok (v1 v2 : Value) (l : List Nat) (D : List (List Nat)) (w : World) (h1 : Bs w v1 l) (h2 : Bl w v2 D) (hl : l.length = D.length) (hm : l.length ≤ 1000) : Calls Try.prog 16 #[v1, v2] w (bPost (.agg (bcs (combB l D))) w) := by
  have h1' := h1.len
  have H1 := Lib.hid h1
  have H2 := Lib.hid h2
  obtain ⟨A1, c1, rfl⟩ := h1.form
  obtain ⟨A2, c2, rfl⟩ := h2.form
  obtain ⟨n, hn⟩ : ∃ n, l.length = n := ⟨_, rfl⟩
  have N1 := Lib.hid hn
  have N2 := Lib.hid (hl.symm.trans hn)
  rw [← hl]
  rw [hn] at h1' hm ⊢
  rw [← hl, hn] at H2
  rw [hn] at H1
  have hn' : (n : Int) ≤ 9223372036854775807 := by unfold maxLen at h1'; omega
  have SI := Lib.hid fun (l : List Nat) (h : l.length = 8) => size8 h
  have L8 := Lib.hid h1.lt
  have D8 := Lib.hid h2.ok
  clear h1 h2 hl hn h1'
  go_enter Try.func16, Try.ntmps16
  go_wp2_with fail
  go_loopw [6] (fun q wr => ∃ k : Nat, k ≤ n ∧ q = .int .i64 (k : Int) ∧ Hid (Below w.heap.size w wr ∧ Row wr (w.heap.size + 1) 33 (bcs (prt l D k)) ∧ Row wr w.heap.size 33 #[.int .u8 0, .int .u8 0, .int .u8 0, .int .u8 0, .int .u8 0, .int .u8 0, .int .u8 0, .int .u8 0])) (fun q _ => n - (intOf q).toNat)
  case atStart => exact ⟨0, Nat.zero_le _, rfl, Lib.hid ⟨((Below.refl w.heap.size w).alloc (Nat.le_refl _) _).alloc (by simp) _, by rw [prt_zero]; exact row_at (by simp) _ _, (row_new _ _ _).alloc _⟩⟩
  case round =>
    obtain ⟨k, hk, rfl, H⟩ := hrel
    by_cases hlt : k < n
    · have hkI : (k : Int) < (n : Int) := by omega
      obtain ⟨hbel, r1, r0⟩ := H.out
      have hD' : k < D.length := by rw [N2.out]; exact hlt
      have b1 := Bs.at_ (H1.out.below hbel) (by rw [N1.out]; omega)
      rw [N1.out] at b1
      obtain ⟨bw, ow, cw, hv, -, hc⟩ := b1
      injection hv with e1 e2 e3
      subst e1
      have APW : Hid (bw < w.heap.size) := Lib.hid (by
        have b0 := Bs.at_ H1.out (by rw [N1.out]; omega)
        rw [N1.out] at b0
        obtain ⟨_, _, _, hv, -, hc0⟩ := b0
        injection hv with q1 q2 q3
        injection q1 with q1
        injection q1 with q1 q4
        subst q1 q4
        exact World.block_lt_of_cell? w _ (hc0 k hlt))
      have cw := hc k hlt
      clear hc e2 e3
      have b2 := (H2.out.below hbel (Nat.le_refl _))
      obtain ⟨bd, od, cd, hv, -, -, -⟩ := Bl.at_ b2 (by rw [N2.out]; omega)
      injection hv with e1 e2 e3
      subst e1
      clear e2 e3
      have APD : Hid (bd < w.heap.size) := Lib.hid (by
        obtain ⟨_, _, _, hv, -, hb0, -⟩ := Bl.at_ H2.out (by rw [N2.out]; omega)
        injection hv with q1 q2 q3
        injection q1 with q1
        injection q1 with q1 q4
        subst q1
        exact hb0)
      have dd := Bl.at8 b2 hD'
      have d8 : B8 (D.getD k []) := by rw [getD_in hD']; exact D8.out _ (List.getElem_mem hD')
      have x8 : l.getD k 0 < 256 := getD_bytes L8.out k
      have s8 := prt_ok L8.out D k
      obtain ⟨s', hs'⟩ : ∃ s', prt l D (k + 1) = s' := ⟨_, rfl⟩
      have PS := prt_succ l D k
      rw [hs'] at PS
      have s8' : B8 s' := hs' ▸ prt_ok L8.out D (k + 1)
      obtain ⟨s, hs⟩ : ∃ s, prt l D k = s := ⟨_, rfl⟩
      obtain ⟨x, hx⟩ : ∃ x, l.getD k 0 = x := ⟨_, rfl⟩
      obtain ⟨d, hd⟩ : ∃ d, D.getD k [] = d := ⟨_, rfl⟩
      rw [hs] at r1 s8 PS
      rw [hx] at cw x8 PS
      rw [hd] at dd d8 PS
      obtain ⟨m, hm⟩ : ∃ m, sclB x d = m := ⟨_, rfl⟩
      rw [hm] at PS
      have m8 : B8 m := hm ▸ sclB_ok x8 d8
      have R1 := Lib.hid r1
      have R0 := Lib.hid r0
      have HB := Lib.hid hbel
      have CW := Lib.hid cw
      have DD := Lib.hid dd
      have PS' := Lib.hid PS
      have HM := Lib.hid hm
      have HS' := Lib.hid hs'
      have TH := Lib.hid (new8 (w := wr) d8.1)
      have R5 := Lib.hid (put8 (w := wr) d8.1)
      have B5 := Lib.hid (new8_below wr d)
      clear r1 r0 hbel b2 hd hx hs PS hm H hs' 
      go_wp2_with fail
      have hne : (⟨bw, ow + k, none⟩ : Addr).block ≠ w.heap.size + 1 := by have := APW.out; show bw ≠ _; omega
      have hne2 : bd ≠ w.heap.size + 1 := by have := APD.out; omega
      refine wp_region_held (P := Try.prog) (S := (fun w' : World => At8 w' bd (od + k * 8) d ∧ w'.cell? ⟨bw, ow + k, none⟩ = some (.int .u8 (x : Int)))) rfl ?_
      change wpAnyH _ _ _ _ _ _ _ _ wr.drew
      have hz2 : Below wr.heap.size wr wr.drew := (Below.refl wr.heap.size wr).drew
      generalize wr.drew = wz1 at hz2 ⊢
      have hq3 : Below wr.heap.size wr wz1 := hz2
      have S_4 := Lib.hid (Row.to R1.out hq3)
      have Z_5 := Lib.hid (Row.to R0.out hq3)
      have C_6 := Lib.hid (cellTo CW.out hq3)
      have E_7 := Lib.hid (At8.to DD.out hq3)
      have HB_8 : Hid (Below w.heap.size w wz1) := Lib.hid (HB.out.trans (hq3.mono HB.out.size))
      clear hq3
      clear hz2
      have hS9 : (fun w' : World => At8 w' bd (od + k * 8) d ∧ w'.cell? ⟨bw, ow + k, none⟩ = some (.int .u8 (x : Int))) wz1 := ⟨E_7.out, C_6.out⟩
      refine takeD (i := 1) (v := .slice (some ⟨bw, ow, none⟩) n c1) (some 14) rfl rfl (by kernel_rfl) (by kernel_rfl) (by kernel_rfl) (fun _ _ _ h => h) (Or.inl ⟨by rfl, by rintro w' -; go_simp⟩) hS9 ?_
      simp only [Act.put, List.setIfInBounds_toArray, List.set_cons_zero, List.set_cons_succ]
      refine takeD (i := 2) (v := .int .i64 (k : Int)) (some 15) rfl rfl (by kernel_rfl) (by kernel_rfl) (by kernel_rfl) (fun _ _ _ h => h) (Or.inl ⟨by rfl, by rintro w' -; go_simp⟩) hS9 ?_
      simp only [Act.put, List.setIfInBounds_toArray, List.set_cons_zero, List.set_cons_succ]
      refine takeD (i := 3) (v := .pointer (some ⟨bw, ow + k * 1, none⟩)) (some 16) rfl rfl (by kernel_rfl) (by kernel_rfl) (by kernel_rfl) (fun _ _ _ h => h) (Or.inl ⟨by rfl, by rintro w' -; go_simp⟩) hS9 ?_
      simp only [Act.put, List.setIfInBounds_toArray, List.set_cons_zero, List.set_cons_succ]
      refine takeD (i := 4) (v := .int .u8 (x : Int)) (some 17) rfl rfl (by kernel_rfl) (by kernel_rfl) (by kernel_rfl) (fun _ _ _ h => h) (Or.inl ⟨by rfl, by rintro w' ⟨s1, s2⟩; go_simp⟩) hS9 ?_
      simp only [Act.put, List.setIfInBounds_toArray, List.set_cons_zero, List.set_cons_succ]
      refine takeD (i := 5) (v := .slice (some ⟨bd, od, none⟩) n c2) (some 18) rfl rfl (by kernel_rfl) (by kernel_rfl) (by kernel_rfl) (fun _ _ _ h => h) (Or.inl ⟨by rfl, by rintro w' -; go_simp⟩) hS9 ?_
      simp only [Act.put, List.setIfInBounds_toArray, List.set_cons_zero, List.set_cons_succ]
      refine takeD (i := 6) (v := .int .i64 (k : Int)) (some 19) rfl rfl (by kernel_rfl) (by kernel_rfl) (by kernel_rfl) (fun _ _ _ h => h) (Or.inl ⟨by rfl, by rintro w' -; go_simp⟩) hS9 ?_
      simp only [Act.put, List.setIfInBounds_toArray, List.set_cons_zero, List.set_cons_succ]
      refine takeD (i := 7) (v := .pointer (some ⟨bd, od + k * 8, none⟩)) (some 20) rfl rfl (by kernel_rfl) (by kernel_rfl) (by kernel_rfl) (fun _ _ _ h => h) (Or.inl ⟨by rfl, by rintro w' -; go_simp⟩) hS9 ?_
      simp only [Act.put, List.setIfInBounds_toArray, List.set_cons_zero, List.set_cons_succ]
      refine takeD (i := 8) (v := .agg (bcs d)) (some 21) rfl rfl (by kernel_rfl) (by kernel_rfl) (by kernel_rfl) (fun _ _ _ h => h) (yieldsIf_load8 (by rfl) _ _ rfl _ _ rfl d _ (fun w' h => h.1) Try.underlying33 rfl (size8 d8.1)) hS9 ?_
      simp only [Act.put, List.setIfInBounds_toArray, List.set_cons_zero, List.set_cons_succ]
      refine wpAnyH_ready (rs := [0, 9]) (by kernel_rfl) (by simp) ?_
      refine AllReadyH.cons rfl (fun K hK => ?_) (AllReadyH.cons rfl (fun K hK => ?_) AllReadyH.nil)
      · have HK10 := Lib.hid hK
        clear hK
        rw [if_pos (by rfl)]
        refine wp_load8 _ _ rfl _ _ rfl s _ S_4.out.at8 Try.underlying33 rfl (size8 s8.1) ?_
        refine HK10.out _ _ hS9 fun _ => ?_
        try simp only [Act.put, List.setIfInBounds_toArray, List.set_cons_zero, List.set_cons_succ]
        refine wpAnyH_ready (rs := [9]) (by kernel_rfl) (by simp) ?_
        refine AllReadyH.cons rfl (fun K11 hK11 => ?_) AllReadyH.nil
        have HK11 := Lib.hid hK11
        clear hK11
        rw [if_pos (by rfl)]
        go_simp
        go_at_call 38
        refine (scl_b x d m _ x8 d8 HM.out).mono ?_
        rintro e x12 ⟨rfl, hb⟩
        have hq13 : Below wz1.heap.size wz1 x12 := hb
        have S_14 := Lib.hid (Row.to S_4.out hq13)
        have Z_15 := Lib.hid (Row.to Z_5.out hq13)
        have C_16 := Lib.hid (cellTo C_6.out hq13)
        have E_17 := Lib.hid (At8.to E_7.out hq13)
        have HB_18 : Hid (Below w.heap.size w x12) := Lib.hid (HB_8.out.trans (hq13.mono HB_8.out.size))
        clear hq13
        clear hb
        have hS19 : (fun w' : World => At8 w' bd (od + k * 8) d ∧ w'.cell? ⟨bw, ow + k, none⟩ = some (.int .u8 (x : Int))) x12 := ⟨E_17.out, C_16.out⟩
        refine HK11.out _ _ hS19 fun _ => ?_
        try simp only [Act.put, List.setIfInBounds_toArray, List.set_cons_zero, List.set_cons_succ]
        refine wpAnyH_ready (rs := [10]) (by kernel_rfl) (by simp) ?_
        refine AllReadyH.cons rfl (fun K20 hK20 => ?_) AllReadyH.nil
        have HK20 := Lib.hid hK20
        clear hK20
        rw [if_pos (by rfl)]
        go_simp
        go_at_call 26
        refine (xor_b s m s' _ s8 m8 PS'.out.symm).mono ?_
        rintro e x21 ⟨rfl, hb⟩
        have hq22 : Below x12.heap.size x12 x21 := hb
        have S_23 := Lib.hid (Row.to S_14.out hq22)
        have Z_24 := Lib.hid (Row.to Z_15.out hq22)
        have C_25 := Lib.hid (cellTo C_16.out hq22)
        have E_26 := Lib.hid (At8.to E_17.out hq22)
        have HB_27 : Hid (Below w.heap.size w x21) := Lib.hid (HB_18.out.trans (hq22.mono HB_18.out.size))
        clear hq22
        clear hb
        have hS28 : (fun w' : World => At8 w' bd (od + k * 8) d ∧ w'.cell? ⟨bw, ow + k, none⟩ = some (.int .u8 (x : Int))) x21 := ⟨E_26.out, C_25.out⟩
        refine HK20.out _ _ hS28 fun _ => ?_
        try simp only [Act.put, List.setIfInBounds_toArray, List.set_cons_zero, List.set_cons_succ]
        refine wpAnyH_ready (rs := [11]) (by kernel_rfl) (by simp) ?_
        refine AllReadyH.cons rfl (fun K29 hK29 => ?_) AllReadyH.nil
        have HK29 := Lib.hid hK29
        clear hK29
        rw [if_pos (by rfl)]
        have th : x21.there (w.heap.size + 1) 0 (bcs s').size := S_23.out.there (by rw [bcs_size, bcs_size, s8.1, s8'.1]; exact Nat.le_refl _)
        refine wp_store8 _ _ _ rfl _ _ s' rfl rfl th (size8 s8'.1) ?_
        have ZS := Lib.hid (S_23.out.put (by rw [bcs_size, s8.1]) s8'.1)
        have ZB := Lib.hid (below_setCells HB_27.out (s'.map bv) (w.heap.size + 1) 0 (by omega))
        have ZZ := Lib.hid (Z_24.out.otherCells (k := w.heap.size + 1) (by omega) (s'.map bv) 0)
        have ZC := Lib.hid ((World.cell?_of_block (heap_setCells_other hne (s'.map bv) 0)).trans C_25.out)
        have ZP := Lib.hid (World.rangeAt_setCells_apart E_26.out (w.heap.size + 1) 0 (s'.map bv) (Or.inl hne2))
        have hS30 : (fun w' : World => At8 w' bd (od + k * 8) d ∧ w'.cell? ⟨bw, ow + k, none⟩ = some (.int .u8 (x : Int))) (x21.setCells (w.heap.size + 1) 0 (s'.map bv)) := ⟨ZP.out, ZC.out⟩
        refine HK29.out _ _ hS30 fun _ => ?_
        refine wpAnyH_done (by kernel_rfl) ?_ _
        go_wp2
        go_roundw
        case rel => exact ⟨k + 1, by omega, by go_num, Lib.hid ⟨ZB.out, by rw [HS'.out]; exact ZS.out, ZZ.out⟩⟩
        case measure => simp [intOf]; omega
      · have HK10 := Lib.hid hK
        clear hK
        rw [if_pos (by rfl)]
        go_simp
        go_at_call 38
        refine (scl_b x d m _ x8 d8 HM.out).mono ?_
        rintro e x11 ⟨rfl, hb⟩
        have hq12 : Below wz1.heap.size wz1 x11 := hb
        have S_13 := Lib.hid (Row.to S_4.out hq12)
        have Z_14 := Lib.hid (Row.to Z_5.out hq12)
        have C_15 := Lib.hid (cellTo C_6.out hq12)
        have E_16 := Lib.hid (At8.to E_7.out hq12)
        have HB_17 : Hid (Below w.heap.size w x11) := Lib.hid (HB_8.out.trans (hq12.mono HB_8.out.size))
        clear hq12
        clear hb
        have hS18 : (fun w' : World => At8 w' bd (od + k * 8) d ∧ w'.cell? ⟨bw, ow + k, none⟩ = some (.int .u8 (x : Int))) x11 := ⟨E_16.out, C_15.out⟩
        refine HK10.out _ _ hS18 fun _ => ?_
        try simp only [Act.put, List.setIfInBounds_toArray, List.set_cons_zero, List.set_cons_succ]
        refine wpAnyH_ready (rs := [0]) (by kernel_rfl) (by simp) ?_
        refine AllReadyH.cons rfl (fun K19 hK19 => ?_) AllReadyH.nil
        have HK19 := Lib.hid hK19
        clear hK19
        rw [if_pos (by rfl)]
        refine wp_load8 _ _ rfl _ _ rfl s _ S_13.out.at8 Try.underlying33 rfl (size8 s8.1) ?_
        refine HK19.out _ _ hS18 fun _ => ?_
        try simp only [Act.put, List.setIfInBounds_toArray, List.set_cons_zero, List.set_cons_succ]
        refine wpAnyH_ready (rs := [10]) (by kernel_rfl) (by simp) ?_
        refine AllReadyH.cons rfl (fun K20 hK20 => ?_) AllReadyH.nil
        have HK20 := Lib.hid hK20
        clear hK20
        rw [if_pos (by rfl)]
        go_simp
        go_at_call 26
        refine (xor_b s m s' _ s8 m8 PS'.out.symm).mono ?_
        rintro e x21 ⟨rfl, hb⟩
        have hq22 : Below x11.heap.size x11 x21 := hb
        have S_23 := Lib.hid (Row.to S_13.out hq22)
        have Z_24 := Lib.hid (Row.to Z_14.out hq22)
        have C_25 := Lib.hid (cellTo C_15.out hq22)
        have E_26 := Lib.hid (At8.to E_16.out hq22)
        have HB_27 : Hid (Below w.heap.size w x21) := Lib.hid (HB_17.out.trans (hq22.mono HB_17.out.size))
        clear hq22
        clear hb
        have hS28 : (fun w' : World => At8 w' bd (od + k * 8) d ∧ w'.cell? ⟨bw, ow + k, none⟩ = some (.int .u8 (x : Int))) x21 := ⟨E_26.out, C_25.out⟩
        refine HK20.out _ _ hS28 fun _ => ?_
        try simp only [Act.put, List.setIfInBounds_toArray, List.set_cons_zero, List.set_cons_succ]
        refine wpAnyH_ready (rs := [11]) (by kernel_rfl) (by simp) ?_
        refine AllReadyH.cons rfl (fun K29 hK29 => ?_) AllReadyH.nil
        have HK29 := Lib.hid hK29
        clear hK29
        rw [if_pos (by rfl)]
        have th : x21.there (w.heap.size + 1) 0 (bcs s').size := S_23.out.there (by rw [bcs_size, bcs_size, s8.1, s8'.1]; exact Nat.le_refl _)
        refine wp_store8 _ _ _ rfl _ _ s' rfl rfl th (size8 s8'.1) ?_
        have ZS := Lib.hid (S_23.out.put (by rw [bcs_size, s8.1]) s8'.1)
        have ZB := Lib.hid (below_setCells HB_27.out (s'.map bv) (w.heap.size + 1) 0 (by omega))
        have ZZ := Lib.hid (Z_24.out.otherCells (k := w.heap.size + 1) (by omega) (s'.map bv) 0)
        have ZC := Lib.hid ((World.cell?_of_block (heap_setCells_other hne (s'.map bv) 0)).trans C_25.out)
        have ZP := Lib.hid (World.rangeAt_setCells_apart E_26.out (w.heap.size + 1) 0 (s'.map bv) (Or.inl hne2))
        have hS30 : (fun w' : World => At8 w' bd (od + k * 8) d ∧ w'.cell? ⟨bw, ow + k, none⟩ = some (.int .u8 (x : Int))) (x21.setCells (w.heap.size + 1) 0 (s'.map bv)) := ⟨ZP.out, ZC.out⟩
        refine HK29.out _ _ hS30 fun _ => ?_
        refine wpAnyH_done (by kernel_rfl) ?_ _
        go_wp2
        go_roundw
        case rel => exact ⟨k + 1, by omega, by go_num, Lib.hid ⟨ZB.out, by rw [HS'.out]; exact ZS.out, ZZ.out⟩⟩
        case measure => simp [intOf]; omega
    · obtain rfl : k = n := by omega
      obtain ⟨hbel, r1, r0⟩ := H.out
      have s8 := prt_ok L8.out D k
      have hE : prt l D k = combB l D := by rw [← N1.out]; rfl
      rw [hE] at r1 s8
      obtain ⟨s, hs⟩ : ∃ s, combB l D = s := ⟨_, rfl⟩
      rw [hs] at r1 s8
      have R1 := Lib.hid r1
      have TH := Lib.hid (r0.there (n := (bcs s).size) (by rw [bcs_size, s8.1]; exact Nat.le_refl _))
      have R5 := Lib.hid (r0.put rfl s8.1)
      have B5 := Lib.hid (below_setCells hbel (s.map bv) w.heap.size 0 (Nat.le_refl _))
      have SS := Lib.hid (size8 s8.1)
      have HCB := Lib.hid hs
      clear r1 r0 hbel hE hs s8 H
      go_wp2_with (first | (refine wpList_load_row rfl _ _ rfl _ rfl _ _ (0, 0) _ R1.out Try.underlying33 rfl SS.out ?_) | (refine wpList_store8 rfl _ _ _ rfl _ 0 _ rfl rfl TH.out SS.out ?_))
      refine bodyPost_ret (results_cell_row (g := w.heap.size) (t := 33) (fr := (0, 0)) rfl _ _ _ _ rfl R5.out Try.underlying33 rfl SS.out) rfl ?_
      exact ⟨by rw [HCB.out], B5.out⟩
end Go.Proofs.Ytheijobnmdbodaa
