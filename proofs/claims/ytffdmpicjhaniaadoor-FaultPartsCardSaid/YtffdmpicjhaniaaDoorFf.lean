/- Layer 13: contracts of the reference: At, Same. WRITTEN BY gen_Ff.py. -/
import Derived.Test.YtffdmpicjhaniaaDoorFe
import Derived.Laws.Rows
namespace Go.Proofs.YtffdmpicjhaniaaDoor
open Go Go.RowKit Flt
set_option linter.unusedVariables false
set_option linter.unusedSimpArgs false
theorem results_c1t1 {P : Program} {fn : Func} {p u : Tmp} {ty : TypeId} (h : fn.results = #[.cell p ty, .tmp u]) (tmps : Array Value) (w : World) (g : Nat) (t : TypeId) (cs : Array Value) (fr : Nat × Nat) (d : TypeDesc)
    (hp : tmps.getD p undef = .pointer (some ⟨g, 0, none⟩)) (hg : w.heap[g]? = some (.cells cs t fr))
    (hu : P.underlying ty = some d) (hd : (match d with | .struct _ | .array _ _ => true | _ => false) = true) (hi : (P.info? ty).map (·.size) = some cs.size) :
    (results fn tmps).run P w = .ok (.tuple #[.agg cs, tmps.getD u undef]) w := by
  have hp' : tmps[p]?.getD undef = .pointer (some ⟨g, 0, none⟩) := by simpa using hp
  simp [results, h, hp', asAddr, run_loadVar_row w g t ty cs fr d hg hu hd hi]
theorem results_c1t2 {P : Program} {fn : Func} {p u v : Tmp} {ty : TypeId} (h : fn.results = #[.cell p ty, .tmp u, .tmp v]) (tmps : Array Value) (w : World) (g : Nat) (t : TypeId) (cs : Array Value) (fr : Nat × Nat) (d : TypeDesc)
    (hp : tmps.getD p undef = .pointer (some ⟨g, 0, none⟩)) (hg : w.heap[g]? = some (.cells cs t fr))
    (hu : P.underlying ty = some d) (hd : (match d with | .struct _ | .array _ _ => true | _ => false) = true) (hi : (P.info? ty).map (·.size) = some cs.size) :
    (results fn tmps).run P w = .ok (.tuple #[.agg cs, tmps.getD u undef, tmps.getD v undef]) w := by
  have hp' : tmps[p]?.getD undef = .pointer (some ⟨g, 0, none⟩) := by simpa using hp
  simp [results, h, hp', asAddr, run_loadVar_row w g t ty cs fr d hg hu hd hi]
/-- The first fault with a number. -/
def fnd (op : Int) (L : List F) : Option F := L.find? fun f => decide (f.pos = op)
def fF (o : Option F) : F := o.getD ⟨0, 0, 0⟩
def fV (f : F) : Value := .agg #[.int .i64 f.pos, .int .i64 f.kind, .int .i64 f.to]
theorem fnd_step {op : Int} {L : List F} {k : Nat} (hk : k < L.length) (h : fnd op (L.take k) = none) : fnd op (L.take (k + 1)) = if L[k].pos = op then some L[k] else none := by
  unfold fnd at h ⊢
  rw [List.take_succ_eq_append_getElem hk, List.find?_append, h]
  by_cases e : L[k].pos = op <;> simp [e]
theorem fnd_take {op : Int} {L : List F} {k : Nat} {f : F} (h : fnd op (L.take k) = some f) : fnd op L = some f := by
  unfold fnd at h ⊢
  rw [← List.take_append_drop k L, List.find?_append, h]; rfl
def atPost (op : Int) (L : List F) (w : World) (e : Ending) (w' : World) : Prop := e = .returned (.tuple #[fV (fF (fnd op L)), .bool (fnd op L).isSome]) ∧ Below w.heap.size w w'
theorem row_set3 {w : World} {b : Nat} {t : TypeId} {x y z x' y' z' : Value} (h : Row w b t #[x, y, z]) : Row (((w.setCell ⟨b, 0, none⟩ x').setCell ⟨b, 1, none⟩ y').setCell ⟨b, 2, none⟩ z') b t #[x', y', z'] :=
  ((h.store 0 x').store 1 y').store 2 z'
set_option maxHeartbeats 4000000 in
set_option maxRecDepth 100000 in
theorem rat_any (v : Value) (L : List F) (op : Int) (w : World) (h : Fts w v L) : Calls Tryd.prog 13 #[v, .int .i64 op] w (atPost op L w) := by
  have HL := Lib.hid h.len
  obtain ⟨A, cc, rfl⟩ := h.form
  have HO := Lib.hid h
  clear h
  obtain ⟨n, hn⟩ : ∃ n, L.length = n := ⟨_, rfl⟩
  have EN := Lib.hid hn
  rw [hn] at HO HL ⊢
  clear hn
  have R0 := Lib.hid (new13 w #[.int .i64 0, .int .i64 0, .int .i64 0] 26 rfl)
  have B0 : Hid (Below w.heap.size w (w.alloc (.cells #[.int .i64 0, .int .i64 0, .int .i64 0] 26))) := Lib.hid ((Below.refl _ _).alloc (Nat.le_refl _) _)
  go_enter Tryd.func13, Tryd.ntmps13
  go_wp2_with fail
  obtain ⟨b4, e4⟩ : ∃ b, w.heap.size = b := ⟨_, rfl⟩
  have E4 := Lib.hid e4
  rw [e4] at R0 ⊢
  obtain ⟨w1, hw1⟩ : ∃ x, w.alloc (.cells #[.int .i64 0, .int .i64 0, .int .i64 0] 26) = x := ⟨_, rfl⟩
  rw [hw1] at R0 B0 ⊢
  clear e4 hw1
  go_loopw [6] (fun i wr => ∃ k : Nat, k ≤ n ∧ i = .int .i64 (k : Int) ∧ wr = w1 ∧ Hid (fnd op (L.take k) = none)) (fun i _ => n - (intOf i).toNat)
  case atStart => exact ⟨0, Nat.zero_le _, rfl, rfl, Lib.hid rfl⟩
  case round =>
    obtain ⟨k, hk, rfl, rfl, V⟩ := hrel
    have nb := HL.out
    by_cases hlt : k < n
    · have kI : (k : Int) < (n : Int) := by omega
      obtain ⟨b, off, hk2, rfl, hr⟩ := (HO.out.fw B0.out).nth hlt
      have VS := Lib.hid (fnd_step hk2 V.out)
      obtain ⟨f, hf⟩ : ∃ f, L[k] = f := ⟨_, rfl⟩
      rw [hf] at hr VS
      obtain ⟨x, y, z⟩ := f
      obtain ⟨c0, -, -⟩ := fcs_at hr
      have RG := Lib.hid hr
      have hc0 : wr.cell? ⟨b, off + k * 3, none⟩ = some (.int .i64 x) := c0
      clear V hr hf c0
      by_cases e : x = op
      · have d0 : (x == op) = true := by simp [e]
        have FN := Lib.hid (fnd_take (VS.out.trans (if_pos e)))
        clear e
        have bb := (row3 R0.out)
        have f0 := R0.out.frozen 0
        have f1 := R0.out.frozen 1
        have f2 := R0.out.frozen 2
        obtain ⟨g0, g1, g2⟩ := bb
        go_wp2_with (refine wpList_load_mid rfl _ _ rfl b (off + k * 3) rfl [.int .i64 x, .int .i64 y, .int .i64 z] _ RG.out Tryd.underlying26 rfl (by kernel_rfl) ?_)
        refine bodyPost_ret (results_c1t1 (g := b4) (t := 26) (fr := (0, 0)) rfl _ _ _ _ rfl (row_set3 R0.out (x' := .int .i64 x) (y' := .int .i64 y) (z' := .int .i64 z)) Tryd.underlying26 rfl (by kernel_rfl)) rfl ?_
        refine ⟨by rw [FN.out]; rfl, ?_⟩
        exact ((B0.out.setCell (p := ⟨b4, 0, none⟩) (Nat.le_of_eq E4.out) _).setCell (p := ⟨b4, 1, none⟩) (Nat.le_of_eq E4.out) _).setCell (p := ⟨b4, 2, none⟩) (Nat.le_of_eq E4.out) _
      · have d0 : (x == op) = false := by simp [e]
        have FN := Lib.hid (VS.out.trans (if_neg e))
        clear e
        go_wp2_with fail
        go_roundw
        case rel => exact ⟨k + 1, by omega, by go_num, by trivial, FN⟩
        case measure => simp [intOf]; omega
    · obtain rfl : k = n := by omega
      have kI : ¬ (k : Int) < (k : Int) := by omega
      have dk : decide ((k : Int) < (k : Int)) = false := decide_eq_false kI
      have FN : Hid (fnd op L = none) := Lib.hid (by have := V.out; rwa [List.take_of_length_le (Nat.le_of_eq EN.out)] at this)
      have f0 := R0.out.frozen 0
      have f1 := R0.out.frozen 1
      have f2 := R0.out.frozen 2
      obtain ⟨g0, g1, g2⟩ := row3 R0.out
      clear V
      go_wp2_with fail
      refine bodyPost_ret (results_c1t1 (g := b4) (t := 26) (fr := (0, 0)) rfl _ _ _ _ rfl (row_set3 R0.out (x' := .int .i64 0) (y' := .int .i64 0) (z' := .int .i64 0)) Tryd.underlying26 rfl (by kernel_rfl)) rfl ?_
      refine ⟨by rw [FN.out]; rfl, ?_⟩
      exact ((B0.out.setCell (p := ⟨b4, 0, none⟩) (Nat.le_of_eq E4.out) _).setCell (p := ⟨b4, 1, none⟩) (Nat.le_of_eq E4.out) _).setCell (p := ⟨b4, 2, none⟩) (Nat.le_of_eq E4.out) _
def smPost (L M : List F) (w : World) (e : Ending) (w' : World) : Prop := ∃ bb : Bool, e = .returned (.bool bb) ∧ (bb = true ↔ L = M) ∧ Below w.heap.size w w'
set_option maxHeartbeats 4000000 in
set_option maxRecDepth 100000 in
theorem rsm_any (v u : Value) (L M : List F) (w : World) (h : Fts w v L) (h2 : Fts w u M) : Calls Tryd.prog 14 #[v, u] w (smPost L M w) := by
  have HL := Lib.hid h.len
  obtain ⟨A, cc, rfl⟩ := h.form
  have HO := Lib.hid h
  obtain ⟨A2, cc2, rfl⟩ := h2.form
  have HO2 := Lib.hid h2
  clear h h2
  obtain ⟨n, hn⟩ : ∃ n, L.length = n := ⟨_, rfl⟩
  have EN := Lib.hid hn
  obtain ⟨n2, hn2⟩ : ∃ n, M.length = n := ⟨_, rfl⟩
  have EN2 := Lib.hid hn2
  rw [hn] at HO HL ⊢
  rw [hn2] at HO2 ⊢
  clear hn hn2
  by_cases e : n = n2
  · subst e
    go_enter Tryd.func14, Tryd.ntmps14
    go_wp2_with fail
    go_loopw [5] (fun i wr => ∃ k : Nat, k ≤ n ∧ i = .int .i64 (k : Int) ∧ Hid (L.take k = M.take k ∧ Below w.heap.size w wr)) (fun i _ => n - (intOf i).toNat)
    case atStart => exact ⟨0, Nat.zero_le _, rfl, Lib.hid ⟨rfl, Below.refl _ _⟩⟩
    case round =>
      obtain ⟨k, hk, rfl, V⟩ := hrel
      have nb := HL.out
      by_cases hlt : k < n
      · have kI : (k : Int) < (n : Int) := by omega
        obtain ⟨b, off, hk2, rfl, hr⟩ := (HO.out.fw V.out.2).nth hlt
        obtain ⟨b2, off2, hk3, rfl, hr2⟩ := (HO2.out.fw V.out.2).nth hlt
        have ST : Hid (L[k] = M[k] → L.take (k + 1) = M.take (k + 1)) := Lib.hid fun e => by rw [List.take_succ_eq_append_getElem hk2, List.take_succ_eq_append_getElem hk3, V.out.1, e]
        have NE : Hid (L[k] ≠ M[k] → L ≠ M) := Lib.hid fun e h => e (by subst h; rfl)
        have TB := Lib.hid V.out.2
        obtain ⟨f, hf⟩ : ∃ f, L[k] = f := ⟨_, rfl⟩
        obtain ⟨g, hg⟩ : ∃ f, M[k] = f := ⟨_, rfl⟩
        rw [hf] at hr ST NE
        rw [hg] at hr2 ST NE
        obtain ⟨x, y, z⟩ := f
        obtain ⟨x2, y2, z2⟩ := g
        have RG := Lib.hid hr
        have RG2 := Lib.hid hr2
        clear V hr hr2 hf hg
        by_cases ex : x = x2
        · by_cases ey : y = y2
          · by_cases ez : z = z2
            · have SS := Lib.hid (ST.out (by rw [ex, ey, ez]))
              have d1 : (x == x2) = true := by simp [ex]
              have d2 : (y == y2) = true := by simp [ey]
              have d3 : (z == z2) = true := by simp [ez]
              clear ex ey ez
              go_wp2_with fail
              refine wp_region_held (P := Tryd.prog) (S := (fun w' : World => Below wr.heap.size wr w')) rfl ?_
              change wpAnyH _ _ _ _ _ _ _ _ wr.drew
              have hz2 : Below wr.heap.size wr wr.drew := (Below.refl wr.heap.size wr).drew
              generalize wr.drew = wz1 at hz2 ⊢
              have P_3 := Lib.hid (rng13 RG.out (hz2))
              have Q_4 := Lib.hid (rng13 RG2.out (hz2))
              have hl5 := hz2
              have HT_6 : Hid (Below w.heap.size w wz1) := Lib.hid (TB.out.trans ((hl5).mono TB.out.size))
              refine wpAnyH_up (S' := (fun w' : World => Below wz1.heap.size wz1 w')) (fun w' h => hz2.trans (h.mono hz2.size)) ?_
              have hS7 : (fun w' : World => Below wz1.heap.size wz1 w') wz1 := Below.refl _ _
              refine takeD (i := 0) (v := .slice (some ⟨b, off, none⟩) n cc) (some 17) rfl rfl (by kernel_rfl) (by kernel_rfl) (by kernel_rfl) (fun _ _ _ h => h) (Or.inl ⟨by rfl, by rintro w' -; go_simp⟩) hS7 ?_
              simp only [Act.put, List.setIfInBounds_toArray, List.set_cons_zero, List.set_cons_succ]
              refine takeD (i := 1) (v := .int .i64 (k : Int)) (some 18) rfl rfl (by kernel_rfl) (by kernel_rfl) (by kernel_rfl) (fun _ _ _ h => h) (Or.inl ⟨by rfl, by rintro w' -; go_simp⟩) hS7 ?_
              simp only [Act.put, List.setIfInBounds_toArray, List.set_cons_zero, List.set_cons_succ]
              refine takeD (i := 2) (v := .pointer (some ⟨b, off + k * 3, none⟩)) (some 19) rfl rfl (by kernel_rfl) (by kernel_rfl) (by kernel_rfl) (fun _ _ _ h => h) (Or.inl ⟨by rfl, by rintro w' -; go_simp⟩) hS7 ?_
              simp only [Act.put, List.setIfInBounds_toArray, List.set_cons_zero, List.set_cons_succ]
              refine takeD (i := 3) (v := .agg #[.int .i64 x, .int .i64 y, .int .i64 z]) (some 20) rfl rfl (by kernel_rfl) (by kernel_rfl) (by kernel_rfl) (fun _ _ _ h => h) (yieldsIf_load_mid (by rfl) _ _ rfl b (off + k * 3) rfl [.int .i64 x, .int .i64 y, .int .i64 z] _ (fun w' h => rng13 P_3.out h) Tryd.underlying26 rfl (by kernel_rfl)) hS7 ?_
              simp only [Act.put, List.setIfInBounds_toArray, List.set_cons_zero, List.set_cons_succ]
              refine takeD (i := 4) (v := .slice (some ⟨b2, off2, none⟩) n cc2) (some 21) rfl rfl (by kernel_rfl) (by kernel_rfl) (by kernel_rfl) (fun _ _ _ h => h) (Or.inl ⟨by rfl, by rintro w' -; go_simp⟩) hS7 ?_
              simp only [Act.put, List.setIfInBounds_toArray, List.set_cons_zero, List.set_cons_succ]
              refine takeD (i := 5) (v := .int .i64 (k : Int)) (some 22) rfl rfl (by kernel_rfl) (by kernel_rfl) (by kernel_rfl) (fun _ _ _ h => h) (Or.inl ⟨by rfl, by rintro w' -; go_simp⟩) hS7 ?_
              simp only [Act.put, List.setIfInBounds_toArray, List.set_cons_zero, List.set_cons_succ]
              refine takeD (i := 6) (v := .pointer (some ⟨b2, off2 + k * 3, none⟩)) (some 23) rfl rfl (by kernel_rfl) (by kernel_rfl) (by kernel_rfl) (fun _ _ _ h => h) (Or.inl ⟨by rfl, by rintro w' -; go_simp⟩) hS7 ?_
              simp only [Act.put, List.setIfInBounds_toArray, List.set_cons_zero, List.set_cons_succ]
              refine takeD (i := 7) (v := .agg #[.int .i64 x2, .int .i64 y2, .int .i64 z2]) (some 24) rfl rfl (by kernel_rfl) (by kernel_rfl) (by kernel_rfl) (fun _ _ _ h => h) (yieldsIf_load_mid (by rfl) _ _ rfl b2 (off2 + k * 3) rfl [.int .i64 x2, .int .i64 y2, .int .i64 z2] _ (fun w' h => rng13 Q_4.out h) Tryd.underlying26 rfl (by kernel_rfl)) hS7 ?_
              simp only [Act.put, List.setIfInBounds_toArray, List.set_cons_zero, List.set_cons_succ]
              refine takeD (i := 8) (v := .bool false) (some 25) rfl rfl (by kernel_rfl) (by kernel_rfl) (by kernel_rfl) (fun _ _ _ h => h) (Or.inl ⟨by rfl, by rintro w' -; go_simp⟩) hS7 ?_
              simp only [Act.put, List.setIfInBounds_toArray, List.set_cons_zero, List.set_cons_succ]
              refine wpAnyH_done (by kernel_rfl) ?_ _
              go_wp2_with fail
              go_roundw
              case rel => exact ⟨k + 1, by omega, by go_num, Lib.hid ⟨SS.out, HT_6.out⟩⟩
              case measure => simp [intOf]; omega
            · have d1 : (x == x2) = true := by simp [ex]
              have d2 : (y == y2) = true := by simp [ey]
              have d3 : (z == z2) = false := by simp [ez]
              have NN := Lib.hid (NE.out fun h => ez (by injection h))
              clear ex ey ez
              go_wp2_with fail
              refine wp_region_held (P := Tryd.prog) (S := (fun w' : World => Below wr.heap.size wr w')) rfl ?_
              change wpAnyH _ _ _ _ _ _ _ _ wr.drew
              have hz2 : Below wr.heap.size wr wr.drew := (Below.refl wr.heap.size wr).drew
              generalize wr.drew = wz1 at hz2 ⊢
              have P_3 := Lib.hid (rng13 RG.out (hz2))
              have Q_4 := Lib.hid (rng13 RG2.out (hz2))
              have hl5 := hz2
              have HT_6 : Hid (Below w.heap.size w wz1) := Lib.hid (TB.out.trans ((hl5).mono TB.out.size))
              refine wpAnyH_up (S' := (fun w' : World => Below wz1.heap.size wz1 w')) (fun w' h => hz2.trans (h.mono hz2.size)) ?_
              have hS7 : (fun w' : World => Below wz1.heap.size wz1 w') wz1 := Below.refl _ _
              refine takeD (i := 0) (v := .slice (some ⟨b, off, none⟩) n cc) (some 17) rfl rfl (by kernel_rfl) (by kernel_rfl) (by kernel_rfl) (fun _ _ _ h => h) (Or.inl ⟨by rfl, by rintro w' -; go_simp⟩) hS7 ?_
              simp only [Act.put, List.setIfInBounds_toArray, List.set_cons_zero, List.set_cons_succ]
              refine takeD (i := 1) (v := .int .i64 (k : Int)) (some 18) rfl rfl (by kernel_rfl) (by kernel_rfl) (by kernel_rfl) (fun _ _ _ h => h) (Or.inl ⟨by rfl, by rintro w' -; go_simp⟩) hS7 ?_
              simp only [Act.put, List.setIfInBounds_toArray, List.set_cons_zero, List.set_cons_succ]
              refine takeD (i := 2) (v := .pointer (some ⟨b, off + k * 3, none⟩)) (some 19) rfl rfl (by kernel_rfl) (by kernel_rfl) (by kernel_rfl) (fun _ _ _ h => h) (Or.inl ⟨by rfl, by rintro w' -; go_simp⟩) hS7 ?_
              simp only [Act.put, List.setIfInBounds_toArray, List.set_cons_zero, List.set_cons_succ]
              refine takeD (i := 3) (v := .agg #[.int .i64 x, .int .i64 y, .int .i64 z]) (some 20) rfl rfl (by kernel_rfl) (by kernel_rfl) (by kernel_rfl) (fun _ _ _ h => h) (yieldsIf_load_mid (by rfl) _ _ rfl b (off + k * 3) rfl [.int .i64 x, .int .i64 y, .int .i64 z] _ (fun w' h => rng13 P_3.out h) Tryd.underlying26 rfl (by kernel_rfl)) hS7 ?_
              simp only [Act.put, List.setIfInBounds_toArray, List.set_cons_zero, List.set_cons_succ]
              refine takeD (i := 4) (v := .slice (some ⟨b2, off2, none⟩) n cc2) (some 21) rfl rfl (by kernel_rfl) (by kernel_rfl) (by kernel_rfl) (fun _ _ _ h => h) (Or.inl ⟨by rfl, by rintro w' -; go_simp⟩) hS7 ?_
              simp only [Act.put, List.setIfInBounds_toArray, List.set_cons_zero, List.set_cons_succ]
              refine takeD (i := 5) (v := .int .i64 (k : Int)) (some 22) rfl rfl (by kernel_rfl) (by kernel_rfl) (by kernel_rfl) (fun _ _ _ h => h) (Or.inl ⟨by rfl, by rintro w' -; go_simp⟩) hS7 ?_
              simp only [Act.put, List.setIfInBounds_toArray, List.set_cons_zero, List.set_cons_succ]
              refine takeD (i := 6) (v := .pointer (some ⟨b2, off2 + k * 3, none⟩)) (some 23) rfl rfl (by kernel_rfl) (by kernel_rfl) (by kernel_rfl) (fun _ _ _ h => h) (Or.inl ⟨by rfl, by rintro w' -; go_simp⟩) hS7 ?_
              simp only [Act.put, List.setIfInBounds_toArray, List.set_cons_zero, List.set_cons_succ]
              refine takeD (i := 7) (v := .agg #[.int .i64 x2, .int .i64 y2, .int .i64 z2]) (some 24) rfl rfl (by kernel_rfl) (by kernel_rfl) (by kernel_rfl) (fun _ _ _ h => h) (yieldsIf_load_mid (by rfl) _ _ rfl b2 (off2 + k * 3) rfl [.int .i64 x2, .int .i64 y2, .int .i64 z2] _ (fun w' h => rng13 Q_4.out h) Tryd.underlying26 rfl (by kernel_rfl)) hS7 ?_
              simp only [Act.put, List.setIfInBounds_toArray, List.set_cons_zero, List.set_cons_succ]
              refine takeD (i := 8) (v := .bool true) (some 25) rfl rfl (by kernel_rfl) (by kernel_rfl) (by kernel_rfl) (fun _ _ _ h => h) (Or.inl ⟨by rfl, by rintro w' -; go_simp⟩) hS7 ?_
              simp only [Act.put, List.setIfInBounds_toArray, List.set_cons_zero, List.set_cons_succ]
              refine wpAnyH_done (by kernel_rfl) ?_ _
              go_wp2_with fail
              go_ret
              exact ⟨false, rfl, ⟨fun h => (by cases h), fun h => absurd h NN.out⟩, HT_6.out⟩
          · have d1 : (x == x2) = true := by simp [ex]
            have d2 : (y == y2) = false := by simp [ey]
            have NN := Lib.hid (NE.out fun h => ey (by injection h))
            clear ex ey
            go_wp2_with fail
            refine wp_region_held (P := Tryd.prog) (S := (fun w' : World => Below wr.heap.size wr w')) rfl ?_
            change wpAnyH _ _ _ _ _ _ _ _ wr.drew
            have hz2 : Below wr.heap.size wr wr.drew := (Below.refl wr.heap.size wr).drew
            generalize wr.drew = wz1 at hz2 ⊢
            have P_3 := Lib.hid (rng13 RG.out (hz2))
            have Q_4 := Lib.hid (rng13 RG2.out (hz2))
            have hl5 := hz2
            have HT_6 : Hid (Below w.heap.size w wz1) := Lib.hid (TB.out.trans ((hl5).mono TB.out.size))
            refine wpAnyH_up (S' := (fun w' : World => Below wz1.heap.size wz1 w')) (fun w' h => hz2.trans (h.mono hz2.size)) ?_
            have hS7 : (fun w' : World => Below wz1.heap.size wz1 w') wz1 := Below.refl _ _
            refine takeD (i := 0) (v := .slice (some ⟨b, off, none⟩) n cc) (some 17) rfl rfl (by kernel_rfl) (by kernel_rfl) (by kernel_rfl) (fun _ _ _ h => h) (Or.inl ⟨by rfl, by rintro w' -; go_simp⟩) hS7 ?_
            simp only [Act.put, List.setIfInBounds_toArray, List.set_cons_zero, List.set_cons_succ]
            refine takeD (i := 1) (v := .int .i64 (k : Int)) (some 18) rfl rfl (by kernel_rfl) (by kernel_rfl) (by kernel_rfl) (fun _ _ _ h => h) (Or.inl ⟨by rfl, by rintro w' -; go_simp⟩) hS7 ?_
            simp only [Act.put, List.setIfInBounds_toArray, List.set_cons_zero, List.set_cons_succ]
            refine takeD (i := 2) (v := .pointer (some ⟨b, off + k * 3, none⟩)) (some 19) rfl rfl (by kernel_rfl) (by kernel_rfl) (by kernel_rfl) (fun _ _ _ h => h) (Or.inl ⟨by rfl, by rintro w' -; go_simp⟩) hS7 ?_
            simp only [Act.put, List.setIfInBounds_toArray, List.set_cons_zero, List.set_cons_succ]
            refine takeD (i := 3) (v := .agg #[.int .i64 x, .int .i64 y, .int .i64 z]) (some 20) rfl rfl (by kernel_rfl) (by kernel_rfl) (by kernel_rfl) (fun _ _ _ h => h) (yieldsIf_load_mid (by rfl) _ _ rfl b (off + k * 3) rfl [.int .i64 x, .int .i64 y, .int .i64 z] _ (fun w' h => rng13 P_3.out h) Tryd.underlying26 rfl (by kernel_rfl)) hS7 ?_
            simp only [Act.put, List.setIfInBounds_toArray, List.set_cons_zero, List.set_cons_succ]
            refine takeD (i := 4) (v := .slice (some ⟨b2, off2, none⟩) n cc2) (some 21) rfl rfl (by kernel_rfl) (by kernel_rfl) (by kernel_rfl) (fun _ _ _ h => h) (Or.inl ⟨by rfl, by rintro w' -; go_simp⟩) hS7 ?_
            simp only [Act.put, List.setIfInBounds_toArray, List.set_cons_zero, List.set_cons_succ]
            refine takeD (i := 5) (v := .int .i64 (k : Int)) (some 22) rfl rfl (by kernel_rfl) (by kernel_rfl) (by kernel_rfl) (fun _ _ _ h => h) (Or.inl ⟨by rfl, by rintro w' -; go_simp⟩) hS7 ?_
            simp only [Act.put, List.setIfInBounds_toArray, List.set_cons_zero, List.set_cons_succ]
            refine takeD (i := 6) (v := .pointer (some ⟨b2, off2 + k * 3, none⟩)) (some 23) rfl rfl (by kernel_rfl) (by kernel_rfl) (by kernel_rfl) (fun _ _ _ h => h) (Or.inl ⟨by rfl, by rintro w' -; go_simp⟩) hS7 ?_
            simp only [Act.put, List.setIfInBounds_toArray, List.set_cons_zero, List.set_cons_succ]
            refine takeD (i := 7) (v := .agg #[.int .i64 x2, .int .i64 y2, .int .i64 z2]) (some 24) rfl rfl (by kernel_rfl) (by kernel_rfl) (by kernel_rfl) (fun _ _ _ h => h) (yieldsIf_load_mid (by rfl) _ _ rfl b2 (off2 + k * 3) rfl [.int .i64 x2, .int .i64 y2, .int .i64 z2] _ (fun w' h => rng13 Q_4.out h) Tryd.underlying26 rfl (by kernel_rfl)) hS7 ?_
            simp only [Act.put, List.setIfInBounds_toArray, List.set_cons_zero, List.set_cons_succ]
            refine takeD (i := 8) (v := .bool true) (some 25) rfl rfl (by kernel_rfl) (by kernel_rfl) (by kernel_rfl) (fun _ _ _ h => h) (Or.inl ⟨by rfl, by rintro w' -; go_simp⟩) hS7 ?_
            simp only [Act.put, List.setIfInBounds_toArray, List.set_cons_zero, List.set_cons_succ]
            refine wpAnyH_done (by kernel_rfl) ?_ _
            go_wp2_with fail
            go_ret
            exact ⟨false, rfl, ⟨fun h => (by cases h), fun h => absurd h NN.out⟩, HT_6.out⟩
        · have d1 : (x == x2) = false := by simp [ex]
          have NN := Lib.hid (NE.out fun h => ex (by injection h))
          clear ex
          go_wp2_with fail
          refine wp_region_held (P := Tryd.prog) (S := (fun w' : World => Below wr.heap.size wr w')) rfl ?_
          change wpAnyH _ _ _ _ _ _ _ _ wr.drew
          have hz2 : Below wr.heap.size wr wr.drew := (Below.refl wr.heap.size wr).drew
          generalize wr.drew = wz1 at hz2 ⊢
          have P_3 := Lib.hid (rng13 RG.out (hz2))
          have Q_4 := Lib.hid (rng13 RG2.out (hz2))
          have hl5 := hz2
          have HT_6 : Hid (Below w.heap.size w wz1) := Lib.hid (TB.out.trans ((hl5).mono TB.out.size))
          refine wpAnyH_up (S' := (fun w' : World => Below wz1.heap.size wz1 w')) (fun w' h => hz2.trans (h.mono hz2.size)) ?_
          have hS7 : (fun w' : World => Below wz1.heap.size wz1 w') wz1 := Below.refl _ _
          refine takeD (i := 0) (v := .slice (some ⟨b, off, none⟩) n cc) (some 17) rfl rfl (by kernel_rfl) (by kernel_rfl) (by kernel_rfl) (fun _ _ _ h => h) (Or.inl ⟨by rfl, by rintro w' -; go_simp⟩) hS7 ?_
          simp only [Act.put, List.setIfInBounds_toArray, List.set_cons_zero, List.set_cons_succ]
          refine takeD (i := 1) (v := .int .i64 (k : Int)) (some 18) rfl rfl (by kernel_rfl) (by kernel_rfl) (by kernel_rfl) (fun _ _ _ h => h) (Or.inl ⟨by rfl, by rintro w' -; go_simp⟩) hS7 ?_
          simp only [Act.put, List.setIfInBounds_toArray, List.set_cons_zero, List.set_cons_succ]
          refine takeD (i := 2) (v := .pointer (some ⟨b, off + k * 3, none⟩)) (some 19) rfl rfl (by kernel_rfl) (by kernel_rfl) (by kernel_rfl) (fun _ _ _ h => h) (Or.inl ⟨by rfl, by rintro w' -; go_simp⟩) hS7 ?_
          simp only [Act.put, List.setIfInBounds_toArray, List.set_cons_zero, List.set_cons_succ]
          refine takeD (i := 3) (v := .agg #[.int .i64 x, .int .i64 y, .int .i64 z]) (some 20) rfl rfl (by kernel_rfl) (by kernel_rfl) (by kernel_rfl) (fun _ _ _ h => h) (yieldsIf_load_mid (by rfl) _ _ rfl b (off + k * 3) rfl [.int .i64 x, .int .i64 y, .int .i64 z] _ (fun w' h => rng13 P_3.out h) Tryd.underlying26 rfl (by kernel_rfl)) hS7 ?_
          simp only [Act.put, List.setIfInBounds_toArray, List.set_cons_zero, List.set_cons_succ]
          refine takeD (i := 4) (v := .slice (some ⟨b2, off2, none⟩) n cc2) (some 21) rfl rfl (by kernel_rfl) (by kernel_rfl) (by kernel_rfl) (fun _ _ _ h => h) (Or.inl ⟨by rfl, by rintro w' -; go_simp⟩) hS7 ?_
          simp only [Act.put, List.setIfInBounds_toArray, List.set_cons_zero, List.set_cons_succ]
          refine takeD (i := 5) (v := .int .i64 (k : Int)) (some 22) rfl rfl (by kernel_rfl) (by kernel_rfl) (by kernel_rfl) (fun _ _ _ h => h) (Or.inl ⟨by rfl, by rintro w' -; go_simp⟩) hS7 ?_
          simp only [Act.put, List.setIfInBounds_toArray, List.set_cons_zero, List.set_cons_succ]
          refine takeD (i := 6) (v := .pointer (some ⟨b2, off2 + k * 3, none⟩)) (some 23) rfl rfl (by kernel_rfl) (by kernel_rfl) (by kernel_rfl) (fun _ _ _ h => h) (Or.inl ⟨by rfl, by rintro w' -; go_simp⟩) hS7 ?_
          simp only [Act.put, List.setIfInBounds_toArray, List.set_cons_zero, List.set_cons_succ]
          refine takeD (i := 7) (v := .agg #[.int .i64 x2, .int .i64 y2, .int .i64 z2]) (some 24) rfl rfl (by kernel_rfl) (by kernel_rfl) (by kernel_rfl) (fun _ _ _ h => h) (yieldsIf_load_mid (by rfl) _ _ rfl b2 (off2 + k * 3) rfl [.int .i64 x2, .int .i64 y2, .int .i64 z2] _ (fun w' h => rng13 Q_4.out h) Tryd.underlying26 rfl (by kernel_rfl)) hS7 ?_
          simp only [Act.put, List.setIfInBounds_toArray, List.set_cons_zero, List.set_cons_succ]
          refine takeD (i := 8) (v := .bool true) (some 25) rfl rfl (by kernel_rfl) (by kernel_rfl) (by kernel_rfl) (fun _ _ _ h => h) (Or.inl ⟨by rfl, by rintro w' -; go_simp⟩) hS7 ?_
          simp only [Act.put, List.setIfInBounds_toArray, List.set_cons_zero, List.set_cons_succ]
          refine wpAnyH_done (by kernel_rfl) ?_ _
          go_wp2_with fail
          go_ret
          exact ⟨false, rfl, ⟨fun h => (by cases h), fun h => absurd h NN.out⟩, HT_6.out⟩
      · obtain rfl : k = n := by omega
        have kI : ¬ (k : Int) < (k : Int) := by omega
        have dk : decide ((k : Int) < (k : Int)) = false := decide_eq_false kI
        have TB := Lib.hid V.out.2
        have SS : Hid (L = M) := Lib.hid (by have := V.out.1; rwa [List.take_of_length_le (Nat.le_of_eq EN.out), List.take_of_length_le (Nat.le_of_eq EN2.out)] at this)
        clear V
        go_wp2_with fail
        go_ret
        exact ⟨true, rfl, ⟨fun _ => SS.out, fun _ => rfl⟩, TB.out⟩
  · have NN : Hid (L ≠ M) := Lib.hid (by rintro rfl; exact e (EN.out.symm.trans EN2.out))
    have d0 : ((n : Int) != (n2 : Int)) = true := by simp; omega
    clear e
    go_enter Tryd.func14, Tryd.ntmps14
    go_wp2_with fail
    go_ret
    exact ⟨false, rfl, ⟨fun h => (by cases h), fun h => absurd h NN.out⟩, Below.refl _ _⟩
end Go.Proofs.YtffdmpicjhaniaaDoor
