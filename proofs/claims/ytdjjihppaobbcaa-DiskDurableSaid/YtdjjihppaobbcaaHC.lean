/- Joined: Dpq Dpr Dps. -/
import Derived.Test.YtdjjihppaobbcaaHB
namespace Go.Proofs.Ytdjjihppaobbcaa
open Go Go.RowKit Med Flt
set_option linter.unusedVariables false
set_option linter.unusedSimpArgs false
def zac : Value := .agg #[.int .u8 0, .int .u8 0, .int .u64 0, .int .i64 0, .slice none 0 0, .bool false]
theorem info_ac : (Try.prog.info? 62).map (fun i => (i.zero, i.size, i.bytes)) = some (some zac, 6, 56) := by kernel_rfl
/-- The acts that are reads, writes, erasures and flushes, with the key 0. -/
def Ac.only (L : List Ac) : List Ac := (L.filter fun a => decide (a.kind ≤ 3)).map fun a => { a with key := 0 }
theorem Ac.only_step {L : List Ac} {k : Nat} (hk : k < L.length) : Ac.only (L.take (k + 1)) = Ac.only (L.take k) ++ (if L[k].kind ≤ 3 then [{ L[k] with key := 0 }] else []) := by
  unfold Ac.only
  rw [List.take_succ_eq_append_getElem hk, List.filter_append, List.map_append]
  congr 1
  by_cases h : L[k].kind ≤ 3 <;> simp [h]
theorem Ac.only_len (L : List Ac) : (Ac.only L).length ≤ L.length := by
  unfold Ac.only; rw [List.length_map]; exact List.length_filter_le _ _
theorem Ac.only_mem {L : List Ac} {a : Ac} (h : a ∈ Ac.only L) : ∃ b ∈ L, a = { b with key := 0 } ∧ b.kind ≤ 3 := by
  unfold Ac.only at h
  obtain ⟨b, hb, rfl⟩ := List.mem_map.1 h
  exact ⟨b, (List.mem_filter.1 hb).1, rfl, by simpa using (List.mem_filter.1 hb).2⟩
theorem range6 : Array.range 6 = #[0, 1, 2, 3, 4, 5] := rfl
theorem run_build_ac (a : Ac) (w : World) : (Instr.buildSlice 43 1 #[(0, .agg (acs a).toArray)]).run Try.prog w = .ok (.slice (some ⟨w.heap.size, 0, none⟩) 1 1) (w.alloc (.cells (acs a).toArray 62)) := by
  obtain ⟨i, hi, hz, hs, hb⟩ := parts13 info_ac
  simp [Instr.buildSlice, run_underlying Try.underlying43, sizeOf, typeInfo, hi, hs, zeroValue, hz, newRow, Instr.fill, zac, Value.cells, range6, acs]
theorem wp_build_ac {o : Oper} {a : Act} {w : World} {K : Act → World → Prop} {Q : Exit → Act → World → Prop} (p : Operand) (ho : o.op = .buildSlice 43 1 #[(0, p)]) (x : Ac) (hx : a.eval p = .agg (acs x).toArray)
    (hk : K (a.put o.dst (.slice (some ⟨w.heap.size, 0, none⟩) 1 1)) (w.alloc (.cells (acs x).toArray 62))) : o.wp Try.prog a w K Q := by
  unfold Oper.wp
  simp only [execOp, ho, List.map_toArray, List.map_cons, List.map_nil, hx, Sem.run_bind, Sem.run_pure, Result.andThen_ok, run_build_ac x w]
  exact hk
abbrev OwA (B : Nat) (w : World) (v : Value) (L : List Ac) : Prop := St.Ow 62 6 acs B w v L
def onPost (L : List Ac) (w : World) (e : Ending) (w' : World) : Prop := ∃ v, e = .returned v ∧ OwA w.heap.size w' v (Ac.only L) ∧ Below w.heap.size w w'
set_option maxHeartbeats 4000000 in
set_option maxRecDepth 100000 in
theorem only_any (v : Value) (L : List Ac) (w : World) (h : Acl w v L) (hl : L.length ≤ 1000) : Calls Try.prog 24 #[v] w (onPost L w) := by
  obtain ⟨A, cc, rfl⟩ := h.form
  have HO := Lib.hid h
  have HL := Lib.hid hl
  clear h hl
  obtain ⟨n, hn⟩ : ∃ n, L.length = n := ⟨_, rfl⟩
  have EN := Lib.hid hn
  rw [hn] at HO HL ⊢
  clear hn
  go_enter Try.func24, Try.ntmps24
  go_wp2_with fail
  go_loopw [3, 4] (fun o i wr => ∃ (k : Nat), k ≤ n ∧ i = .int .i64 (k : Int) ∧ Hid (OwA w.heap.size wr o (Ac.only (L.take k)) ∧ Below w.heap.size w wr)) (fun _ i _ => n - (intOf i).toNat)
  case atStart => exact ⟨0, Nat.zero_le _, rfl, Lib.hid ⟨St.Ow.nil_ _ _, Below.refl _ _⟩⟩
  case round =>
    obtain ⟨k, hk, rfl, V⟩ := hrel
    have nb := HL.out
    by_cases hlt : k < n
    · have kI : (k : Int) < (n : Int) := by omega
      obtain ⟨b, off, hk2, rfl, hr, -⟩ := (HO.out.fw V.out.2).nth hlt
      have WS := Lib.hid (Ac.only_step hk2)
      have LN := Lib.hid (show ((Ac.only (L.take k)).length + 1) * 56 ≤ 140737488355328 from by have := Ac.only_len (L.take k); rw [List.length_take] at this; omega)
      have LM := Lib.hid (show (Ac.only (L.take k)).length + 1 ≤ maxLen from by have := Ac.only_len (L.take k); rw [List.length_take] at this; unfold maxLen; omega)
      obtain ⟨f, hf⟩ : ∃ f, L[k] = f := ⟨_, rfl⟩
      rw [hf] at hr WS
      obtain ⟨x0, x1, x2, x3, ua, un, uc, bs, x5⟩ := f
      obtain ⟨-, c1, -, -, -, -⟩ := acs_at hr
      simp only at c1
      have RG := Lib.hid hr
      have TB := Lib.hid V.out.2
      have OV := Lib.hid V.out.1
      obtain ⟨A2, c2, rfl⟩ := V.out.1.form acs_enc
      generalize Ac.only (L.take k) = W at WS OV LN LM
      obtain ⟨N, hN⟩ : ∃ N, W.length = N := ⟨_, rfl⟩
      have EW := Lib.hid hN
      rw [hN] at OV LN LM ⊢
      clear V hr hf hN
      by_cases g1 : x1 ≤ 3
      · have g1I : (x1 : Int) ≤ 3 := by omega
        have WE : Hid (Ac.only (L.take (k + 1)) = W ++ [⟨x0, x1, 0, x3, ua, un, uc, bs, x5⟩]) := Lib.hid (WS.out.trans (by rw [if_pos g1]))
        obtain ⟨b1, hb1⟩ : ∃ b, wr.heap.size = b := ⟨_, rfl⟩
        obtain ⟨W1, hW1⟩ : ∃ q, wr.alloc (.cells #[.int .u8 (x0 : Int), .int .u8 (x1 : Int), .int .u64 (x2 : Int), .int .i64 x3, .slice ua un uc, .bool x5] 62) = q := ⟨_, rfl⟩
        have A1 : Below wr.heap.size wr W1 := by subst hW1; exact (Below.refl _ _).alloc (Nat.le_refl _) _
        have R1 : Row W1 b1 62 #[.int .u8 (x0 : Int), .int .u8 (x1 : Int), .int .u64 (x2 : Int), .int .i64 x3, .slice ua un uc, .bool x5] := by subst hW1; exact gr_new wr _ _ hb1
        have c2_ : W1.cell? ⟨b1, 2, none⟩ = some (.int .u64 (x2 : Int)) := by rw [R1.cell]; rfl
        have f2_ := R1.frozen 2
        have A2_ : Below wr.heap.size wr (W1.setCell ⟨b1, 2, none⟩ (.int .u64 0)) := A1.setCell (p := ⟨b1, 2, none⟩) (Nat.le_of_eq hb1) _
        have R2 : Row (W1.setCell ⟨b1, 2, none⟩ (.int .u64 0)) b1 62 (acs ⟨x0, x1, 0, x3, ua, un, uc, bs, x5⟩).toArray := R1.store 2 (.int .u64 0)
        have HB1 := Lib.hid hb1
        have HW1 := Lib.hid hW1
        obtain ⟨y, hy⟩ : ∃ y : Ac, (⟨x0, x1, 0, x3, ua, un, uc, bs, x5⟩ : Ac) = y := ⟨_, rfl⟩
        obtain ⟨W2, hW2⟩ : ∃ q, W1.setCell ⟨b1, 2, none⟩ (.int .u64 0) = q := ⟨_, rfl⟩
        rw [hW2] at A2_ R2
        have d0 : W2.cell? ⟨b1, 0, none⟩ = some (.int .u8 (x0 : Int)) := by rw [R2.cell]; rfl
        have d1 : W2.cell? ⟨b1, 1, none⟩ = some (.int .u8 (x1 : Int)) := by rw [R2.cell]; rfl
        have d2 : W2.cell? ⟨b1, 2, none⟩ = some (.int .u64 0) := by rw [R2.cell]; rfl
        have d3 : W2.cell? ⟨b1, 3, none⟩ = some (.int .i64 x3) := by rw [R2.cell]; rfl
        have d4 : W2.cell? ⟨b1, 4, none⟩ = some (.slice ua un uc) := by rw [R2.cell]; rfl
        have d5 : W2.cell? ⟨b1, 5, none⟩ = some (.bool x5) := by rw [R2.cell]; rfl
        have YE : Hid (#[.int .u8 (x0 : Int), .int .u8 (x1 : Int), .int .u64 0, .int .i64 x3, .slice ua un uc, .bool x5] = (acs y).toArray) := Lib.hid (by rw [← hy]; rfl)
        obtain ⟨b3, hb3⟩ : ∃ b, W2.heap.size = b := ⟨_, rfl⟩
        obtain ⟨W3, hW3⟩ : ∃ q, W2.alloc (.cells (acs y).toArray 62) = q := ⟨_, rfl⟩
        have A3 : Below W2.heap.size W2 W3 := by subst hW3; exact (Below.refl _ _).alloc (Nat.le_refl _) _
        have R3 : Row W3 b3 62 (acs y).toArray := by subst hW3; exact gr_new W2 _ _ hb3
        have M3 := Lib.hid (St.Rd.one (enc := acs) (k := 6) R3)
        have A4 : Below wr.heap.size wr W3 := A2_.trans (A3.mono A2_.size)
        have O3 := Lib.hid (St.Ow.fw OV.out A4)
        have T3 := Lib.hid (TB.out.trans (A4.mono TB.out.size))
        have BS := Lib.hid (Nat.le_trans TB.out.size A4.size)
        have HW2 := Lib.hid hW2
        have HB3 := Lib.hid hb3
        have HW3 := Lib.hid hW3
        rw [hy] at WE
        clear hb1 hW1 hW2 hb3 hW3 A1 A2_ A3 A4 R1 R2 R3 hy g1
        go_wp2_with (first | rw [HW1.out, HB1.out] | rw [HW2.out] | rw [HW3.out, HB3.out] | (refine wpList_load_mid rfl _ _ rfl b (off + k * 6) rfl [.int .u8 (x0 : Int), .int .u8 (x1 : Int), .int .u64 (x2 : Int), .int .i64 x3, .slice ua un uc, .bool x5] _ RG.out Try.underlying62 rfl (by kernel_rfl) ?_) | (refine wpList_plain rfl fun _ hK' => wp_build_ac _ rfl y (by rw [← YE.out]; rfl) (hK' _ _ ?_)) | (at_builtin; refine wpList_plain rfl fun _ hK' => St.wp_cat acs_enc (by decide) Try.underlying43 info_ac rfl _ _ rfl _ N 1 1 (some ⟨b3, 0, none⟩) W [y] rfl O3.out EW.out rfl M3.out rfl (by decide) LN.out LM.out BS.out ?_; intro gg cap w3 ho hb; refine hK' _ _ ?_))
        have O4 := Lib.hid ho
        have T4 := Lib.hid (T3.out.trans hb)
        clear ho hb
        go_roundw
        case rel => exact ⟨k + 1, by omega, by go_num, Lib.hid ⟨by rw [WE.out]; exact O4.out, T4.out⟩⟩
        case measure => simp [intOf]; omega
      · have WE := Lib.hid (WS.out.trans (by rw [if_neg g1]))
        have g2 : decide ((x1 : Int) ≤ 3) = false := decide_eq_false (by omega)
        clear g1
        go_wp2_with fail
        go_roundw
        case rel => exact ⟨k + 1, by omega, by go_num, Lib.hid ⟨by rw [WE.out, List.append_nil]; exact OV.out, TB.out⟩⟩
        case measure => simp [intOf]; omega
    · obtain rfl : k = n := by omega
      have kI : ¬ (k : Int) < (k : Int) := by omega
      have dk : decide ((k : Int) < (k : Int)) = false := decide_eq_false kI
      have OV := Lib.hid V.out
      rw [List.take_of_length_le (Nat.le_of_eq EN.out)] at OV
      clear V
      go_wp2_with fail
      go_ret
      exact ⟨_, rfl, OV.out⟩
end Go.Proofs.Ytdjjihppaobbcaa
namespace Go.Proofs.Ytdjjihppaobbcaa
open Go Go.RowKit Med Flt
set_option linter.unusedVariables false
set_option linter.unusedSimpArgs false
/-- The types of all blocks of disks. -/
def tyAll : List TypeId := [93, 82, 116, 112, 135, 138, 80, 3, 60, 5,
  69, 118, 100, 129, 126, 103]
section
variable {A B : Zn} {Ls : List TypeId} {N : Nat} {w w' : World} {D P D0 D1 R Bn T S O : Nat} {L L0 L1 : List F} {p : Dsk.Pw} {d d0 d1 : Dsk.Dk}
/-- What is no part of a disk may change. -/
theorem PDk.keep (h : PDk A w D P R Bn T S O L d) (hc : Tch B Ls w w') (hL : ∀ t ∈ tyAll, t ∉ Ls) : PDk A w' D P R Bn T S O L d := by
  obtain ⟨⟨K, v, a, b, c⟩, g, e⟩ := h
  exact ⟨⟨K, v, Row.tch hc a (hL _ (by decide)), b.tq hc ⟨hL _ (by decide), hL _ (by decide), hL _ (by decide)⟩ (hL _ (by decide)) (hL _ (by decide)) (hL _ (by decide)) (hL _ (by decide)), c.tch hc (hL _ (by decide))⟩, g, e⟩
theorem RDk.keep (h : RDk A w D P R Bn T S O L d) (hc : Tch B Ls w w') (hL : ∀ t ∈ tyAll, t ∉ Ls) : RDk A w' D P R Bn T S O L d := by
  obtain ⟨⟨K, v, a, b, c⟩, e⟩ := h
  exact ⟨⟨K, v, Row.tch hc a (hL _ (by decide)), b.tq hc (hL _ (by decide)) (hL _ (by decide)) (hL _ (by decide)) (hL _ (by decide)) (hL _ (by decide)), c.tch hc (hL _ (by decide))⟩, e⟩
theorem PSt.keep (h : PSt N w P D0 D1 R Bn T S O L0 L1 p d0 d1) (hc : Tch B Ls w w') (hL : ∀ t ∈ tyAll, t ∉ Ls) : PSt N w' P D0 D1 R Bn T S O L0 L1 p d0 d1 := by
  obtain ⟨a, b, A0, A1, h0, h1, h2, h3⟩ := h
  have hs := Tch.size hc
  exact ⟨a.tch hc (hL _ (by decide)), b, A0, A1, h0.keep hc hL, h1.keep hc hL, fun k hk => ⟨(h2 k hk).1, by have := (h2 k hk).2.1; omega, (h2 k hk).2.2⟩, fun k hk => ⟨(h3 k hk).1, by have := (h3 k hk).2.1; omega, (h3 k hk).2.2⟩⟩
theorem RSt.keep (h : RSt N w P D0 D1 R Bn T S O L0 L1 p d0 d1) (hc : Tch B Ls w w') (hL : ∀ t ∈ tyAll, t ∉ Ls) : RSt N w' P D0 D1 R Bn T S O L0 L1 p d0 d1 := by
  obtain ⟨a, b, A0, A1, h0, h1, h2, h3⟩ := h
  have hs := Tch.size hc
  exact ⟨a.tch hc (hL _ (by decide)), b, A0, A1, h0.keep hc hL, h1.keep hc hL, fun k hk => ⟨(h2 k hk).1, by have := (h2 k hk).2.1; omega, (h2 k hk).2.2⟩, fun k hk => ⟨(h3 k hk).1, by have := (h3 k hk).2.1; omega, (h3 k hk).2.2⟩⟩
/-- A second disk in new memory. -/
theorem PSt.of_new (h0 : PDk A w D0 P R Bn T S O L0 d0) (hA : ∀ k, A.fr k → N ≤ k ∧ k < w.heap.size ∧ k ≠ P) (hN : N ≤ w.heap.size) (hp : PPw w' P p) (hP : N ≤ P) (hPw : P < w.heap.size) (hb : Below w.heap.size w w') (h1 : PDk (w.heap.size : Zn) w' D1 P R Bn T S O L1 d1) : PSt N w' P D0 D1 R Bn T S O L0 L1 p d0 d1 := by
  obtain ⟨A1, hA1, h1'⟩ := h1.foot hp.ty
  refine ⟨hp, hP, A, A1, h0.fw hb, h1', fun k hk => ⟨(hA k hk).1, by have := (hA k hk).2.1; have := hb.size; omega, (hA k hk).2.2, fun hk1 => ?_⟩, fun k hk => ⟨Nat.le_trans hN (hA1 k hk).1, (hA1 k hk).2⟩⟩
  have h2 : w.heap.size ≤ k := (hA1 k hk1).1
  have := (hA k hk).2.1
  omega
theorem RSt.of_new (h0 : RDk A w D0 P R Bn T S O L0 d0) (hA : ∀ k, A.fr k → N ≤ k ∧ k < w.heap.size ∧ k ≠ P) (hN : N ≤ w.heap.size) (hp : RPw w' P p) (hP : N ≤ P) (hPw : P < w.heap.size) (hb : Below w.heap.size w w') (h1 : RDk (w.heap.size : Zn) w' D1 P R Bn T S O L1 d1) : RSt N w' P D0 D1 R Bn T S O L0 L1 p d0 d1 := by
  obtain ⟨A1, hA1, h1'⟩ := h1.foot hp.ty
  refine ⟨hp, hP, A, A1, h0.fw hb, h1', fun k hk => ⟨(hA k hk).1, by have := (hA k hk).2.1; have := hb.size; omega, (hA k hk).2.2, fun hk1 => ?_⟩, fun k hk => ⟨Nat.le_trans hN (hA1 k hk).1, (hA1 k hk).2⟩⟩
  have h2 : w.heap.size ≤ k := (hA1 k hk1).1
  have := (hA k hk).2.1
  omega
end
theorem CBox.tch {B : Zn} {Ls : List TypeId} {w w' : World} {g : Nat} {r b t s o : Int} {v0 v1 va : Value} (h : CBox w g r b t s o v0 v1 va) (hc : Tch B Ls w w') (hL : 45 ∉ Ls) : CBox w' g r b t s o v0 v1 va := Row.tch hc h hL
theorem CBox.geo {w : World} {g : Nat} {r b t s o : Int} {v0 v1 va : Value} (h : CBox w g r b t s o v0 v1 va) : w.rangeAt g 0 [.int .i64 r, .int .i64 b, .int .i64 t, .int .i64 s, .int .i64 o] := by
  intro j v hv
  have hj : j < 5 := (List.getElem?_eq_some_iff.1 hv).1
  rw [Nat.zero_add, Row.cell h, ← hv]
  match j, hj with
  | 0, _ => rfl
  | 1, _ => rfl
  | 2, _ => rfl
  | 3, _ => rfl
  | 4, _ => rfl
theorem row3c {w : World} {b : Nat} {t : TypeId} {x y z : Value} (h : Row w b t #[x, y, z]) : w.rangeAt b 0 [x, y, z] := by
  intro j v hv
  rw [Nat.zero_add, h.cell]
  simpa using hv
theorem row2c {w : World} {b : Nat} {t : TypeId} {x y : Value} (h : Row w b t #[x, y]) : w.rangeAt b 0 [x, y] := by
  intro j v hv
  rw [Nat.zero_add, h.cell]
  simpa using hv
theorem row2 {w : World} {b : Nat} {t : TypeId} {x y : Value} (h : Row w b t #[x, y]) : w.cell? ⟨b, 0, none⟩ = some x ∧ w.cell? ⟨b, 1, none⟩ = some y := by
  refine ⟨?_, ?_⟩ <;> (rw [h.cell]; rfl)
/-- A pointer, or nil. -/
abbrev ptrN (k : Nat) : Value := .pointer (some ⟨k, 0, none⟩)
/-- What the law's start leaves. -/
def st14 (R Bn T S O : Nat) (L0 L1 : List F) (w : World) (e : Ending) (w' : World) : Prop :=
  ∃ P D0 D1, e = .returned (.tuple #[.agg #[ptrN P, ptrN D0, ptrN D1], .bool true]) ∧ PSt w.heap.size w' P D0 D1 R Bn T S O L0 L1 Dsk.Pw.new (Dsk.Dk.new (List.replicate (R + Bn * (T * S)) Med.blank) Dsk.Pw.new) (Dsk.Dk.new (List.replicate (R + Bn * (T * S)) Med.blank) Dsk.Pw.new) ∧ Below w.heap.size w w'
/-- What the law's begin leaves. -/
def bg14 (R Bn T S O : Nat) (L0 L1 : List F) (w : World) (e : Ending) (w' : World) : Prop :=
  ∃ P D0 D1, e = .returned (.tuple #[ptrN P, .agg #[ptrN D0, ptrN D1]]) ∧ RSt w.heap.size w' P D0 D1 R Bn T S O L0 L1 Dsk.Pw.new (Dsk.Dk.new (List.replicate (R + Bn * (T * S)) Med.blank) Dsk.Pw.new) (Dsk.Dk.new (List.replicate (R + Bn * (T * S)) Med.blank) Dsk.Pw.new) ∧ Below w.heap.size w w'
theorem Row.tch6 {w : World} {b k i : Nat} {t : TypeId} {cs : Array Value} {u : Value} (h : Row w b t cs) (hk : b ≠ k) : Row (w.setCell ⟨k, i, none⟩ u) b t cs := h.oth hk i u
set_option maxHeartbeats 4000000 in
set_option maxRecDepth 100000 in
theorem start14_any {R Bn T S O : Nat} {v0 v1 va : Value} {L0 L1 : List F} {w : World} (hg : Geo.GV (R : Int) Bn T S O) (h0 : Fts w v0 L0) (h1 : Fts w v1 L1) (hv0 : vld L0 = true) (hv1 : vld L1 = true) (hl0 : L0.length ≤ 20) (hl1 : L1.length ≤ 20) :
    Calls Try.prog 21 #[.agg (csc (R : Int) Bn T S O v0 v1 va)] w (st14 R Bn T S O L0 L1 w) := by
  obtain ⟨A0, c0_, rfl⟩ := h0.form
  obtain ⟨A1, c1_, rfl⟩ := h1.form
  have HG := Lib.hid hg
  have V0 := Lib.hid hv0
  have V1 := Lib.hid hv1
  have HL0 := Lib.hid (show L0.length * 24 ≤ 140737488355328 by omega)
  have HL1 := Lib.hid (show L1.length * 24 ≤ 140737488355328 by omega)
  have H0 := Lib.hid h0
  have H1 := Lib.hid h1
  obtain ⟨n0, hn0⟩ : ∃ n, L0.length = n := ⟨_, rfl⟩
  obtain ⟨n1, hn1⟩ : ∃ n, L1.length = n := ⟨_, rfl⟩
  rw [hn0] at H0 ⊢
  rw [hn1] at H1 ⊢
  unfold csc
  obtain ⟨N, hN⟩ : ∃ N, w.heap.size = N := ⟨_, rfl⟩
  obtain ⟨dk, hdk⟩ : ∃ d, Dsk.Dk.new (List.replicate (R + Bn * (T * S)) Med.blank) Dsk.Pw.new = d := ⟨_, rfl⟩
  have EDK := Lib.hid hdk
  unfold st14
  rw [hdk]
  obtain ⟨W0, hW0⟩ : ∃ W, w.alloc (.cells #[.int .i64 (R : Int), .int .i64 (Bn : Int), .int .i64 (T : Int), .int .i64 (S : Int), .int .i64 (O : Int), .slice A0 n0 c0_, .slice A1 n1 c1_, va] 45) = W := ⟨_, rfl⟩
  have BW : Below w.heap.size w W0 := by subst hW0; exact (Below.refl _ _).alloc (Nat.le_refl _) _
  have R0 : CBox W0 N R Bn T S O (.slice A0 n0 c0_) (.slice A1 n1 c1_) va := by subst hW0; exact gr_new w _ _ hN
  obtain ⟨b2, hb2⟩ : ∃ b, W0.heap.size = b := ⟨_, rfl⟩
  obtain ⟨W1, hW1⟩ : ∃ W, W0.alloc (.cells #[.pointer none, .pointer none, .pointer none] 49) = W := ⟨_, rfl⟩
  have BW1 : Below W0.heap.size W0 W1 := by subst hW1; exact (Below.refl _ _).alloc (Nat.le_refl _) _
  have R1 : Row W1 b2 49 #[.pointer none, .pointer none, .pointer none] := by subst hW1; exact gr_new W0 _ _ hb2
  have T1 := Lib.hid (BW.trans (BW1.mono BW.size))
  have SZ1 := Lib.hid BW.size
  have NPC := Lib.hid (pnp_any W1)
  have G1 := Lib.hid (Row.go R0 BW1)
  have R1H := Lib.hid R1
  have HN := Lib.hid hN
  have HW0 := Lib.hid hW0
  have HB2 := Lib.hid hb2
  have HW1 := Lib.hid hW1
  clear hg h0 h1 hv0 hv1 hl0 hl1 hn0 hn1 hN hdk hW0 BW R0 hb2 hW1 BW1 R1
  go_enter Try.func21, Try.ntmps21
  go_wp2_with (first | rw [HN.out] | rw [HW0.out] | rw [HB2.out] | rw [HW1.out])
  refine NPC.out.mono ?_
  rintro e w3 ⟨P, rfl, hP, hp, hb⟩
  obtain ⟨b4, hb4⟩ : ∃ b, w3.heap.size = b := ⟨_, rfl⟩
  obtain ⟨W4, hW4⟩ : ∃ W, w3.alloc (.cells #[ptrN P, .pointer none, .pointer none] 49) = W := ⟨_, rfl⟩
  have BW4 : Below w3.heap.size w3 W4 := by subst hW4; exact (Below.refl _ _).alloc (Nat.le_refl _) _
  have R4 : Hid (Row W4 b4 49 #[ptrN P, .pointer none, .pointer none]) := Lib.hid (by subst hW4; exact gr_new w3 _ _ hb4)
  have G4 := Lib.hid (Row.go (Row.go G1.out hb) BW4)
  have S4 := Lib.hid (Row.go (Row.go R1H.out hb) BW4)
  have T4 := Lib.hid ((T1.out.trans (hb.mono T1.out.size)).trans (BW4.mono (Nat.le_trans T1.out.size hb.size)))
  have P4 := Lib.hid (hp.fw BW4)
  have PL := Lib.hid (Nat.le_trans T1.out.size hP)
  have HB4 := Lib.hid hb4
  have HW4 := Lib.hid hW4
  have N24 := Lib.hid (show b2 ≠ b4 by have := HB2.out; have := (Row.lt R1H.out); have := hb.size; omega)
  have NB4 := Lib.hid (show w.heap.size ≤ b4 by have := HB4.out; have := T1.out.size; have := hb.size; omega)
  clear hP hp hb hb4 hW4 BW4 NPC
  unfold ptrN at *
  go_wp2_with (first | rw [HW4.out, HB4.out])
  go_loopw [5, 6, 7] (fun i dd ee wr => Hid (CBox wr N R Bn T S O (.slice A0 n0 c0_) (.slice A1 n1 c1_) va ∧ Row wr b2 49 #[.pointer none, .pointer none, .pointer none] ∧ Below w.heap.size w wr ∧ PPw wr P Dsk.Pw.new) ∧
    ((i = .int .i64 0 ∧ Hid (Row wr b4 49 #[.pointer (some ⟨P, 0, none⟩), .pointer none, .pointer none])) ∨
     (i = .int .i64 1 ∧ ∃ D0, Hid (Row wr b4 49 #[.pointer (some ⟨P, 0, none⟩), .pointer (some ⟨D0, 0, none⟩), .pointer none] ∧ ∃ A : Zn, PDk A wr D0 P R Bn T S O L0 dk ∧ ∀ k, A.fr k → w.heap.size ≤ k ∧ k < wr.heap.size ∧ k ≠ P)) ∨
     (i = .int .i64 2 ∧ ∃ D0 D1, Hid (Row wr b4 49 #[.pointer (some ⟨P, 0, none⟩), .pointer (some ⟨D0, 0, none⟩), .pointer (some ⟨D1, 0, none⟩)] ∧ PSt w.heap.size wr P D0 D1 R Bn T S O L0 L1 Dsk.Pw.new dk dk)))) (fun i _ _ _ => (2 - intOf i).toNat)
  case atStart => exact ⟨Lib.hid ⟨G4.out, S4.out, T4.out, P4.out⟩, Or.inl ⟨rfl, R4.out⟩⟩
  case round =>
    obtain ⟨C, hr⟩ := hrel
    have GW := Lib.hid C.out.1
    have SW := Lib.hid C.out.2.1
    have TW := Lib.hid C.out.2.2.1
    have PW := Lib.hid C.out.2.2.2
    clear C
    rcases hr with ⟨rfl, RW⟩ | ⟨rfl, D0, DW⟩ | ⟨rfl, D0, D1, DW⟩
    · go_wp2_with fail
      refine wp_region_held (P := Try.prog) (S := (fun w' : World => Tch (⟨fun _ => True⟩ : Zn) ([] : List TypeId) wr w')) rfl ?_
      change wpAnyH _ _ _ _ _ _ _ _ wr.drew
      have thz2 : Below wr.heap.size wr wr.drew := (Below.refl wr.heap.size wr).drew
      generalize wr.drew = twz1 at thz2 ⊢
      have tHZ3 : Hid (Below wr.heap.size wr twz1) := Lib.hid thz2
      have tTT4 : Hid (Tch (⟨fun _ => True⟩ : Zn) ([] : List TypeId) wr twz1) := Lib.hid (Tch.of_below tHZ3.out (⟨fun _ => True⟩ : Zn) ([] : List TypeId))
      clear thz2
      have thS5 : (fun w' : World => Tch (⟨fun _ => True⟩ : Zn) ([] : List TypeId) wr w') twz1 := tTT4.out
      refine takeD (i := 0) (v := .pointer (some ⟨N, 0, none⟩)) (some 15) rfl rfl (by kernel_rfl) (by kernel_rfl) (by kernel_rfl) (fun _ _ _ h => h) (Or.inl ⟨by rfl, by rintro w' -; go_simp⟩) thS5 ?_
      simp only [Act.put, List.setIfInBounds_toArray, List.set_cons_zero, List.set_cons_succ]
      refine takeD (i := 1) (v := .agg #[.int .i64 (R : Int), .int .i64 (Bn : Int), .int .i64 (T : Int), .int .i64 (S : Int), .int .i64 (O : Int)]) (some 16) rfl rfl (by kernel_rfl) (by kernel_rfl) (by kernel_rfl) (fun _ _ _ h => h) (yieldsIf_load_mid (by rfl) _ _ rfl N 0 rfl [.int .i64 (R : Int), .int .i64 (Bn : Int), .int .i64 (T : Int), .int .i64 (S : Int), .int .i64 (O : Int)] _ (fun w' h => CBox.geo (CBox.tch GW.out h (by decide))) Try.underlying23 rfl (by kernel_rfl)) thS5 ?_
      simp only [Act.put, List.setIfInBounds_toArray, List.set_cons_zero, List.set_cons_succ]
      refine takeD (i := 2) (v := .int .i64 0) (some 17) rfl rfl (by kernel_rfl) (by kernel_rfl) (by kernel_rfl) (fun _ _ _ h => h) (Or.inl ⟨by rfl, by rintro w' -; go_simp⟩) thS5 ?_
      simp only [Act.put, List.setIfInBounds_toArray, List.set_cons_zero, List.set_cons_succ]
      refine takeD (i := 3) (v := .pointer (some ⟨N, 5, none⟩)) (some 18) rfl rfl (by kernel_rfl) (by kernel_rfl) (by kernel_rfl) (fun _ _ _ h => h) (Or.inl ⟨by rfl, by rintro w' -; go_simp⟩) thS5 ?_
      simp only [Act.put, List.setIfInBounds_toArray, List.set_cons_zero, List.set_cons_succ]
      refine takeD (i := 4) (v := .pointer (some ⟨N, 5, none⟩)) (some 19) rfl rfl (by kernel_rfl) (by kernel_rfl) (by kernel_rfl) (fun _ _ _ h => h) (Or.inl ⟨by rfl, by rintro w' -; go_simp⟩) thS5 ?_
      simp only [Act.put, List.setIfInBounds_toArray, List.set_cons_zero, List.set_cons_succ]
      refine takeD (i := 5) (v := .slice A0 n0 c0_) (some 20) rfl rfl (by kernel_rfl) (by kernel_rfl) (by kernel_rfl) (fun _ _ _ h => h) (Or.inl ⟨by rfl, by rintro w' h; have hc := (CBox.cells (CBox.tch GW.out h (by decide))).2.1; go_simp⟩) thS5 ?_
      simp only [Act.put, List.setIfInBounds_toArray, List.set_cons_zero, List.set_cons_succ]
      refine takeD (i := 6) (v := .pointer (some ⟨b4, 0, none⟩)) (some 21) rfl rfl (by kernel_rfl) (by kernel_rfl) (by kernel_rfl) (fun _ _ _ h => h) (Or.inl ⟨by rfl, by rintro w' -; go_simp⟩) thS5 ?_
      simp only [Act.put, List.setIfInBounds_toArray, List.set_cons_zero, List.set_cons_succ]
      refine takeD (i := 7) (v := .pointer (some ⟨P, 0, none⟩)) (some 22) rfl rfl (by kernel_rfl) (by kernel_rfl) (by kernel_rfl) (fun _ _ _ h => h) (Or.inl ⟨by rfl, by rintro w' h; have hc := (row3 (Row.tch h RW.out (by decide))).1; go_simp⟩) thS5 ?_
      simp only [Act.put, List.setIfInBounds_toArray, List.set_cons_zero, List.set_cons_succ]
      refine wpAnyH_ready (rs := [8]) (by kernel_rfl) (by simp) ?_
      refine AllReadyH.cons rfl (fun tK6 htK6 => ?_) AllReadyH.nil
      have HtK6 := Lib.hid htK6
      clear htK6
      rw [if_pos (by rfl)]
      go_simp
      refine (pdnew_ok HG.out (H0.out.fw (TW.out.trans (tHZ3.out.mono TW.out.size))) V0.out HL0.out (PW.out.fw tHZ3.out)).mono ?_
      rintro e tx7 ⟨D0, rfl, hd, hb⟩
      have HD := Lib.hid hd
      have HBB := Lib.hid hb
      clear hd hb
      have tTT8 : Hid (Tch (⟨fun _ => True⟩ : Zn) ([] : List TypeId) wr tx7) := Lib.hid (tTT4.out.trans (Tch.of_below HBB.out (⟨fun _ => True⟩ : Zn) ([] : List TypeId)))
      have thS9 : (fun w' : World => Tch (⟨fun _ => True⟩ : Zn) ([] : List TypeId) wr w') tx7 := tTT8.out
      refine HtK6.out _ _ thS9 fun _ => ?_
      try simp only [Act.put, List.setIfInBounds_toArray, List.set_cons_zero, List.set_cons_succ]
      refine takeD (i := 9) (v := .tuple #[.pointer (some ⟨D0, 0, none⟩), .int .i64 0]) (some 14) rfl rfl (by kernel_rfl) (by kernel_rfl) (by kernel_rfl) (fun _ _ _ h => h) (Or.inl ⟨by rfl, by rintro w' -; go_simp⟩) thS9 ?_
      simp only [Act.put, List.setIfInBounds_toArray, List.set_cons_zero, List.set_cons_succ]
      refine takeD (i := 10) (v := .pointer (some ⟨D0, 0, none⟩)) (some 24) rfl rfl (by kernel_rfl) (by kernel_rfl) (by kernel_rfl) (fun _ _ _ h => h) (Or.inl ⟨by rfl, by rintro w' -; go_simp⟩) thS9 ?_
      simp only [Act.put, List.setIfInBounds_toArray, List.set_cons_zero, List.set_cons_succ]
      refine takeD (i := 11) (v := .int .i64 0) (some 25) rfl rfl (by kernel_rfl) (by kernel_rfl) (by kernel_rfl) (fun _ _ _ h => h) (Or.inl ⟨by rfl, by rintro w' -; go_simp⟩) thS9 ?_
      simp only [Act.put, List.setIfInBounds_toArray, List.set_cons_zero, List.set_cons_succ]
      refine takeD (i := 12) (v := .pointer (some ⟨D0, 0, none⟩)) (some 6) rfl rfl (by kernel_rfl) (by kernel_rfl) (by kernel_rfl) (fun _ _ _ h => h) (Or.inl ⟨by rfl, by rintro w' -; go_simp⟩) thS9 ?_
      simp only [Act.put, List.setIfInBounds_toArray, List.set_cons_zero, List.set_cons_succ]
      refine takeD (i := 13) (v := .int .i64 0) (some 7) rfl rfl (by kernel_rfl) (by kernel_rfl) (by kernel_rfl) (fun _ _ _ h => h) (Or.inl ⟨by rfl, by rintro w' -; go_simp⟩) thS9 ?_
      simp only [Act.put, List.setIfInBounds_toArray, List.set_cons_zero, List.set_cons_succ]
      refine wpAnyH_done (by kernel_rfl) ?_ _
      have BX := Lib.hid (tHZ3.out.trans (HBB.out.mono tHZ3.out.size))
      have T5 := Lib.hid (TW.out.trans (BX.out.mono TW.out.size))
      have G5 := Lib.hid (Row.go GW.out BX.out)
      have S5 := Lib.hid (Row.go SW.out BX.out)
      have P5 := Lib.hid (PW.out.fw BX.out)
      have R5 := Lib.hid (Row.go RW.out BX.out)
      have r5 : tx7.cell? ⟨b4, 1, none⟩ = some (.pointer none) := by rw [R5.out.cell]; rfl
      have f5 := R5.out.frozen 1
      have R6 := Lib.hid (R5.out.store 1 (.pointer (some ⟨D0, 0, none⟩)))
      have T6 : Hid (Tch ⟨fun _ => True⟩ [49] tx7 (tx7.setCell ⟨b4, 1, none⟩ (.pointer (some ⟨D0, 0, none⟩)))) := Lib.hid ((Tch.refl _ _ _).set trivial R5.out.ty (by simp) _)
      have B6 := Lib.hid (T5.out.setCell (p := ⟨b4, 1, none⟩) NB4.out (.pointer (some ⟨D0, 0, none⟩)))
      obtain ⟨A, hA, hd⟩ := HD.out.foot P5.out.ty
      have DA := Lib.hid (And.intro (hd.keep T6.out (by decide)) (show ∀ k, A.fr k → w.heap.size ≤ k ∧ k < (tx7.setCell ⟨b4, 1, none⟩ (.pointer (some ⟨D0, 0, none⟩))).heap.size ∧ k ≠ P from fun k hk => ⟨Nat.le_trans (Nat.le_trans TW.out.size tHZ3.out.size) (hA k hk).1, Nat.lt_of_lt_of_le (hA k hk).2.1 (Tch.size T6.out), (hA k hk).2.2⟩))
      rw [EDK.out] at DA
      clear hA hd
      clear HD
      go_wp2_with fail
      go_roundw
      case rel => exact ⟨Lib.hid ⟨G5.out.tch T6.out (by decide), Row.tch6 S5.out (fun e => N24.out e), B6.out, P5.out.tch T6.out (by decide)⟩, Or.inr (Or.inl ⟨rfl, D0, Lib.hid ⟨R6.out, A, DA.out⟩⟩)⟩
      case measure => simp [intOf]
    · go_wp2_with fail
      refine wp_region_held (P := Try.prog) (S := (fun w' : World => Tch (⟨fun _ => True⟩ : Zn) ([] : List TypeId) wr w')) rfl ?_
      change wpAnyH _ _ _ _ _ _ _ _ wr.drew
      have thz2 : Below wr.heap.size wr wr.drew := (Below.refl wr.heap.size wr).drew
      generalize wr.drew = twz1 at thz2 ⊢
      have tHZ3 : Hid (Below wr.heap.size wr twz1) := Lib.hid thz2
      have tTT4 : Hid (Tch (⟨fun _ => True⟩ : Zn) ([] : List TypeId) wr twz1) := Lib.hid (Tch.of_below tHZ3.out (⟨fun _ => True⟩ : Zn) ([] : List TypeId))
      clear thz2
      have thS5 : (fun w' : World => Tch (⟨fun _ => True⟩ : Zn) ([] : List TypeId) wr w') twz1 := tTT4.out
      refine takeD (i := 0) (v := .pointer (some ⟨N, 0, none⟩)) (some 15) rfl rfl (by kernel_rfl) (by kernel_rfl) (by kernel_rfl) (fun _ _ _ h => h) (Or.inl ⟨by rfl, by rintro w' -; go_simp⟩) thS5 ?_
      simp only [Act.put, List.setIfInBounds_toArray, List.set_cons_zero, List.set_cons_succ]
      refine takeD (i := 1) (v := .agg #[.int .i64 (R : Int), .int .i64 (Bn : Int), .int .i64 (T : Int), .int .i64 (S : Int), .int .i64 (O : Int)]) (some 16) rfl rfl (by kernel_rfl) (by kernel_rfl) (by kernel_rfl) (fun _ _ _ h => h) (yieldsIf_load_mid (by rfl) _ _ rfl N 0 rfl [.int .i64 (R : Int), .int .i64 (Bn : Int), .int .i64 (T : Int), .int .i64 (S : Int), .int .i64 (O : Int)] _ (fun w' h => CBox.geo (CBox.tch GW.out h (by decide))) Try.underlying23 rfl (by kernel_rfl)) thS5 ?_
      simp only [Act.put, List.setIfInBounds_toArray, List.set_cons_zero, List.set_cons_succ]
      refine takeD (i := 2) (v := .int .i64 1) (some 17) rfl rfl (by kernel_rfl) (by kernel_rfl) (by kernel_rfl) (fun _ _ _ h => h) (Or.inl ⟨by rfl, by rintro w' -; go_simp⟩) thS5 ?_
      simp only [Act.put, List.setIfInBounds_toArray, List.set_cons_zero, List.set_cons_succ]
      refine takeD (i := 3) (v := .pointer (some ⟨N, 5, none⟩)) (some 18) rfl rfl (by kernel_rfl) (by kernel_rfl) (by kernel_rfl) (fun _ _ _ h => h) (Or.inl ⟨by rfl, by rintro w' -; go_simp⟩) thS5 ?_
      simp only [Act.put, List.setIfInBounds_toArray, List.set_cons_zero, List.set_cons_succ]
      refine takeD (i := 4) (v := .pointer (some ⟨N, 6, none⟩)) (some 19) rfl rfl (by kernel_rfl) (by kernel_rfl) (by kernel_rfl) (fun _ _ _ h => h) (Or.inl ⟨by rfl, by rintro w' -; go_simp⟩) thS5 ?_
      simp only [Act.put, List.setIfInBounds_toArray, List.set_cons_zero, List.set_cons_succ]
      refine takeD (i := 5) (v := .slice A1 n1 c1_) (some 20) rfl rfl (by kernel_rfl) (by kernel_rfl) (by kernel_rfl) (fun _ _ _ h => h) (Or.inl ⟨by rfl, by rintro w' h; have hc := (CBox.cells (CBox.tch GW.out h (by decide))).2.2.1; go_simp⟩) thS5 ?_
      simp only [Act.put, List.setIfInBounds_toArray, List.set_cons_zero, List.set_cons_succ]
      refine takeD (i := 6) (v := .pointer (some ⟨b4, 0, none⟩)) (some 21) rfl rfl (by kernel_rfl) (by kernel_rfl) (by kernel_rfl) (fun _ _ _ h => h) (Or.inl ⟨by rfl, by rintro w' -; go_simp⟩) thS5 ?_
      simp only [Act.put, List.setIfInBounds_toArray, List.set_cons_zero, List.set_cons_succ]
      refine takeD (i := 7) (v := .pointer (some ⟨P, 0, none⟩)) (some 22) rfl rfl (by kernel_rfl) (by kernel_rfl) (by kernel_rfl) (fun _ _ _ h => h) (Or.inl ⟨by rfl, by rintro w' h; have hc := (row3 (Row.tch h DW.out.1 (by decide))).1; go_simp⟩) thS5 ?_
      simp only [Act.put, List.setIfInBounds_toArray, List.set_cons_zero, List.set_cons_succ]
      refine wpAnyH_ready (rs := [8]) (by kernel_rfl) (by simp) ?_
      refine AllReadyH.cons rfl (fun tK6 htK6 => ?_) AllReadyH.nil
      have HtK6 := Lib.hid htK6
      clear htK6
      rw [if_pos (by rfl)]
      go_simp
      refine (pdnew_ok HG.out (H1.out.fw (TW.out.trans (tHZ3.out.mono TW.out.size))) V1.out HL1.out (PW.out.fw tHZ3.out)).mono ?_
      rintro e tx7 ⟨D1, rfl, hd, hb⟩
      have HD := Lib.hid hd
      have HBB := Lib.hid hb
      clear hd hb
      have tTT8 : Hid (Tch (⟨fun _ => True⟩ : Zn) ([] : List TypeId) wr tx7) := Lib.hid (tTT4.out.trans (Tch.of_below HBB.out (⟨fun _ => True⟩ : Zn) ([] : List TypeId)))
      have thS9 : (fun w' : World => Tch (⟨fun _ => True⟩ : Zn) ([] : List TypeId) wr w') tx7 := tTT8.out
      refine HtK6.out _ _ thS9 fun _ => ?_
      try simp only [Act.put, List.setIfInBounds_toArray, List.set_cons_zero, List.set_cons_succ]
      refine takeD (i := 9) (v := .tuple #[.pointer (some ⟨D1, 0, none⟩), .int .i64 0]) (some 14) rfl rfl (by kernel_rfl) (by kernel_rfl) (by kernel_rfl) (fun _ _ _ h => h) (Or.inl ⟨by rfl, by rintro w' -; go_simp⟩) thS9 ?_
      simp only [Act.put, List.setIfInBounds_toArray, List.set_cons_zero, List.set_cons_succ]
      refine takeD (i := 10) (v := .pointer (some ⟨D1, 0, none⟩)) (some 24) rfl rfl (by kernel_rfl) (by kernel_rfl) (by kernel_rfl) (fun _ _ _ h => h) (Or.inl ⟨by rfl, by rintro w' -; go_simp⟩) thS9 ?_
      simp only [Act.put, List.setIfInBounds_toArray, List.set_cons_zero, List.set_cons_succ]
      refine takeD (i := 11) (v := .int .i64 0) (some 25) rfl rfl (by kernel_rfl) (by kernel_rfl) (by kernel_rfl) (fun _ _ _ h => h) (Or.inl ⟨by rfl, by rintro w' -; go_simp⟩) thS9 ?_
      simp only [Act.put, List.setIfInBounds_toArray, List.set_cons_zero, List.set_cons_succ]
      refine takeD (i := 12) (v := .pointer (some ⟨D1, 0, none⟩)) (some 6) rfl rfl (by kernel_rfl) (by kernel_rfl) (by kernel_rfl) (fun _ _ _ h => h) (Or.inl ⟨by rfl, by rintro w' -; go_simp⟩) thS9 ?_
      simp only [Act.put, List.setIfInBounds_toArray, List.set_cons_zero, List.set_cons_succ]
      refine takeD (i := 13) (v := .int .i64 0) (some 7) rfl rfl (by kernel_rfl) (by kernel_rfl) (by kernel_rfl) (fun _ _ _ h => h) (Or.inl ⟨by rfl, by rintro w' -; go_simp⟩) thS9 ?_
      simp only [Act.put, List.setIfInBounds_toArray, List.set_cons_zero, List.set_cons_succ]
      refine wpAnyH_done (by kernel_rfl) ?_ _
      have BX := Lib.hid (tHZ3.out.trans (HBB.out.mono tHZ3.out.size))
      have T5 := Lib.hid (TW.out.trans (BX.out.mono TW.out.size))
      have G5 := Lib.hid (Row.go GW.out BX.out)
      have S5 := Lib.hid (Row.go SW.out BX.out)
      have P5 := Lib.hid (PW.out.fw BX.out)
      have R5 := Lib.hid (Row.go DW.out.1 BX.out)
      have r5 : tx7.cell? ⟨b4, 2, none⟩ = some (.pointer none) := by rw [R5.out.cell]; rfl
      have f5 := R5.out.frozen 2
      have R6 := Lib.hid (R5.out.store 2 (.pointer (some ⟨D1, 0, none⟩)))
      have T6 : Hid (Tch ⟨fun _ => True⟩ [49] tx7 (tx7.setCell ⟨b4, 2, none⟩ (.pointer (some ⟨D1, 0, none⟩)))) := Lib.hid ((Tch.refl _ _ _).set trivial R5.out.ty (by simp) _)
      have B6 := Lib.hid (T5.out.setCell (p := ⟨b4, 2, none⟩) NB4.out (.pointer (some ⟨D1, 0, none⟩)))
      obtain ⟨A, hA, hk⟩ := DW.out.2
      have DA := PSt.of_new (hA.fw tHZ3.out) (fun k h => ⟨(hk k h).1, Nat.lt_of_lt_of_le (hk k h).2.1 tHZ3.out.size, (hk k h).2.2⟩) (Nat.le_trans TW.out.size tHZ3.out.size) P5.out PL.out (Nat.lt_of_lt_of_le PW.out.ty.lt tHZ3.out.size) HBB.out HD.out
      replace DA := DA.keep T6.out (by decide)
      rw [EDK.out] at DA
      replace DA := Lib.hid DA
      clear hA hk
      clear HD
      go_wp2_with fail
      go_roundw
      case rel => exact ⟨Lib.hid ⟨G5.out.tch T6.out (by decide), Row.tch6 S5.out (fun e => N24.out e), B6.out, P5.out.tch T6.out (by decide)⟩, Or.inr (Or.inr ⟨rfl, D0, D1, Lib.hid ⟨R6.out, DA.out⟩⟩)⟩
      case measure => simp [intOf]
    · have SR := Lib.hid SW.out
      have RR := Lib.hid DW.out.1
      have ST := Lib.hid DW.out.2
      obtain ⟨x0, x1, x2⟩ := row3 RR.out
      obtain ⟨y0, y1, y2⟩ := row3 SR.out
      have f0 := SR.out.frozen 0
      have f1 := SR.out.frozen 1
      have f2 := SR.out.frozen 2
      have RF := Lib.hid (row_set3 SR.out (x' := .pointer (some ⟨P, 0, none⟩)) (y' := .pointer (some ⟨D0, 0, none⟩)) (z' := .pointer (some ⟨D1, 0, none⟩)))
      have NB2 := Lib.hid (show w.heap.size ≤ b2 by have := HB2.out; have := T1.out.size; have := SZ1.out; omega)
      have BF := Lib.hid (((TW.out.setCell (p := ⟨b2, 0, none⟩) NB2.out (.pointer (some ⟨P, 0, none⟩))).setCell (p := ⟨b2, 1, none⟩) NB2.out (.pointer (some ⟨D0, 0, none⟩))).setCell (p := ⟨b2, 2, none⟩) NB2.out (.pointer (some ⟨D1, 0, none⟩)))
      have TF : Hid (Tch ⟨fun _ => True⟩ [49] wr (((wr.setCell ⟨b2, 0, none⟩ (.pointer (some ⟨P, 0, none⟩))).setCell ⟨b2, 1, none⟩ (.pointer (some ⟨D0, 0, none⟩))).setCell ⟨b2, 2, none⟩ (.pointer (some ⟨D1, 0, none⟩)))) := Lib.hid ((((Tch.refl _ _ _).set trivial SR.out.ty (by simp) _).set trivial (SR.out.store 0 _).ty (by simp) _).set trivial ((SR.out.store 0 _).store 1 _).ty (by simp) _)
      have SF := Lib.hid (ST.out.keep TF.out (by decide))
      go_wp2_with fail
      refine bodyPost_ret (results_c1t1 (g := b2) (t := 49) (fr := (0, 0)) rfl _ _ _ _ rfl RF.out Try.underlying49 rfl (by kernel_rfl)) rfl ?_
      exact ⟨P, D0, D1, rfl, SF.out, BF.out⟩
end Go.Proofs.Ytdjjihppaobbcaa
namespace Go.Proofs.Ytdjjihppaobbcaa
open Go Go.RowKit Med Flt
set_option linter.unusedVariables false
set_option linter.unusedSimpArgs false
theorem results_t1c1 {P : Program} {fn : Func} {p u : Tmp} {ty : TypeId} (h : fn.results = #[.tmp u, .cell p ty]) (tmps : Array Value) (w : World) (g : Nat) (t : TypeId) (cs : Array Value) (fr : Nat × Nat) (d : TypeDesc)
    (hp : tmps.getD p undef = .pointer (some ⟨g, 0, none⟩)) (hg : w.heap[g]? = some (.cells cs t fr))
    (hu : P.underlying ty = some d) (hd : (match d with | .struct _ | .array _ _ => true | _ => false) = true) (hi : (P.info? ty).map (·.size) = some cs.size) :
    (results fn tmps).run P w = .ok (.tuple #[tmps.getD u undef, .agg cs]) w := by
  have hp' : tmps[p]?.getD undef = .pointer (some ⟨g, 0, none⟩) := by simpa using hp
  simp [results, h, hp', asAddr, run_loadVar_row w g t ty cs fr d hg hu hd hi]
theorem si14 : (Try.prog.info? 54).map (·.size) = some 2 := by kernel_rfl
theorem thr14 {w : World} {g : Nat} {t : TypeId} {x y : Value} (h : Row w g t #[x, y]) : w.there g 0 2 := by
  intro j hj
  rw [Nat.zero_add]
  refine ⟨?_, h.frozen j⟩
  rw [h.cell]
  match j, hj with
  | 0, _ => rfl
  | 1, _ => rfl
set_option maxHeartbeats 4000000 in
set_option maxRecDepth 100000 in
theorem begin14_any {R Bn T S O : Nat} {v0 v1 va : Value} {L0 L1 : List F} {w : World} (hg : Geo.GV (R : Int) Bn T S O) (h0 : Fts w v0 L0) (h1 : Fts w v1 L1) (hv0 : vld L0 = true) (hv1 : vld L1 = true) (hl0 : L0.length ≤ 20) (hl1 : L1.length ≤ 20) :
    Calls Try.prog 22 #[.agg (csc (R : Int) Bn T S O v0 v1 va)] w (bg14 R Bn T S O L0 L1 w) := by
  obtain ⟨A0, c0_, rfl⟩ := h0.form
  obtain ⟨A1, c1_, rfl⟩ := h1.form
  have HG := Lib.hid hg
  have V0 := Lib.hid hv0
  have V1 := Lib.hid hv1
  have HL0 := Lib.hid (show L0.length * 24 ≤ 140737488355328 by omega)
  have HL1 := Lib.hid (show L1.length * 24 ≤ 140737488355328 by omega)
  have H0 := Lib.hid h0
  have H1 := Lib.hid h1
  obtain ⟨n0, hn0⟩ : ∃ n, L0.length = n := ⟨_, rfl⟩
  obtain ⟨n1, hn1⟩ : ∃ n, L1.length = n := ⟨_, rfl⟩
  rw [hn0] at H0 ⊢
  rw [hn1] at H1 ⊢
  unfold csc
  obtain ⟨N, hN⟩ : ∃ N, w.heap.size = N := ⟨_, rfl⟩
  obtain ⟨dk, hdk⟩ : ∃ d, Dsk.Dk.new (List.replicate (R + Bn * (T * S)) Med.blank) Dsk.Pw.new = d := ⟨_, rfl⟩
  have EDK := Lib.hid hdk
  unfold bg14
  rw [hdk]
  obtain ⟨W0, hW0⟩ : ∃ W, w.alloc (.cells #[.int .i64 (R : Int), .int .i64 (Bn : Int), .int .i64 (T : Int), .int .i64 (S : Int), .int .i64 (O : Int), .slice A0 n0 c0_, .slice A1 n1 c1_, va] 45) = W := ⟨_, rfl⟩
  have BW : Below w.heap.size w W0 := by subst hW0; exact (Below.refl _ _).alloc (Nat.le_refl _) _
  have R0 : CBox W0 N R Bn T S O (.slice A0 n0 c0_) (.slice A1 n1 c1_) va := by subst hW0; exact gr_new w _ _ hN
  obtain ⟨b3, hb3⟩ : ∃ b, W0.heap.size = b := ⟨_, rfl⟩
  obtain ⟨W1, hW1⟩ : ∃ W, W0.alloc (.cells #[.pointer none, .pointer none] 54) = W := ⟨_, rfl⟩
  have BW1 : Below W0.heap.size W0 W1 := by subst hW1; exact (Below.refl _ _).alloc (Nat.le_refl _) _
  have R1 : Row W1 b3 54 #[.pointer none, .pointer none] := by subst hW1; exact gr_new W0 _ _ hb3
  have T1 := Lib.hid (BW.trans (BW1.mono BW.size))
  have SZ1 := Lib.hid BW.size
  have NPC := Lib.hid (rnp_any W1)
  have G1 := Lib.hid (Row.go R0 BW1)
  have R1H := Lib.hid R1
  have HN := Lib.hid hN
  have HW0 := Lib.hid hW0
  have HB3 := Lib.hid hb3
  have HW1 := Lib.hid hW1
  clear hg h0 h1 hv0 hv1 hl0 hl1 hn0 hn1 hN hdk hW0 BW R0 hb3 hW1 BW1 R1
  go_enter Try.func22, Try.ntmps22
  go_wp2_with (first | rw [HN.out] | rw [HW0.out] | rw [HB3.out] | rw [HW1.out])
  refine NPC.out.mono ?_
  rintro e w3 ⟨P, rfl, hP, hp, hb⟩
  obtain ⟨b5, hb5⟩ : ∃ b, w3.heap.size = b := ⟨_, rfl⟩
  obtain ⟨W4, hW4⟩ : ∃ W, w3.alloc (.cells #[.pointer none, .pointer none] 54) = W := ⟨_, rfl⟩
  have BW4 : Below w3.heap.size w3 W4 := by subst hW4; exact (Below.refl _ _).alloc (Nat.le_refl _) _
  have R4 : Hid (Row W4 b5 54 #[.pointer none, .pointer none]) := Lib.hid (by subst hW4; exact gr_new w3 _ _ hb5)
  have G4 := Lib.hid (Row.go (Row.go G1.out hb) BW4)
  have S4 := Lib.hid (Row.go (Row.go R1H.out hb) BW4)
  have T4 := Lib.hid ((T1.out.trans (hb.mono T1.out.size)).trans (BW4.mono (Nat.le_trans T1.out.size hb.size)))
  have P4 := Lib.hid (hp.fw BW4)
  have PL := Lib.hid (Nat.le_trans T1.out.size hP)
  have HB5 := Lib.hid hb5
  have HW4 := Lib.hid hW4
  have N35 := Lib.hid (show b3 ≠ b5 by have := HB3.out; have := (Row.lt R1H.out); have := hb.size; omega)
  have NB5 := Lib.hid (show w.heap.size ≤ b5 by have := HB5.out; have := T1.out.size; have := hb.size; omega)
  clear hP hp hb hb5 hW4 BW4 NPC
  unfold ptrN at *
  go_wp2_with (first | rw [HW4.out, HB5.out])
  go_loopw [6] (fun i wr => Hid (CBox wr N R Bn T S O (.slice A0 n0 c0_) (.slice A1 n1 c1_) va ∧ Row wr b3 54 #[.pointer none, .pointer none] ∧ Below w.heap.size w wr ∧ RPw wr P Dsk.Pw.new) ∧
    ((i = .int .i64 0 ∧ Hid (Row wr b5 54 #[.pointer none, .pointer none])) ∨
     (i = .int .i64 1 ∧ ∃ D0, Hid (Row wr b5 54 #[.pointer (some ⟨D0, 0, none⟩), .pointer none] ∧ ∃ A : Zn, RDk A wr D0 P R Bn T S O L0 dk ∧ ∀ k, A.fr k → w.heap.size ≤ k ∧ k < wr.heap.size ∧ k ≠ P)) ∨
     (i = .int .i64 2 ∧ ∃ D0 D1, Hid (Row wr b5 54 #[.pointer (some ⟨D0, 0, none⟩), .pointer (some ⟨D1, 0, none⟩)] ∧ RSt w.heap.size wr P D0 D1 R Bn T S O L0 L1 Dsk.Pw.new dk dk)))) (fun i _ => (2 - intOf i).toNat)
  case atStart => exact ⟨Lib.hid ⟨G4.out, S4.out, T4.out, P4.out⟩, Or.inl ⟨rfl, R4.out⟩⟩
  case round =>
    obtain ⟨C, hr⟩ := hrel
    have GW := Lib.hid C.out.1
    have SW := Lib.hid C.out.2.1
    have TW := Lib.hid C.out.2.2.1
    have PW := Lib.hid C.out.2.2.2
    clear C
    rcases hr with ⟨rfl, RW⟩ | ⟨rfl, D0, DW⟩ | ⟨rfl, D0, D1, DW⟩
    · go_wp2_with fail
      refine wp_region_held (P := Try.prog) (S := (fun w' : World => Tch (⟨fun _ => True⟩ : Zn) [54] wr w')) rfl ?_
      change wpAnyH _ _ _ _ _ _ _ _ wr.drew
      have thz2 : Below wr.heap.size wr wr.drew := (Below.refl wr.heap.size wr).drew
      generalize wr.drew = twz1 at thz2 ⊢
      have tHZ3 : Hid (Below wr.heap.size wr twz1) := Lib.hid thz2
      have tTT4 : Hid (Tch (⟨fun _ => True⟩ : Zn) [54] wr twz1) := Lib.hid (Tch.of_below tHZ3.out (⟨fun _ => True⟩ : Zn) [54])
      clear thz2
      have thS5 : (fun w' : World => Tch (⟨fun _ => True⟩ : Zn) [54] wr w') twz1 := tTT4.out
      refine takeD (i := 0) (v := .int .i64 0) (some 13) rfl rfl (by kernel_rfl) (by kernel_rfl) (by kernel_rfl) (fun _ _ _ h => h) (Or.inl ⟨by rfl, by rintro w' -; go_simp⟩) thS5 ?_
      simp only [Act.put, List.setIfInBounds_toArray, List.set_cons_zero, List.set_cons_succ]
      refine takeD (i := 1) (v := .pointer (some ⟨N, 0, none⟩)) (some 14) rfl rfl (by kernel_rfl) (by kernel_rfl) (by kernel_rfl) (fun _ _ _ h => h) (Or.inl ⟨by rfl, by rintro w' -; go_simp⟩) thS5 ?_
      simp only [Act.put, List.setIfInBounds_toArray, List.set_cons_zero, List.set_cons_succ]
      refine takeD (i := 2) (v := .agg #[.int .i64 (R : Int), .int .i64 (Bn : Int), .int .i64 (T : Int), .int .i64 (S : Int), .int .i64 (O : Int)]) (some 15) rfl rfl (by kernel_rfl) (by kernel_rfl) (by kernel_rfl) (fun _ _ _ h => h) (yieldsIf_load_mid (by rfl) _ _ rfl N 0 rfl [.int .i64 (R : Int), .int .i64 (Bn : Int), .int .i64 (T : Int), .int .i64 (S : Int), .int .i64 (O : Int)] _ (fun w' h => CBox.geo (CBox.tch GW.out h (by decide))) Try.underlying23 rfl (by kernel_rfl)) thS5 ?_
      simp only [Act.put, List.setIfInBounds_toArray, List.set_cons_zero, List.set_cons_succ]
      refine takeD (i := 3) (v := .int .i64 0) (some 16) rfl rfl (by kernel_rfl) (by kernel_rfl) (by kernel_rfl) (fun _ _ _ h => h) (Or.inl ⟨by rfl, by rintro w' -; go_simp⟩) thS5 ?_
      simp only [Act.put, List.setIfInBounds_toArray, List.set_cons_zero, List.set_cons_succ]
      refine takeD (i := 4) (v := .pointer (some ⟨N, 5, none⟩)) (some 17) rfl rfl (by kernel_rfl) (by kernel_rfl) (by kernel_rfl) (fun _ _ _ h => h) (Or.inl ⟨by rfl, by rintro w' -; go_simp⟩) thS5 ?_
      simp only [Act.put, List.setIfInBounds_toArray, List.set_cons_zero, List.set_cons_succ]
      refine takeD (i := 5) (v := .pointer (some ⟨N, 5, none⟩)) (some 18) rfl rfl (by kernel_rfl) (by kernel_rfl) (by kernel_rfl) (fun _ _ _ h => h) (Or.inl ⟨by rfl, by rintro w' -; go_simp⟩) thS5 ?_
      simp only [Act.put, List.setIfInBounds_toArray, List.set_cons_zero, List.set_cons_succ]
      refine takeD (i := 6) (v := .slice A0 n0 c0_) (some 19) rfl rfl (by kernel_rfl) (by kernel_rfl) (by kernel_rfl) (fun _ _ _ h => h) (Or.inl ⟨by rfl, by rintro w' h; have hc := (CBox.cells (CBox.tch GW.out h (by decide))).2.1; go_simp⟩) thS5 ?_
      simp only [Act.put, List.setIfInBounds_toArray, List.set_cons_zero, List.set_cons_succ]
      refine takeD (i := 7) (v := .pointer (some ⟨P, 0, none⟩)) (some 20) rfl rfl (by kernel_rfl) (by kernel_rfl) (by kernel_rfl) (fun _ _ _ h => h) (Or.inl ⟨by rfl, by rintro w' -; go_simp⟩) thS5 ?_
      simp only [Act.put, List.setIfInBounds_toArray, List.set_cons_zero, List.set_cons_succ]
      refine wpAnyH_ready (rs := [8]) (by kernel_rfl) (by simp) ?_
      refine AllReadyH.cons rfl (fun tK6 htK6 => ?_) AllReadyH.nil
      have HtK6 := Lib.hid htK6
      clear htK6
      rw [if_pos (by rfl)]
      go_simp
      refine (rnew14_any HG.out (H0.out.fw (TW.out.trans (tHZ3.out.mono TW.out.size))) V0.out HL0.out (PW.out.fw tHZ3.out)).mono ?_
      rintro e tx7 ⟨D0, rfl, hd, hb⟩
      have HD := Lib.hid hd
      have HBB := Lib.hid hb
      clear hd hb
      have tTT8 : Hid (Tch (⟨fun _ => True⟩ : Zn) [54] wr tx7) := Lib.hid (tTT4.out.trans (Tch.of_below HBB.out (⟨fun _ => True⟩ : Zn) [54]))
      have thS9 : (fun w' : World => Tch (⟨fun _ => True⟩ : Zn) [54] wr w') tx7 := tTT8.out
      refine HtK6.out _ _ thS9 fun _ => ?_
      try simp only [Act.put, List.setIfInBounds_toArray, List.set_cons_zero, List.set_cons_succ]
      refine takeD (i := 9) (v := .tuple #[.pointer (some ⟨D0, 0, none⟩), .int .i64 0]) (some 12) rfl rfl (by kernel_rfl) (by kernel_rfl) (by kernel_rfl) (fun _ _ _ h => h) (Or.inl ⟨by rfl, by rintro w' -; go_simp⟩) thS9 ?_
      simp only [Act.put, List.setIfInBounds_toArray, List.set_cons_zero, List.set_cons_succ]
      refine takeD (i := 10) (v := .pointer (some ⟨D0, 0, none⟩)) (some 22) rfl rfl (by kernel_rfl) (by kernel_rfl) (by kernel_rfl) (fun _ _ _ h => h) (Or.inl ⟨by rfl, by rintro w' -; go_simp⟩) thS9 ?_
      simp only [Act.put, List.setIfInBounds_toArray, List.set_cons_zero, List.set_cons_succ]
      refine takeD (i := 11) (v := .int .i64 0) (some 23) rfl rfl (by kernel_rfl) (by kernel_rfl) (by kernel_rfl) (fun _ _ _ h => h) (Or.inl ⟨by rfl, by rintro w' -; go_simp⟩) thS9 ?_
      simp only [Act.put, List.setIfInBounds_toArray, List.set_cons_zero, List.set_cons_succ]
      refine takeD (i := 12) (v := .pointer (some ⟨b5, 0, none⟩)) (some 24) rfl rfl (by kernel_rfl) (by kernel_rfl) (by kernel_rfl) (fun _ _ _ h => h) (Or.inl ⟨by rfl, by rintro w' -; go_simp⟩) thS9 ?_
      simp only [Act.put, List.setIfInBounds_toArray, List.set_cons_zero, List.set_cons_succ]
      refine wpAnyH_ready (rs := [13]) (by kernel_rfl) (by simp) ?_
      refine AllReadyH.cons rfl (fun tK10 htK10 => ?_) AllReadyH.nil
      have HtK10 := Lib.hid htK10
      clear htK10
      rw [if_pos (by rfl)]
      have BX := Lib.hid (tHZ3.out.trans (HBB.out.mono tHZ3.out.size))
      have T5 := Lib.hid (TW.out.trans (BX.out.mono TW.out.size))
      have G5 := Lib.hid (Row.go GW.out BX.out)
      have S5 := Lib.hid (Row.go SW.out BX.out)
      have P5 := Lib.hid (PW.out.fw BX.out)
      have R5 := Lib.hid (Row.go RW.out BX.out)
      have cc : tx7.cell? ⟨b5, 0, none⟩ = some (.pointer none) := by rw [R5.out.cell]; rfl
      have ff := R5.out.frozen 0
      go_simp
      clear cc ff
      have R6 := Lib.hid (R5.out.store 0 (.pointer (some ⟨D0, 0, none⟩)))
      have T6 : Hid (Tch ⟨fun _ => True⟩ [54] tx7 (tx7.setCell ⟨b5, 0, none⟩ (.pointer (some ⟨D0, 0, none⟩)))) := Lib.hid ((Tch.refl _ _ _).set trivial R5.out.ty (by simp) _)
      have B6 := Lib.hid (T5.out.setCell (p := ⟨b5, 0, none⟩) NB5.out (.pointer (some ⟨D0, 0, none⟩)))
      have S6 := Lib.hid (Row.tch6 (i := 0) (u := .pointer (some ⟨D0, 0, none⟩)) S5.out (fun e => N35.out e))
      obtain ⟨A, hA, hd⟩ := HD.out.foot P5.out.ty
      have DA := Lib.hid (And.intro (hd.keep T6.out (by decide)) (show ∀ k, A.fr k → w.heap.size ≤ k ∧ k < (tx7.setCell ⟨b5, 0, none⟩ (.pointer (some ⟨D0, 0, none⟩))).heap.size ∧ k ≠ P from fun k hk => ⟨Nat.le_trans (Nat.le_trans TW.out.size tHZ3.out.size) (hA k hk).1, Nat.lt_of_lt_of_le (hA k hk).2.1 (Tch.size T6.out), (hA k hk).2.2⟩))
      rw [EDK.out] at DA
      clear hA hd
      clear HD
      have G6 := Lib.hid (G5.out.tch T6.out (by decide))
      have P6 := Lib.hid (P5.out.tch T6.out (by decide))
      clear G5 S5 P5
      have tTT11 : Hid (Tch (⟨fun _ => True⟩ : Zn) [54] wr (tx7.setCell ⟨b5, 0, none⟩ (.pointer (some ⟨D0, 0, none⟩)))) := Lib.hid (tTT8.out.trans (T6.out))
      have thS12 : (fun w' : World => Tch (⟨fun _ => True⟩ : Zn) [54] wr w') (tx7.setCell ⟨b5, 0, none⟩ (.pointer (some ⟨D0, 0, none⟩))) := tTT11.out
      refine HtK10.out _ _ thS12 fun _ => ?_
      refine wpAnyH_done (by kernel_rfl) ?_ _
      go_wp2_with fail
      go_roundw
      case rel => exact ⟨Lib.hid ⟨G6.out, S6.out, B6.out, P6.out⟩, Or.inr (Or.inl ⟨rfl, D0, Lib.hid ⟨R6.out, A, DA.out⟩⟩)⟩
      case measure => simp [intOf]
    · go_wp2_with fail
      refine wp_region_held (P := Try.prog) (S := (fun w' : World => Tch (⟨fun _ => True⟩ : Zn) [54] wr w')) rfl ?_
      change wpAnyH _ _ _ _ _ _ _ _ wr.drew
      have thz2 : Below wr.heap.size wr wr.drew := (Below.refl wr.heap.size wr).drew
      generalize wr.drew = twz1 at thz2 ⊢
      have tHZ3 : Hid (Below wr.heap.size wr twz1) := Lib.hid thz2
      have tTT4 : Hid (Tch (⟨fun _ => True⟩ : Zn) [54] wr twz1) := Lib.hid (Tch.of_below tHZ3.out (⟨fun _ => True⟩ : Zn) [54])
      clear thz2
      have thS5 : (fun w' : World => Tch (⟨fun _ => True⟩ : Zn) [54] wr w') twz1 := tTT4.out
      refine takeD (i := 0) (v := .int .i64 1) (some 13) rfl rfl (by kernel_rfl) (by kernel_rfl) (by kernel_rfl) (fun _ _ _ h => h) (Or.inl ⟨by rfl, by rintro w' -; go_simp⟩) thS5 ?_
      simp only [Act.put, List.setIfInBounds_toArray, List.set_cons_zero, List.set_cons_succ]
      refine takeD (i := 1) (v := .pointer (some ⟨N, 0, none⟩)) (some 14) rfl rfl (by kernel_rfl) (by kernel_rfl) (by kernel_rfl) (fun _ _ _ h => h) (Or.inl ⟨by rfl, by rintro w' -; go_simp⟩) thS5 ?_
      simp only [Act.put, List.setIfInBounds_toArray, List.set_cons_zero, List.set_cons_succ]
      refine takeD (i := 2) (v := .agg #[.int .i64 (R : Int), .int .i64 (Bn : Int), .int .i64 (T : Int), .int .i64 (S : Int), .int .i64 (O : Int)]) (some 15) rfl rfl (by kernel_rfl) (by kernel_rfl) (by kernel_rfl) (fun _ _ _ h => h) (yieldsIf_load_mid (by rfl) _ _ rfl N 0 rfl [.int .i64 (R : Int), .int .i64 (Bn : Int), .int .i64 (T : Int), .int .i64 (S : Int), .int .i64 (O : Int)] _ (fun w' h => CBox.geo (CBox.tch GW.out h (by decide))) Try.underlying23 rfl (by kernel_rfl)) thS5 ?_
      simp only [Act.put, List.setIfInBounds_toArray, List.set_cons_zero, List.set_cons_succ]
      refine takeD (i := 3) (v := .int .i64 1) (some 16) rfl rfl (by kernel_rfl) (by kernel_rfl) (by kernel_rfl) (fun _ _ _ h => h) (Or.inl ⟨by rfl, by rintro w' -; go_simp⟩) thS5 ?_
      simp only [Act.put, List.setIfInBounds_toArray, List.set_cons_zero, List.set_cons_succ]
      refine takeD (i := 4) (v := .pointer (some ⟨N, 5, none⟩)) (some 17) rfl rfl (by kernel_rfl) (by kernel_rfl) (by kernel_rfl) (fun _ _ _ h => h) (Or.inl ⟨by rfl, by rintro w' -; go_simp⟩) thS5 ?_
      simp only [Act.put, List.setIfInBounds_toArray, List.set_cons_zero, List.set_cons_succ]
      refine takeD (i := 5) (v := .pointer (some ⟨N, 6, none⟩)) (some 18) rfl rfl (by kernel_rfl) (by kernel_rfl) (by kernel_rfl) (fun _ _ _ h => h) (Or.inl ⟨by rfl, by rintro w' -; go_simp⟩) thS5 ?_
      simp only [Act.put, List.setIfInBounds_toArray, List.set_cons_zero, List.set_cons_succ]
      refine takeD (i := 6) (v := .slice A1 n1 c1_) (some 19) rfl rfl (by kernel_rfl) (by kernel_rfl) (by kernel_rfl) (fun _ _ _ h => h) (Or.inl ⟨by rfl, by rintro w' h; have hc := (CBox.cells (CBox.tch GW.out h (by decide))).2.2.1; go_simp⟩) thS5 ?_
      simp only [Act.put, List.setIfInBounds_toArray, List.set_cons_zero, List.set_cons_succ]
      refine takeD (i := 7) (v := .pointer (some ⟨P, 0, none⟩)) (some 20) rfl rfl (by kernel_rfl) (by kernel_rfl) (by kernel_rfl) (fun _ _ _ h => h) (Or.inl ⟨by rfl, by rintro w' -; go_simp⟩) thS5 ?_
      simp only [Act.put, List.setIfInBounds_toArray, List.set_cons_zero, List.set_cons_succ]
      refine wpAnyH_ready (rs := [8]) (by kernel_rfl) (by simp) ?_
      refine AllReadyH.cons rfl (fun tK6 htK6 => ?_) AllReadyH.nil
      have HtK6 := Lib.hid htK6
      clear htK6
      rw [if_pos (by rfl)]
      go_simp
      refine (rnew14_any HG.out (H1.out.fw (TW.out.trans (tHZ3.out.mono TW.out.size))) V1.out HL1.out (PW.out.fw tHZ3.out)).mono ?_
      rintro e tx7 ⟨D1, rfl, hd, hb⟩
      have HD := Lib.hid hd
      have HBB := Lib.hid hb
      clear hd hb
      have tTT8 : Hid (Tch (⟨fun _ => True⟩ : Zn) [54] wr tx7) := Lib.hid (tTT4.out.trans (Tch.of_below HBB.out (⟨fun _ => True⟩ : Zn) [54]))
      have thS9 : (fun w' : World => Tch (⟨fun _ => True⟩ : Zn) [54] wr w') tx7 := tTT8.out
      refine HtK6.out _ _ thS9 fun _ => ?_
      try simp only [Act.put, List.setIfInBounds_toArray, List.set_cons_zero, List.set_cons_succ]
      refine takeD (i := 9) (v := .tuple #[.pointer (some ⟨D1, 0, none⟩), .int .i64 0]) (some 12) rfl rfl (by kernel_rfl) (by kernel_rfl) (by kernel_rfl) (fun _ _ _ h => h) (Or.inl ⟨by rfl, by rintro w' -; go_simp⟩) thS9 ?_
      simp only [Act.put, List.setIfInBounds_toArray, List.set_cons_zero, List.set_cons_succ]
      refine takeD (i := 10) (v := .pointer (some ⟨D1, 0, none⟩)) (some 22) rfl rfl (by kernel_rfl) (by kernel_rfl) (by kernel_rfl) (fun _ _ _ h => h) (Or.inl ⟨by rfl, by rintro w' -; go_simp⟩) thS9 ?_
      simp only [Act.put, List.setIfInBounds_toArray, List.set_cons_zero, List.set_cons_succ]
      refine takeD (i := 11) (v := .int .i64 0) (some 23) rfl rfl (by kernel_rfl) (by kernel_rfl) (by kernel_rfl) (fun _ _ _ h => h) (Or.inl ⟨by rfl, by rintro w' -; go_simp⟩) thS9 ?_
      simp only [Act.put, List.setIfInBounds_toArray, List.set_cons_zero, List.set_cons_succ]
      refine takeD (i := 12) (v := .pointer (some ⟨b5, 1, none⟩)) (some 24) rfl rfl (by kernel_rfl) (by kernel_rfl) (by kernel_rfl) (fun _ _ _ h => h) (Or.inl ⟨by rfl, by rintro w' -; go_simp⟩) thS9 ?_
      simp only [Act.put, List.setIfInBounds_toArray, List.set_cons_zero, List.set_cons_succ]
      refine wpAnyH_ready (rs := [13]) (by kernel_rfl) (by simp) ?_
      refine AllReadyH.cons rfl (fun tK10 htK10 => ?_) AllReadyH.nil
      have HtK10 := Lib.hid htK10
      clear htK10
      rw [if_pos (by rfl)]
      have BX := Lib.hid (tHZ3.out.trans (HBB.out.mono tHZ3.out.size))
      have T5 := Lib.hid (TW.out.trans (BX.out.mono TW.out.size))
      have G5 := Lib.hid (Row.go GW.out BX.out)
      have S5 := Lib.hid (Row.go SW.out BX.out)
      have P5 := Lib.hid (PW.out.fw BX.out)
      have R5 := Lib.hid (Row.go DW.out.1 BX.out)
      have cc : tx7.cell? ⟨b5, 1, none⟩ = some (.pointer none) := by rw [R5.out.cell]; rfl
      have ff := R5.out.frozen 1
      go_simp
      clear cc ff
      have R6 := Lib.hid (R5.out.store 1 (.pointer (some ⟨D1, 0, none⟩)))
      have T6 : Hid (Tch ⟨fun _ => True⟩ [54] tx7 (tx7.setCell ⟨b5, 1, none⟩ (.pointer (some ⟨D1, 0, none⟩)))) := Lib.hid ((Tch.refl _ _ _).set trivial R5.out.ty (by simp) _)
      have B6 := Lib.hid (T5.out.setCell (p := ⟨b5, 1, none⟩) NB5.out (.pointer (some ⟨D1, 0, none⟩)))
      have S6 := Lib.hid (Row.tch6 (i := 1) (u := .pointer (some ⟨D1, 0, none⟩)) S5.out (fun e => N35.out e))
      obtain ⟨A, hA, hk⟩ := DW.out.2
      have DA := RSt.of_new (hA.fw tHZ3.out) (fun k h => ⟨(hk k h).1, Nat.lt_of_lt_of_le (hk k h).2.1 tHZ3.out.size, (hk k h).2.2⟩) (Nat.le_trans TW.out.size tHZ3.out.size) P5.out PL.out (Nat.lt_of_lt_of_le PW.out.ty.lt tHZ3.out.size) HBB.out HD.out
      replace DA := DA.keep T6.out (by decide)
      rw [EDK.out] at DA
      replace DA := Lib.hid DA
      clear hA hk
      clear HD
      have G6 := Lib.hid (G5.out.tch T6.out (by decide))
      have P6 := Lib.hid (P5.out.tch T6.out (by decide))
      clear G5 S5 P5
      have tTT11 : Hid (Tch (⟨fun _ => True⟩ : Zn) [54] wr (tx7.setCell ⟨b5, 1, none⟩ (.pointer (some ⟨D1, 0, none⟩)))) := Lib.hid (tTT8.out.trans (T6.out))
      have thS12 : (fun w' : World => Tch (⟨fun _ => True⟩ : Zn) [54] wr w') (tx7.setCell ⟨b5, 1, none⟩ (.pointer (some ⟨D1, 0, none⟩))) := tTT11.out
      refine HtK10.out _ _ thS12 fun _ => ?_
      refine wpAnyH_done (by kernel_rfl) ?_ _
      go_wp2_with fail
      go_roundw
      case rel => exact ⟨Lib.hid ⟨G6.out, S6.out, B6.out, P6.out⟩, Or.inr (Or.inr ⟨rfl, D0, D1, Lib.hid ⟨R6.out, DA.out⟩⟩)⟩
      case measure => simp [intOf]
    · have SR := Lib.hid SW.out
      have RR := Lib.hid DW.out.1
      have ST := Lib.hid DW.out.2
      have NB3 := Lib.hid (show w.heap.size ≤ b3 by have := HB3.out; have := T1.out.size; have := SZ1.out; omega)
      go_wp2_with fail
      refine wp_region_held (P := Try.prog) (S := (fun w' : World => Tch (⟨fun k => k = b3⟩ : Zn) [54] wr w')) rfl ?_
      change wpAnyH _ _ _ _ _ _ _ _ wr.drew
      have uhz2 : Below wr.heap.size wr wr.drew := (Below.refl wr.heap.size wr).drew
      generalize wr.drew = uwz1 at uhz2 ⊢
      have uHZ3 : Hid (Below wr.heap.size wr uwz1) := Lib.hid uhz2
      have uTT4 : Hid (Tch (⟨fun k => k = b3⟩ : Zn) [54] wr uwz1) := Lib.hid (Tch.of_below uHZ3.out (⟨fun k => k = b3⟩ : Zn) [54])
      clear uhz2
      have uhS5 : (fun w' : World => Tch (⟨fun k => k = b3⟩ : Zn) [54] wr w') uwz1 := uTT4.out
      refine takeD (i := 0) (v := .pointer (some ⟨P, 0, none⟩)) (some 25) rfl rfl (by kernel_rfl) (by kernel_rfl) (by kernel_rfl) (fun _ _ _ h => h) (Or.inl ⟨by rfl, by rintro w' -; go_simp⟩) uhS5 ?_
      simp only [Act.put, List.setIfInBounds_toArray, List.set_cons_zero, List.set_cons_succ]
      refine takeD (i := 1) (v := .agg #[.pointer (some ⟨D0, 0, none⟩), .pointer (some ⟨D1, 0, none⟩)]) (some 26) rfl rfl (by kernel_rfl) (by kernel_rfl) (by kernel_rfl) (fun _ _ _ h => h) (yieldsIf_load_mid (by rfl) _ _ rfl b5 0 rfl [.pointer (some ⟨D0, 0, none⟩), .pointer (some ⟨D1, 0, none⟩)] _ (fun w' h => row2c ((Tch.low h RR.out.lt (fun e => N35.out e.symm)).trans RR.out)) Try.underlying54 rfl (by kernel_rfl)) uhS5 ?_
      simp only [Act.put, List.setIfInBounds_toArray, List.set_cons_zero, List.set_cons_succ]
      refine takeD (i := 2) (v := .pointer (some ⟨P, 0, none⟩)) (some 2) rfl rfl (by kernel_rfl) (by kernel_rfl) (by kernel_rfl) (fun _ _ _ h => h) (Or.inl ⟨by rfl, by rintro w' -; go_simp⟩) uhS5 ?_
      simp only [Act.put, List.setIfInBounds_toArray, List.set_cons_zero, List.set_cons_succ]
      refine wpAnyH_ready (rs := [3]) (by kernel_rfl) (by simp) ?_
      refine AllReadyH.cons rfl (fun uK6 huK6 => ?_) AllReadyH.nil
      have HuK6 := Lib.hid huK6
      clear huK6
      rw [if_pos (by rfl)]
      have S5 := Lib.hid (Row.go SR.out uHZ3.out)
      have T5 := Lib.hid (TW.out.trans (uHZ3.out.mono TW.out.size))
      have ST5 := Lib.hid (ST.out.fw uHZ3.out)
      refine wp_store_mid _ _ _ rfl b3 0 #[.pointer (some ⟨D0, 0, none⟩), .pointer (some ⟨D1, 0, none⟩)] rfl rfl (thr14 S5.out) si14 (by simp [Value.oneCell']) ?_
      have RF := Lib.hid ((S5.out.store 0 (.pointer (some ⟨D0, 0, none⟩))).store 1 (.pointer (some ⟨D1, 0, none⟩)))
      have BF := Lib.hid ((T5.out.setCell (p := ⟨b3, 0, none⟩) NB3.out (.pointer (some ⟨D0, 0, none⟩))).setCell (p := ⟨b3, 1, none⟩) NB3.out (.pointer (some ⟨D1, 0, none⟩)))
      have TF : Hid (Tch ⟨fun k => k = b3⟩ [54] uwz1 ((uwz1.setCell ⟨b3, 0, none⟩ (.pointer (some ⟨D0, 0, none⟩))).setCell ⟨b3, 1, none⟩ (.pointer (some ⟨D1, 0, none⟩)))) := Lib.hid (((Tch.refl _ _ _).set rfl S5.out.ty (by simp) _).set rfl (S5.out.store 0 _).ty (by simp) _)
      have SF := Lib.hid (ST5.out.keep TF.out (by decide))
      obtain ⟨W9, hW9⟩ : ∃ q, (uwz1.setCell ⟨b3, 0, none⟩ (.pointer (some ⟨D0, 0, none⟩))).setCell ⟨b3, 1, none⟩ (.pointer (some ⟨D1, 0, none⟩)) = q := ⟨_, rfl⟩
      rw [show uwz1.setCells b3 0 #[.pointer (some ⟨D0, 0, none⟩), .pointer (some ⟨D1, 0, none⟩)].toList = W9 from hW9]
      rw [hW9] at RF BF TF SF
      clear hW9
      have uTT7 : Hid (Tch (⟨fun k => k = b3⟩ : Zn) [54] wr W9) := Lib.hid (uTT4.out.trans (TF.out))
      have uhS8 : (fun w' : World => Tch (⟨fun k => k = b3⟩ : Zn) [54] wr w') W9 := uTT7.out
      refine HuK6.out _ _ uhS8 fun _ => ?_
      refine wpAnyH_done (by kernel_rfl) ?_ _
      go_wp2_with fail
      refine bodyPost_ret (results_t1c1 (g := b3) (t := 54) (fr := (0, 0)) rfl _ _ _ _ rfl RF.out Try.underlying54 rfl (by kernel_rfl)) rfl ?_
      exact ⟨P, D0, D1, rfl, SF.out, BF.out⟩
end Go.Proofs.Ytdjjihppaobbcaa
