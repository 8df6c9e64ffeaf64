/- Layer 14: the law's only. -/
import Derived.Test.YtdjjihppaobbcaaDpo
namespace Go.Proofs.Ytdjjihppaobbcaa
open Go Go.RowKit Med Flt
set_option linter.unusedVariables false
set_option linter.unusedSimpArgs false
def zac : Value := .agg #[.int .u8 0, .int .u8 0, .int .u64 0, .int .i64 0, .slice none 0 0, .bool false]
theorem info_ac : (Try.prog.info? 62).map (fun i => (i.zero, i.size, i.bytes)) = some (some zac, 6, 56) := by kernel_rfl
/-- The acts that are reads, writes, erasures and flushes, with the key 0. -/
def Ac.only (L : List Ac) : List Ac := (L.filter fun a => decide (a.kind ≤ 3)).map fun a => { a with key := 0 }
theorem Ac.only_step {L : List Ac} {k : Nat} (hk : k < L.length) : Ac.only (L.take (k + 1)) = Ac.only (L.take k) ++ (if L[k].kind ≤ 3 then [{ L[k] with key := 0 }] else []) := by
  unfold Ac.only
  rw [List.take_succ_eq_append_getElem hk, List.filter_append, List.map_append]
  congr 1
  by_cases h : L[k].kind ≤ 3 <;> simp [h]
theorem Ac.only_len (L : List Ac) : (Ac.only L).length ≤ L.length := by
  unfold Ac.only; rw [List.length_map]; exact List.length_filter_le _ _
theorem Ac.only_mem {L : List Ac} {a : Ac} (h : a ∈ Ac.only L) : ∃ b ∈ L, a = { b with key := 0 } ∧ b.kind ≤ 3 := by
  unfold Ac.only at h
  obtain ⟨b, hb, rfl⟩ := List.mem_map.1 h
  exact ⟨b, (List.mem_filter.1 hb).1, rfl, by simpa using (List.mem_filter.1 hb).2⟩
theorem range6 : Array.range 6 = #[0, 1, 2, 3, 4, 5] := rfl
theorem run_build_ac (a : Ac) (w : World) : (Instr.buildSlice 43 1 #[(0, .agg (acs a).toArray)]).run Try.prog w = .ok (.slice (some ⟨w.heap.size, 0, none⟩) 1 1) (w.alloc (.cells (acs a).toArray 62)) := by
  obtain ⟨i, hi, hz, hs, hb⟩ := parts13 info_ac
  simp [Instr.buildSlice, run_underlying Try.underlying43, sizeOf, typeInfo, hi, hs, zeroValue, hz, newRow, Instr.fill, zac, Value.cells, range6, acs]
theorem wp_build_ac {o : Oper} {a : Act} {w : World} {K : Act → World → Prop} {Q : Exit → Act → World → Prop} (p : Operand) (ho : o.op = .buildSlice 43 1 #[(0, p)]) (x : Ac) (hx : a.eval p = .agg (acs x).toArray)
    (hk : K (a.put o.dst (.slice (some ⟨w.heap.size, 0, none⟩) 1 1)) (w.alloc (.cells (acs x).toArray 62))) : o.wp Try.prog a w K Q := by
  unfold Oper.wp
  simp only [execOp, ho, List.map_toArray, List.map_cons, List.map_nil, hx, Sem.run_bind, Sem.run_pure, Result.andThen_ok, run_build_ac x w]
  exact hk
abbrev OwA (B : Nat) (w : World) (v : Value) (L : List Ac) : Prop := St.Ow 62 6 acs B w v L
def onPost (L : List Ac) (w : World) (e : Ending) (w' : World) : Prop := ∃ v, e = .returned v ∧ OwA w.heap.size w' v (Ac.only L) ∧ Below w.heap.size w w'
set_option maxHeartbeats 4000000 in
set_option maxRecDepth 100000 in
theorem only_any (v : Value) (L : List Ac) (w : World) (h : Acl w v L) (hl : L.length ≤ 1000) : Calls Try.prog 24 #[v] w (onPost L w) := by
  obtain ⟨A, cc, rfl⟩ := h.form
  have HO := Lib.hid h
  have HL := Lib.hid hl
  clear h hl
  obtain ⟨n, hn⟩ : ∃ n, L.length = n := ⟨_, rfl⟩
  have EN := Lib.hid hn
  rw [hn] at HO HL ⊢
  clear hn
  go_enter Try.func24, Try.ntmps24
  go_wp2_with fail
  go_loopw [3, 4] (fun o i wr => ∃ (k : Nat), k ≤ n ∧ i = .int .i64 (k : Int) ∧ Hid (OwA w.heap.size wr o (Ac.only (L.take k)) ∧ Below w.heap.size w wr)) (fun _ i _ => n - (intOf i).toNat)
  case atStart => exact ⟨0, Nat.zero_le _, rfl, Lib.hid ⟨St.Ow.nil_ _ _, Below.refl _ _⟩⟩
  case round =>
    obtain ⟨k, hk, rfl, V⟩ := hrel
    have nb := HL.out
    by_cases hlt : k < n
    · have kI : (k : Int) < (n : Int) := by omega
      obtain ⟨b, off, hk2, rfl, hr, -⟩ := (HO.out.fw V.out.2).nth hlt
      have WS := Lib.hid (Ac.only_step hk2)
      have LN := Lib.hid (show ((Ac.only (L.take k)).length + 1) * 56 ≤ 140737488355328 from by have := Ac.only_len (L.take k); rw [List.length_take] at this; omega)
      have LM := Lib.hid (show (Ac.only (L.take k)).length + 1 ≤ maxLen from by have := Ac.only_len (L.take k); rw [List.length_take] at this; unfold maxLen; omega)
      obtain ⟨f, hf⟩ : ∃ f, L[k] = f := ⟨_, rfl⟩
      rw [hf] at hr WS
      obtain ⟨x0, x1, x2, x3, ua, un, uc, bs, x5⟩ := f
      obtain ⟨-, c1, -, -, -, -⟩ := acs_at hr
      simp only at c1
      have RG := Lib.hid hr
      have TB := Lib.hid V.out.2
      have OV := Lib.hid V.out.1
      obtain ⟨A2, c2, rfl⟩ := V.out.1.form acs_enc
      generalize Ac.only (L.take k) = W at WS OV LN LM
      obtain ⟨N, hN⟩ : ∃ N, W.length = N := ⟨_, rfl⟩
      have EW := Lib.hid hN
      rw [hN] at OV LN LM ⊢
      clear V hr hf hN
      by_cases g1 : x1 ≤ 3
      · have g1I : (x1 : Int) ≤ 3 := by omega
        have WE : Hid (Ac.only (L.take (k + 1)) = W ++ [⟨x0, x1, 0, x3, ua, un, uc, bs, x5⟩]) := Lib.hid (WS.out.trans (by rw [if_pos g1]))
        obtain ⟨b1, hb1⟩ : ∃ b, wr.heap.size = b := ⟨_, rfl⟩
        obtain ⟨W1, hW1⟩ : ∃ q, wr.alloc (.cells #[.int .u8 (x0 : Int), .int .u8 (x1 : Int), .int .u64 (x2 : Int), .int .i64 x3, .slice ua un uc, .bool x5] 62) = q := ⟨_, rfl⟩
        have A1 : Below wr.heap.size wr W1 := by subst hW1; exact (Below.refl _ _).alloc (Nat.le_refl _) _
        have R1 : Row W1 b1 62 #[.int .u8 (x0 : Int), .int .u8 (x1 : Int), .int .u64 (x2 : Int), .int .i64 x3, .slice ua un uc, .bool x5] := by subst hW1; exact gr_new wr _ _ hb1
        have c2_ : W1.cell? ⟨b1, 2, none⟩ = some (.int .u64 (x2 : Int)) := by rw [R1.cell]; rfl
        have f2_ := R1.frozen 2
        have A2_ : Below wr.heap.size wr (W1.setCell ⟨b1, 2, none⟩ (.int .u64 0)) := A1.setCell (p := ⟨b1, 2, none⟩) (Nat.le_of_eq hb1) _
        have R2 : Row (W1.setCell ⟨b1, 2, none⟩ (.int .u64 0)) b1 62 (acs ⟨x0, x1, 0, x3, ua, un, uc, bs, x5⟩).toArray := R1.store 2 (.int .u64 0)
        have HB1 := Lib.hid hb1
        have HW1 := Lib.hid hW1
        obtain ⟨y, hy⟩ : ∃ y : Ac, (⟨x0, x1, 0, x3, ua, un, uc, bs, x5⟩ : Ac) = y := ⟨_, rfl⟩
        obtain ⟨W2, hW2⟩ : ∃ q, W1.setCell ⟨b1, 2, none⟩ (.int .u64 0) = q := ⟨_, rfl⟩
        rw [hW2] at A2_ R2
        have d0 : W2.cell? ⟨b1, 0, none⟩ = some (.int .u8 (x0 : Int)) := by rw [R2.cell]; rfl
        have d1 : W2.cell? ⟨b1, 1, none⟩ = some (.int .u8 (x1 : Int)) := by rw [R2.cell]; rfl
        have d2 : W2.cell? ⟨b1, 2, none⟩ = some (.int .u64 0) := by rw [R2.cell]; rfl
        have d3 : W2.cell? ⟨b1, 3, none⟩ = some (.int .i64 x3) := by rw [R2.cell]; rfl
        have d4 : W2.cell? ⟨b1, 4, none⟩ = some (.slice ua un uc) := by rw [R2.cell]; rfl
        have d5 : W2.cell? ⟨b1, 5, none⟩ = some (.bool x5) := by rw [R2.cell]; rfl
        have YE : Hid (#[.int .u8 (x0 : Int), .int .u8 (x1 : Int), .int .u64 0, .int .i64 x3, .slice ua un uc, .bool x5] = (acs y).toArray) := Lib.hid (by rw [← hy]; rfl)
        obtain ⟨b3, hb3⟩ : ∃ b, W2.heap.size = b := ⟨_, rfl⟩
        obtain ⟨W3, hW3⟩ : ∃ q, W2.alloc (.cells (acs y).toArray 62) = q := ⟨_, rfl⟩
        have A3 : Below W2.heap.size W2 W3 := by subst hW3; exact (Below.refl _ _).alloc (Nat.le_refl _) _
        have R3 : Row W3 b3 62 (acs y).toArray := by subst hW3; exact gr_new W2 _ _ hb3
        have M3 := Lib.hid (St.Rd.one (enc := acs) (k := 6) R3)
        have A4 : Below wr.heap.size wr W3 := A2_.trans (A3.mono A2_.size)
        have O3 := Lib.hid (St.Ow.fw OV.out A4)
        have T3 := Lib.hid (TB.out.trans (A4.mono TB.out.size))
        have BS := Lib.hid (Nat.le_trans TB.out.size A4.size)
        have HW2 := Lib.hid hW2
        have HB3 := Lib.hid hb3
        have HW3 := Lib.hid hW3
        rw [hy] at WE
        clear hb1 hW1 hW2 hb3 hW3 A1 A2_ A3 A4 R1 R2 R3 hy g1
        go_wp2_with (first | rw [HW1.out, HB1.out] | rw [HW2.out] | rw [HW3.out, HB3.out] | (refine wpList_load_mid rfl _ _ rfl b (off + k * 6) rfl [.int .u8 (x0 : Int), .int .u8 (x1 : Int), .int .u64 (x2 : Int), .int .i64 x3, .slice ua un uc, .bool x5] _ RG.out Try.underlying62 rfl (by kernel_rfl) ?_) | (refine wpList_plain rfl fun _ hK' => wp_build_ac _ rfl y (by rw [← YE.out]; rfl) (hK' _ _ ?_)) | (at_builtin; refine wpList_plain rfl fun _ hK' => St.wp_cat acs_enc (by decide) Try.underlying43 info_ac rfl _ _ rfl _ N 1 1 (some ⟨b3, 0, none⟩) W [y] rfl O3.out EW.out rfl M3.out rfl (by decide) LN.out LM.out BS.out ?_; intro gg cap w3 ho hb; refine hK' _ _ ?_))
        have O4 := Lib.hid ho
        have T4 := Lib.hid (T3.out.trans hb)
        clear ho hb
        go_roundw
        case rel => exact ⟨k + 1, by omega, by go_num, Lib.hid ⟨by rw [WE.out]; exact O4.out, T4.out⟩⟩
        case measure => simp [intOf]; omega
      · have WE := Lib.hid (WS.out.trans (by rw [if_neg g1]))
        have g2 : decide ((x1 : Int) ≤ 3) = false := decide_eq_false (by omega)
        clear g1
        go_wp2_with fail
        go_roundw
        case rel => exact ⟨k + 1, by omega, by go_num, Lib.hid ⟨by rw [WE.out, List.append_nil]; exact OV.out, TB.out⟩⟩
        case measure => simp [intOf]; omega
    · obtain rfl : k = n := by omega
      have kI : ¬ (k : Int) < (k : Int) := by omega
      have dk : decide ((k : Int) < (k : Int)) = false := decide_eq_false kI
      have OV := Lib.hid V.out
      rw [List.take_of_length_le (Nat.le_of_eq EN.out)] at OV
      clear V
      go_wp2_with fail
      go_ret
      exact ⟨_, rfl, OV.out⟩
end Go.Proofs.Ytdjjihppaobbcaa
