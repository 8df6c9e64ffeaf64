/- Caches: add, Write, Erase; the law's do. WRITTEN BY gen_Cce.py. -/
import Derived.Test.YtbaclcpnnompnaaCcd
namespace Go.Proofs.Ytbaclcpnnompnaa
open Go Go.RowKit Med
set_option linter.unusedVariables false
set_option linter.unusedSimpArgs false
theorem opL_bad {R B T S O : Nat} {l : List Sec} {o : Med.Op} (h : opE B l o ≠ 0) : opL R B T S O l o = l := by
  unfold opE at h
  unfold opL
  split
  · rename_i h1
    rw [if_pos h1] at h
    unfold erE at h
    unfold er
    by_cases h2 : 0 ≤ o.pos ∧ o.pos < B
    · rw [if_pos h2] at h; exact absurd rfl h
    · rw [if_neg h2]
  · rename_i h1
    rw [if_neg h1] at h
    unfold wr
    rw [if_neg h]
/-- The pending operations behind an operation that returned e. -/
def app (ops : List Med.Op) (e : Int) (o : Med.Op) : List Med.Op := if e = 0 then ops ++ [o] else ops
theorem app_len (ops : List Med.Op) (e : Int) (o : Med.Op) : (app ops e o).length ≤ ops.length + 1 := by
  unfold app; split <;> simp
/-- What Write and Erase do. -/
def adPost (B K R Bn T S O : Nat) (l : List Sec) (ops : List Med.Op) (o : Med.Op) (w : World) (e : Ending) (w' : World) : Prop :=
  e = .returned (.int .i64 (opE Bn (Med.play R Bn T S O l ops) o)) ∧ Ce B w' K R Bn T S O l (app ops (opE Bn (Med.play R Bn T S O l ops) o) o) ∧ Tch B tyP w w'
theorem ad_no {B : Nat} {w w1 : World} {K D X c C Y d R Bn T S O : Nat} {v : Value} {l : List Sec} {ops : List Med.Op} {o : Med.Op} (h : Ca B w K D X c C Y d R Bn T S O v l ops)
    (hm : PMd w1 C Y d R Bn T S O (opL R Bn T S O (Med.play R Bn T S O l ops) o)) (hc : Chg (fun j => j = Y) w w1) :
    Tch B [81] w w1 ∧ Row w1 K 76 #[.pointer (some ⟨D, 0, none⟩), v, .pointer (some ⟨C, 0, none⟩)] ∧ PMd w1 D X c R Bn T S O l ∧ Fl B w1 v ops := by
  have t : Tch B [81] w w1 := Tch.of_one hc h.low.2.2 h.co.sx.ty (by simp)
  exact ⟨t, h.row.tch t (by decide), h.du.chg hc (fun e => ((h.du.row.ty).ne h.co.sx.ty (by decide)) e) h.ne, h.fl.tch t (by unfold NoCap; decide) (by decide)⟩
theorem tch_sub {B : Nat} {L : List TypeId} {w w' : World} (h : Tch B L w w') (hL : ∀ t ∈ L, t ∈ tyP) : Tch B tyP w w' := h.mono (Nat.le_refl _) hL

theorem cell_new1 (w : World) (u : Value) (t : TypeId) : (w.alloc (.cells #[u] t)).cell? ⟨w.heap.size, 0, none⟩ = some u := by
  rw [(gr_new w #[u] t rfl).cell]; rfl
theorem Row.go {w w' : World} {g : Nat} {t : TypeId} {cs : Array Value} (h : Row w g t cs) (hb : Below w.heap.size w w') : Row w' g t cs := h.below hb h.lt

set_option maxHeartbeats 4000000 in
set_option maxRecDepth 100000 in
theorem cad_er {B : Nat} {w : World} {K R Bn T S O : Nat} {l : List Sec} {ops : List Med.Op} (h : Ce B w K R Bn T S O l ops) (o : Med.Op) (b : Nat) (ho : o.erase = true) (hb : Row w b 3 #[.int .i64 o.pos]) (hn : ops.length ≤ 1000) :
    Calls Try.prog 57 #[.pointer (some ⟨K, 0, none⟩), .func (.func 59) #[] #[.pointer (some ⟨b, 0, none⟩)]] w (adPost B K R Bn T S O l ops o w) := by
  obtain ⟨D, X, c, C, Y, d, v, h⟩ := h
  have FO : Hid (FnOp w (.func (.func 59) #[] #[.pointer (some ⟨b, 0, none⟩)]) o) := Lib.hid (Or.inl ⟨ho, b, rfl, hb⟩)
  have E := Lib.hid (er1_op h.co o b ho hb)
  obtain ⟨c0, c1, c2⟩ := h.cells
  have H := Lib.hid h
  have HN := Lib.hid hn
  have KL := Lib.hid h.row.lt
  have BK := Lib.hid h.low.1
  obtain ⟨z, hz⟩ : ∃ z, opE Bn (Med.play R Bn T S O l ops) o = z := ⟨_, rfl⟩
  have HZ := Lib.hid hz
  unfold opPost at E
  rw [hz] at E
  obtain ⟨l2, hl2⟩ : ∃ x, opL R Bn T S O (Med.play R Bn T S O l ops) o = x := ⟨_, rfl⟩
  have HL2 := Lib.hid hl2
  rw [hl2] at E
  unfold adPost
  rw [hz]
  clear h hn hz hl2 ho hb c0 c1
  go_enter Try.func57, Try.ntmps57
  go_wp2_with fail
  refine E.out.mono ?_
  rintro e w1 ⟨rfl, hm, hc⟩
  obtain ⟨t1, r1, du1, fl1⟩ := ad_no H.out (by rw [HL2.out]; exact hm) hc
  have T1 := Lib.hid t1
  have R1 := Lib.hid r1
  have DU := Lib.hid du1
  have FL := Lib.hid fl1
  have CO := Lib.hid hm
  have FO1 := Lib.hid (FO.out.tch t1 (by unfold NoCap; decide))
  have c1 : w1.cell? ⟨K, 1, none⟩ = some v := by rw [r1.cell]; rfl
  clear t1 r1 du1 fl1 hm hc c2 E FO
  by_cases h0 : z = 0
  · have Z0 := Lib.hid h0
    have d0 : ((z : Int) == 0) = true := by simp [h0]
    have FL2 := Lib.hid (FL.out.fw ((Below.refl _ w1).alloc (Nat.le_refl _) (.cells #[.func (.func 59) #[] #[.pointer (some ⟨b, 0, none⟩)]] 79)))
    have FO2 := Lib.hid (FO1.out.fw ((Below.refl _ w1).alloc (Nat.le_refl _) (.cells #[.func (.func 59) #[] #[.pointer (some ⟨b, 0, none⟩)]] 79)))
    have CN := Lib.hid (cell_new1 w1 (.func (.func 59) #[] #[.pointer (some ⟨b, 0, none⟩)]) 79)
    have BL := Lib.hid (show B ≤ (w1.alloc (.cells #[.func (.func 59) #[] #[.pointer (some ⟨b, 0, none⟩)]] 79)).heap.size by have := T1.out.size; have := KL.out; have := BK.out; simp; omega)
    clear h0
    go_wp2_with (at_builtin; refine wpList_push_F rfl _ _ rfl v ops _ w1.heap.size _ o rfl FL2.out rfl rfl CN.out FO2.out (by have := HN.out; omega) BL.out ?_; intro g cap w2 hf ht; have FL3 := Lib.hid hf; have T2 := Lib.hid ht; have R2 := Lib.hid ((R1.out.go ((Below.refl _ w1).alloc (Nat.le_refl _) (.cells #[.func (.func 59) #[] #[.pointer (some ⟨b, 0, none⟩)]] 79))).tch ht (by decide)); have f1 := R2.out.frozen 1; have q1 : w2.cell? ⟨K, 1, none⟩ = some v := (by rw [R2.out.cell]; rfl); clear hf ht)
    go_ret
    have ba : Below w1.heap.size w1 (w1.alloc (.cells #[.func (.func 59) #[] #[.pointer (some ⟨b, 0, none⟩)]] 79)) := (Below.refl _ w1).alloc (Nat.le_refl _) _
    have ts : Tch B [76] w2 (w2.setCell ⟨K, 1, none⟩ (.slice (some ⟨g, 0, none⟩) (ops.length + 1) cap)) := (Tch.refl _ _ _).set BK.out R2.out.ty (by simp) _
    have nc1 : NoCap [79] := by unfold NoCap; decide
    have nc2 : NoCap [76] := by unfold NoCap; decide
    refine ⟨rfl, ⟨D, X, c, C, Y, d, _, R2.out.store 1 _, Md.tch ts (Md.tch T2.out (DU.out.fw ba) (by decide) (by decide)) (by decide) (by decide), ?_, H.out.ne, ?_, H.out.low⟩, (tch_sub T1.out (by decide)).trans ((Tch.of_below ba _ _).trans ((tch_sub T2.out (by decide)).trans (tch_sub ts (by decide))))⟩
    · unfold app
      rw [if_pos Z0.out, play_snoc, HL2.out]
      exact Md.tch ts (Md.tch T2.out (CO.out.fw ba) (by decide) (by decide)) (by decide) (by decide)
    · unfold app
      rw [if_pos Z0.out]
      have := FL3.out.tch ts nc2 (by decide)
      rw [show ops.length + 1 = (ops ++ [o]).length by simp] at this ⊢
      exact this
  · have Z0 := Lib.hid h0
    have d0 : ((z : Int) == 0) = false := by simp [h0]
    clear h0
    go_wp2_with fail
    go_ret
    refine ⟨rfl, ⟨D, X, c, C, Y, d, _, R1.out, DU.out, ?_, H.out.ne, ?_, H.out.low⟩, tch_sub T1.out (by decide)⟩
    · unfold app
      rw [if_neg Z0.out]
      have := CO.out
      rw [← HL2.out, opL_bad (by rw [HZ.out]; exact Z0.out)] at this
      exact this
    · unfold app
      rw [if_neg Z0.out]
      exact FL.out

set_option maxHeartbeats 4000000 in
set_option maxRecDepth 100000 in
theorem cad_wr {B : Nat} {w : World} {K R Bn T S O : Nat} {l : List Sec} {ops : List Med.Op} (h : Ce B w K R Bn T S O l ops) (o : Med.Op) (b k : Nat) (u : Value) (ho : o.erase = false) (hb : Row w b 3 #[.int .i64 o.pos]) (hk : Row w k 36 #[u]) (hu : BsT w u o.bytes) (hn : ops.length ≤ 1000) :
    Calls Try.prog 57 #[.pointer (some ⟨K, 0, none⟩), .func (.func 58) #[] #[.pointer (some ⟨b, 0, none⟩), .pointer (some ⟨k, 0, none⟩)]] w (adPost B K R Bn T S O l ops o w) := by
  obtain ⟨D, X, c, C, Y, d, v, h⟩ := h
  have FO : Hid (FnOp w (.func (.func 58) #[] #[.pointer (some ⟨b, 0, none⟩), .pointer (some ⟨k, 0, none⟩)]) o) := Lib.hid (Or.inr ⟨ho, b, k, u, rfl, hb, hk, hu⟩)
  have E := Lib.hid (wr1_op h.co o b k u ho hb hk hu.1)
  obtain ⟨c0, c1, c2⟩ := h.cells
  have H := Lib.hid h
  have HN := Lib.hid hn
  have KL := Lib.hid h.row.lt
  have BK := Lib.hid h.low.1
  obtain ⟨z, hz⟩ : ∃ z, opE Bn (Med.play R Bn T S O l ops) o = z := ⟨_, rfl⟩
  have HZ := Lib.hid hz
  unfold opPost at E
  rw [hz] at E
  obtain ⟨l2, hl2⟩ : ∃ x, opL R Bn T S O (Med.play R Bn T S O l ops) o = x := ⟨_, rfl⟩
  have HL2 := Lib.hid hl2
  rw [hl2] at E
  unfold adPost
  rw [hz]
  clear h hn hz hl2 ho hb hk hu c0 c1
  go_enter Try.func57, Try.ntmps57
  go_wp2_with fail
  refine E.out.mono ?_
  rintro e w1 ⟨rfl, hm, hc⟩
  obtain ⟨t1, r1, du1, fl1⟩ := ad_no H.out (by rw [HL2.out]; exact hm) hc
  have T1 := Lib.hid t1
  have R1 := Lib.hid r1
  have DU := Lib.hid du1
  have FL := Lib.hid fl1
  have CO := Lib.hid hm
  have FO1 := Lib.hid (FO.out.tch t1 (by unfold NoCap; decide))
  have c1 : w1.cell? ⟨K, 1, none⟩ = some v := by rw [r1.cell]; rfl
  clear t1 r1 du1 fl1 hm hc c2 E FO
  by_cases h0 : z = 0
  · have Z0 := Lib.hid h0
    have d0 : ((z : Int) == 0) = true := by simp [h0]
    have FL2 := Lib.hid (FL.out.fw ((Below.refl _ w1).alloc (Nat.le_refl _) (.cells #[.func (.func 58) #[] #[.pointer (some ⟨b, 0, none⟩), .pointer (some ⟨k, 0, none⟩)]] 79)))
    have FO2 := Lib.hid (FO1.out.fw ((Below.refl _ w1).alloc (Nat.le_refl _) (.cells #[.func (.func 58) #[] #[.pointer (some ⟨b, 0, none⟩), .pointer (some ⟨k, 0, none⟩)]] 79)))
    have CN := Lib.hid (cell_new1 w1 (.func (.func 58) #[] #[.pointer (some ⟨b, 0, none⟩), .pointer (some ⟨k, 0, none⟩)]) 79)
    have BL := Lib.hid (show B ≤ (w1.alloc (.cells #[.func (.func 58) #[] #[.pointer (some ⟨b, 0, none⟩), .pointer (some ⟨k, 0, none⟩)]] 79)).heap.size by have := T1.out.size; have := KL.out; have := BK.out; simp; omega)
    clear h0
    go_wp2_with (at_builtin; refine wpList_push_F rfl _ _ rfl v ops _ w1.heap.size _ o rfl FL2.out rfl rfl CN.out FO2.out (by have := HN.out; omega) BL.out ?_; intro g cap w2 hf ht; have FL3 := Lib.hid hf; have T2 := Lib.hid ht; have R2 := Lib.hid ((R1.out.go ((Below.refl _ w1).alloc (Nat.le_refl _) (.cells #[.func (.func 58) #[] #[.pointer (some ⟨b, 0, none⟩), .pointer (some ⟨k, 0, none⟩)]] 79))).tch ht (by decide)); have f1 := R2.out.frozen 1; have q1 : w2.cell? ⟨K, 1, none⟩ = some v := (by rw [R2.out.cell]; rfl); clear hf ht)
    go_ret
    have ba : Below w1.heap.size w1 (w1.alloc (.cells #[.func (.func 58) #[] #[.pointer (some ⟨b, 0, none⟩), .pointer (some ⟨k, 0, none⟩)]] 79)) := (Below.refl _ w1).alloc (Nat.le_refl _) _
    have ts : Tch B [76] w2 (w2.setCell ⟨K, 1, none⟩ (.slice (some ⟨g, 0, none⟩) (ops.length + 1) cap)) := (Tch.refl _ _ _).set BK.out R2.out.ty (by simp) _
    have nc1 : NoCap [79] := by unfold NoCap; decide
    have nc2 : NoCap [76] := by unfold NoCap; decide
    refine ⟨rfl, ⟨D, X, c, C, Y, d, _, R2.out.store 1 _, Md.tch ts (Md.tch T2.out (DU.out.fw ba) (by decide) (by decide)) (by decide) (by decide), ?_, H.out.ne, ?_, H.out.low⟩, (tch_sub T1.out (by decide)).trans ((Tch.of_below ba _ _).trans ((tch_sub T2.out (by decide)).trans (tch_sub ts (by decide))))⟩
    · unfold app
      rw [if_pos Z0.out, play_snoc, HL2.out]
      exact Md.tch ts (Md.tch T2.out (CO.out.fw ba) (by decide) (by decide)) (by decide) (by decide)
    · unfold app
      rw [if_pos Z0.out]
      have := FL3.out.tch ts nc2 (by decide)
      rw [show ops.length + 1 = (ops ++ [o]).length by simp] at this ⊢
      exact this
  · have Z0 := Lib.hid h0
    have d0 : ((z : Int) == 0) = false := by simp [h0]
    clear h0
    go_wp2_with fail
    go_ret
    refine ⟨rfl, ⟨D, X, c, C, Y, d, _, R1.out, DU.out, ?_, H.out.ne, ?_, H.out.low⟩, tch_sub T1.out (by decide)⟩
    · unfold app
      rw [if_neg Z0.out]
      have := CO.out
      rw [← HL2.out, opL_bad (by rw [HZ.out]; exact Z0.out)] at this
      exact this
    · unfold app
      rw [if_neg Z0.out]
      exact FL.out

end Go.Proofs.Ytbaclcpnnompnaa
