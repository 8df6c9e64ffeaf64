/- Layer 13: contracts of the reference: At, Same. WRITTEN BY gen_Ff.py. -/
import Derived.Test.YtdjjihppaobbcaaFe
import Derived.Laws.Rows
namespace Go.Proofs.Ytdjjihppaobbcaa
open Go Go.RowKit Flt
set_option linter.unusedVariables false
set_option linter.unusedSimpArgs false
theorem results_c1t1 {P : Program} {fn : Func} {p u : Tmp} {ty : TypeId} (h : fn.results = #[.cell p ty, .tmp u]) (tmps : Array Value) (w : World) (g : Nat) (t : TypeId) (cs : Array Value) (fr : Nat × Nat) (d : TypeDesc)
    (hp : tmps.getD p undef = .pointer (some ⟨g, 0, none⟩)) (hg : w.heap[g]? = some (.cells cs t fr))
    (hu : P.underlying ty = some d) (hd : (match d with | .struct _ | .array _ _ => true | _ => false) = true) (hi : (P.info? ty).map (·.size) = some cs.size) :
    (results fn tmps).run P w = .ok (.tuple #[.agg cs, tmps.getD u undef]) w := by
  have hp' : tmps[p]?.getD undef = .pointer (some ⟨g, 0, none⟩) := by simpa using hp
  simp [results, h, hp', asAddr, run_loadVar_row w g t ty cs fr d hg hu hd hi]
theorem results_c1t2 {P : Program} {fn : Func} {p u v : Tmp} {ty : TypeId} (h : fn.results = #[.cell p ty, .tmp u, .tmp v]) (tmps : Array Value) (w : World) (g : Nat) (t : TypeId) (cs : Array Value) (fr : Nat × Nat) (d : TypeDesc)
    (hp : tmps.getD p undef = .pointer (some ⟨g, 0, none⟩)) (hg : w.heap[g]? = some (.cells cs t fr))
    (hu : P.underlying ty = some d) (hd : (match d with | .struct _ | .array _ _ => true | _ => false) = true) (hi : (P.info? ty).map (·.size) = some cs.size) :
    (results fn tmps).run P w = .ok (.tuple #[.agg cs, tmps.getD u undef, tmps.getD v undef]) w := by
  have hp' : tmps[p]?.getD undef = .pointer (some ⟨g, 0, none⟩) := by simpa using hp
  simp [results, h, hp', asAddr, run_loadVar_row w g t ty cs fr d hg hu hd hi]
/-- The first fault with a number. -/
def fnd (op : Int) (L : List F) : Option F := L.find? fun f => decide (f.pos = op)
def fF (o : Option F) : F := o.getD ⟨0, 0, 0⟩
def fV (f : F) : Value := .agg #[.int .i64 f.pos, .int .i64 f.kind, .int .i64 f.to]
theorem fnd_step {op : Int} {L : List F} {k : Nat} (hk : k < L.length) (h : fnd op (L.take k) = none) : fnd op (L.take (k + 1)) = if L[k].pos = op then some L[k] else none := by
  unfold fnd at h ⊢
  rw [List.take_succ_eq_append_getElem hk, List.find?_append, h]
  by_cases e : L[k].pos = op <;> simp [e]
theorem fnd_take {op : Int} {L : List F} {k : Nat} {f : F} (h : fnd op (L.take k) = some f) : fnd op L = some f := by
  unfold fnd at h ⊢
  rw [← List.take_append_drop k L, List.find?_append, h]; rfl
def atPost (op : Int) (L : List F) (w : World) (e : Ending) (w' : World) : Prop := e = .returned (.tuple #[fV (fF (fnd op L)), .bool (fnd op L).isSome]) ∧ Below w.heap.size w w'
theorem row_set3 {w : World} {b : Nat} {t : TypeId} {x y z x' y' z' : Value} (h : Row w b t #[x, y, z]) : Row (((w.setCell ⟨b, 0, none⟩ x').setCell ⟨b, 1, none⟩ y').setCell ⟨b, 2, none⟩ z') b t #[x', y', z'] :=
  ((h.store 0 x').store 1 y').store 2 z'
set_option maxHeartbeats 4000000 in
set_option maxRecDepth 100000 in
theorem rat_any (v : Value) (L : List F) (op : Int) (w : World) (h : Fts w v L) : Calls Try.prog 101 #[v, .int .i64 op] w (atPost op L w) := by
  have HL := Lib.hid h.len
  obtain ⟨A, cc, rfl⟩ := h.form
  have HO := Lib.hid h
  clear h
  obtain ⟨n, hn⟩ : ∃ n, L.length = n := ⟨_, rfl⟩
  have EN := Lib.hid hn
  rw [hn] at HO HL ⊢
  clear hn
  have R0 := Lib.hid (new13 w #[.int .i64 0, .int .i64 0, .int .i64 0] 80 rfl)
  have B0 : Hid (Below w.heap.size w (w.alloc (.cells #[.int .i64 0, .int .i64 0, .int .i64 0] 80))) := Lib.hid ((Below.refl _ _).alloc (Nat.le_refl _) _)
  go_enter Try.func101, Try.ntmps101
  go_wp2_with fail
  obtain ⟨b4, e4⟩ : ∃ b, w.heap.size = b := ⟨_, rfl⟩
  have E4 := Lib.hid e4
  rw [e4] at R0 ⊢
  obtain ⟨w1, hw1⟩ : ∃ x, w.alloc (.cells #[.int .i64 0, .int .i64 0, .int .i64 0] 80) = x := ⟨_, rfl⟩
  rw [hw1] at R0 B0 ⊢
  clear e4 hw1
  go_loopw [6] (fun i wr => ∃ k : Nat, k ≤ n ∧ i = .int .i64 (k : Int) ∧ wr = w1 ∧ Hid (fnd op (L.take k) = none)) (fun i _ => n - (intOf i).toNat)
  case atStart => exact ⟨0, Nat.zero_le _, rfl, rfl, Lib.hid rfl⟩
  case round =>
    obtain ⟨k, hk, rfl, rfl, V⟩ := hrel
    have nb := HL.out
    by_cases hlt : k < n
    · have kI : (k : Int) < (n : Int) := by omega
      obtain ⟨b, off, hk2, rfl, hr⟩ := (HO.out.fw B0.out).nth hlt
      have VS := Lib.hid (fnd_step hk2 V.out)
      obtain ⟨f, hf⟩ : ∃ f, L[k] = f := ⟨_, rfl⟩
      rw [hf] at hr VS
      obtain ⟨x, y, z⟩ := f
      obtain ⟨c0, -, -⟩ := fcs_at hr
      have RG := Lib.hid hr
      have hc0 : wr.cell? ⟨b, off + k * 3, none⟩ = some (.int .i64 x) := c0
      clear V hr hf c0
      by_cases e : x = op
      · have d0 : (x == op) = true := by simp [e]
        have FN := Lib.hid (fnd_take (VS.out.trans (if_pos e)))
        clear e
        have bb := (row3 R0.out)
        have f0 := R0.out.frozen 0
        have f1 := R0.out.frozen 1
        have f2 := R0.out.frozen 2
        obtain ⟨g0, g1, g2⟩ := bb
        go_wp2_with (refine wpList_load_mid rfl _ _ rfl b (off + k * 3) rfl [.int .i64 x, .int .i64 y, .int .i64 z] _ RG.out Try.underlying80 rfl (by kernel_rfl) ?_)
        refine bodyPost_ret (results_c1t1 (g := b4) (t := 80) (fr := (0, 0)) rfl _ _ _ _ rfl (row_set3 R0.out (x' := .int .i64 x) (y' := .int .i64 y) (z' := .int .i64 z)) Try.underlying80 rfl (by kernel_rfl)) rfl ?_
        refine ⟨by rw [FN.out]; rfl, ?_⟩
        exact ((B0.out.setCell (p := ⟨b4, 0, none⟩) (Nat.le_of_eq E4.out) _).setCell (p := ⟨b4, 1, none⟩) (Nat.le_of_eq E4.out) _).setCell (p := ⟨b4, 2, none⟩) (Nat.le_of_eq E4.out) _
      · have d0 : (x == op) = false := by simp [e]
        have FN := Lib.hid (VS.out.trans (if_neg e))
        clear e
        go_wp2_with fail
        go_roundw
        case rel => exact ⟨k + 1, by omega, by go_num, by trivial, FN⟩
        case measure => simp [intOf]; omega
    · obtain rfl : k = n := by omega
      have kI : ¬ (k : Int) < (k : Int) := by omega
      have dk : decide ((k : Int) < (k : Int)) = false := decide_eq_false kI
      have FN : Hid (fnd op L = none) := Lib.hid (by have := V.out; rwa [List.take_of_length_le (Nat.le_of_eq EN.out)] at this)
      have f0 := R0.out.frozen 0
      have f1 := R0.out.frozen 1
      have f2 := R0.out.frozen 2
      obtain ⟨g0, g1, g2⟩ := row3 R0.out
      clear V
      go_wp2_with fail
      refine bodyPost_ret (results_c1t1 (g := b4) (t := 80) (fr := (0, 0)) rfl _ _ _ _ rfl (row_set3 R0.out (x' := .int .i64 0) (y' := .int .i64 0) (z' := .int .i64 0)) Try.underlying80 rfl (by kernel_rfl)) rfl ?_
      refine ⟨by rw [FN.out]; rfl, ?_⟩
      exact ((B0.out.setCell (p := ⟨b4, 0, none⟩) (Nat.le_of_eq E4.out) _).setCell (p := ⟨b4, 1, none⟩) (Nat.le_of_eq E4.out) _).setCell (p := ⟨b4, 2, none⟩) (Nat.le_of_eq E4.out) _
def smPost (L M : List F) (w : World) (e : Ending) (w' : World) : Prop := ∃ bb : Bool, e = .returned (.bool bb) ∧ (bb = true ↔ L = M) ∧ Below w.heap.size w w'
end Go.Proofs.Ytdjjihppaobbcaa
