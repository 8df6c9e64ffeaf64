/- Media in memory; what the methods return, as values. -/
import Derived.Test.YtbaclcpnnompnaaMda
import Derived.Test.YtbaclcpnnompnaaChg
import Derived.Test.YtbaclcpnnompnaaKb
import Derived.Lib.ConvBytes
import Derived.Laws.AppendOwn
namespace Go.Proofs.Ytbaclcpnnompnaa
open Go Go.RowKit
set_option linter.unusedVariables false
set_option linter.unusedSimpArgs false
open Med
/-- Block X is just these sectors, two cells each, and perhaps more cells behind them. -/
def Sx (w : World) (X : Nat) (ts : TypeId) (c : Nat) (l : List Sec) : Prop :=
  ∃ cs, Row w X ts cs ∧ cs.size = c * 2 ∧ l.length ≤ c ∧ c ≤ maxLen ∧ ∀ k (h : k < l.length), cs[k * 2]? = some (.int .i64 l[k].1) ∧ cs[k * 2 + 1]? = some (.string l[k].2)
section
variable {w w' : World} {X c : Nat} {ts : TypeId} {l : List Sec}
theorem Sx.lt (h : Sx w X ts c l) : X < w.heap.size := by obtain ⟨_, h, _⟩ := h; exact h.lt
theorem Sx.block (h : Sx w X ts c l) (hb : w'.heap[X]? = w.heap[X]?) : Sx w' X ts c l := by
  obtain ⟨cs, h1, h2⟩ := h
  exact ⟨cs, hb.trans h1, h2⟩
theorem Sx.cap (h : Sx w X ts c l) : l.length ≤ c ∧ c ≤ maxLen := by obtain ⟨_, _, _, h1, h2, _⟩ := h; exact ⟨h1, h2⟩
theorem Sx.c0 (h : Sx w X ts c l) {k : Nat} (hk : k < l.length) : w.cell? ⟨X, k * 2, none⟩ = some (.int .i64 l[k].1) := by
  obtain ⟨cs, hr, _, _, _, hc⟩ := h; rw [hr.cell]; exact (hc k hk).1
theorem Sx.c1 (h : Sx w X ts c l) {k : Nat} (hk : k < l.length) : w.cell? ⟨X, k * 2 + 1, none⟩ = some (.string l[k].2) := by
  obtain ⟨cs, hr, _, _, _, hc⟩ := h; rw [hr.cell]; exact (hc k hk).2
theorem Sx.frz (h : Sx w X ts c l) (i : Nat) : w.frozen? ⟨X, i, none⟩ = false := by obtain ⟨_, h, _⟩ := h; exact h.frozen i
/-- A sector is set. -/
theorem Sx.set (h : Sx w X ts c l) (k : Nat) (s : Sec) : Sx ((w.setCell ⟨X, k * 2, none⟩ (.int .i64 s.1)).setCell ⟨X, k * 2 + 1, none⟩ (.string s.2)) X ts c (l.set k s) := by
  obtain ⟨cs, hr, hs, hl, hm, hc⟩ := h
  refine ⟨_, (hr.store (k * 2) (.int .i64 s.1)).store (k * 2 + 1) (.string s.2), by simpa using hs, by simpa using hl, hm, fun j hj => ?_⟩
  have hj' : j < l.length := by simpa using hj
  obtain ⟨a0, a1⟩ := hc j hj'
  by_cases e : k = j
  · subst e
    rw [List.getElem_set_self]
    refine ⟨?_, ?_⟩
    · rw [Array.getElem?_setIfInBounds_ne (by omega), Array.getElem?_setIfInBounds_self_of_lt (by omega)]
    · rw [Array.getElem?_setIfInBounds_self_of_lt (by simp; omega)]
  · rw [List.getElem_set_ne e]
    refine ⟨?_, ?_⟩
    · rw [Array.getElem?_setIfInBounds_ne (by omega), Array.getElem?_setIfInBounds_ne (by omega)]; exact a0
    · rw [Array.getElem?_setIfInBounds_ne (by omega), Array.getElem?_setIfInBounds_ne (by omega)]; exact a1
end
/-- A medium: its struct is block M, its sectors are block X. -/
structure Md (tm ts : TypeId) (w : World) (M X c R B T S O : Nat) (l : List Sec) : Prop where
  v : Geo.GV (R : Int) B T S O
  len : l.length = R + B * (T * S)
  row : Row w M tm #[.int .i64 (R : Int), .int .i64 (B : Int), .int .i64 (T : Int), .int .i64 (S : Int), .int .i64 (O : Int), .slice (some ⟨X, 0, none⟩) l.length c]
  sx : Sx w X ts c l
  ne : M ≠ X
  sh : ∀ s ∈ l, s.2.size ≤ 64
section
variable {w w' : World} {M X c R B T S O : Nat} {tm ts : TypeId} {l : List Sec}
theorem Md.chg {o : Nat → Prop} (h : Md tm ts w M X c R B T S O l) (hc : Chg o w w') (h1 : ¬ o M) (h2 : ¬ o X) : Md tm ts w' M X c R B T S O l :=
  ⟨h.v, h.len, (hc.block M h.row.lt h1).trans h.row, h.sx.block (hc.block X h.sx.lt h2), h.ne, h.sh⟩
theorem Md.fw (h : Md tm ts w M X c R B T S O l) (hb : Below w.heap.size w w') : Md tm ts w' M X c R B T S O l := h.chg (below_chg hb fun _ => False) id id
theorem Md.small (h : Md tm ts w M X c R B T S O l) : l.length ≤ 100000 ∧ 1 ≤ l.length := by
  have g := Geo.gv_nat h.v
  have a := Geo.bts_le g.2.2.1 g.2.2.2.2.1 g.2.2.2.2.2.2.1
  have b := Nat.mul_le_mul g.2.1 (Geo.ts_pos g.2.2.2.1 g.2.2.2.2.2.1)
  have := h.len
  simp only [Nat.one_mul] at b
  have b' : 0 < B * (T * S) := by omega
  omega
/-- A sector is set. -/
theorem Md.set (h : Md tm ts w M X c R B T S O l) (k : Nat) (s : Sec) (hs : s.2.size ≤ 64) : Md tm ts ((w.setCell ⟨X, k * 2, none⟩ (.int .i64 s.1)).setCell ⟨X, k * 2 + 1, none⟩ (.string s.2)) M X c R B T S O (l.set k s) :=
  ⟨h.v, by simpa using h.len, by
    rw [List.length_set]
    exact (Below.heap_setCell _ ⟨X, k * 2 + 1, none⟩ _ M h.ne).trans ((Below.heap_setCell _ ⟨X, k * 2, none⟩ _ M h.ne).trans h.row), h.sx.set k s, h.ne, fun x hx => by
    rcases List.mem_or_eq_of_mem_set hx with h2 | rfl
    · exact h.sh x h2
    · exact hs⟩
theorem Md.setChg (w : World) (X k : Nat) (u v : Value) : Chg (fun j => j = X) w ((w.setCell ⟨X, k * 2, none⟩ u).setCell ⟨X, k * 2 + 1, none⟩ v) :=
  ((Chg.refl (fun j => j = X) w).setCell (p := ⟨X, k * 2, none⟩) rfl u).setCell (p := ⟨X, k * 2 + 1, none⟩) rfl v
theorem Md.c5 (h : Md tm ts w M X c R B T S O l) : w.cell? ⟨M, 5, none⟩ = some (.slice (some ⟨X, 0, none⟩) l.length c) := by rw [h.row.cell]; rfl
theorem Md.geo (h : Md tm ts w M X c R B T S O l) : w.cell? ⟨M, 0, none⟩ = some (.int .i64 (R : Int)) ∧ w.cell? ⟨M, 1, none⟩ = some (.int .i64 (B : Int)) ∧ w.cell? ⟨M, 2, none⟩ = some (.int .i64 (T : Int)) ∧ w.cell? ⟨M, 3, none⟩ = some (.int .i64 (S : Int)) ∧ w.cell? ⟨M, 4, none⟩ = some (.int .i64 (O : Int)) := by
  refine ⟨?_, ?_, ?_, ?_, ?_⟩ <;> (rw [h.row.cell]; rfl)
theorem Md.rng (h : Md tm ts w M X c R B T S O l) : w.rangeAt M 0 [.int .i64 (R : Int), .int .i64 (B : Int), .int .i64 (T : Int), .int .i64 (S : Int), .int .i64 (O : Int)] := fun j v hv => by
  rw [Nat.zero_add, h.row.cell]
  match j, hv with
  | 0, hv => simpa using hv
  | 1, hv => simpa using hv
  | 2, hv => simpa using hv
  | 3, hv => simpa using hv
  | 4, hv => simpa using hv
  | j + 5, hv => simp at hv
end
/-- A value is returned, and nothing changes. -/
def qPost (v : Value) (w : World) (e : Ending) (w' : World) : Prop := e = .returned v ∧ w = w'
/-- The value reads as the bytes l; it is nil, or lies in new memory that may be written. -/
def OwF (w : World) (K : Nat) (v : Value) (l : List Nat) : Prop :=
  Bs w v l ∧ ((v = .slice none 0 0 ∧ l = []) ∨ ∃ g c cs fr, v = .slice (some ⟨g, 0, none⟩) l.length c ∧ K ≤ g ∧ w.heap[g]? = some (.cells cs 5 fr) ∧ l.length ≤ fr.1 ∧ l.length ≤ cs.size)
theorem OwF.nil_ (w : World) (K : Nat) : OwF w K (.slice none 0 0) [] := ⟨Bs.nil_ w, Or.inl ⟨rfl, rfl⟩⟩
theorem bytes_below (w : World) (e : TypeId) (s : ByteArray) : Below w.heap.size w (Lib.bytesWorld w e s) :=
  ⟨rfl, rfl, rfl, by rw [Lib.bytesWorld_size]; omega, fun k hk => Lib.bytesWorld_at_old w e s k hk⟩
theorem bytes_own (w : World) (s : ByteArray) (hs : s.size ≤ 64) : OwF (Lib.bytesWorld w 5 s) w.heap.size (.slice (some ⟨w.heap.size, 0, none⟩) s.size (grownCap w s.size 0 5)) (bOf s) := by
  have hm : s.size ≤ maxLen := by unfold maxLen; omega
  refine ⟨⟨some ⟨w.heap.size, 0, none⟩, _, by rw [bOf_len], ⟨by rw [bOf_len]; exact grownCap_ge _ _ _ _, grownCap_le_maxLen _ _ _ _ hm⟩, bOf_lt s, fun h => (by cases h), fun _ => ⟨_, 0, rfl, fun k hk => ?_⟩⟩, Or.inr ⟨w.heap.size, _, _, _, by rw [bOf_len], Nat.le_refl _, Lib.bytesWorld_at_new w _ s, ?_, ?_⟩⟩
  · rw [bOf_len] at hk
    rw [Nat.zero_add, Lib.bytesWorld_cell w _ s k hk]
    rw [← bOf_at hk]
  · rw [bOf_len]; simp [Lib.bytesCells]
  · rw [bOf_len]; simp [Lib.bytesCells]
/-- What Read returns. -/
def rdPost (E : Int) (s : ByteArray) (w : World) (e : Ending) (w' : World) : Prop := ∃ v, e = .returned (.tuple #[v, .int .i64 E]) ∧ OwF w' w.heap.size v (bOf s) ∧ Below w.heap.size w w'
theorem results_tmp2 {fn : Func} {t u : Tmp} (h : fn.results = #[.tmp t, .tmp u]) (tmps : Array Value) (P : Program) (w : World) :
    (results fn tmps).run P w = .ok (.tuple #[tmps.getD t undef, tmps.getD u undef]) w := by
  simp [results, h]
end Go.Proofs.Ytbaclcpnnompnaa
