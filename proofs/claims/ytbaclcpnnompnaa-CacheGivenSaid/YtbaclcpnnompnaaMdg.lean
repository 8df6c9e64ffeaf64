/- Media: copies of lists of sectors. -/
import Derived.Test.YtbaclcpnnompnaaMdf
import Derived.Lib.SliceRun
import Derived.Deep.AppendLies
namespace Go.Proofs.Ytbaclcpnnompnaa
open Go Go.RowKit Med
set_option linter.unusedVariables false
set_option linter.unusedSimpArgs false
theorem Sx.fw {w w' : World} {X c : Nat} {ts : TypeId} {l : List Sec} (h : Sx w X ts c l) (hb : Below w.heap.size w w') : Sx w' X ts c l := h.block (hb.block X h.lt)
/-- The cells of some sectors. -/
def slc : List Sec → List Value
  | [] => []
  | s :: r => .int .i64 s.1 :: .string s.2 :: slc r
theorem slc_len : ∀ l : List Sec, (slc l).length = l.length * 2
  | [] => rfl
  | s :: r => by show (slc r).length + 1 + 1 = (r.length + 1) * 2; rw [slc_len r]; omega
theorem slc_at : ∀ (l : List Sec) (k : Nat) (h : k < l.length), (slc l)[k * 2]? = some (.int .i64 l[k].1) ∧ (slc l)[k * 2 + 1]? = some (.string l[k].2)
  | [], k, h => absurd h (Nat.not_lt_zero k)
  | s :: r, 0, _ => ⟨rfl, rfl⟩
  | s :: r, k + 1, h => by
    have := slc_at r k (by simpa using h)
    rw [show (k + 1) * 2 = k * 2 + 1 + 1 by omega]
    simp only [slc, List.getElem?_cons_succ, List.getElem_cons_succ]
    exact this
theorem slc_one : ∀ l : List Sec, ∀ u ∈ slc l, u.oneCell' = true
  | [], u, h => by cases h
  | s :: r, u, h => by
    rcases List.mem_cons.1 h with rfl | h
    · rfl
    · rcases List.mem_cons.1 h with rfl | h
      · rfl
      · exact slc_one r u h
theorem slc_cell {w : World} {X c : Nat} {ts : TypeId} {l : List Sec} (h : Sx w X ts c l) (j : Nat) (u : Value) (hj : (slc l)[j]? = some u) : w.cell? ((⟨X, 0, none⟩ : Addr).add j) = some u := by
  have hlt : j < l.length * 2 := by rw [← slc_len]; exact (List.getElem?_eq_some_iff.1 hj).1
  have hk : j / 2 < l.length := by omega
  obtain ⟨a0, a1⟩ := slc_at l (j / 2) hk
  rw [Go.WideShapes.add_plain, Nat.zero_add]
  rcases Nat.mod_two_eq_zero_or_one j with e | e
  · have ej : j = j / 2 * 2 := by omega
    rw [ej] at hj ⊢
    rw [a0] at hj
    rw [h.c0 hk, ← hj]
  · have ej : j = j / 2 * 2 + 1 := by omega
    rw [ej] at hj ⊢
    rw [a1] at hj
    rw [h.c1 hk, ← hj]
theorem run_build_sec {P : Program} {tl ts : TypeId} (ht : P.underlying tl = some (.slice ts)) (info : (P.info? ts).map (fun i => (i.zero, i.size, i.bytes)) = some (some zsec, 2, 24)) (w : World) : (Instr.buildSlice tl 0 #[]).run P w = .ok (.slice (some ⟨w.heap.size, 0, none⟩) 0 0) (w.alloc (.cells #[] ts)) := by
  obtain ⟨i, hi, hz, hs, hb⟩ := info_pt info
  simp [Instr.buildSlice, run_underlying ht, sizeOf, typeInfo, hi, hs, zeroValue, hz, newRow, Instr.fill, Value.cells, show Array.range 0 = #[] from rfl]
theorem wp_build_sec {P : Program} {tl ts : TypeId} (ht : P.underlying tl = some (.slice ts)) (info : (P.info? ts).map (fun i => (i.zero, i.size, i.bytes)) = some (some zsec, 2, 24)) {o : Oper} {a : Act} {w : World} {K : Act → World → Prop} {Q : Exit → Act → World → Prop} (ho : o.op = .buildSlice tl 0 #[])
    (hk : K (a.put o.dst (.slice (some ⟨w.heap.size, 0, none⟩) 0 0)) (w.alloc (.cells #[] ts))) : o.wp P a w K Q := by
  unfold Oper.wp
  simp only [execOp, ho, List.map_toArray, List.map_nil, Sem.run_bind, Sem.run_pure, Result.andThen_ok, run_build_sec ht info w]
  exact hk
/-- 'append([]Sector{}, x...)'. -/
theorem wp_copy_sec {P : Program} {tl ts : TypeId} (ht : P.underlying tl = some (.slice ts)) (info : (P.info? ts).map (fun i => (i.zero, i.size, i.bytes)) = some (some zsec, 2, 24)) {w : World} {o : Oper} {a : Act} {K : Act → World → Prop} {Q : Exit → Act → World → Prop} (s x : Operand)
    (ho : o.op = .call { callee := .builtin .append, args := #[s, x], argTypes := #[tl, tl] })
    (b0 X n c c2 : Nat) (l : List Sec) (hs : a.eval s = .slice (some ⟨b0, 0, none⟩) 0 0) (hrow : Row w b0 ts #[]) (hx : a.eval x = .slice (some ⟨X, 0, none⟩) n c2) (hl : l.length = n) (hk : 0 < n) (hk2 : n ≤ 100000) (hX : Sx w X ts c l)
    (h : ∀ g cap w', Sx w' g ts cap l → w.grownBy w' (some b0) → b0 ≤ g → K (a.put o.dst (.slice (some ⟨g, 0, none⟩) n cap)) w') : o.wp P a w K Q := by
  obtain ⟨i, hi, hz, hsz, hby⟩ := info_pt info
  have hown : w.ownsRow b0 ts 2 (.slice (some ⟨b0, 0, none⟩) 0 0) 0 [] := ⟨rfl, Or.inr ⟨b0, 0, #[], rfl, Nat.le_refl _, hrow, Nat.le_refl 0, Nat.zero_le _, rfl, rfl⟩⟩
  refine wp_append_lies w s x _ ho b0 _ i _ 2 24 ht hi hz hsz hby rfl (by decide) _ 0 [] hs hown ⟨X, 0, none⟩ n c2 (slc l) hx (by rw [slc_len, hl]) (slc_cell hX) (slc_one l) hk (by unfold maxLen; omega) (by omega) (by have := hrow.lt; omega) _ rfl fun g cap w' h1 h2 h3 h4 => ?_
  rw [Nat.zero_add] at h1 ⊢
  rw [List.nil_append] at h1
  obtain ⟨_, h1⟩ := h1
  rcases h1 with ⟨h1, _⟩ | ⟨g', cap', cur, hv, hb', hh, hle, hm, hs', ht⟩
  · cases h1
  · injection hv with hv1 hv2 hv3
    injection hv1 with hv1
    injection hv1 with hv1
    subst hv1 hv3
    refine h g cap w' ⟨cur, hh, hs', by omega, hm, fun k hk => ?_⟩ h2 hb'
    obtain ⟨a0, a1⟩ := slc_at l k hk
    refine ⟨?_, ?_⟩
    · rw [← a0, ← ht, List.getElem?_take_of_lt (by omega)]; simp
    · rw [← a1, ← ht, List.getElem?_take_of_lt (by omega)]; simp
/-- What a copy of a list returns. -/
def cpPost (ts : TypeId) (n : Nat) (l : List Sec) (w : World) (e : Ending) (w' : World) : Prop := ∃ g cap, e = .returned (.slice (some ⟨g, 0, none⟩) n cap) ∧ Sx w' g ts cap l ∧ w.heap.size ≤ g ∧ Below w.heap.size w w'
set_option maxHeartbeats 1000000 in
set_option maxRecDepth 100000 in
theorem sclone_any (X n c : Nat) (l : List Sec) (w : World) (hX : Sx w X 81 c l) (hl : l.length = n) (h0 : 0 < n) (h1 : n ≤ 100000) :
    Calls Try.prog 62 #[.slice (some ⟨X, 0, none⟩) n c] w (cpPost 81 n l w) := by
  have hnil := fun w => Lib.run_eql_slice_nil (P := Try.prog) w 82 81 (some ⟨X, 0, none⟩) n c 0 0 Try.underlying82
  have HL := Lib.hid hl
  have R0 := Lib.hid (gr_new w #[] 81 rfl)
  have HX := Lib.hid (hX.fw ((Below.refl _ w).alloc (Nat.le_refl _) (.cells #[] 81)))
  have AT := Lib.hid (Nat.le_of_eq (show w.heap.size = w.heap.size from rfl))
  clear hX hl
  go_enter Try.func62, Try.ntmps62
  go_wp2_with (first | (refine wpList_plain rfl fun _ hK' => wp_build_sec Try.underlying82 pinfo_sec rfl (hK' _ _ ?_)) | (at_builtin; refine wpList_plain rfl fun _ hK' => wp_copy_sec Try.underlying82 pinfo_sec _ _ rfl w.heap.size X n c c l rfl R0.out rfl HL.out h0 h1 HX.out ?_; intro g cap w1 ho hg hat; refine hK' _ _ ?_))
  have hb1 : Below w.heap.size w w1 := ((Below.refl _ w).alloc (Nat.le_refl _) _).grown hg (by simp) fun q hq => by injection hq with hq; exact Nat.le_of_eq hq
  have P := Lib.hid (And.intro ho (And.intro hat hb1))
  clear ho hg hat hb1
  go_wp2_with fail
  go_ret
  exact ⟨g, cap, rfl, P.out.1, P.out.2.1, P.out.2.2⟩
end Go.Proofs.Ytbaclcpnnompnaa
