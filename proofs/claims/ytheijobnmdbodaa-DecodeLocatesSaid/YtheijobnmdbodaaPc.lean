/- Horner's rule over blocks; parity's parityOf: a loop over slices.Backward inside a loop. -/
import Derived.Test.YtheijobnmdbodaaGC
import Derived.Test.YtheijobnmdbodaaRr
namespace Go.Proofs.Ytheijobnmdbodaa
open Go Go.RowKit Go.Shelf
set_option linter.unusedVariables false
attribute [local go_sem] Oper.semAt_some

/-- Horner's rule. -/
def hor (base : Nat) (D : List (List Nat)) : List Nat := D.foldr (fun d s => pmB d s base) zeroB.1
theorem hor_ok {base : Nat} (hb : base < 256) : ∀ {D : List (List Nat)}, (∀ d ∈ D, B8 d) → B8 (hor base D)
  | [], _ => zeroB.2
  | d :: r, h => pmB_ok (h d List.mem_cons_self) (hor_ok hb fun x hx => h x (List.mem_cons_of_mem _ hx)) hb
theorem hor_drop {base : Nat} {D : List (List Nat)} (hD : ∀ d ∈ D, B8 d) {i : Nat} (hi : i < D.length) : hor base (D.drop i) = pmB (nth D hD i).1 (hor base (D.drop (i + 1))) base := by
  rw [List.drop_eq_getElem_cons hi]
  show pmB D[i] _ base = _
  rw [show (nth D hD i).1 = D[i] from getD_in hi]
  rfl

/-- Three blocks in a row. -/
def cat3 (S : Nat → Blk) : List Nat := (S 0).1 ++ ((S 1).1 ++ (S 2).1)
theorem cat3_len (S : Nat → Blk) : (cat3 S).length = 24 := by
  simp [cat3, (S 0).2.1, (S 1).2.1, (S 2).2.1]
theorem cat3_lt (S : Nat → Blk) : ∀ x ∈ cat3 S, x < 256 := by
  intro x hx
  simp only [cat3, List.mem_append] at hx
  rcases hx with h | h | h
  · exact (S 0).2.2 x h
  · exact (S 1).2.2 x h
  · exact (S 2).2.2 x h
theorem cat3_flat (S : Nat → Blk) : cat3 S = [(S 0).1, (S 1).1, (S 2).1].flatten := by simp [cat3]
theorem cat3_at (S : Nat → Blk) {j i : Nat} (hj : j < 3) (hi : i < 8) : (cat3 S)[j * 8 + i]? = (S j).1[i]? := by
  have h := flat_at (D := [(S 0).1, (S 1).1, (S 2).1]) (by
    intro d hd
    simp at hd
    rcases hd with rfl | rfl | rfl
    · exact (S 0).2.1
    · exact (S 1).2.1
    · exact (S 2).2.1) (i := j) hj hi
  rw [cat3_flat, h]
  match j, hj with
  | 0, _ => rfl
  | 1, _ => rfl
  | 2, _ => rfl
theorem Row.at3 {w : World} {g : Nat} {t : TypeId} {S : Nat → Blk} (h : Row w g t (bcs (cat3 S))) {j : Nat} (hj : j < 3) : At8 w g (j * 8) (S j).1 := fun i v hv => by
  have hi : i < 8 := by
    have := (List.getElem?_eq_some_iff.1 hv).1
    rw [List.length_map, (S j).2.1] at this; exact this
  rw [h.cell]
  simp only [bcs, List.getElem?_toArray]
  rw [List.getElem?_map, cat3_at S hj hi, ← List.getElem?_map]; exact hv
def upd (S : Nat → Blk) (j : Nat) (b : Blk) : Nat → Blk := fun i => if i = j then b else S i
theorem Row.put3 {w : World} {g : Nat} {t : TypeId} {S : Nat → Blk} (h : Row w g t (bcs (cat3 S))) {j : Nat} (hj : j < 3) (b : Blk) : Row (w.setCells g (j * 8) (b.1.map bv)) g t (bcs (cat3 (upd S j b))) := by
  obtain ⟨cs', h1, h2, h3⟩ := h.puts (vs := b.1.map bv) (o := j * 8)
  rw [bcs_size, cat3_len] at h2 h3
  have : cs' = bcs (cat3 (upd S j b)) := by
    refine Array.ext_getElem? fun i => ?_
    rcases Nat.lt_or_ge i 24 with hi | hi
    · obtain ⟨a, c, ha, hc, rfl⟩ : ∃ a c, a < 3 ∧ c < 8 ∧ i = a * 8 + c := ⟨i / 8, i % 8, by omega, by omega, by omega⟩
      rw [h3 _ hi, List.length_map, b.2.1]
      have e1 : (bcs (cat3 (upd S j b)))[a * 8 + c]? = ((upd S j b a).1.map bv)[c]? := by
        simp only [bcs, List.getElem?_toArray]; rw [List.getElem?_map, cat3_at _ ha hc, ← List.getElem?_map]
      have e2 : (bcs (cat3 S))[a * 8 + c]? = ((S a).1.map bv)[c]? := by
        simp only [bcs, List.getElem?_toArray]; rw [List.getElem?_map, cat3_at _ ha hc, ← List.getElem?_map]
      rw [e1, e2]
      by_cases e : a = j
      · subst e
        rw [if_pos (by omega), show a * 8 + c - a * 8 = c by omega]; simp [upd]
      · rw [if_neg (by omega)]; simp [upd, e]
    · rw [Array.getElem?_eq_none (by omega), Array.getElem?_eq_none (by rw [bcs_size, cat3_len]; omega)]
  rw [← this]; exact h1
theorem Row.there3 {w : World} {g : Nat} {t : TypeId} {S : Nat → Blk} (h : Row w g t (bcs (cat3 S))) {j : Nat} (hj : j < 3) : w.there g (j * 8) 8 := fun i hi =>
  ⟨by rw [h.cell, Array.getElem?_eq_getElem (by rw [bcs_size, cat3_len]; omega)]; rfl, h.frozen _⟩

theorem ko_setCells (W : World) (g : Nat) : ∀ (vs : List Value) (o : Nat), KeepsOthers W (W.setCells g o vs) := by
  intro vs
  induction vs generalizing W with
  | nil => exact fun o => KeepsOthers.refl W
  | cons v r ih => exact fun o => (KeepsOthers.setCell W _ _).trans (ih _ (o + 1))
theorem Row.otherCells {w : World} {g : Nat} {t : TypeId} {cs : Array Value} (h : Row w g t cs) {k : Nat} (hk : g ≠ k) : ∀ (vs : List Value) (o : Nat), Row (w.setCells k o vs) g t cs := by
  intro vs
  induction vs generalizing w with
  | nil => exact fun o => h
  | cons v r ih => exact fun o => ih (h.other hk o v) (o + 1)
theorem heap_setCells_other {w : World} {k i : Nat} (hk : i ≠ k) : ∀ (vs : List Value) (o : Nat), (w.setCells k o vs).heap[i]? = w.heap[i]? := by
  intro vs
  induction vs generalizing w with
  | nil => exact fun o => rfl
  | cons v r ih => exact fun o => (ih (o + 1)).trans (Below.heap_setCell w ⟨k, o, none⟩ v i hk)
theorem Kpt.setCells {g n₀ : Nat} {A B : World} (h : Kpt g n₀ A B) (vs : List Value) (o : Nat) : Kpt g n₀ A (B.setCells g o vs) :=
  ⟨Nat.le_trans h.1 (ko_setCells B g vs o).size, fun i hi hg => (heap_setCells_other hg vs o).trans (h.2 i hi hg)⟩
theorem ko_below {w w' : World} (h : Below w.heap.size w w') : KeepsOthers w w' := ⟨h.size, fun k _ hk _ => (h.block k (Array.getElem?_eq_some_iff.1 hk).1).trans hk⟩
/-- One step of the rule. -/
def stepB (base : Nat) (s : Blk) (x : Nat × Blk) : Blk := ⟨pmB x.2.1 s.1 (base % 256), pmB_ok x.2.2 s.2 (Nat.mod_lt _ (by decide))⟩
def hof (base : Nat) (pre : List (Nat × Blk)) : Blk := pre.foldl (stepB base) zeroB
theorem hof_snoc (base : Nat) (pre : List (Nat × Blk)) (x : Nat × Blk) : hof base (pre ++ [x]) = stepB base (hof base pre) x := by simp [hof]
theorem hof_upto {base : Nat} (hb : base < 256) {D : List (List Nat)} (hD : ∀ d ∈ D, B8 d) : ∀ k, k ≤ D.length → (hof base (upto (fun j => (D.length - 1 - j, nth D hD (D.length - 1 - j))) k)).1 = hor base (D.drop (D.length - k))
  | 0, _ => by rw [Nat.sub_zero, List.drop_length]; rfl
  | k + 1, hk => by
    rw [upto_succ, hof_snoc, hor_drop hD (i := D.length - (k + 1)) (by omega), show D.length - (k + 1) + 1 = D.length - k by omega, ← hof_upto hb hD k (by omega), show D.length - (k + 1) = D.length - 1 - k by omega]
    show pmB _ _ (base % 256) = _
    rw [Nat.mod_eq_of_lt hb]
theorem upd_zero {S : Nat → Blk} {j x : Nat} (h : S j = zeroB) : upd S j (hof x []) = S := by
  funext i
  by_cases e : i = j
  · subst e; simp [upd, hof, h]
  · simp [upd, e]
theorem upd_upd (S : Nat → Blk) (j : Nat) (a b : Blk) : upd (upd S j a) j b = upd S j b := by
  funext i
  by_cases e : i = j <;> simp [upd, e]
def parS (D : List (List Nat)) (hD : ∀ d ∈ D, B8 d) (j : Nat) : Blk := ⟨hor (Gf.gpow 2 (red (j : Int))) D, hor_ok (Gf.gpow_lt _ _ (by decide)) hD⟩
theorem parS_of {D : List (List Nat)} (hD : ∀ d ∈ D, B8 d) (j : Nat) : hof (Gf.gpow 2 (red (j : Int))) (upto (fun j => (D.length - 1 - j, nth D hD (D.length - 1 - j))) D.length) = parS D hD j :=
  Subtype.ext (by rw [hof_upto (Gf.gpow_lt _ _ (by decide)) hD _ (Nat.le_refl _), Nat.sub_self]; rfl)

set_option maxHeartbeats 1000000 in
theorem back_in (A : Option Addr) (len cap : Nat) (w : World) :
    Calls Try.prog 65 #[.slice A len cap] w fun e w' => e = .returned (.func (.func 72) #[] #[.pointer (some ⟨w.heap.size, 0, none⟩)]) ∧ w' = w.alloc (.cells #[.slice A len cap] 31) := by
  have hmf : ∀ (fn : Fn) (first cap : Array Value) (w : World), (Instr.makeFunc fn first cap).run Try.prog w = .ok (.func fn first cap) w := fun _ _ _ _ => rfl
  go_enter Try.func65, Try.ntmps65
  go_wp2
  go_ret
  exact ⟨rfl, rfl⟩

theorem back_stops (n₀ g B b off cap : Nat) (D : List (List Nat)) (hD : ∀ d ∈ D, B8 d) (hn : D.length ≤ 64) (w : World) (hB : B < n₀) (hb : b < n₀) (hbg : b ≠ g) (hBg : B ≠ g) (hn₀ : n₀ ≤ w.heap.size)
    (hc : w.cell? ⟨B, 0, none⟩ = some (.slice (some ⟨b, off, none⟩) D.length cap)) (hI : w.rangeAt b off (D.flatten.map bv)) :
    SeqStopsK Fence.wide 4 Try.prog 72 #[.pointer (some ⟨B, 0, none⟩)] enc2 (Kpt g n₀) (fun ys => ys = upto (fun j => (D.length - 1 - j, nth D hD (D.length - 1 - j))) D.length)
      (fun pre => ∃ k, k ≤ D.length ∧ pre = upto (fun j => (D.length - 1 - j, nth D hD (D.length - 1 - j))) k) D.length w := fun l J Jx W hW _ _ hY h0 => by
  refine back1_in Fence.wide 4 trivial rfl (by omega) l B n₀ g b off D.length cap (nth D hD) hn hb hbg hBg J Jx hY W ((hW.cell (p := ⟨B, 0, none⟩) (by show B < w.heap.size; omega)).trans hc) hB (fun j hj => ?_) h0
  have h := (range_at8 hI hD hj).below hW (by omega)
  rw [show (nth D hD j).1 = D[j] from getD_in hj]
  exact h
end Go.Proofs.Ytheijobnmdbodaa
