/- Slices of bytes in memory: what a slice reads as, and the blocks that a call makes itself. -/
import Derived.WalkKit
import Derived.WalkSpells
import Derived.WalkLawsBesides
import Derived.Lib.Hide
import Derived.Laws.AppendOwnNone
import Derived.WideShapes
namespace Go.Proofs.Ytfhgalfdlkdliaa
open Go Go.RowKit

theorem getD_in {α : Type} {l : List α} {k : Nat} {x : α} (h : k < l.length) : l.getD k x = l[k] := by simp [List.getD, List.getElem?_eq_getElem h]
theorem getD_out {α : Type} {l : List α} {k : Nat} {x : α} (h : l.length ≤ k) : l.getD k x = x := by simp [List.getD, List.getElem?_eq_none h]

/-- The slice value `v` reads as the bytes `l`. -/
def Bs (w : World) (v : Value) (l : List Nat) : Prop :=
  ∃ A c, v = .slice A l.length c ∧ (l.length ≤ c ∧ c ≤ maxLen) ∧ (∀ x ∈ l, x < 256) ∧ (A = none → c = 0) ∧
    (0 < l.length → ∃ b off, A = some ⟨b, off, none⟩ ∧ ∀ k, k < l.length → w.cell? ⟨b, off + k, none⟩ = some (.int .u8 ((l.getD k 0 : Nat) : Int)))

/-- Block `g` is just these cells of element type `t`, none frozen. -/
def Row (w : World) (g : Nat) (t : TypeId) (cs : Array Value) : Prop := w.heap[g]? = some (.cells cs t (0, 0))

section
variable {w w' : World} {g : Nat} {t : TypeId} {cs : Array Value} {v : Value} {l : List Nat}
theorem Row.lt (h : Row w g t cs) : g < w.heap.size := by
  rcases Nat.lt_or_ge g w.heap.size with hlt | hge
  · exact hlt
  · unfold Row at h; rw [Array.getElem?_eq_none hge] at h; cases h
theorem Row.cell (h : Row w g t cs) (i : Nat) : w.cell? ⟨g, i, none⟩ = cs[i]? := cell_of_row w g i cs t (0, 0) h
theorem Row.frozen (h : Row w g t cs) (i : Nat) : w.frozen? ⟨g, i, none⟩ = false := by
  unfold Row at h
  simp [World.frozen?, h]
theorem Row.store (h : Row w g t cs) (i : Nat) (u : Value) : Row (w.setCell ⟨g, i, none⟩ u) g t (cs.setIfInBounds i u) := by
  unfold Row at h ⊢
  simp [World.setCell, Array.getElem?_modify, h]
theorem Row.below {B : Nat} (h : Row w g t cs) (hb : Below B w w') (hg : g < B) : Row w' g t cs := (hb.block g hg).trans h

theorem Bs.keep (h : Bs w v l) (hk : ∀ p : Addr, p.block < w.heap.size → w'.cell? p = w.cell? p) : Bs w' v l := by
  obtain ⟨A, c, rfl, hm, hl, hz, hc⟩ := h
  refine ⟨A, c, rfl, hm, hl, hz, fun hn => ?_⟩
  obtain ⟨b, off, rfl, hcell⟩ := hc hn
  refine ⟨b, off, rfl, fun k hk' => ?_⟩
  rw [hk ⟨b, off + k, none⟩ (World.block_lt_of_cell? w _ (hcell k hk'))]
  exact hcell k hk'
theorem Bs.below (h : Bs w v l) (hb : Below w.heap.size w w') : Bs w' v l := h.keep fun _ hp => hb.cell hp
theorem Bs.alloc (h : Bs w v l) (o : Obj) : Bs (w.alloc o) v l := h.keep fun p hp => World.cell?_alloc_lt w o p hp
theorem Bs.lt (h : Bs w v l) : ∀ x ∈ l, x < 256 := by obtain ⟨_, _, _, _, hl, _⟩ := h; exact hl
theorem Bs.len (h : Bs w v l) : l.length ≤ maxLen := by obtain ⟨_, _, _, hm, _⟩ := h; exact Nat.le_trans hm.1 hm.2
theorem Bs.nil_ (w : World) : Bs w (.slice none 0 0) [] := ⟨none, 0, rfl, ⟨by decide, by decide⟩, fun _ h => (by cases h), fun _ => rfl, fun h => absurd h (by decide)⟩
theorem Bs.getD_lt (h : Bs w v l) (k : Nat) : l.getD k 0 < 256 := by
  rcases Nat.lt_or_ge k l.length with hk | hk
  · rw [getD_in hk]; exact h.lt _ (List.getElem_mem hk)
  · rw [getD_out hk]; decide
/-- A whole row of bytes reads as a slice. -/
theorem Bs.of_row {n c : Nat} (h : Row w g t cs) (hl : l.length = n) (hm : n ≤ c ∧ c ≤ maxLen) (hb : ∀ x ∈ l, x < 256) (hc : ∀ k, k < n → cs[k]? = some (.int .u8 ((l.getD k 0 : Nat) : Int))) :
    Bs w (.slice (some ⟨g, 0, none⟩) n c) l := by
  subst hl
  refine ⟨_, c, rfl, hm, hb, fun h => (by cases h), fun _ => ⟨g, 0, rfl, fun k hk => ?_⟩⟩
  rw [Nat.zero_add, h.cell]; exact hc k hk
end

/-- A byte in memory. -/
def bv (x : Nat) : Value := .int .u8 (x : Int)
theorem bv_one {l : List Nat} : ∀ u ∈ l.map bv, u.oneCell' = true := by
  intro u hu
  obtain ⟨x, _, rfl⟩ := List.mem_map.1 hu
  rfl
theorem getD_bv {l : List Nat} {k : Nat} (h : k < l.length) : (l.map bv)[k]? = some (.int .u8 ((l.getD k 0 : Nat) : Int)) := by
  rw [List.getElem?_map, List.getElem?_eq_getElem h, getD_in h]; rfl
/-- A row of the call's own reads as its bytes. -/
theorem Bs.of_own {w : World} {base : Nat} {e : TypeId} {v : Value} {n : Nat} {l : List Nat} (h : w.ownsRow base e 1 v n (l.map bv)) (hl : l.length = n) (hb : ∀ x ∈ l, x < 256) : Bs w v l := by
  obtain ⟨_, h⟩ := h
  rcases h with ⟨rfl, rfl⟩ | ⟨g, cap, cur, rfl, hg, hh, hle, hm, hs, ht⟩
  · obtain rfl : l = [] := List.length_eq_zero_iff.1 hl
    exact Bs.nil_ w
  · refine Bs.of_row (g := g) (t := e) (cs := cur) hh hl (by omega) hb fun k hk => ?_
    have h1 := getD_bv (l := l) (k := k) (by omega)
    rw [← ht, Nat.mul_one, List.getElem?_take_of_lt hk] at h1
    simpa using h1
section
variable {P : Program} {w : World}
/-- 'append(x, y...)': x a row of the call's own, y any slice of bytes. -/
theorem wpList_append_bs {ops : Array Oper} {rest : List Oper} {o : Oper} {a : Act} {Q : Exit → Act → World → Prop} (hgd : o.guard = none) (s x : Operand) (t : TypeId)
    (ho : o.op = .call { callee := .builtin .append, args := #[s, x], argTypes := #[t, t] })
    (base : Nat) (e : TypeId) (i : TypeInfo) (ht : P.underlying t = some (.slice e)) (hi : P.info? e = some i) (hz : i.zero = some (.int .u8 0)) (hsize : i.size = 1) (hby : i.bytes = 1)
    (v src : Value) (n : Nat) (xs : List Value) (hs : a.eval s = v) (hown : w.ownsRow base e 1 v n xs) (l : List Nat) (hx : a.eval x = src) (hsrc : Bs w src l)
    (h63 : n + l.length ≤ maxLen) (hbytes : n + l.length ≤ 140737488355328) (hbase : base ≤ w.heap.size)
    (h : ∀ v' w', w'.ownsRow base e 1 v' (n + l.length) (xs ++ l.map bv) → w.grownBy w' v.ownBlock → wpList P ops Q rest (a.put o.dst v') w') : wpList P ops Q (o :: rest) a w := by
  obtain ⟨A, c, rfl, -, -, hA, hc⟩ := hsrc
  rcases A with _ | ad
  · have h0 : l.length = 0 := by
      rcases Nat.eq_zero_or_pos l.length with h0 | h0
      · exact h0
      · obtain ⟨b, off, h1, _⟩ := hc h0; cases h1
    obtain rfl : l = [] := List.length_eq_zero_iff.1 h0
    obtain rfl := hA rfl
    exact wpList_append_own_none hgd s x t ho base e i 1 ht hi v n xs hs hown hx (h v w (by simpa using hown) (World.grownBy.refl w _))
  · refine wpList_append_own w hgd s x t ho base e i _ 1 1 ht hi hz hsize hby rfl (by decide) v n xs hs hown ad l.length c (l.map bv) hx (by simp) (fun j u hu => ?_) bv_one h63 (by omega) hbase fun v' w' h1 h2 _ => h v' w' h1 h2
    have hj : j < l.length := by
      rcases Nat.lt_or_ge j l.length with h1 | h1
      · exact h1
      · rw [List.getElem?_eq_none (by simpa using h1)] at hu; cases hu
    obtain ⟨b, off, h1, hcell⟩ := hc (by omega)
    cases h1
    rw [getD_bv hj] at hu
    rw [Go.WideShapes.add_plain, hcell j hj]
    exact hu
end

/-- The string of some bytes. -/
def strOf (l : List Nat) : ByteArray := strOfNums (l.map fun x : Nat => (x : Int))
theorem strOf_toList (l : List Nat) : (strOf l).toList = l.map UInt8.ofNat := by
  rw [ByteArray.toList_eq, strOf, strOfNums_data, List.map_map]
  exact List.map_congr_left fun x _ => by simp
theorem strOf_eq (d s : List Nat) (hd : ∀ x ∈ d, x < 256) (hs : ∀ x ∈ s, x < 256) : ((strOf d).toList == (strOf s).toList) = decide (d = s) := by
  rw [strOf_toList, strOf_toList, Bool.eq_iff_iff, beq_iff_eq, decide_eq_true_eq]
  constructor
  · intro h
    have h' := congrArg (List.map UInt8.toNat) h
    rw [List.map_map, List.map_map] at h'
    have key : ∀ l : List Nat, (∀ x ∈ l, x < 256) → l.map (UInt8.toNat ∘ UInt8.ofNat) = l := fun l hl => by
      conv => rhs; rw [← List.map_id l]
      refine List.map_congr_left fun x hx => ?_
      have := hl x hx
      simp; omega
    rw [key d hd, key s hs] at h'
    exact h'
  · rintro rfl; rfl
theorem conv_bs {P : Program} {w : World} {v : Value} {l : List Nat} (src e dst : TypeId) (hs : P.underlying src = some (.slice e)) (he : P.underlying e = some (.int .u8)) (hd : P.underlying dst = some .string) (h : Bs w v l) :
    (convert src dst v).run P w = .ok (.string (strOf l)) w := by
  obtain ⟨A, c, rfl, -, -, -, hc⟩ := h
  by_cases h0 : 0 < l.length
  · obtain ⟨b, off, rfl, hcell⟩ := hc h0
    refine run_convert_bytes_arg w src e hs he b off l.length c _ (by simp) (fun i hi => ?_) dst hd
    rw [hcell i hi]
    simp [List.getD, List.getElem?_map, List.getElem?_eq_getElem hi]
  · obtain rfl : l = [] := List.length_eq_zero_iff.1 (by omega)
    rw [run_convert_bytes_string w src dst e _ _ c hs he hd]
    cases A <;> simp [Conv.bytesToString, loadCells]
    all_goals rfl
theorem Bs.form {w : World} {v : Value} {l : List Nat} (h : Bs w v l) : ∃ A c, v = .slice A l.length c := by
  obtain ⟨A, c, h, _⟩ := h; exact ⟨A, c, h⟩
end Go.Proofs.Ytfhgalfdlkdliaa
