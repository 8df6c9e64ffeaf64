/- Joined: Mem Sl Dr. -/
import Derived.WalkKit
import Derived.WalkSpells
import Derived.WalkLawsBesides
import Derived.Lib.Hide
import Derived.Laws.AppendOwnNone
import Derived.WideShapes
import Derived.Deep.AppendLies
import Derived.OwnWalk
namespace Go.Proofs.Ytfihiihakgcikaa
open Go Go.RowKit

theorem getD_in {α : Type} {l : List α} {k : Nat} {x : α} (h : k < l.length) : l.getD k x = l[k] := by simp [List.getD, List.getElem?_eq_getElem h]
theorem getD_out {α : Type} {l : List α} {k : Nat} {x : α} (h : l.length ≤ k) : l.getD k x = x := by simp [List.getD, List.getElem?_eq_none h]

/-- The slice value `v` reads as the bytes `l`. -/
def Bs (w : World) (v : Value) (l : List Nat) : Prop :=
  ∃ A c, v = .slice A l.length c ∧ (l.length ≤ c ∧ c ≤ maxLen) ∧ (∀ x ∈ l, x < 256) ∧ (A = none → c = 0) ∧
    (0 < l.length → ∃ b off, A = some ⟨b, off, none⟩ ∧ ∀ k, k < l.length → w.cell? ⟨b, off + k, none⟩ = some (.int .u8 ((l.getD k 0 : Nat) : Int)))

/-- Block `g` is just these cells of element type `t`, none frozen. -/
def Row (w : World) (g : Nat) (t : TypeId) (cs : Array Value) : Prop := w.heap[g]? = some (.cells cs t (0, 0))

section
variable {w w' : World} {g : Nat} {t : TypeId} {cs : Array Value} {v : Value} {l : List Nat}
theorem Row.lt (h : Row w g t cs) : g < w.heap.size := by
  rcases Nat.lt_or_ge g w.heap.size with hlt | hge
  · exact hlt
  · unfold Row at h; rw [Array.getElem?_eq_none hge] at h; cases h
theorem Row.cell (h : Row w g t cs) (i : Nat) : w.cell? ⟨g, i, none⟩ = cs[i]? := cell_of_row w g i cs t (0, 0) h
theorem Row.frozen (h : Row w g t cs) (i : Nat) : w.frozen? ⟨g, i, none⟩ = false := by
  unfold Row at h
  simp [World.frozen?, h]
theorem Row.store (h : Row w g t cs) (i : Nat) (u : Value) : Row (w.setCell ⟨g, i, none⟩ u) g t (cs.setIfInBounds i u) := by
  unfold Row at h ⊢
  simp [World.setCell, Array.getElem?_modify, h]
theorem Row.below {B : Nat} (h : Row w g t cs) (hb : Below B w w') (hg : g < B) : Row w' g t cs := (hb.block g hg).trans h

theorem Bs.keep (h : Bs w v l) (hk : ∀ p : Addr, p.block < w.heap.size → w'.cell? p = w.cell? p) : Bs w' v l := by
  obtain ⟨A, c, rfl, hm, hl, hz, hc⟩ := h
  refine ⟨A, c, rfl, hm, hl, hz, fun hn => ?_⟩
  obtain ⟨b, off, rfl, hcell⟩ := hc hn
  refine ⟨b, off, rfl, fun k hk' => ?_⟩
  rw [hk ⟨b, off + k, none⟩ (World.block_lt_of_cell? w _ (hcell k hk'))]
  exact hcell k hk'
theorem Bs.below (h : Bs w v l) (hb : Below w.heap.size w w') : Bs w' v l := h.keep fun _ hp => hb.cell hp
theorem Bs.alloc (h : Bs w v l) (o : Obj) : Bs (w.alloc o) v l := h.keep fun p hp => World.cell?_alloc_lt w o p hp
theorem Bs.lt (h : Bs w v l) : ∀ x ∈ l, x < 256 := by obtain ⟨_, _, _, _, hl, _⟩ := h; exact hl
theorem Bs.len (h : Bs w v l) : l.length ≤ maxLen := by obtain ⟨_, _, _, hm, _⟩ := h; exact Nat.le_trans hm.1 hm.2
theorem Bs.nil_ (w : World) : Bs w (.slice none 0 0) [] := ⟨none, 0, rfl, ⟨by decide, by decide⟩, fun _ h => (by cases h), fun _ => rfl, fun h => absurd h (by decide)⟩
theorem Bs.getD_lt (h : Bs w v l) (k : Nat) : l.getD k 0 < 256 := by
  rcases Nat.lt_or_ge k l.length with hk | hk
  · rw [getD_in hk]; exact h.lt _ (List.getElem_mem hk)
  · rw [getD_out hk]; decide
/-- A whole row of bytes reads as a slice. -/
theorem Bs.of_row {n c : Nat} (h : Row w g t cs) (hl : l.length = n) (hm : n ≤ c ∧ c ≤ maxLen) (hb : ∀ x ∈ l, x < 256) (hc : ∀ k, k < n → cs[k]? = some (.int .u8 ((l.getD k 0 : Nat) : Int))) :
    Bs w (.slice (some ⟨g, 0, none⟩) n c) l := by
  subst hl
  refine ⟨_, c, rfl, hm, hb, fun h => (by cases h), fun _ => ⟨g, 0, rfl, fun k hk => ?_⟩⟩
  rw [Nat.zero_add, h.cell]; exact hc k hk
end

/-- A byte in memory. -/
def bv (x : Nat) : Value := .int .u8 (x : Int)
theorem bv_one {l : List Nat} : ∀ u ∈ l.map bv, u.oneCell' = true := by
  intro u hu
  obtain ⟨x, _, rfl⟩ := List.mem_map.1 hu
  rfl
theorem getD_bv {l : List Nat} {k : Nat} (h : k < l.length) : (l.map bv)[k]? = some (.int .u8 ((l.getD k 0 : Nat) : Int)) := by
  rw [List.getElem?_map, List.getElem?_eq_getElem h, getD_in h]; rfl
/-- A row of the call's own reads as its bytes. -/
theorem Bs.of_own {w : World} {base : Nat} {e : TypeId} {v : Value} {n : Nat} {l : List Nat} (h : w.ownsRow base e 1 v n (l.map bv)) (hl : l.length = n) (hb : ∀ x ∈ l, x < 256) : Bs w v l := by
  obtain ⟨_, h⟩ := h
  rcases h with ⟨rfl, rfl⟩ | ⟨g, cap, cur, rfl, hg, hh, hle, hm, hs, ht⟩
  · obtain rfl : l = [] := List.length_eq_zero_iff.1 hl
    exact Bs.nil_ w
  · refine Bs.of_row (g := g) (t := e) (cs := cur) hh hl (by omega) hb fun k hk => ?_
    have h1 := getD_bv (l := l) (k := k) (by omega)
    rw [← ht, Nat.mul_one, List.getElem?_take_of_lt hk] at h1
    simpa using h1
section
variable {P : Program} {w : World}
/-- 'append(x, y...)': x a row of the call's own, y any slice of bytes. -/
theorem wpList_append_bs {ops : Array Oper} {rest : List Oper} {o : Oper} {a : Act} {Q : Exit → Act → World → Prop} (hgd : o.guard = none) (s x : Operand) (t : TypeId)
    (ho : o.op = .call { callee := .builtin .append, args := #[s, x], argTypes := #[t, t] })
    (base : Nat) (e : TypeId) (i : TypeInfo) (ht : P.underlying t = some (.slice e)) (hi : P.info? e = some i) (hz : i.zero = some (.int .u8 0)) (hsize : i.size = 1) (hby : i.bytes = 1)
    (v src : Value) (n : Nat) (xs : List Value) (hs : a.eval s = v) (hown : w.ownsRow base e 1 v n xs) (l : List Nat) (hx : a.eval x = src) (hsrc : Bs w src l)
    (h63 : n + l.length ≤ maxLen) (hbytes : n + l.length ≤ 140737488355328) (hbase : base ≤ w.heap.size)
    (h : ∀ v' w', w'.ownsRow base e 1 v' (n + l.length) (xs ++ l.map bv) → w.grownBy w' v.ownBlock → wpList P ops Q rest (a.put o.dst v') w') : wpList P ops Q (o :: rest) a w := by
  obtain ⟨A, c, rfl, -, -, hA, hc⟩ := hsrc
  rcases A with _ | ad
  · have h0 : l.length = 0 := by
      rcases Nat.eq_zero_or_pos l.length with h0 | h0
      · exact h0
      · obtain ⟨b, off, h1, _⟩ := hc h0; cases h1
    obtain rfl : l = [] := List.length_eq_zero_iff.1 h0
    obtain rfl := hA rfl
    exact wpList_append_own_none hgd s x t ho base e i 1 ht hi v n xs hs hown hx (h v w (by simpa using hown) (World.grownBy.refl w _))
  · refine wpList_append_own w hgd s x t ho base e i _ 1 1 ht hi hz hsize hby rfl (by decide) v n xs hs hown ad l.length c (l.map bv) hx (by simp) (fun j u hu => ?_) bv_one h63 (by omega) hbase fun v' w' h1 h2 _ => h v' w' h1 h2
    have hj : j < l.length := by
      rcases Nat.lt_or_ge j l.length with h1 | h1
      · exact h1
      · rw [List.getElem?_eq_none (by simpa using h1)] at hu; cases hu
    obtain ⟨b, off, h1, hcell⟩ := hc (by omega)
    cases h1
    rw [getD_bv hj] at hu
    rw [Go.WideShapes.add_plain, hcell j hj]
    exact hu
end

/-- The string of some bytes. -/
def strOf (l : List Nat) : ByteArray := strOfNums (l.map fun x : Nat => (x : Int))
theorem strOf_toList (l : List Nat) : (strOf l).toList = l.map UInt8.ofNat := by
  rw [ByteArray.toList_eq, strOf, strOfNums_data, List.map_map]
  exact List.map_congr_left fun x _ => by simp
theorem strOf_eq (d s : List Nat) (hd : ∀ x ∈ d, x < 256) (hs : ∀ x ∈ s, x < 256) : ((strOf d).toList == (strOf s).toList) = decide (d = s) := by
  rw [strOf_toList, strOf_toList, Bool.eq_iff_iff, beq_iff_eq, decide_eq_true_eq]
  constructor
  · intro h
    have h' := congrArg (List.map UInt8.toNat) h
    rw [List.map_map, List.map_map] at h'
    have key : ∀ l : List Nat, (∀ x ∈ l, x < 256) → l.map (UInt8.toNat ∘ UInt8.ofNat) = l := fun l hl => by
      conv => rhs; rw [← List.map_id l]
      refine List.map_congr_left fun x hx => ?_
      have := hl x hx
      simp; omega
    rw [key d hd, key s hs] at h'
    exact h'
  · rintro rfl; rfl
theorem conv_bs {P : Program} {w : World} {v : Value} {l : List Nat} (src e dst : TypeId) (hs : P.underlying src = some (.slice e)) (he : P.underlying e = some (.int .u8)) (hd : P.underlying dst = some .string) (h : Bs w v l) :
    (convert src dst v).run P w = .ok (.string (strOf l)) w := by
  obtain ⟨A, c, rfl, -, -, -, hc⟩ := h
  by_cases h0 : 0 < l.length
  · obtain ⟨b, off, rfl, hcell⟩ := hc h0
    refine run_convert_bytes_arg w src e hs he b off l.length c _ (by simp) (fun i hi => ?_) dst hd
    rw [hcell i hi]
    simp [List.getD, List.getElem?_map, List.getElem?_eq_getElem hi]
  · obtain rfl : l = [] := List.length_eq_zero_iff.1 (by omega)
    rw [run_convert_bytes_string w src dst e _ _ c hs he hd]
    cases A <;> simp [Conv.bytesToString, loadCells]
    all_goals rfl
theorem Bs.form {w : World} {v : Value} {l : List Nat} (h : Bs w v l) : ∃ A c, v = .slice A l.length c := by
  obtain ⟨A, c, h, _⟩ := h; exact ⟨A, c, h⟩
end Go.Proofs.Ytfihiihakgcikaa
namespace Go.Proofs.Ytfihiihakgcikaa
open Go Go.RowKit

/-- All cells of `w` are the same in `w'`. -/
def Same (w w' : World) : Prop := w.heap.size ≤ w'.heap.size ∧ ∀ p : Addr, p.block < w.heap.size → w'.cell? p = w.cell? p
/-- All cells but those of block `g`. -/
def SameOff (g : Nat) (w w' : World) : Prop := w.heap.size ≤ w'.heap.size ∧ ∀ p : Addr, p.block < w.heap.size → p.block ≠ g → w'.cell? p = w.cell? p
theorem Same.off {w w' : World} (h : Same w w') (g : Nat) : SameOff g w w' := ⟨h.1, fun p hp _ => h.2 p hp⟩
theorem SameOff.refl (g : Nat) (w : World) : SameOff g w w := ⟨Nat.le_refl _, fun _ _ _ => rfl⟩
theorem SameOff.trans {g : Nat} {a b c : World} (h : SameOff g a b) (k : SameOff g b c) : SameOff g a c :=
  ⟨Nat.le_trans h.1 k.1, fun p hp hg => (k.2 p (Nat.lt_of_lt_of_le hp h.1) hg).trans (h.2 p hp hg)⟩
theorem Below.toSame {w w' : World} (h : Below w.heap.size w w') : Same w w' := ⟨h.size, fun _ hp => h.cell hp⟩
theorem alloc_same (w : World) (o : Obj) : Same w (w.alloc o) := ⟨by simp, fun p hp => World.cell?_alloc_lt w o p hp⟩
theorem Same.refl (w : World) : Same w w := ⟨Nat.le_refl _, fun _ _ => rfl⟩
theorem Same.trans {a b c : World} (h : Same a b) (k : Same b c) : Same a c := ⟨Nat.le_trans h.1 k.1, fun p hp => (k.2 p (Nat.lt_of_lt_of_le hp h.1)).trans (h.2 p hp)⟩
theorem Same.drew {a b : World} (h : Same a b) : Same a b.drew := h
theorem SameOff.drew {g : Nat} {a b : World} (h : SameOff g a b) : SameOff g a b.drew := h
theorem setCell_off (w : World) (g i : Nat) (u : Value) : SameOff g w (w.setCell ⟨g, i, none⟩ u) :=
  ⟨by simp [World.setCell], fun p _ hg => World.cell?_of_block (Below.heap_setCell w ⟨g, i, none⟩ u p.block hg)⟩
theorem grown_off {w w' : World} {g : Nat} (h : w.grownBy w' (some g)) : SameOff g w w' := ⟨h.size, fun p hp hg => World.cell?_of_block (h.block p.block hp (by simpa using hg))⟩
theorem grown_none {w w' : World} (h : w.grownBy w' none) : Same w w' := ⟨h.size, fun p hp => World.cell?_of_block (h.block p.block hp (by simp))⟩

section
variable {α : Type} {R : World → Value → α → Prop}
/-- `u` reads as `x`, whatever becomes of block `g`. -/
def Off (R : World → Value → α → Prop) (w : World) (g : Nat) (u : Value) (x : α) : Prop := ∀ w', SameOff g w w' → R w' u x
/-- What reads as x does so as long as all cells stay. -/
def Keeps (R : World → Value → α → Prop) : Prop := ∀ w w' u x, R w u x → Same w w' → R w' u x
/-- `u` reads as `x`, and in new memory alone (from block B on). -/
def Made (R : World → Value → α → Prop) (B : Nat) (w : World) (u : Value) (x : α) : Prop := R w u x ∧ ∀ g, g < B → Off R w g u x
theorem Off.here {w : World} {g : Nat} {u : Value} {x : α} (h : Off R w g u x) : R w u x := h w (SameOff.refl g w)
theorem Off.go {w w' : World} {g : Nat} {u : Value} {x : α} (h : Off R w g u x) (k : SameOff g w w') : Off R w' g u x := fun w'' k' => h w'' (k.trans k')
theorem Off.new {w : World} {g : Nat} {u : Value} {x : α} (hK : Keeps R) (h : R w u x) (hg : w.heap.size ≤ g) : Off R w g u x :=
  fun w' k => hK w w' u x h ⟨k.1, fun p hp => k.2 p hp (by omega)⟩
theorem Made.off {B : Nat} {w : World} {u : Value} {x : α} (h : Made R B w u x) {g : Nat} (hg : g < B) : Off R w g u x := h.2 g hg
theorem Made.go {B : Nat} {w w' : World} {u : Value} {x : α} (hK : Keeps R) (h : Made R B w u x) (k : Same w w') : Made R B w' u x := ⟨hK _ _ _ _ h.1 k, fun g hg => (h.2 g hg).go (k.off g)⟩

/-- The slice `v` reads as the list `l`, each element by `R`. -/
def Sl (R : World → Value → α → Prop) (w : World) (v : Value) (l : List α) : Prop :=
  ∃ A c, v = .slice A l.length c ∧ (l.length ≤ c ∧ c ≤ maxLen) ∧ (A = none → c = 0) ∧
    (0 < l.length → ∃ b off, A = some ⟨b, off, none⟩ ∧ ∀ k (h : k < l.length), ∃ u, w.cell? ⟨b, off + k, none⟩ = some u ∧ R w u l[k])
theorem Sl.keeps (hK : Keeps R) : Keeps (Sl R) := by
  rintro w w' v l ⟨A, c, rfl, hm, hz, hc⟩ hs
  refine ⟨A, c, rfl, hm, hz, fun hn => ?_⟩
  obtain ⟨b, off, rfl, hcell⟩ := hc hn
  refine ⟨b, off, rfl, fun k hk => ?_⟩
  obtain ⟨u, hu, hr⟩ := hcell k hk
  exact ⟨u, (hs.2 _ (World.block_lt_of_cell? w _ hu)).trans hu, hK _ _ _ _ hr hs⟩
theorem Sl.nil_ (w : World) : Sl R w (.slice none 0 0) [] := ⟨none, 0, rfl, ⟨Nat.le_refl 0, Nat.zero_le _⟩, fun _ => rfl, fun h => absurd h (Nat.lt_irrefl 0)⟩
theorem Sl.len {w : World} {v : Value} {l : List α} (h : Sl R w v l) : l.length ≤ maxLen := by obtain ⟨_, _, _, hm, _⟩ := h; exact Nat.le_trans hm.1 hm.2
theorem Sl.imp {R' : World → Value → α → Prop} {w : World} {v : Value} {l : List α} (h : Sl R w v l) (hR : ∀ u x, R w u x → R' w u x) : Sl R' w v l := by
  obtain ⟨A, c, rfl, hm, hz, hc⟩ := h
  refine ⟨A, c, rfl, hm, hz, fun hn => ?_⟩
  obtain ⟨b, off, rfl, hcell⟩ := hc hn
  exact ⟨b, off, rfl, fun k hk => by obtain ⟨u, hu, hr⟩ := hcell k hk; exact ⟨u, hu, hR _ _ hr⟩⟩

/-- Block `g` is a row of `cap` cells of type `e`; the first of them read as the list `l`, whatever becomes of block `g`. -/
def Wk (R : World → Value → α → Prop) (w : World) (g : Nat) (e : TypeId) (cap : Nat) (l : List α) : Prop :=
  ∃ cs, Row w g e cs ∧ cs.size = cap ∧ cap ≤ maxLen ∧ l.length ≤ cap ∧ ∀ k (h : k < l.length), ∃ u, cs[k]? = some u ∧ Off R w g u l[k]
theorem Wk.lt {w : World} {g : Nat} {e : TypeId} {cap : Nat} {l : List α} (h : Wk R w g e cap l) : g < w.heap.size := by obtain ⟨_, h, _⟩ := h; exact h.lt
theorem Wk.cell {w : World} {g : Nat} {e : TypeId} {cap : Nat} {l : List α} (h : Wk R w g e cap l) {k : Nat} (hk : k < l.length) : ∃ u, w.cell? ⟨g, k, none⟩ = some u ∧ Off R w g u l[k] := by
  obtain ⟨cs, hr, _, _, _, hc⟩ := h
  obtain ⟨u, hu, ho⟩ := hc k hk
  exact ⟨u, by rw [hr.cell]; exact hu, ho⟩
theorem Wk.frozen {w : World} {g : Nat} {e : TypeId} {cap : Nat} {l : List α} (h : Wk R w g e cap l) (i : Nat) : w.frozen? ⟨g, i, none⟩ = false := by obtain ⟨_, h, _⟩ := h; exact h.frozen i
theorem Wk.sl {w : World} {g : Nat} {e : TypeId} {cap : Nat} {l : List α} (h : Wk R w g e cap l) : Sl R w (.slice (some ⟨g, 0, none⟩) l.length cap) l := by
  refine ⟨_, cap, rfl, by obtain ⟨_, _, _, h1, h2, _⟩ := h; exact ⟨h2, h1⟩, fun h => (by cases h), fun _ => ⟨g, 0, rfl, fun k hk => ?_⟩⟩
  obtain ⟨u, hu, ho⟩ := h.cell hk
  exact ⟨u, by rw [Nat.zero_add]; exact hu, ho.here⟩
theorem Wk.below {w w' : World} {g : Nat} {e : TypeId} {cap : Nat} {l : List α} (h : Wk R w g e cap l) {B : Nat} (hb : Below B w w') (hB : w.heap.size ≤ B) : Wk R w' g e cap l := by
  have hg := h.lt
  obtain ⟨cs, hr, hs, hm, hl, hc⟩ := h
  refine ⟨cs, hr.below hb (by omega), hs, hm, hl, fun k hk => ?_⟩
  obtain ⟨u, hu, ho⟩ := hc k hk
  exact ⟨u, hu, ho.go ⟨hb.size, fun p hp _ => hb.cell (by omega)⟩⟩
theorem Wk.alloc {w : World} {g : Nat} {e : TypeId} {cap : Nat} {l : List α} (h : Wk R w g e cap l) (o : Obj) : Wk R (w.alloc o) g e cap l := h.below ((Below.refl w.heap.size w).alloc (Nat.le_refl _) o) (Nat.le_refl _)
theorem Wk.drew {w : World} {g : Nat} {e : TypeId} {cap : Nat} {l : List α} (h : Wk R w g e cap l) : Wk R w.drew g e cap l := h.below (Below.refl w.heap.size w).drew (Nat.le_refl _)
theorem Wk.store {w : World} {g : Nat} {e : TypeId} {cap : Nat} {l : List α} (h : Wk R w g e cap l) (i : Nat) {u : Value} {x : α} (hu : Off R w g u x) : Wk R (w.setCell ⟨g, i, none⟩ u) g e cap (l.set i x) := by
  obtain ⟨cs, hr, hs, hm, hl, hc⟩ := h
  refine ⟨_, hr.store i u, by simpa using hs, hm, by simpa using hl, fun k hk => ?_⟩
  have hk' : k < l.length := by simpa using hk
  have hso := setCell_off w g i u
  by_cases e : i = k
  · subst e
    refine ⟨u, by rw [Array.getElem?_setIfInBounds_self_of_lt (by omega)], ?_⟩
    rw [List.getElem_set_self]
    exact hu.go hso
  · obtain ⟨u', hu', ho⟩ := hc k hk'
    refine ⟨u', by rw [Array.getElem?_setIfInBounds_ne e]; exact hu', ?_⟩
    rw [List.getElem_set_ne e]
    exact ho.go hso
/-- The list is nil, or the head of a block of the call's own. -/
def OwnL (R : World → Value → α → Prop) (w : World) (base : Nat) (e : TypeId) (v : Value) (l : List α) : Prop :=
  (v = .slice none 0 0 ∧ l = []) ∨ ∃ g cap, v = .slice (some ⟨g, 0, none⟩) l.length cap ∧ base ≤ g ∧ Wk R w g e cap l
theorem OwnL.nil_ (w : World) (base : Nat) (e : TypeId) : OwnL R w base e (.slice none 0 0) [] := Or.inl ⟨rfl, rfl⟩
theorem OwnL.sl {w : World} {base : Nat} {e : TypeId} {v : Value} {l : List α} (h : OwnL R w base e v l) : Sl R w v l := by
  rcases h with ⟨rfl, rfl⟩ | ⟨g, cap, rfl, _, h⟩
  · exact Sl.nil_ w
  · exact h.sl
theorem OwnL.own {w : World} {base : Nat} {e : TypeId} {v : Value} {l : List α} (h : OwnL R w base e v l) : ∀ k, v.ownBlock = some k → base ≤ k ∧ k < w.heap.size := by
  rintro k hk
  rcases h with ⟨rfl, rfl⟩ | ⟨g, cap, rfl, hb, h⟩
  · cases hk
  · injection hk with hk; subst hk; exact ⟨hb, h.lt⟩
theorem OwnL.below {w w' : World} {base : Nat} {e : TypeId} {v : Value} {l : List α} (h : OwnL R w base e v l) {B : Nat} (hb : Below B w w') (hB : w.heap.size ≤ B) : OwnL R w' base e v l := by
  rcases h with ⟨rfl, rfl⟩ | ⟨g, cap, rfl, hg, h⟩
  · exact Or.inl ⟨rfl, rfl⟩
  · exact Or.inr ⟨g, cap, rfl, hg, h.below hb hB⟩
theorem OwnL.alloc {w : World} {base : Nat} {e : TypeId} {v : Value} {l : List α} (h : OwnL R w base e v l) (o : Obj) : OwnL R (w.alloc o) base e v l := h.below ((Below.refl w.heap.size w).alloc (Nat.le_refl _) o) (Nat.le_refl _)
theorem OwnL.drew {w : World} {base : Nat} {e : TypeId} {v : Value} {l : List α} (h : OwnL R w base e v l) : OwnL R w.drew base e v l := h.below (Below.refl w.heap.size w).drew (Nat.le_refl _)
theorem OwnL.wk {w : World} {base : Nat} {e : TypeId} {v : Value} {l : List α} (h : OwnL R w base e v l) (hl : 0 < l.length) : ∃ g cap, v = .slice (some ⟨g, 0, none⟩) l.length cap ∧ base ≤ g ∧ Wk R w g e cap l := by
  rcases h with ⟨rfl, rfl⟩ | h
  · exact absurd hl (Nat.lt_irrefl 0)
  · exact h
theorem OwnL.of_wk {w : World} {base : Nat} {e : TypeId} {g cap n : Nat} {l : List α} (h : Wk R w g e cap l) (hb : base ≤ g) (hn : l.length = n) : OwnL R w base e (.slice (some ⟨g, 0, none⟩) n cap) l := by
  subst hn; exact Or.inr ⟨g, cap, rfl, hb, h⟩
theorem OwnL.row {w : World} {base : Nat} {e : TypeId} {v : Value} {l : List α} (h : OwnL R w base e v l) :
    ∃ xs, w.ownsRow base e 1 v l.length xs ∧ ∀ k (hk : k < l.length), ∃ u, xs[k]? = some u ∧ (∀ g, v.ownBlock = some g → Off R w g u l[k]) := by
  rcases h with ⟨rfl, rfl⟩ | ⟨g, cap, rfl, hb, cs, hr, hs, hm, hl, hc⟩
  · exact ⟨[], World.ownsRow_nil _ _ _ _, fun k hk => absurd hk (Nat.not_lt_zero k)⟩
  · refine ⟨cs.toList.take l.length, ⟨by simp; omega, Or.inr ⟨g, cap, cs, rfl, hb, hr, hl, hm, by omega, by simp⟩⟩, fun k hk => ?_⟩
    obtain ⟨u, hu, ho⟩ := hc k hk
    refine ⟨u, by rw [List.getElem?_take_of_lt hk]; simpa using hu, fun g' hg' => ?_⟩
    injection hg' with hg'
    subst hg'
    exact ho
/-- What a push leaves. -/
theorem OwnL.pushed {w w' : World} {base : Nat} {e : TypeId} {v : Value} {l : List α} {x : α} {u : Value} {xs : List Value} {g cap : Nat} (hK : Keeps R)
    (hxs : ∀ k (hk : k < l.length), ∃ u, xs[k]? = some u ∧ R w u l[k] ∧ (∀ g, v.ownBlock = some g → Off R w g u l[k])) (hu : R w u x) (hoff : ∀ g, v.ownBlock = some g → Off R w g u x) (hl : xs.length = l.length)
    (h : w'.ownsRow base e 1 (.slice (some ⟨g, 0, none⟩) (l.length + 1) cap) (l.length + 1) (xs ++ [u])) (hg : w.grownBy w' v.ownBlock) (hat : v.ownBlock = some g ∨ g = w.heap.size) :
    OwnL R w' base e (.slice (some ⟨g, 0, none⟩) (l.length + 1) cap) (l ++ [x]) := by
  have key : ∀ u y, R w u y → (∀ g, v.ownBlock = some g → Off R w g u y) → Off R w' g u y := by
    intro u y h1 h2
    rcases hat with hat | hat
    · exact (h2 g hat).go (grown_off (by rw [← hat]; exact hg))
    · rcases hv : v.ownBlock with _ | g0
      · rw [hv] at hg
        exact (Off.new hK h1 (Nat.le_of_eq hat.symm)).go ((grown_none hg).off g)
      · intro w'' k
        rw [hv] at hg
        have hgo := grown_off hg
        refine h2 g0 hv w'' ⟨Nat.le_trans hgo.1 k.1, fun p hp hne => ?_⟩
        exact (k.2 p (by have := hgo.1; omega) (by omega)).trans (hgo.2 p hp hne)
  obtain ⟨_, h⟩ := h
  rcases h with ⟨h, _⟩ | ⟨g', cap', cur, hv, hb, hh, hle, hm, hs, ht⟩
  · cases h
  · injection hv with hv1 hv2 hv3
    injection hv1 with hv1
    injection hv1 with hv1
    subst hv1 hv3
    refine Or.inr ⟨g, cap, by simp, hb, cur, hh, by omega, hm, by simp; omega, fun k hk => ?_⟩
    have hk' : k < l.length + 1 := by simpa using hk
    have h1 : cur[k]? = (xs ++ [u])[k]? := by
      rw [← ht, List.getElem?_take_of_lt (by omega)]; simp
    rcases Nat.lt_or_ge k l.length with hlt | hge
    · obtain ⟨u', hu', hr, ho⟩ := hxs k hlt
      refine ⟨u', by rw [h1, List.getElem?_append_left (by omega)]; exact hu', ?_⟩
      rw [List.getElem_append_left hlt]
      exact key _ _ hr ho
    · obtain rfl : k = l.length := by omega
      refine ⟨u, by rw [h1, ← hl]; simp, ?_⟩
      simp only [List.getElem_concat_length]
      exact key _ _ hu hoff
/-- 'append(v, x)': v nil or the call's own; x laid in a block of one cell. -/
theorem wpList_push_at {P : Program} {w : World} {ops : Array Oper} {rest : List Oper} {o : Oper} {a : Act} {Q : Exit → Act → World → Prop} (hgd : o.guard = none) (s x : Operand) (t : TypeId)
    (ho : o.op = .call { callee := .builtin .append, args := #[s, x], argTypes := #[t, t] })
    (base : Nat) (e : TypeId) (i : TypeInfo) (z : Value) (bytes : Nat) (ht : P.underlying t = some (.slice e)) (hi : P.info? e = some i) (hz : i.zero = some z) (hsize : i.size = 1) (hby : i.bytes = bytes) (hzs : z.cells.size = 1)
    (hK : Keeps R) (v : Value) (l : List α) (hs : a.eval s = v) (hown : OwnL R w base e v l) (n : Nat) (hn : l.length = n)
    (b : Nat) (u : Value) (y : α) (hx : a.eval x = .slice (some ⟨b, 0, none⟩) 1 1) (hcell : w.cell? ⟨b, 0, none⟩ = some u) (h1 : u.oneCell' = true) (hu : R w u y) (hoff : ∀ g, v.ownBlock = some g → Off R w g u y)
    (h63 : n + 1 ≤ maxLen) (hbytes : (n + 1) * bytes ≤ 140737488355328) (hbase : base ≤ w.heap.size)
    (h : ∀ g cap w', OwnL R w' base e (.slice (some ⟨g, 0, none⟩) (n + 1) cap) (l ++ [y]) → w.grownBy w' v.ownBlock → (v.ownBlock = some g ∨ g = w.heap.size) → wpList P ops Q rest (a.put o.dst (.slice (some ⟨g, 0, none⟩) (n + 1) cap)) w') : wpList P ops Q (o :: rest) a w := by
  subst hn
  obtain ⟨xs, hrow, hxs⟩ := hown.row
  have hl : xs.length = l.length := by have := hrow.1; omega
  have hxs' : ∀ k (hk : k < l.length), ∃ u, xs[k]? = some u ∧ R w u l[k] ∧ (∀ g, v.ownBlock = some g → Off R w g u l[k]) := by
    intro k hk
    obtain ⟨u', hu', ho'⟩ := hxs k hk
    refine ⟨u', hu', ?_, ho'⟩
    rcases hown with ⟨rfl, rfl⟩ | ⟨g, cap, rfl, _, _⟩
    · exact absurd hk (Nat.not_lt_zero k)
    · exact (ho' g rfl).here
  refine wpList_append_lies w hgd s x t ho base e i z 1 bytes ht hi hz hsize hby hzs (by decide) v l.length xs hs hrow ⟨b, 0, none⟩ 1 1 [u] hx rfl (fun j u' hj => ?_) (fun u' hu' => ?_) (by decide) h63 hbytes hbase _ rfl fun g cap w' hown' hgrow hat _ => ?_
  · match j, hj with
    | 0, hj => simp at hj; subst hj; rw [Go.WideShapes.add_plain]; exact hcell
  · simp at hu'; subst hu'; exact h1
  · exact h g cap w' (OwnL.pushed hK hxs' hu hoff hl hown' hgrow hat) hgrow hat
/-- 'append(v, x)': v nil or the call's own; x laid in a block of one cell. -/
theorem wpList_push {P : Program} {w : World} {ops : Array Oper} {rest : List Oper} {o : Oper} {a : Act} {Q : Exit → Act → World → Prop} (hgd : o.guard = none) (s x : Operand) (t : TypeId)
    (ho : o.op = .call { callee := .builtin .append, args := #[s, x], argTypes := #[t, t] })
    (base : Nat) (e : TypeId) (i : TypeInfo) (z : Value) (bytes : Nat) (ht : P.underlying t = some (.slice e)) (hi : P.info? e = some i) (hz : i.zero = some z) (hsize : i.size = 1) (hby : i.bytes = bytes) (hzs : z.cells.size = 1)
    (hK : Keeps R) (v : Value) (l : List α) (hs : a.eval s = v) (hown : OwnL R w base e v l) (n : Nat) (hn : l.length = n)
    (b : Nat) (u : Value) (y : α) (hx : a.eval x = .slice (some ⟨b, 0, none⟩) 1 1) (hcell : w.cell? ⟨b, 0, none⟩ = some u) (h1 : u.oneCell' = true) (hu : R w u y) (hoff : ∀ g, v.ownBlock = some g → Off R w g u y)
    (h63 : n + 1 ≤ maxLen) (hbytes : (n + 1) * bytes ≤ 140737488355328) (hbase : base ≤ w.heap.size)
    (h : ∀ g cap w', OwnL R w' base e (.slice (some ⟨g, 0, none⟩) (n + 1) cap) (l ++ [y]) → w.grownBy w' v.ownBlock → wpList P ops Q rest (a.put o.dst (.slice (some ⟨g, 0, none⟩) (n + 1) cap)) w') : wpList P ops Q (o :: rest) a w :=
  wpList_push_at hgd s x t ho base e i z bytes ht hi hz hsize hby hzs hK v l hs hown n hn b u y hx hcell h1 hu hoff h63 hbytes hbase fun g cap w' h1 h2 _ => h g cap w' h1 h2
end

theorem Bs.keeps : Keeps Bs := fun _ _ _ _ h k => h.keep k.2
theorem Bs.off_of {w : World} {v : Value} {l : List Nat} {g : Nat} (h : Bs w v l) (hg : ∀ k, v.ownBlock = some k → k ≠ g) : Off Bs w g v l := by
  rintro w' k
  obtain ⟨A, c, rfl, hm, hl, hz, hc⟩ := h
  refine ⟨A, c, rfl, hm, hl, hz, fun hn => ?_⟩
  obtain ⟨b, off, rfl, hcell⟩ := hc hn
  refine ⟨b, off, rfl, fun j hj => ?_⟩
  rw [k.2 ⟨b, off + j, none⟩ (World.block_lt_of_cell? w _ (hcell j hj)) (hg b rfl)]
  exact hcell j hj
theorem Bs.made_of {w : World} {v : Value} {l : List Nat} {B : Nat} (h : Bs w v l) (hg : ∀ k, v.ownBlock = some k → B ≤ k) : Made Bs B w v l :=
  ⟨h, fun g hlt => h.off_of fun k hk => by have := hg k hk; omega⟩
/-- A matrix: a slice of slices of bytes. -/
abbrev Ms := Sl Bs
/-- An int in memory. -/
def Iv (_ : World) (u : Value) (x : Int) : Prop := u = .int .i64 x
theorem Iv.keeps : Keeps Iv := fun _ _ _ _ h _ => h
theorem Iv.off {w : World} {g : Nat} {u : Value} {x : Int} (h : Iv w u x) : Off Iv w g u x := fun _ _ => h
/-- A slice of ints. -/
abbrev Is := Sl Iv
end Go.Proofs.Ytfihiihakgcikaa
namespace Go.Proofs.Ytfihiihakgcikaa
open Go Go.RowKit

/-- The world but for some draws. -/
def Dr (w w' : World) : Prop := ∃ q, w' = w.drewN q
theorem Dr.refl (w : World) : Dr w w := ⟨0, rfl⟩
theorem Dr.more {w w' : World} (h : Dr w w') (q : Nat) : Dr w (w'.drewN q) := by
  obtain ⟨p, rfl⟩ := h
  exact ⟨p + q, by rw [World.drewN_drewN]⟩
theorem Dr.cell {w w' : World} (h : Dr w w') (a : Addr) : w'.cell? a = w.cell? a := by
  obtain ⟨p, rfl⟩ := h; rfl
theorem Dr.below {w w' : World} (h : Dr w w') (B : Nat) : Below B w w' := by
  obtain ⟨p, rfl⟩ := h
  exact ⟨rfl, rfl, rfl, Nat.le_refl _, fun _ _ => rfl⟩
theorem Dr.same {w w' : World} (h : Dr w w') : Same w w' := by
  obtain ⟨p, rfl⟩ := h
  exact ⟨Nat.le_refl _, fun _ _ => rfl⟩
theorem Dr.trans {a b c : World} (h : Dr a b) (k : Dr b c) : Dr a c := by
  obtain ⟨p, rfl⟩ := k
  exact h.more p
def drPost (v : Value) (w : World) (e : Ending) (w' : World) : Prop := e = .returned v ∧ Dr w w'
theorem cell_new (w : World) (u : Value) (t : TypeId) (n : Nat) (hn : w.heap.size = n) : (w.alloc (.cells #[u] t)).cell? ⟨n, 0, none⟩ = some u := by
  subst hn
  rw [cell_of_row _ _ _ _ _ _ (heap_alloc_new w _)]; rfl
end Go.Proofs.Ytfihiihakgcikaa
