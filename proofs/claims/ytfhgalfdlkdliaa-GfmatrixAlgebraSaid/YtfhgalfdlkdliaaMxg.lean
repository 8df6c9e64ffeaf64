/- Contracts: the reference's Apply and Mul. -/
import Derived.Test.YtfhgalfdlkdliaaMxf
namespace Go.Proofs.Ytfhgalfdlkdliaa
open Go Go.RowKit Lin

/-- A byte in memory. -/
def Bv (_ : World) (u : Value) (x : Nat) : Prop := u = .int .u8 (x : Int)
theorem Bv.keeps : Keeps Bv := fun _ _ _ _ h _ => h
theorem Bv.off {w : World} {g : Nat} {u : Value} {x : Nat} (h : Bv w u x) : Off Bv w g u x := fun _ _ => h
theorem OwnL.bs {w : World} {base : Nat} {e : TypeId} {v : Value} {l : List Nat} (h : OwnL Bv w base e v l) (hb : ∀ x ∈ l, x < 256) : Bs w v l := by
  rcases h with ⟨rfl, rfl⟩ | ⟨g, cap, rfl, _, cs, hr, hs, hm, hl, hc⟩
  · exact Bs.nil_ w
  · refine Bs.of_row hr rfl ⟨hl, hm⟩ hb fun k hk => ?_
    obtain ⟨u, hu, ho⟩ := hc k hk
    rw [hu, getD_in hk, ho.here]
/-- What a push of a plain value asks. -/
theorem push_plain {α : Type} {R : World → Value → α → Prop} {w1 w2 : World} {base : Nat} {e : TypeId} {v u : Value} {l : List α} {y : α} (h : OwnL R w1 base e v l) (hb : Below w1.heap.size w1 w2) (hu : ∀ w, R w u y) (t : TypeId) (b : Nat) (hbn : w2.heap.size = b) :
    OwnL R (w2.alloc (.cells #[u] t)) base e v l ∧ (w2.alloc (.cells #[u] t)).cell? ⟨b, 0, none⟩ = some u ∧ R (w2.alloc (.cells #[u] t)) u y ∧ (∀ g, v.ownBlock = some g → Off R (w2.alloc (.cells #[u] t)) g u y) :=
  ⟨(h.below hb (Nat.le_refl _)).alloc _, cell_new w2 u t _ hbn, hu _, fun _ _ _ _ => hu _⟩

theorem rmul_quiet (a b : Nat) (ha : a < 256) (hb : b < 256) (w : World) (n : Nat) :
    Calls Try.prog 39 #[.int .u8 (a : Int), .int .u8 (b : Int)] (w.drewN n) fun e w'' => e = .returned (.int .u8 (Gf.mul a b : Nat)) ∧ ∃ m, w'' = w.drewN m :=
  Calls.quiet_of_same ((rmul_any a b ha hb (w.drewN n)).mono fun _ _ h => ⟨h.1, h.2.symm⟩)

/-- Row i times the list. -/
def dotE (m : List (List Nat)) (v : List Nat) (i k : Nat) : Nat := xs k (fun l => Gf.mul (el m i l) (v.getD l 0))
def applyL (r n : Nat) (m : List (List Nat)) (v : List Nat) : List Nat := (List.range r).map fun i => dotE m v i n
theorem dotE_lt {r n : Nat} {m : List (List Nat)} (h : Rect r n m) (v : List Nat) (i k : Nat) : dotE m v i k < 256 := xs_lt _ _ fun l _ => Gf.mul_lt _ _ (h.by i l)
theorem applyL_bytes {r n : Nat} {m : List (List Nat)} (h : Rect r n m) (v : List Nat) : ∀ x ∈ applyL r n m v, x < 256 := by
  intro x hx
  obtain ⟨i, _, rfl⟩ := List.mem_map.1 hx
  exact dotE_lt h v i n
theorem applyL_at (r n : Nat) (m : List (List Nat)) (v : List Nat) (i : Nat) (hi : i < r) : (applyL r n m v).getD i 0 = dotE m v i n := range_getD _ _ _ _ hi

def bsNew (l : List Nat) (w : World) (e : Ending) (w' : World) : Prop := ∃ v, e = .returned v ∧ Bs w' v l ∧ Below w.heap.size w w'
end Go.Proofs.Ytfhgalfdlkdliaa
