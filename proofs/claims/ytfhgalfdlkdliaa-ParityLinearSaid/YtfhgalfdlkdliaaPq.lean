/- Update, in the words of the laws. -/
import Derived.Test.YtfhgalfdlkdliaaRec
namespace Go.Proofs.Ytfhgalfdlkdliaa
open Go Go.RowKit Lin
set_option linter.unusedVariables false

theorem cat3_of {S : Nat → Blk} {D : List (List Nat)} (h : ∀ j, j < 3 → (S j).1 = parB D j) : cat3 S = (parL D).flatten := by
  unfold cat3 parL
  rw [h 0 (by decide), h 1 (by decide), h 2 (by decide)]
  simp
theorem upd_eq {D : List (List Nat)} (hD : ∀ d ∈ D, B8 d) (hP : ∀ d ∈ parL D, B8 d) {i : Nat} (hi : i < D.length) (a b : Blk) (ha : a.1 = D.getD i []) : cat3 (updX (parL D) hP a b i) = (parL (D.set i b.1)).flatten := by
  refine cat3_of fun j hj => B8.ext (updX (parL D) hP a b i j).2 (parB_ok _ _) fun k hk => ?_
  have e1 : (nth (parL D) hP j).1 = parB D j := by
    show (parL D).getD j zeroB.1 = _
    match j, hj with
    | 0, _ => rfl
    | 1, _ => rfl
    | 2, _ => rfl
  have e2 : (pmB a.1 b.1 1).getD k 0 = el D i k ^^^ b.1.getD k 0 := by
    rw [pmB, blk_at _ hk, Gf.mul_one _ (b.2.lt k), ha]; rfl
  show (pmB (nth (parL D) hP j).1 (pmB a.1 b.1 1) (Gf.gpow 2 (j * i))).getD k 0 = (parB (D.set i b.1) j).getD k 0
  rw [pmB, blk_at _ hk, e1, e2, parB, blk_at _ hk, parB, blk_at _ hk, par_set hD hi b.2]
theorem update_b (v : Value) (D P Q : List (List Nat)) (hD : ∀ d ∈ D, B8 d) (a b : Blk) (i : Nat) (w : World) (h : Bl w v P) (hP : parL D = P) (hi : i < D.length) (h12 : i ≤ 12) (ha : a.1 = D.getD i []) (hQ : parL (D.set i b.1) = Q) :
    Calls Try.prog 23 #[v, .int .i64 (i : Int), .agg (bcs a.1), .agg (bcs b.1)] w (encL Q w) := by
  subst hP hQ
  refine (update_ok v (parL D) (parL_ok D) a b i w h rfl h12).mono fun _ _ ⟨g, he, hg, hr, hb⟩ => ⟨g, he, hg, ?_, hb⟩
  rw [upd_eq hD (parL_ok D) hi a b ha] at hr
  exact Bl.par hr
def updAny (w : World) (e : Ending) (w' : World) : Prop := ∃ g, e = .returned (.tuple #[.slice (some ⟨g, 0, none⟩) 3 3, .int .i64 0]) ∧ Below w.heap.size w w'
theorem update_any (v : Value) (P : List (List Nat)) (a b : Blk) (i : Nat) (w : World) (h : Bl w v P) (hP : P.length = 3) (h12 : i ≤ 12) :
    Calls Try.prog 23 #[v, .int .i64 (i : Int), .agg (bcs a.1), .agg (bcs b.1)] w (updAny w) :=
  (update_ok v P h.ok a b i w h hP h12).mono fun _ _ ⟨g, he, _, _, hb⟩ => ⟨g, he, hb⟩
theorem update_e (v : Value) (D : List (List Nat)) (a b : Blk) (i : Int) (w : World) (h : Bl w v D) (he : D.length ≠ 3 ∨ i < 0 ∨ 12 < i) :
    Calls Try.prog 23 #[v, .int .i64 i, .agg (bcs a.1), .agg (bcs b.1)] w (bPost (.tuple #[.slice none 0 0, .int .i64 1]) w) := update_err v D a b i w h he
theorem rparity_b (v : Value) (D P : List (List Nat)) (w : World) (h : Bl w v D) (hl : D.length ≤ 200) (hP : parL D = P) : Calls Try.prog 22 #[v] w fun e w' => ∃ g, e = .returned (.slice (some ⟨g, 0, none⟩) 3 3) ∧ Bl w' (.slice (some ⟨g, 0, none⟩) 3 3) P ∧ Below w.heap.size w w' :=
  (rparity_any v D w h hl).mono fun _ _ ⟨he, hr, hb⟩ => ⟨w.heap.size, he, hP ▸ Bl.par hr, hb⟩
theorem Bl.cap {w : World} {A : Option Addr} {n c : Nat} {D : List (List Nat)} (h : Bl w (.slice A n c) D) : n ≤ c := by
  obtain ⟨_, _, hv, hm, _⟩ := h
  injection hv with e1 e2 e3
  subst e2 e3
  exact hm.1
theorem take_own {w : World} {b n m c : Nat} {D : List (List Nat)} (h : Bl w (.slice (some ⟨b, 0, none⟩) n c) D) (hn : D.length = n) (hm : m ≤ n) (hp : 0 < n) : Bl w (.slice (some ⟨b, 0, none⟩) m c) (D.take m) := by
  obtain ⟨b', off', c', hv, hc, -, hr⟩ := h.at_ (by omega)
  injection hv with e1 e2 e3
  injection e1 with e1
  injection e1 with e4 e5 e6
  subst e4 e5 e3
  rw [hn] at hc
  exact take_bl hr h.ok hn hc hm
end Go.Proofs.Ytfhgalfdlkdliaa
