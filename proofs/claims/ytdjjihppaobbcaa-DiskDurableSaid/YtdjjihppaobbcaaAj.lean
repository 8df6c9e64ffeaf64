/- Lists of structs, whatever their cells are: enc gives the k cells of an element. -/
import Derived.Test.YtdjjihppaobbcaaGA
import Derived.Deep.MidRow
import Derived.Deep.Slices
import Derived.Deep.AppendLies
import Derived.Laws.Rows
namespace Go.Proofs.Ytdjjihppaobbcaa
namespace St
open Go Go.RowKit
variable {α : Type}
/-- Every element has k cells, each of which is one value. -/
def Enc (k : Nat) (enc : α → List Value) : Prop := ∀ a, (enc a).length = k ∧ ∀ u ∈ enc a, u.oneCell' = true
section
variable {k : Nat} {enc : α → List Value}
theorem flat_len (he : Enc k enc) : ∀ L : List α, (L.flatMap enc).length = L.length * k
  | [] => by simp
  | f :: L => by rw [List.flatMap_cons, List.length_append, flat_len he L, (he f).1, List.length_cons, Nat.succ_mul, Nat.add_comm]
theorem flat_at (he : Enc k enc) : ∀ (L : List α) (i : Nat) (h : i < L.length) (j : Nat), j < k → (L.flatMap enc)[i * k + j]? = (enc L[i])[j]?
  | f :: L, 0, _, j, hj => by
    rw [List.flatMap_cons, Nat.zero_mul, Nat.zero_add, List.getElem?_append_left (by rw [(he f).1]; exact hj)]; rfl
  | f :: L, i + 1, h, j, hj => by
    rw [List.flatMap_cons, List.getElem?_append_right (by rw [(he f).1, Nat.succ_mul]; omega)]
    have e : (i + 1) * k + j - (enc f).length = i * k + j := by rw [(he f).1, Nat.succ_mul]; omega
    rw [e, flat_at he L i (by simpa using h) j hj]; rfl
theorem in_row {i n j k : Nat} (hi : i < n) (hj : j < k) : i * k + j < n * k := by
  have h1 : (i + 1) * k ≤ n * k := Nat.mul_le_mul_right k hi
  rw [Nat.succ_mul] at h1
  omega
/-- The slice value v reads as these elements. -/
def Rd (k : Nat) (enc : α → List Value) (w : World) (v : Value) (L : List α) : Prop :=
  ∃ A c, v = .slice A L.length c ∧ (L.length ≤ c ∧ c ≤ maxLen) ∧ (0 < L.length → ∃ b off, A = some ⟨b, off, none⟩ ∧ ∀ i (h : i < L.length), w.rangeAt b (off + i * k) (enc L[i]))
theorem ce {w w' : World} {p : Addr} {u : Value} (h : w.cell? p = some u) (hb : Below w.heap.size w w') : w'.cell? p = some u := (hb.cell (World.block_lt_of_cell? w _ h)).trans h
theorem rng {w w' : World} {b off : Nat} {cs : List Value} (h : w.rangeAt b off cs) (hb : Below w.heap.size w w') : w'.rangeAt b off cs := fun j v hv => ce (h j v hv) hb
theorem Rd.fw {w w' : World} {v : Value} {L : List α} (h : Rd k enc w v L) (hb : Below w.heap.size w w') : Rd k enc w' v L := by
  obtain ⟨A, c, rfl, hm, hc⟩ := h
  refine ⟨A, c, rfl, hm, fun hn => ?_⟩
  obtain ⟨b, off, rfl, hq⟩ := hc hn
  exact ⟨b, off, rfl, fun i hi => rng (hq i hi) hb⟩
theorem Rd.form {w : World} {v : Value} {L : List α} (h : Rd k enc w v L) : ∃ A c, v = .slice A L.length c := by obtain ⟨A, c, h, _⟩ := h; exact ⟨A, c, h⟩
theorem Rd.len {w : World} {v : Value} {L : List α} (h : Rd k enc w v L) : L.length ≤ 9223372036854775807 := by
  obtain ⟨A, c, _, hm, _⟩ := h
  have : maxLen ≤ 9223372036854775807 := by decide
  omega
theorem Rd.nil_ (w : World) : Rd k enc w (.slice none 0 0) [] := ⟨none, 0, rfl, ⟨Nat.le_refl _, by decide⟩, fun h => absurd h (Nat.lt_irrefl 0)⟩
/-- The i-th element. -/
theorem Rd.nth {w : World} {A : Option Addr} {n c : Nat} {L : List α} (h : Rd k enc w (.slice A n c) L) {i : Nat} (hi : i < n) : ∃ (b off : Nat) (h2 : i < L.length), A = some ⟨b, off, none⟩ ∧ w.rangeAt b (off + i * k) (enc L[i]) := by
  obtain ⟨A', c', e, _, hc⟩ := h
  injection e with e1 e2 e3
  subst e1 e2 e3
  obtain ⟨b, off, hA, hq⟩ := hc (by omega)
  exact ⟨b, off, hi, hA, hq i hi⟩
/-- A list whose block is the call's own. -/
def Ow (t : TypeId) (k : Nat) (enc : α → List Value) (B : Nat) (w : World) (v : Value) (L : List α) : Prop := w.ownsRow B t k v L.length (L.flatMap enc)
variable {t : TypeId}
theorem Ow.nil_ (B : Nat) (w : World) : Ow t k enc B w (.slice none 0 0) [] := World.ownsRow_nil _ _ _ _
theorem Ow.own {B : Nat} {w : World} {v : Value} {L : List α} (h : Ow t k enc B w v L) : ∀ b, v.ownBlock = some b → B ≤ b ∧ b < w.heap.size := World.ownsRow.lt h
theorem Ow.fw {w w' : World} {B : Nat} {v : Value} {L : List α} (h : Ow t k enc B w v L) (hb : Below w.heap.size w w') : Ow t k enc B w' v L := by
  refine ⟨h.1, ?_⟩
  rcases h.2 with h1 | ⟨g, cap, cur, h1, h2, h3, h4⟩
  · exact Or.inl h1
  · have hg : g < w.heap.size := Row.lt (t := t) (cs := cur) h3
    exact Or.inr ⟨g, cap, cur, h1, h2, (hb.block g hg).trans h3, h4⟩
theorem Ow.low {w : World} {B B' : Nat} {v : Value} {L : List α} (h : Ow t k enc B w v L) (hB : B' ≤ B) : Ow t k enc B' w v L := by
  refine ⟨h.1, ?_⟩
  rcases h.2 with h1 | ⟨g, cap, cur, h1, h2, h3⟩
  · exact Or.inl h1
  · exact Or.inr ⟨g, cap, cur, h1, Nat.le_trans hB h2, h3⟩
theorem Ow.rd (he : Enc k enc) {w : World} {B : Nat} {v : Value} {L : List α} (h : Ow t k enc B w v L) : Rd k enc w v L := by
  obtain ⟨hl, h⟩ := h
  rcases h with ⟨rfl, h0⟩ | ⟨g, cap, cur, rfl, hb, hh, hle, hm, hs, ht⟩
  · obtain rfl : L = [] := List.length_eq_zero_iff.1 h0
    exact Rd.nil_ w
  · refine ⟨_, cap, rfl, ⟨hle, hm⟩, fun _ => ⟨g, 0, rfl, fun i hi j v hv => ?_⟩⟩
    have hj : j < k := by
      have := (List.getElem?_eq_some_iff.1 hv).1
      rw [(he _).1] at this
      exact this
    have e := flat_at he L i hi j hj
    rw [hv, ← ht, List.getElem?_take_of_lt (in_row hi hj)] at e
    have hr : Row w g t cur := hh
    rw [Nat.zero_add, hr.cell]
    simpa using e
theorem Ow.form (he : Enc k enc) {w : World} {B : Nat} {v : Value} {L : List α} (h : Ow t k enc B w v L) : ∃ A c, v = .slice A L.length c := (h.rd he).form
theorem parts {P : Program} {t : TypeId} {z : Value} {s b : Nat} (info : (P.info? t).map (fun i => (i.zero, i.size, i.bytes)) = some (some z, s, b)) : ∃ i, P.info? t = some i ∧ i.zero = some z ∧ i.size = s ∧ i.bytes = b := by
  obtain ⟨i, hi, hzz⟩ := Option.map_eq_some_iff.1 info
  simp only [Prod.mk.injEq] at hzz
  exact ⟨i, hi, hzz.1, hzz.2.1, hzz.2.2⟩
/-- 'append(v, x...)', x not empty (an element: a list of one). -/
theorem wp_cat (he : Enc k enc) (hk : 0 < k) {P : Program} {st : TypeId} {z : Value} {by_ : Nat} (und : P.underlying st = some (.slice t)) (info : (P.info? t).map (fun i => (i.zero, i.size, i.bytes)) = some (some z, k, by_)) (hz : z.cells.size = k)
    {B : Nat} {w : World} {o : Oper} {a : Act} {Kt : Act → World → Prop} {Qx : Exit → Act → World → Prop} (s x : Operand)
    (ho : o.op = .call { callee := .builtin .append, args := #[s, x], argTypes := #[st, st] })
    (v : Value) (n m c : Nat) (A : Option Addr) (L M : List α) (hs : a.eval s = v) (hown : Ow t k enc B w v L) (hn : L.length = n) (hx : a.eval x = .slice A m c) (hM : Rd k enc w (.slice A m c) M) (hm : M.length = m) (h0 : 0 < m)
    (hlen : (n + m) * by_ ≤ 140737488355328) (h63 : n + m ≤ maxLen) (hbase : B ≤ w.heap.size)
    (h : ∀ g' cap' w', Ow t k enc B w' (.slice (some ⟨g', 0, none⟩) (n + m) cap') (L ++ M) → Below B w w' → Kt (a.put o.dst (.slice (some ⟨g', 0, none⟩) (n + m) cap')) w') : o.wp P a w Kt Qx := by
  subst hn hm
  obtain ⟨i, hi, hzz, hsz, hby⟩ := parts info
  obtain ⟨A', c', e, _, hc⟩ := hM
  obtain ⟨b, off, hA, hcell⟩ := hc h0
  injection e with e1 e2 e3
  subst e1 e3 hA
  refine wp_append_lies w s x _ ho B _ i _ k by_ und hi hzz hsz hby hz hk v L.length (L.flatMap enc) hs hown ⟨b, off, none⟩ M.length c (M.flatMap enc) hx (flat_len he M) (fun j u' hj => ?_) (fun u' hu' => ?_) h0 h63 hlen hbase _ rfl fun g2 cap2 w' hown' hgrow hat _ => ?_
  · rw [Go.WideShapes.add_plain]
    have hj2 : j < M.length * k := by have := (List.getElem?_eq_some_iff.1 hj).1; rw [flat_len he] at this; exact this
    have hki : j / k < M.length := Nat.div_lt_of_lt_mul (by rw [Nat.mul_comm]; exact hj2)
    have hdm : j / k * k + j % k = j := by rw [Nat.mul_comm]; exact Nat.div_add_mod j k
    have e := flat_at he M (j / k) hki (j % k) (Nat.mod_lt _ hk)
    rw [hdm, hj] at e
    have := hcell (j / k) hki (j % k) u' e.symm
    rw [Nat.add_assoc, hdm] at this
    exact this
  · obtain ⟨f, _, hu⟩ := List.mem_flatMap.1 hu'
    exact (he f).2 _ hu
  · refine h g2 cap2 w' ?_ ((Below.refl B w).grown hgrow hbase fun q hq => (hown.own q hq).1)
    unfold Ow
    rw [List.length_append, List.flatMap_append]
    exact hown'
/-- An element in a block of its own is a list of one. -/
theorem Rd.one {w : World} {b : Nat} {f : α} (hr : Row w b t (enc f).toArray) : Rd k enc w (.slice (some ⟨b, 0, none⟩) 1 1) [f] := by
  refine ⟨_, 1, rfl, ⟨Nat.le_refl _, by decide⟩, fun _ => ⟨b, 0, rfl, fun i hi j v hv => ?_⟩⟩
  obtain rfl : i = 0 := by simp at hi; exact hi
  rw [Nat.zero_mul, Nat.zero_add, hr.cell]
  simpa using hv
theorem flat_set (he : Enc k enc) {f' : α} {u : Value} : ∀ (L : List α) (i : Nat) (h : i < L.length) (j : Nat), j < k → enc f' = (enc L[i]).set j u → (L.set i f').flatMap enc = (L.flatMap enc).set (i * k + j) u
  | f :: L, 0, _, j, hj, hf => by
    rw [List.set_cons_zero, List.flatMap_cons, List.flatMap_cons, hf, Nat.zero_mul, Nat.zero_add, List.set_append_left _ _ (by rw [(he f).1]; exact hj)]; rfl
  | f :: L, i + 1, h, j, hj, hf => by
    rw [List.set_cons_succ, List.flatMap_cons, List.flatMap_cons, flat_set he L i (by simpa using h) j hj (by simpa using hf), List.set_append_right _ _ (by rw [(he f).1, Nat.succ_mul]; omega)]
    congr 2
    rw [(he f).1, Nat.succ_mul]; omega
/-- One cell of an element is changed in place. -/
theorem Ow.set (he : Enc k enc) {w : World} {B g n cap : Nat} {L : List α} (h : Ow t k enc B w (.slice (some ⟨g, 0, none⟩) n cap) L) {i j : Nat} (hi : i < L.length) (hj : j < k) {f' : α} {u : Value} (hf : enc f' = (enc L[i]).set j u) :
    Ow t k enc B (w.setCell ⟨g, i * k + j, none⟩ u) (.slice (some ⟨g, 0, none⟩) n cap) (L.set i f') := by
  obtain ⟨hl, h⟩ := h
  rcases h with ⟨e, _⟩ | ⟨g2, cap2, cur, e, hb, hh, hle, hm, hs, ht⟩
  · cases e
  · injection e with e1 e2 e3
    injection e1 with e1
    injection e1 with e1
    subst e1 e3
    refine ⟨?_, Or.inr ⟨g, cap, cur.setIfInBounds (i * k + j) u, ?_, hb, Row.store (t := t) (cs := cur) hh _ _, ?_, hm, ?_, ?_⟩⟩
    · rw [flat_set he L i hi j hj hf, List.length_set, List.length_set, hl]
    · rw [List.length_set, e2]
    · rw [List.length_set]; exact hle
    · rw [Array.size_setIfInBounds, hs]
    · rw [flat_set he L i hi j hj hf, List.length_set, Array.toList_setIfInBounds, List.take_set, ht]
/-- Opening a slice of structs: 'one' opens an element. The reading is the empty one, or as long as the list. -/
theorem rd_in {H : Type} {en : TypeId × Value → H} {P : Program} {w : World} {base : Nat} {spare : Nat → Bool} {held : Bool} {t e : TypeId} {a : Option Addr} {len cap : Nat} {x : DataW H × List MemPlace} {Q : α → Prop} [Inhabited α]
    (he : Enc k enc) (hk : 0 < k) (ht : P.underlying t = some (.slice e)) (ck : P.cellsOf e = k)
    (one : ∀ fuel cs y, DataW.trod en P w base spare held fuel e cs = some y → ∃ f : α, cs = enc f ∧ Q f)
    (h : ∃ fuel, DataW.trod en P w base spare held fuel t (Value.slice a len cap).cells.toList = some x) : ∃ L, Rd k enc w (.slice a len cap) L ∧ (∀ f ∈ L, Q f) ∧ (L = [] ∨ ∃ elems sp, x.1 = .slice elems sp ∧ elems.length = L.length) := by
  obtain ⟨fuel, hf⟩ := h
  rcases Go.Deep.open_slice ht hf with ⟨hcs, _⟩ | ⟨ad, l, c, m, n, DD, Pl, hcs, _, hl, hm, hmm, hx, hel⟩
  · simp [Value.cells] at hcs
    obtain ⟨rfl, rfl, rfl⟩ := hcs
    exact ⟨[], Rd.nil_ w, fun f hf => (by cases hf), .inl rfl⟩
  · simp [Value.cells] at hcs
    obtain ⟨rfl, rfl, rfl⟩ := hcs
    have hlm : len ≤ m := by rw [hmm]; split <;> omega
    obtain ⟨f, hf⟩ := Go.Deep.choose_lt (α := α) (n := len) (p := fun i o => (∀ j, j < k → w.cell? (ad.add (i * k + j)) = (enc o)[j]?) ∧ Q o) (fun i hi => by
      obtain ⟨cs', g1, g2⟩ := hel i (by omega)
      rw [ck] at g1
      obtain ⟨o, rfl, hb⟩ := one _ _ _ g2
      obtain ⟨_, _, hc⟩ := World.cells?_some g1
      refine ⟨o, fun j hj => ?_, hb⟩
      have := hc j hj
      rw [Go.Deep.add_add] at this
      exact this)
    refine ⟨(List.range len).map f, ⟨some ad, cap, by simp, ⟨by simpa using hl, hm⟩, fun hn => ?_⟩, fun g hg => ?_, .inr ⟨_, _, by rw [hx], by simp⟩⟩
    · have hn' : 0 < len := by simpa using hn
      obtain ⟨b, off, spot⟩ := ad
      have hspot : spot = none := by
        have h0 := (hf 0 hn').1 0 hk
        rw [List.getElem?_eq_getElem (by rw [(he _).1]; exact hk)] at h0
        simpa [Addr.add] using World.cell?_spot h0
      subst hspot
      refine ⟨b, off, rfl, fun q hq => ?_⟩
      have hq' : q < len := by simpa using hq
      intro j v hv
      simp only [List.getElem_map, List.getElem_range] at hv
      have hj : j < k := by have := (List.getElem?_eq_some_iff.1 hv).1; rw [(he _).1] at this; exact this
      have := (hf q hq').1 j hj
      rw [hv, Go.WideShapes.add_plain] at this
      rw [Nat.add_assoc]
      exact this
    · obtain ⟨i, hi, rfl⟩ := List.mem_map.1 hg
      exact (hf i (List.mem_range.1 hi)).2
end
end St
end Go.Proofs.Ytdjjihppaobbcaa
