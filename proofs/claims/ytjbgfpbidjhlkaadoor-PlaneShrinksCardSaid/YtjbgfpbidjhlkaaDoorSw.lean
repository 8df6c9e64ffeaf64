/- The reference's digits and numbers. -/
import Derived.Test.YtjbgfpbidjhlkaaDoorSv
import Derived.StillTailTactics
namespace Go.Proofs.YtjbgfpbidjhlkaaDoor
open Go Go.RowKit
set_option linter.unusedVariables false

/-- A number in memory. -/
def Nv (_ : World) (u : Value) (x : Nat) : Prop := u = .int .i64 (x : Int)
theorem Nv.keeps : Keeps Nv := fun _ _ _ _ h _ => h
/-- Block g is a row whose first n cells hold the numbers f. -/
def Nr (w : World) (g n : Nat) (f : Nat → Nat) : Prop := ∃ cs t, Row w g t cs ∧ n ≤ cs.size ∧ ∀ i, i < n → cs[i]? = some (.int .i64 ((f i : Nat) : Int))
theorem Nr.cell {w : World} {g n : Nat} {f : Nat → Nat} (h : Nr w g n f) {i : Nat} (hi : i < n) : w.cell? ⟨g, i, none⟩ = some (.int .i64 ((f i : Nat) : Int)) := by
  obtain ⟨cs, t, hr, _, hc⟩ := h
  rw [hr.cell]; exact hc i hi
theorem Nr.frozen {w : World} {g n : Nat} {f : Nat → Nat} (h : Nr w g n f) (i : Nat) : w.frozen? ⟨g, i, none⟩ = false := by obtain ⟨_, _, hr, _⟩ := h; exact hr.frozen i
theorem Nr.lt {w : World} {g n : Nat} {f : Nat → Nat} (h : Nr w g n f) : g < w.heap.size := by obtain ⟨_, _, hr, _⟩ := h; exact hr.lt
theorem Nr.congr {w : World} {g n : Nat} {f f' : Nat → Nat} (h : Nr w g n f) (e : ∀ i, i < n → f i = f' i) : Nr w g n f' := by
  obtain ⟨cs, t, hr, hs, hc⟩ := h
  exact ⟨cs, t, hr, hs, fun i hi => by rw [← e i hi]; exact hc i hi⟩
theorem Nr.block {w w' : World} {g n : Nat} {f : Nat → Nat} (h : Nr w g n f) (hb : w'.heap[g]? = w.heap[g]?) : Nr w' g n f := by
  obtain ⟨cs, t, hr, hs, hc⟩ := h
  exact ⟨cs, t, hb.trans hr, hs, hc⟩
theorem Nr.below {w w' : World} {g n B : Nat} {f : Nat → Nat} (h : Nr w g n f) (hb : Below B w w') (hB : w.heap.size ≤ B) : Nr w' g n f := h.block (hb.block g (Nat.lt_of_lt_of_le h.lt hB))
theorem Nr.other {w : World} {g n : Nat} {f : Nat → Nat} (h : Nr w g n f) {a : Addr} (ha : g ≠ a.block) (v : Value) : Nr (w.setCell a v) g n f := h.block (Deep.blk_setCell_other _ _ _ _ ha)
theorem Nr.drew {w : World} {g n : Nat} {f : Nat → Nat} (h : Nr w g n f) : Nr w.drew g n f := h
/-- A function with one value changed. -/
def up (f : Nat → Nat) (k v : Nat) : Nat → Nat := fun j => if j = k then v else f j
theorem Nr.set {w : World} {g n : Nat} {f : Nat → Nat} (h : Nr w g n f) (k v : Nat) : Nr (w.setCell ⟨g, k, none⟩ (.int .i64 (v : Int))) g n (up f k v) := by
  obtain ⟨cs, t, hr, hs, hc⟩ := h
  refine ⟨_, t, hr.store k _, by simpa using hs, fun i hi => ?_⟩
  unfold up
  by_cases e : i = k
  · subst e
    rw [Array.getElem?_setIfInBounds_self_of_lt (by omega), if_pos rfl]
  · rw [Array.getElem?_setIfInBounds_ne (fun h => e h.symm), if_neg e]; exact hc i hi
theorem Nr.of_wk {w : World} {g cap : Nat} {e : TypeId} {l : List Nat} (h : Wk Nv w g e cap l) : Nr w g l.length (fun i => l.getD i 0) := by
  obtain ⟨cs, hr, hs, hm, hl, hc⟩ := h
  refine ⟨cs, e, hr, by omega, fun i hi => ?_⟩
  obtain ⟨u, hu, ho⟩ := hc i hi
  rw [hu, show u = .int .i64 ((l[i] : Nat) : Int) from ho.here]
  show some (Value.int .i64 _) = some (Value.int .i64 ((l.getD i 0 : Nat) : Int))
  rw [getD_in hi]
theorem npush {w1 w2 : World} {base : Nat} {e : TypeId} {v : Value} {l : List Nat} {y : Nat} (h : OwnL Nv w1 base e v l) (hb : Below w1.heap.size w1 w2) (t : TypeId) (b : Nat) (hbn : w2.heap.size = b) :
    OwnL Nv (w2.alloc (.cells #[.int .i64 (y : Int)] t)) base e v l ∧ (w2.alloc (.cells #[.int .i64 (y : Int)] t)).cell? ⟨b, 0, none⟩ = some (.int .i64 (y : Int)) ∧ Nv (w2.alloc (.cells #[.int .i64 (y : Int)] t)) (.int .i64 (y : Int)) y ∧ (∀ g, v.ownBlock = some g → Off Nv (w2.alloc (.cells #[.int .i64 (y : Int)] t)) g (.int .i64 (y : Int)) y) :=
  ⟨(h.below hb (Nat.le_refl _)).alloc _, by subst hbn; rw [cell_of_row _ _ _ _ _ _ (heap_alloc_new w2 _)]; rfl, rfl, fun _ _ _ _ => rfl⟩
theorem slform {α : Type} {R : World → Value → α → Prop} {w : World} {v : Value} {l : List α} (h : Sl R w v l) : ∃ A c, v = .slice A l.length c := by
  obtain ⟨A, c, hv, _⟩ := h
  exact ⟨A, c, hv⟩

/-- The digits. -/
def dgL (p a n : Nat) : List Nat := (List.range n).map fun i => a / p ^ i % p
theorem dgL_len (p a n : Nat) : (dgL p a n).length = n := by simp [dgL]
theorem dgL_succ (p a n : Nat) : dgL p a (n + 1) = dgL p a n ++ [a / p ^ n % p] := by simp [dgL, List.range_succ]
def digPost (p a n : Nat) (w : World) (e : Ending) (w' : World) : Prop := ∃ g cap, e = .returned (.slice (some ⟨g, 0, none⟩) n cap) ∧ w.heap.size ≤ g ∧ Nr w' g n (fun i => a / p ^ i % p) ∧ Below w.heap.size w w' ∧ n ≤ cap ∧ cap ≤ maxLen
set_option maxHeartbeats 1000000 in
set_option maxRecDepth 100000 in
theorem digits_any (a p n : Nat) (w : World) (hp : 2 ≤ p) (hp9 : p ≤ 9) (hn : 1 ≤ n) (hn9 : n ≤ 9) (ha : a ≤ 9) : Calls Tryd.prog 37 #[.int .i64 (a : Int), .int .i64 (p : Int), .int .i64 (n : Int)] w (digPost p a n w) := by
  obtain ⟨i0, hi, hz0, hz1, hz2⟩ := info_parts info_int
  have I0 := Lib.hid (And.intro hi (And.intro hz0 (And.intro hz1 hz2)))
  have HP := Lib.hid hp
  clear hi hz0 hz1 hz2
  go_enter Tryd.func37, Tryd.ntmps37
  go_wp2
  go_loopw [0, 7, 8] (fun x u q wr => ∃ k y : Nat, k ≤ n ∧ y ≤ 9 ∧ q = .int .i64 (k : Int) ∧ x = .int .i64 (y : Int) ∧ Hid (y = a / p ^ k ∧ Below w.heap.size w wr ∧ OwnL Nv wr w.heap.size 3 u (dgL p a k))) (fun _ _ q _ => n - (intOf q).toNat)
  case atStart => exact ⟨0, a, Nat.zero_le _, ha, rfl, rfl, Lib.hid ⟨by simp, Below.refl _ _, OwnL.nil_ _ _ _⟩⟩
  case round =>
    obtain ⟨k, y, hk, hy9, rfl, rfl, H⟩ := hrel
    obtain ⟨A5, c5, rfl⟩ := slform H.out.2.2.sl
    rw [dgL_len] at *
    by_cases hlt : k < n
    · have hkI : (k : Int) < (n : Int) := by omega
      obtain ⟨r, hr⟩ : ∃ r, y % p = r := ⟨_, rfl⟩
      obtain ⟨t, ht⟩ : ∃ t, y / p = t := ⟨_, rfl⟩
      have er : (y : Int) % (p : Int) = (r : Int) := by rw [← hr, Int.natCast_emod]
      have et : (y : Int) / (p : Int) = (t : Int) := by rw [← ht, Int.natCast_ediv]
      have t9 : t ≤ 9 := by rw [← ht]; exact Nat.le_trans (Nat.div_le_self _ _) hy9
      have E : Hid (dgL p a (k + 1) = dgL p a k ++ [r] ∧ t = a / p ^ (k + 1)) := Lib.hid ⟨by rw [dgL_succ, ← H.out.1, hr], by rw [← ht, H.out.1, Nat.div_div_eq_div_mul, ← Nat.pow_succ]⟩
      have F := Lib.hid (npush (y := r) H.out.2.2 (Below.refl wr.heap.size wr) 3 wr.heap.size rfl)
      have LN : Hid ((dgL p a k).length = k) := Lib.hid (dgL_len _ _ _)
      have L1 : k + 1 ≤ maxLen := by unfold maxLen; omega
      have L2 : (k + 1) * 8 ≤ 140737488355328 := by omega
      have L := Lib.hid (And.intro L1 L2)
      have HS := Lib.hid H.out.2.1.size
      have OW := Lib.hid H.out.2.2.own
      have HB := Lib.hid H.out.2.1
      clear hr ht L1 L2 H
      go_wp2_with (at_builtin; refine wpList_push rfl _ _ 37 rfl w.heap.size 3 i0 (.int .i64 0) 8 Tryd.underlying37 I0.out.1 I0.out.2.1 I0.out.2.2.1 I0.out.2.2.2 rfl Nv.keeps (.slice A5 k c5) _ rfl F.out.1 k LN.out wr.heap.size (.int .i64 (r : Int)) r rfl F.out.2.1 rfl F.out.2.2.1 F.out.2.2.2 L.out.1 L.out.2 (by simp; have := HS.out; omega) ?_; intro g5 cap5 w5 hown5 hgrow5)
      have HO5 := Lib.hid hown5
      have HG5 := Lib.hid hgrow5
      clear hown5 hgrow5
      go_wp2
      go_roundw
      case rel =>
        have h0 := HS.out
        exact ⟨k + 1, t, by omega, t9, by go_num, rfl, Lib.hid ⟨E.out.2, (HB.out.alloc h0 _).grown HG5.out (by simp; omega) fun q hq => (OW.out q hq).1, by rw [E.out.1]; exact HO5.out⟩⟩
      case measure => simp [intOf]; omega
    · obtain rfl : k = n := by omega
      go_wp2
      go_ret
      obtain ⟨g, cap, hv, hg, hw⟩ := H.out.2.2.wk (by rw [dgL_len]; omega)
      rw [dgL_len] at hv
      refine ⟨g, cap, congrArg _ hv, hg, ?_, H.out.2.1, ?_⟩
      · have := Nr.of_wk hw
        rw [dgL_len] at this
        exact this.congr fun i hi => by unfold dgL; rw [getD_in (by simpa using hi)]; simp
      · obtain ⟨cs, _, hs, hm, hl, _⟩ := hw
        rw [dgL_len] at hl
        omega

/-- The number with digits: those from place k on. -/
def nmb (p : Nat) (f : Nat → Nat) : Nat → Nat → Nat
  | 0, _ => 0
  | j + 1, k => nmb p f j (k + 1) * p + f k
theorem nmb_lt {p : Nat} {f : Nat → Nat} (hp : p ≤ 9) (hf : ∀ i, f i ≤ 9) : ∀ j k, nmb p f j k < 10 ^ j
  | 0, _ => by simp [nmb]
  | j + 1, k => by
    have h := nmb_lt hp hf j (k + 1)
    have := hf k
    have h2 : nmb p f j (k + 1) * p ≤ nmb p f j (k + 1) * 9 := Nat.mul_le_mul_left _ hp
    rw [nmb, Nat.pow_succ]; omega
set_option maxHeartbeats 1000000 in
set_option maxRecDepth 100000 in
theorem number_any (g n cap p : Nat) (f : Nat → Nat) (w : World) (hr : Nr w g n f) (hp9 : p ≤ 9) (hn : n ≤ 3) (hf : ∀ i, f i ≤ 9) : Calls Tryd.prog 38 #[.slice (some ⟨g, 0, none⟩) n cap, .int .i64 (p : Int)] w (still (.int .i64 (nmb p f n 0 : Nat)) w) := by
  obtain ⟨R, hR⟩ : ∃ R, nmb p f n 0 = R := ⟨_, rfl⟩
  have RR := Lib.hid hR
  rw [hR]
  have HN := Lib.hid hr
  have HF := Lib.hid hf
  clear hr hf hR
  go_enter Tryd.func38, Tryd.ntmps38
  go_wp2
  go_loopw [5, 6] (fun s q wr => wr = w ∧ ∃ k y : Nat, k ≤ n ∧ y ≤ 999 ∧ q = .int .i64 ((k : Int) - 1) ∧ s = .int .i64 (y : Int) ∧ Hid (y = nmb p f (n - k) k)) (fun _ q _ => (intOf q + 1).toNat)
  case atStart => exact ⟨rfl, n, 0, Nat.le_refl _, by omega, rfl, rfl, Lib.hid (by rw [Nat.sub_self]; rfl)⟩
  case round =>
    obtain ⟨rfl, k, y, hk, hy, rfl, rfl, H⟩ := hrel
    by_cases h0 : k = 0
    · subst h0
      obtain rfl : y = R := H.out.trans RR.out
      go_wp2
      go_ret
      exact ⟨rfl, rfl⟩
    · obtain ⟨m, rfl⟩ : ∃ m, k = m + 1 := ⟨k - 1, by omega⟩
      have c0 := HN.out.cell (i := m) (by omega)
      have E := H.out
      obtain ⟨x, hx⟩ : ∃ x, f m = x := ⟨_, rfl⟩
      have x9 : x ≤ 9 := hx ▸ HF.out m
      rw [hx] at c0
      have e1 : ((m + 1 : Nat) : Int) - 1 = (m : Int) := by omega
      have hyp : y * p + x ≤ 999 := by
        have h1 := nmb_lt hp9 HF.out (n - m) m
        have h2 : n - m = (n - (m + 1)) + 1 := by omega
        have h3 : 10 ^ (n - m) ≤ 10 ^ 3 := Nat.pow_le_pow_right (by omega) (by omega)
        rw [h2, nmb, ← E, hx] at h1
        rw [h2] at h3
        omega
      have Y : Hid (y * p + x = nmb p f (n - m) m) := Lib.hid (by rw [show n - m = (n - (m + 1)) + 1 by omega, nmb, ← E, hx])
      obtain ⟨z, hz⟩ : ∃ z, y * p = z := ⟨_, rfl⟩
      have ez : (y : Int) * (p : Int) = (z : Int) := by rw [← hz, Int.natCast_mul]
      rw [hz] at hyp Y
      rw [e1]
      clear E H hx hz h0 e1
      go_wp2
      go_roundw
      case rel => exact ⟨trivial, m, z + x, by omega, hyp, rfl, by go_num, Y⟩
      case measure => simp [intOf]
end Go.Proofs.YtjbgfpbidjhlkaaDoor
