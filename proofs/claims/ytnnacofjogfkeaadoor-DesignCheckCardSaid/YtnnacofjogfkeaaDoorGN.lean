/- Joined: Sv Sw Sx Sy Sz. -/
import Derived.Test.YtnnacofjogfkeaaDoorGM
import Derived.Test.YtnnacofjogfkeaaDoorGK
import Derived.StillTailTactics
namespace Go.Proofs.YtnnacofjogfkeaaDoor
open Go Go.RowKit
set_option linter.unusedVariables false

/-- The number of digits. -/
def digs (q : Nat) : Nat := [0, 0, 1, 1, 2, 1, 0, 1, 3, 2].getD q 0
theorem rprime_any (q : Nat) (w : World) (hq : q ∈ Sf.sizes) : Calls Tryd.prog 54 #[.int .i64 (q : Int)] w (still (.tuple #[.int .i64 (Sf.prm q : Int), .int .i64 (digs q : Int)]) w) := by
  rcases (show ∀ q ∈ Sf.sizes, q = 2 ∨ q = 3 ∨ q = 4 ∨ q = 5 ∨ q = 7 ∨ q = 8 ∨ q = 9 by decide) q hq with rfl | rfl | rfl | rfl | rfl | rfl | rfl
  all_goals
    clear hq
    go_enter Tryd.func54, Tryd.ntmps54
    go_wp2
    go_ret2
    exact ⟨rfl, rfl⟩

theorem szs_cell {w w' : World} {B : Nat} (h : w.rowIs B 3 7 (fun i => .int .i64 (kS i : Int))) (hb : Below w.heap.size w w') (k : Nat) (hk : k < 7) : w'.cell? ⟨B, k, none⟩ = some (.int .i64 (kS k : Int)) :=
  (hb.cell (World.block_lt_of_cell? w _ (h.cell hk))).trans (h.cell hk)
end Go.Proofs.YtnnacofjogfkeaaDoor
namespace Go.Proofs.YtnnacofjogfkeaaDoor
open Go Go.RowKit
set_option linter.unusedVariables false

/-- A number in memory. -/
def Nv (_ : World) (u : Value) (x : Nat) : Prop := u = .int .i64 (x : Int)
theorem Nv.keeps : Keeps Nv := fun _ _ _ _ h _ => h
/-- Block g is a row whose first n cells hold the numbers f. -/
def Nr (w : World) (g n : Nat) (f : Nat → Nat) : Prop := ∃ cs t, Row w g t cs ∧ n ≤ cs.size ∧ ∀ i, i < n → cs[i]? = some (.int .i64 ((f i : Nat) : Int))
theorem Nr.cell {w : World} {g n : Nat} {f : Nat → Nat} (h : Nr w g n f) {i : Nat} (hi : i < n) : w.cell? ⟨g, i, none⟩ = some (.int .i64 ((f i : Nat) : Int)) := by
  obtain ⟨cs, t, hr, _, hc⟩ := h
  rw [hr.cell]; exact hc i hi
theorem Nr.frozen {w : World} {g n : Nat} {f : Nat → Nat} (h : Nr w g n f) (i : Nat) : w.frozen? ⟨g, i, none⟩ = false := by obtain ⟨_, _, hr, _⟩ := h; exact hr.frozen i
theorem Nr.lt {w : World} {g n : Nat} {f : Nat → Nat} (h : Nr w g n f) : g < w.heap.size := by obtain ⟨_, _, hr, _⟩ := h; exact hr.lt
theorem Nr.congr {w : World} {g n : Nat} {f f' : Nat → Nat} (h : Nr w g n f) (e : ∀ i, i < n → f i = f' i) : Nr w g n f' := by
  obtain ⟨cs, t, hr, hs, hc⟩ := h
  exact ⟨cs, t, hr, hs, fun i hi => by rw [← e i hi]; exact hc i hi⟩
theorem Nr.block {w w' : World} {g n : Nat} {f : Nat → Nat} (h : Nr w g n f) (hb : w'.heap[g]? = w.heap[g]?) : Nr w' g n f := by
  obtain ⟨cs, t, hr, hs, hc⟩ := h
  exact ⟨cs, t, hb.trans hr, hs, hc⟩
theorem Nr.below {w w' : World} {g n B : Nat} {f : Nat → Nat} (h : Nr w g n f) (hb : Below B w w') (hB : w.heap.size ≤ B) : Nr w' g n f := h.block (hb.block g (Nat.lt_of_lt_of_le h.lt hB))
theorem Nr.other {w : World} {g n : Nat} {f : Nat → Nat} (h : Nr w g n f) {a : Addr} (ha : g ≠ a.block) (v : Value) : Nr (w.setCell a v) g n f := h.block (Deep.blk_setCell_other _ _ _ _ ha)
theorem Nr.drew {w : World} {g n : Nat} {f : Nat → Nat} (h : Nr w g n f) : Nr w.drew g n f := h
/-- A function with one value changed. -/
def up (f : Nat → Nat) (k v : Nat) : Nat → Nat := fun j => if j = k then v else f j
theorem Nr.set {w : World} {g n : Nat} {f : Nat → Nat} (h : Nr w g n f) (k v : Nat) : Nr (w.setCell ⟨g, k, none⟩ (.int .i64 (v : Int))) g n (up f k v) := by
  obtain ⟨cs, t, hr, hs, hc⟩ := h
  refine ⟨_, t, hr.store k _, by simpa using hs, fun i hi => ?_⟩
  unfold up
  by_cases e : i = k
  · subst e
    rw [Array.getElem?_setIfInBounds_self_of_lt (by omega), if_pos rfl]
  · rw [Array.getElem?_setIfInBounds_ne (fun h => e h.symm), if_neg e]; exact hc i hi
theorem Nr.of_wk {w : World} {g cap : Nat} {e : TypeId} {l : List Nat} (h : Wk Nv w g e cap l) : Nr w g l.length (fun i => l.getD i 0) := by
  obtain ⟨cs, hr, hs, hm, hl, hc⟩ := h
  refine ⟨cs, e, hr, by omega, fun i hi => ?_⟩
  obtain ⟨u, hu, ho⟩ := hc i hi
  rw [hu, show u = .int .i64 ((l[i] : Nat) : Int) from ho.here]
  show some (Value.int .i64 _) = some (Value.int .i64 ((l.getD i 0 : Nat) : Int))
  rw [getD_in hi]
theorem npush {w1 w2 : World} {base : Nat} {e : TypeId} {v : Value} {l : List Nat} {y : Nat} (h : OwnL Nv w1 base e v l) (hb : Below w1.heap.size w1 w2) (t : TypeId) (b : Nat) (hbn : w2.heap.size = b) :
    OwnL Nv (w2.alloc (.cells #[.int .i64 (y : Int)] t)) base e v l ∧ (w2.alloc (.cells #[.int .i64 (y : Int)] t)).cell? ⟨b, 0, none⟩ = some (.int .i64 (y : Int)) ∧ Nv (w2.alloc (.cells #[.int .i64 (y : Int)] t)) (.int .i64 (y : Int)) y ∧ (∀ g, v.ownBlock = some g → Off Nv (w2.alloc (.cells #[.int .i64 (y : Int)] t)) g (.int .i64 (y : Int)) y) :=
  ⟨(h.below hb (Nat.le_refl _)).alloc _, by subst hbn; rw [cell_of_row _ _ _ _ _ _ (heap_alloc_new w2 _)]; rfl, rfl, fun _ _ _ _ => rfl⟩
theorem slform {α : Type} {R : World → Value → α → Prop} {w : World} {v : Value} {l : List α} (h : Sl R w v l) : ∃ A c, v = .slice A l.length c := by
  obtain ⟨A, c, hv, _⟩ := h
  exact ⟨A, c, hv⟩

/-- The digits. -/
def dgL (p a n : Nat) : List Nat := (List.range n).map fun i => a / p ^ i % p
theorem dgL_len (p a n : Nat) : (dgL p a n).length = n := by simp [dgL]
theorem dgL_succ (p a n : Nat) : dgL p a (n + 1) = dgL p a n ++ [a / p ^ n % p] := by simp [dgL, List.range_succ]
def digPost (p a n : Nat) (w : World) (e : Ending) (w' : World) : Prop := ∃ g cap, e = .returned (.slice (some ⟨g, 0, none⟩) n cap) ∧ w.heap.size ≤ g ∧ Nr w' g n (fun i => a / p ^ i % p) ∧ Below w.heap.size w w' ∧ n ≤ cap ∧ cap ≤ maxLen
set_option maxHeartbeats 1000000 in
set_option maxRecDepth 100000 in
theorem digits_any (a p n : Nat) (w : World) (hp : 2 ≤ p) (hp9 : p ≤ 9) (hn : 1 ≤ n) (hn9 : n ≤ 9) (ha : a ≤ 9) : Calls Tryd.prog 55 #[.int .i64 (a : Int), .int .i64 (p : Int), .int .i64 (n : Int)] w (digPost p a n w) := by
  obtain ⟨i0, hi, hz0, hz1, hz2⟩ := info_parts info_int
  have I0 := Lib.hid (And.intro hi (And.intro hz0 (And.intro hz1 hz2)))
  have HP := Lib.hid hp
  clear hi hz0 hz1 hz2
  go_enter Tryd.func55, Tryd.ntmps55
  go_wp2
  go_loopw [0, 7, 8] (fun x u q wr => ∃ k y : Nat, k ≤ n ∧ y ≤ 9 ∧ q = .int .i64 (k : Int) ∧ x = .int .i64 (y : Int) ∧ Hid (y = a / p ^ k ∧ Below w.heap.size w wr ∧ OwnL Nv wr w.heap.size 3 u (dgL p a k))) (fun _ _ q _ => n - (intOf q).toNat)
  case atStart => exact ⟨0, a, Nat.zero_le _, ha, rfl, rfl, Lib.hid ⟨by simp, Below.refl _ _, OwnL.nil_ _ _ _⟩⟩
  case round =>
    obtain ⟨k, y, hk, hy9, rfl, rfl, H⟩ := hrel
    obtain ⟨A5, c5, rfl⟩ := slform H.out.2.2.sl
    rw [dgL_len] at *
    by_cases hlt : k < n
    · have hkI : (k : Int) < (n : Int) := by omega
      obtain ⟨r, hr⟩ : ∃ r, y % p = r := ⟨_, rfl⟩
      obtain ⟨t, ht⟩ : ∃ t, y / p = t := ⟨_, rfl⟩
      have er : (y : Int) % (p : Int) = (r : Int) := by rw [← hr, Int.natCast_emod]
      have et : (y : Int) / (p : Int) = (t : Int) := by rw [← ht, Int.natCast_ediv]
      have t9 : t ≤ 9 := by rw [← ht]; exact Nat.le_trans (Nat.div_le_self _ _) hy9
      have E : Hid (dgL p a (k + 1) = dgL p a k ++ [r] ∧ t = a / p ^ (k + 1)) := Lib.hid ⟨by rw [dgL_succ, ← H.out.1, hr], by rw [← ht, H.out.1, Nat.div_div_eq_div_mul, ← Nat.pow_succ]⟩
      have F := Lib.hid (npush (y := r) H.out.2.2 (Below.refl wr.heap.size wr) 3 wr.heap.size rfl)
      have LN : Hid ((dgL p a k).length = k) := Lib.hid (dgL_len _ _ _)
      have L1 : k + 1 ≤ maxLen := by unfold maxLen; omega
      have L2 : (k + 1) * 8 ≤ 140737488355328 := by omega
      have L := Lib.hid (And.intro L1 L2)
      have HS := Lib.hid H.out.2.1.size
      have OW := Lib.hid H.out.2.2.own
      have HB := Lib.hid H.out.2.1
      clear hr ht L1 L2 H
      go_wp2_with (at_builtin; refine wpList_push rfl _ _ 40 rfl w.heap.size 3 i0 (.int .i64 0) 8 Tryd.underlying40 I0.out.1 I0.out.2.1 I0.out.2.2.1 I0.out.2.2.2 rfl Nv.keeps (.slice A5 k c5) _ rfl F.out.1 k LN.out wr.heap.size (.int .i64 (r : Int)) r rfl F.out.2.1 rfl F.out.2.2.1 F.out.2.2.2 L.out.1 L.out.2 (by simp; have := HS.out; omega) ?_; intro g5 cap5 w5 hown5 hgrow5)
      have HO5 := Lib.hid hown5
      have HG5 := Lib.hid hgrow5
      clear hown5 hgrow5
      go_wp2
      go_roundw
      case rel =>
        have h0 := HS.out
        exact ⟨k + 1, t, by omega, t9, by go_num, rfl, Lib.hid ⟨E.out.2, (HB.out.alloc h0 _).grown HG5.out (by simp; omega) fun q hq => (OW.out q hq).1, by rw [E.out.1]; exact HO5.out⟩⟩
      case measure => simp [intOf]; omega
    · obtain rfl : k = n := by omega
      go_wp2
      go_ret
      obtain ⟨g, cap, hv, hg, hw⟩ := H.out.2.2.wk (by rw [dgL_len]; omega)
      rw [dgL_len] at hv
      refine ⟨g, cap, congrArg _ hv, hg, ?_, H.out.2.1, ?_⟩
      · have := Nr.of_wk hw
        rw [dgL_len] at this
        exact this.congr fun i hi => by unfold dgL; rw [getD_in (by simpa using hi)]; simp
      · obtain ⟨cs, _, hs, hm, hl, _⟩ := hw
        rw [dgL_len] at hl
        omega

/-- The number with digits: those from place k on. -/
def nmb (p : Nat) (f : Nat → Nat) : Nat → Nat → Nat
  | 0, _ => 0
  | j + 1, k => nmb p f j (k + 1) * p + f k
theorem nmb_lt {p : Nat} {f : Nat → Nat} (hp : p ≤ 9) (hf : ∀ i, f i ≤ 9) : ∀ j k, nmb p f j k < 10 ^ j
  | 0, _ => by simp [nmb]
  | j + 1, k => by
    have h := nmb_lt hp hf j (k + 1)
    have := hf k
    have h2 : nmb p f j (k + 1) * p ≤ nmb p f j (k + 1) * 9 := Nat.mul_le_mul_left _ hp
    rw [nmb, Nat.pow_succ]; omega
set_option maxHeartbeats 1000000 in
set_option maxRecDepth 100000 in
theorem number_any (g n cap p : Nat) (f : Nat → Nat) (w : World) (hr : Nr w g n f) (hp9 : p ≤ 9) (hn : n ≤ 3) (hf : ∀ i, f i ≤ 9) : Calls Tryd.prog 56 #[.slice (some ⟨g, 0, none⟩) n cap, .int .i64 (p : Int)] w (still (.int .i64 (nmb p f n 0 : Nat)) w) := by
  obtain ⟨R, hR⟩ : ∃ R, nmb p f n 0 = R := ⟨_, rfl⟩
  have RR := Lib.hid hR
  rw [hR]
  have HN := Lib.hid hr
  have HF := Lib.hid hf
  clear hr hf hR
  go_enter Tryd.func56, Tryd.ntmps56
  go_wp2
  go_loopw [5, 6] (fun s q wr => wr = w ∧ ∃ k y : Nat, k ≤ n ∧ y ≤ 999 ∧ q = .int .i64 ((k : Int) - 1) ∧ s = .int .i64 (y : Int) ∧ Hid (y = nmb p f (n - k) k)) (fun _ q _ => (intOf q + 1).toNat)
  case atStart => exact ⟨rfl, n, 0, Nat.le_refl _, by omega, rfl, rfl, Lib.hid (by rw [Nat.sub_self]; rfl)⟩
  case round =>
    obtain ⟨rfl, k, y, hk, hy, rfl, rfl, H⟩ := hrel
    by_cases h0 : k = 0
    · subst h0
      obtain rfl : y = R := H.out.trans RR.out
      go_wp2
      go_ret
      exact ⟨rfl, rfl⟩
    · obtain ⟨m, rfl⟩ : ∃ m, k = m + 1 := ⟨k - 1, by omega⟩
      have c0 := HN.out.cell (i := m) (by omega)
      have E := H.out
      obtain ⟨x, hx⟩ : ∃ x, f m = x := ⟨_, rfl⟩
      have x9 : x ≤ 9 := hx ▸ HF.out m
      rw [hx] at c0
      have e1 : ((m + 1 : Nat) : Int) - 1 = (m : Int) := by omega
      have hyp : y * p + x ≤ 999 := by
        have h1 := nmb_lt hp9 HF.out (n - m) m
        have h2 : n - m = (n - (m + 1)) + 1 := by omega
        have h3 : 10 ^ (n - m) ≤ 10 ^ 3 := Nat.pow_le_pow_right (by omega) (by omega)
        rw [h2, nmb, ← E, hx] at h1
        rw [h2] at h3
        omega
      have Y : Hid (y * p + x = nmb p f (n - m) m) := Lib.hid (by rw [show n - m = (n - (m + 1)) + 1 by omega, nmb, ← E, hx])
      obtain ⟨z, hz⟩ : ∃ z, y * p = z := ⟨_, rfl⟩
      have ez : (y : Int) * (p : Int) = (z : Int) := by rw [← hz, Int.natCast_mul]
      rw [hz] at hyp Y
      rw [e1]
      clear E H hx hz h0 e1
      go_wp2
      go_roundw
      case rel => exact ⟨trivial, m, z + x, by omega, hyp, rfl, by go_num, Y⟩
      case measure => simp [intOf]
end Go.Proofs.YtnnacofjogfkeaaDoor
namespace Go.Proofs.YtnnacofjogfkeaaDoor
open Go Go.RowKit
set_option linter.unusedVariables false

theorem digs_ok {q : Nat} (hq : q ∈ Sf.sizes) : 1 ≤ digs q ∧ digs q ≤ 3 := (show ∀ q ∈ Sf.sizes, 1 ≤ digs q ∧ digs q ≤ 3 by decide) q hq
/-- The digits of a sum. -/
def sumD (p a b i : Nat) : Nat := (a / p ^ i % p + b / p ^ i % p) % p
theorem add_digits {q a b : Nat} (hq : q ∈ Sf.sizes) (ha : a < q) (hb : b < q) : nmb (Sf.prm q) (sumD (Sf.prm q) a b) (digs q) 0 = Sf.addF q a b :=
  (show ∀ q ∈ Sf.sizes, ∀ a, a < q → ∀ b, b < q → nmb (Sf.prm q) (sumD (Sf.prm q) a b) (digs q) 0 = Sf.addF q a b by decide +kernel) q hq a ha b hb
def newN (n : Nat) (w : World) (e : Ending) (w' : World) : Prop := e = .returned (.int .i64 (n : Int)) ∧ Below w.heap.size w w'
set_option maxHeartbeats 1000000 in
set_option maxRecDepth 100000 in
theorem radd_any (q a b : Nat) (w : World) (hq : q ∈ Sf.sizes) (ha : a < q) (hb : b < q) : Calls Tryd.prog 48 #[.int .i64 (q : Int), .int .i64 (a : Int), .int .i64 (b : Int)] w (newN (Sf.addF q a b) w) := by
  have A := add_digits hq ha hb
  obtain ⟨p2, -, q9, -, p7⟩ := Sf.prm_ok hq
  obtain ⟨n1, n3⟩ := digs_ok hq
  have M0 := rprime_any q w hq
  obtain ⟨R, hR⟩ : ∃ R, Sf.addF q a b = R := ⟨_, rfl⟩
  obtain ⟨p, hp⟩ : ∃ p, Sf.prm q = p := ⟨_, rfl⟩
  obtain ⟨n, hn⟩ : ∃ n, digs q = n := ⟨_, rfl⟩
  rw [hR, hp, hn] at A
  rw [hp] at p2 p7 M0
  rw [hn] at n1 n3 M0
  rw [hR]
  have M0 := Lib.hid M0
  have A := Lib.hid A
  have D := Lib.hid fun x W (hx : x ≤ 9) => digits_any x p n W p2 (by omega) n1 (by omega) hx
  have a9 : a ≤ 9 := by omega
  have b9 : b ≤ 9 := by omega
  clear hR hp hn hq
  go_enter Tryd.func48, Tryd.ntmps48
  go_wp2_with fail
  refine M0.out.mono ?_
  rintro e z1 ⟨rfl, hzz⟩
  obtain rfl := hzz.symm
  go_wp2_with fail
  refine (D.out a _ a9).mono ?_
  rintro e w1 ⟨g1, c1, rfl, hg1, hr1, hb1, hc1⟩
  have R1 := Lib.hid hr1
  have B1 := Lib.hid hb1
  have G1 := Lib.hid hg1
  have C1 := Lib.hid hc1
  clear hg1 hr1 hb1 hc1
  go_wp2_with fail
  refine (D.out b _ b9).mono ?_
  rintro e w2 ⟨g2, c2, rfl, hg2, hr2, hb2, hc2⟩
  have R1' := Lib.hid (R1.out.below hb2 (Nat.le_refl _))
  have R2 := Lib.hid hr2
  have B2 := Lib.hid (B1.out.trans (hb2.mono B1.out.size))
  have NE := Lib.hid (show g1 ≠ g2 by have := R1.out.lt; omega)
  clear hg2 hr2 hb2 hc2 R1 B1 D M0
  go_wp2_with fail
  go_loopw [11] (fun i wr => ∃ k : Nat, k ≤ n ∧ i = .int .i64 (k : Int) ∧ Hid (Below w.heap.size w wr ∧ Nr wr g1 n (fun i => if i < k then sumD p a b i else a / p ^ i % p) ∧ Nr wr g2 n (fun i => b / p ^ i % p))) (fun i _ => n - (intOf i).toNat)
  case atStart => exact ⟨0, Nat.zero_le _, rfl, Lib.hid ⟨B2.out, R1'.out, R2.out⟩⟩
  case round =>
    obtain ⟨k, hk, rfl, H⟩ := hrel
    by_cases hlt : k < n
    · have hkI : (k : Int) < (n : Int) := by omega
      have c1' := H.out.2.1.cell hlt
      have c2' := H.out.2.2.cell hlt
      have f1 := H.out.2.1.frozen k
      rw [if_neg (Nat.lt_irrefl k)] at c1'
      obtain ⟨x, hx⟩ : ∃ x, a / p ^ k % p = x := ⟨_, rfl⟩
      obtain ⟨y, hy⟩ : ∃ y, b / p ^ k % p = y := ⟨_, rfl⟩
      obtain ⟨s, hs⟩ : ∃ s, (x + y) % p = s := ⟨_, rfl⟩
      have x9 : x ≤ 9 := by have := Nat.mod_lt (a / p ^ k) (show p > 0 by omega); omega
      have y9 : y ≤ 9 := by have := Nat.mod_lt (b / p ^ k) (show p > 0 by omega); omega
      obtain ⟨t, ht⟩ : ∃ t, x + y = t := ⟨_, rfl⟩
      rw [ht] at hs
      have ew : IntKind.i64.wrap ((x : Int) + (y : Int)) = (t : Int) := by rw [IntKind.wrap_i64, ← ht]; omega
      have es : (t : Int) % (p : Int) = (s : Int) := by rw [← hs, Int.natCast_emod]
      have es2 : (t : Int).tmod (p : Int) = (s : Int) := by rw [Int.tmod_eq_emod_of_nonneg (by omega)]; exact es
      have sI : IntKind.i64.wrap (s : Int) = (s : Int) := by have := Nat.mod_lt t (show p > 0 by omega); rw [IntKind.wrap_i64]; omega
      have p0 : ¬ p = 0 := by omega
      have S := Lib.hid (show sumD p a b k = s by unfold sumD; rw [hx, hy, ht, hs])
      rw [hx] at c1'
      rw [hy] at c2'
      clear hx hy hs ht
      go_wp2_with fail
      refine wp_region_still_tail 13 (by kernel_rfl) (by kernel_rfl) ?_
      simp only [List.take_succ_cons, List.take_zero, List.drop_succ_cons, List.drop_zero]
      repeat (first | still_step)
      refine wpStill_nil ?_
      change wpList _ _ _ _ _ wr.drew
      go_wp2
      go_roundw
      case rel =>
        refine ⟨k + 1, by omega, by go_num, Lib.hid ⟨(H.out.1.drew).setCell G1.out _, ((H.out.2.1.drew).set k _).congr fun i hi => ?_, (H.out.2.2.drew).other (Ne.symm NE.out) _⟩⟩
        unfold up
        by_cases e : i = k
        · rw [if_pos e, if_pos (by omega), e, S.out]
        · rw [if_neg e]
          dsimp only
          by_cases e2 : i < k
          · rw [if_pos e2, if_pos (by omega)]
          · rw [if_neg e2, if_neg (by omega)]
      case measure => simp [intOf]; omega
    · obtain rfl : k = n := by omega
      have N := Lib.hid (number_any g1 k c1 p (fun i => sumD p a b i % p) wr (H.out.2.1.congr fun i hi => by rw [if_pos hi]; unfold sumD; rw [Nat.mod_mod]) (by omega) (by omega) (fun i => by have := Nat.mod_lt (sumD p a b i) (show p > 0 by omega); omega))
      have E : nmb p (fun i => sumD p a b i % p) k 0 = R := by rw [show (fun i => sumD p a b i % p) = sumD p a b by funext i; unfold sumD; rw [Nat.mod_mod]]; exact A.out
      rw [E] at N
      clear E
      go_wp2_with fail
      refine N.out.mono ?_
      rintro e z1 ⟨rfl, hzz⟩
      obtain rfl := hzz.symm
      go_wp2_with fail
      go_ret
      exact ⟨rfl, H.out.1⟩
end Go.Proofs.YtnnacofjogfkeaaDoor
namespace Go.Proofs.YtnnacofjogfkeaaDoor
open Go Go.RowKit
set_option linter.unusedVariables false

/-- The product of the polynomials, and the rest modulo the polynomial, step by step. -/
def zin (p : Nat) (f g : Nat → Nat) (i : Nat) : Nat → (Nat → Nat) → Nat → Nat
  | 0, z => z
  | k + 1, z => up (zin p f g i k z) (i + k) ((zin p f g i k z (i + k) + f i * g k) % p)
def zout (p : Nat) (f g : Nat → Nat) (n : Nat) : Nat → Nat → Nat
  | 0 => fun _ => 0
  | i + 1 => zin p f g i n (zout p f g n i)
def rin (p : Nat) (r : Nat → Nat) (n d : Nat) : Nat → (Nat → Nat) → Nat → Nat
  | 0, z => z
  | k + 1, z => up (rin p r n d k z) (d + k) ((rin p r n d k z (d + k) + rin p r n d k z (n + d) * (p - r k)) % p)
def rout (p : Nat) (r : Nat → Nat) (n : Nat) (z : Nat → Nat) : Nat → Nat → Nat
  | 0 => z
  | s + 1 => up (rin p r n (n - 2 - s) n (rout p r n z s)) (n + (n - 2 - s)) 0
/-- The rest of the polynomial. -/
def rst (q k : Nat) : Nat := if q = 8 then [1, 1, 0].getD k 0 else if q = 9 then [1, 0].getD k 0 else [1, 1].getD k 0
theorem up_le {f : Nat → Nat} {B k v : Nat} (hf : ∀ j, f j ≤ B) (hv : v ≤ B) : ∀ j, up f k v j ≤ B := fun j => by unfold up; split; exact hv; exact hf j
theorem rst_le (q : Nat) : ∀ j, rst q j ≤ 1 := fun j => by rcases j with _ | _ | _ | j <;> (unfold rst; split <;> (try split) <;> simp)
theorem mul_digits {q a b : Nat} (hq : q = 4 ∨ q = 8 ∨ q = 9) (ha : a < q) (hb : b < q) :
    nmb (Sf.prm q) (rout (Sf.prm q) (rst q) (digs q) (zout (Sf.prm q) (fun i => a / Sf.prm q ^ i % Sf.prm q) (fun i => b / Sf.prm q ^ i % Sf.prm q) (digs q) (digs q)) (digs q - 1)) (digs q) 0 = Sf.mulF q a b := by
  rcases hq with rfl | rfl | rfl
  · exact (show ∀ a, a < 4 → ∀ b, b < 4 → nmb (Sf.prm 4) (rout (Sf.prm 4) (rst 4) (digs 4) (zout (Sf.prm 4) (fun i => a / Sf.prm 4 ^ i % Sf.prm 4) (fun i => b / Sf.prm 4 ^ i % Sf.prm 4) (digs 4) (digs 4)) (digs 4 - 1)) (digs 4) 0 = Sf.mulF 4 a b by decide +kernel) a ha b hb
  · exact (show ∀ a, a < 8 → ∀ b, b < 8 → nmb (Sf.prm 8) (rout (Sf.prm 8) (rst 8) (digs 8) (zout (Sf.prm 8) (fun i => a / Sf.prm 8 ^ i % Sf.prm 8) (fun i => b / Sf.prm 8 ^ i % Sf.prm 8) (digs 8) (digs 8)) (digs 8 - 1)) (digs 8) 0 = Sf.mulF 8 a b by decide +kernel) a ha b hb
  · exact (show ∀ a, a < 9 → ∀ b, b < 9 → nmb (Sf.prm 9) (rout (Sf.prm 9) (rst 9) (digs 9) (zout (Sf.prm 9) (fun i => a / Sf.prm 9 ^ i % Sf.prm 9) (fun i => b / Sf.prm 9 ^ i % Sf.prm 9) (digs 9) (digs 9)) (digs 9 - 1)) (digs 9) 0 = Sf.mulF 9 a b by decide +kernel) a ha b hb
theorem Nr.of_row {w : World} {g n : Nat} {t : TypeId} {F : Nat → Value} {f : Nat → Nat} (h : w.rowIs g t n F) (hF : ∀ i, i < n → F i = .int .i64 ((f i : Nat) : Int)) : Nr w g n f := by
  obtain ⟨cs, hh, hs, hc⟩ := h
  exact ⟨cs, t, hh, by omega, fun i hi => by rw [hc i hi, hF i hi]⟩
theorem Nr.lit2 (w : World) (t : TypeId) (a b : Nat) : Nr (w.alloc (.cells #[.int .i64 (a : Int), .int .i64 (b : Int)] t)) w.heap.size 2 (fun i => [a, b].getD i 0) :=
  ⟨_, t, heap_alloc_new w _, by simp, fun i hi => by rcases (by omega : i = 0 ∨ i = 1) with rfl | rfl <;> rfl⟩
theorem Nr.lit3 (w : World) (t : TypeId) (a b c : Nat) : Nr (w.alloc (.cells #[.int .i64 (a : Int), .int .i64 (b : Int), .int .i64 (c : Int)] t)) w.heap.size 3 (fun i => [a, b, c].getD i 0) :=
  ⟨_, t, heap_alloc_new w _, by simp, fun i hi => by rcases (by omega : i = 0 ∨ i = 1 ∨ i = 2) with rfl | rfl | rfl <;> rfl⟩
def digF (n : Nat) (f : Nat → Nat) (w : World) (e : Ending) (w' : World) : Prop := ∃ g cap, e = .returned (.slice (some ⟨g, 0, none⟩) n cap) ∧ w.heap.size ≤ g ∧ Nr w' g n f ∧ Below w.heap.size w w' ∧ n ≤ cap ∧ cap ≤ maxLen
/-- What the walk carries. -/
structure Zs (w wr : World) (g1 g2 gz n m : Nat) (f g z : Nat → Nat) : Prop where
  below : Below w.heap.size w wr
  nz : Nr wr gz m z
  nf : Nr wr g1 n f
  ng : Nr wr g2 n g
  le : ∀ j, z j ≤ 9
theorem Zs.put {w wr : World} {g1 g2 gz n m k v : Nat} {f g z z' : Nat → Nat} (h : Zs w wr g1 g2 gz n m f g z) (h0 : w.heap.size ≤ gz) (h1 : g1 ≠ gz) (h2 : g2 ≠ gz) (hv : v ≤ 9) (e : up z k v = z') : Zs w (wr.setCell ⟨gz, k, none⟩ (.int .i64 (v : Int))) g1 g2 gz n m f g z' := by
  subst e
  exact ⟨h.below.setCell h0 _, h.nz.set k v, h.nf.other h1 _, h.ng.other h2 _, up_le h.le hv⟩
theorem Nr.mono {w : World} {g n m : Nat} {f : Nat → Nat} (h : Nr w g m f) (hn : n ≤ m) : Nr w g n f := by
  obtain ⟨cs, t, hr, hs, hc⟩ := h
  exact ⟨cs, t, hr, by omega, fun i hi => hc i (by omega)⟩
theorem Zs.alloc {w wr : World} {g1 g2 gz n m : Nat} {f g z : Nat → Nat} (h : Zs w wr g1 g2 gz n m f g z) (o : Obj) : Zs w (wr.alloc o) g1 g2 gz n m f g z :=
  have hb := (Below.refl wr.heap.size wr).alloc (Nat.le_refl _) o
  ⟨h.below.alloc h.below.size _, h.nz.below hb (Nat.le_refl _), h.nf.below hb (Nat.le_refl _), h.ng.below hb (Nat.le_refl _), h.le⟩
theorem Zs.drew {w wr : World} {g1 g2 gz n m : Nat} {f g z : Nat → Nat} (h : Zs w wr g1 g2 gz n m f g z) : Zs w wr.drew g1 g2 gz n m f g z := ⟨h.below.drew, h.nz, h.nf, h.ng, h.le⟩

set_option maxHeartbeats 4000000 in
set_option maxRecDepth 100000 in
theorem rmul_big (q a b : Nat) (w : World) (hq : q = 4 ∨ q = 8 ∨ q = 9) (ha : a < q) (hb : b < q) : Calls Tryd.prog 49 #[.int .i64 (q : Int), .int .i64 (a : Int), .int .i64 (b : Int)] w (newN (Sf.mulF q a b) w) := by
  have A := mul_digits hq ha hb
  have qs : q ∈ Sf.sizes := (Sf.big_ok hq).1
  have p23 : Sf.prm q = 2 ∨ Sf.prm q = 3 := by rcases hq with rfl | rfl | rfl <;> decide
  have n23 : digs q = 2 ∨ digs q = 3 := by rcases hq with rfl | rfl | rfl <;> decide
  have M0 := rprime_any q w qs
  have q9 := (Sf.prm_ok qs).2.2.1
  obtain ⟨R, hR⟩ : ∃ R, Sf.mulF q a b = R := ⟨_, rfl⟩
  obtain ⟨p, hp⟩ : ∃ p, Sf.prm q = p := ⟨_, rfl⟩
  obtain ⟨n, hn⟩ : ∃ n, digs q = n := ⟨_, rfl⟩
  rw [hR, hp, hn] at A
  rw [hp] at p23 M0
  rw [hn] at n23 M0
  rw [hR]
  obtain ⟨f, hf⟩ : ∃ f, (fun i => a / p ^ i % p) = f := ⟨_, rfl⟩
  obtain ⟨g, hg⟩ : ∃ g, (fun i => b / p ^ i % p) = g := ⟨_, rfl⟩
  rw [hf, hg] at A
  have M0 := Lib.hid M0
  have A := Lib.hid A
  have p2 : 2 ≤ p := by omega
  have p3 : p ≤ 3 := by omega
  have p0 : ¬ p = 0 := by omega
  have n2 : 2 ≤ n := by omega
  have n3 : n ≤ 3 := by omega
  have D1 := Lib.hid (show ∀ W, Calls Tryd.prog 55 #[.int .i64 (a : Int), .int .i64 (p : Int), .int .i64 (n : Int)] W (digF n f W) from fun W => by subst hf; exact digits_any a p n W p2 (by omega) (by omega) (by omega) (by omega))
  have D2 := Lib.hid (show ∀ W, Calls Tryd.prog 55 #[.int .i64 (b : Int), .int .i64 (p : Int), .int .i64 (n : Int)] W (digF n g W) from fun W => by subst hg; exact digits_any b p n W p2 (by omega) (by omega) (by omega) (by omega))
  have F9 := Lib.hid (show ∀ i, f i ≤ 2 by intro i; rw [← hf]; have := Nat.mod_lt (a / p ^ i) (show p > 0 by omega); show a / p ^ i % p ≤ 2; omega)
  have G9 := Lib.hid (show ∀ i, g i ≤ 2 by intro i; rw [← hg]; have := Nat.mod_lt (b / p ^ i) (show p > 0 by omega); show b / p ^ i % p ≤ 2; omega)
  obtain ⟨m, hm⟩ : ∃ m, 2 * n - 1 = m := ⟨_, rfl⟩
  have e39 : 2 * (n : Int) - 1 = (m : Int) := by omega
  have m5 : m ≤ 5 := by omega
  have hmk : ∀ w : World, (Instr.makeSlice 40 (.int .i64 (m : Int)) (.int .i64 (m : Int))).run Tryd.prog w = .ok (.slice (some ⟨w.heap.size, 0, none⟩) m m) (w.alloc (.cells (madeCells #[.int .i64 0] m) 3)) := fun w => run_make_row' (P := Tryd.prog) 40 3 _ _ Tryd.underlying40 info_int rfl .i64 .i64 m (by omega) (by omega) w
  have nm : n ≤ m ∧ m = 2 * n - 1 := by omega
  have HQ := Lib.hid hq
  have HN := Lib.hid hn
  have HD := Lib.hid hp
  have MI := Lib.hid nm
  clear hR hp hn hf hg hq qs p23 n23 ha hb hm nm
  go_enter Tryd.func49, Tryd.ntmps49
  go_wp2_with fail
  refine M0.out.mono ?_
  rintro e z1 ⟨rfl, hzz⟩
  obtain rfl := hzz.symm
  go_wp2_with fail
  refine (D1.out _).mono ?_
  rintro e w1 ⟨g1, c1, rfl, hg1, hr1, hb1, hc1⟩
  have R1 := Lib.hid hr1
  have B1 := Lib.hid hb1
  clear hg1 hr1 hb1 hc1
  go_wp2_with fail
  refine (D2.out _).mono ?_
  rintro e w2 ⟨g2, c2, rfl, hg2, hr2, hb2, hc2⟩
  have R1' := Lib.hid (R1.out.below hb2 (Nat.le_refl _))
  have R2 := Lib.hid hr2
  have B2 := Lib.hid (B1.out.trans (hb2.mono B1.out.size))
  clear hg2 hr2 hb2 hc2 R1 B1 D1 D2 M0
  obtain ⟨gz, hgz⟩ : ∃ gz, w2.heap.size = gz := ⟨_, rfl⟩
  have GZ := Lib.hid (show w.heap.size ≤ gz ∧ g1 ≠ gz ∧ g2 ≠ gz by have := R1'.out.lt; have := R2.out.lt; have := B2.out.size; omega)
  have HZ := Lib.hid hgz
  have Z0 := Lib.hid (show Zs w (w2.alloc (.cells (madeCells #[.int .i64 0] m) 3)) g1 g2 w2.heap.size n m f g (zout p f g n 0) from
    ⟨B2.out.alloc B2.out.size _, Nr.of_row (World.rowIs_made w2 _ m _) fun i _ => rfl, R1'.out.below ((Below.refl w2.heap.size w2).alloc (Nat.le_refl _) _) (Nat.le_refl _), R2.out.below ((Below.refl w2.heap.size w2).alloc (Nat.le_refl _) _) (Nat.le_refl _), fun _ => Nat.zero_le _⟩)
  rw [hgz] at Z0
  have hmk2 : (Instr.makeSlice 40 (.int .i64 (m : Int)) (.int .i64 (m : Int))).run Tryd.prog w2 = .ok (.slice (some ⟨gz, 0, none⟩) m m) (w2.alloc (.cells (madeCells #[.int .i64 0] m) 3)) := by rw [hmk w2, hgz]
  clear hmk hgz R1' R2 B2
  go_wp2_with fail
  clear hmk2 e39
  go_loopw [12] (fun i wr => ∃ k : Nat, k ≤ n ∧ i = .int .i64 (k : Int) ∧ Hid (Zs w wr g1 g2 gz n m f g (zout p f g n k))) (fun i _ => n - (intOf i).toNat)
  case atStart => exact ⟨0, Nat.zero_le _, rfl, Z0⟩
  case round =>
    obtain ⟨i, hi, rfl, H⟩ := hrel
    clear Z0
    by_cases hlt : i < n
    · have hiI : (i : Int) < (n : Int) := by omega
      go_wp2_with fail
      go_loopw [13] (fun k wr => ∃ (j : Nat) (z : Nat → Nat), j ≤ n ∧ k = .int .i64 (j : Int) ∧ Hid (Zs w wr g1 g2 gz n m f g z ∧ z = zin p f g i j (zout p f g n i))) (fun k _ => n - (intOf k).toNat)
      case atStart => exact ⟨0, _, Nat.zero_le _, rfl, Lib.hid ⟨H.out, rfl⟩⟩
      case round =>
        obtain ⟨k, z, hk, rfl, H2⟩ := hrel
        clear H
        by_cases hlt2 : k < n
        · have hkI : (k : Int) < (n : Int) := by omega
          obtain ⟨j, hj⟩ : ∃ j, i + k = j := ⟨_, rfl⟩
          have jm : j < m := by have := MI.out; omega
          have eij : IntKind.i64.wrap ((i : Int) + (k : Int)) = (j : Int) := by rw [IntKind.wrap_i64]; omega
          have cz := H2.out.1.nz.cell jm
          have cf := H2.out.1.nf.cell hlt
          have cg := H2.out.1.ng.cell hlt2
          have fz := H2.out.1.nz.frozen j
          have hz9 := H2.out.1.le j
          have hf9 := F9.out i
          have hg9 := G9.out k
          obtain ⟨x, hx⟩ : ∃ x, f i = x := ⟨_, rfl⟩
          obtain ⟨y, hy⟩ : ∃ y, g k = y := ⟨_, rfl⟩
          obtain ⟨v, hv⟩ : ∃ v, z j = v := ⟨_, rfl⟩
          rw [hx] at cf hf9
          rw [hy] at cg hg9
          rw [hv] at cz hz9
          have hxy : x * y ≤ 2 * 2 := Nat.mul_le_mul hf9 hg9
          obtain ⟨u, hu⟩ : ∃ u, x * y = u := ⟨_, rfl⟩
          obtain ⟨t, ht⟩ : ∃ t, v + u = t := ⟨_, rfl⟩
          obtain ⟨s, hs⟩ : ∃ s, t % p = s := ⟨_, rfl⟩
          have s9 : s ≤ 9 := by have := Nat.mod_lt t (show p > 0 by omega); omega
          have E : Hid (up z j s = zin p f g i (k + 1) (zout p f g n i)) := Lib.hid (by rw [zin, ← H2.out.2, hj, hx, hy, hv, hu, ht, hs])
          rw [hu] at hxy
          have em : IntKind.i64.wrap ((x : Int) * (y : Int)) = (u : Int) := by rw [IntKind.wrap_i64, ← Int.natCast_mul, hu]; omega
          have ew : IntKind.i64.wrap ((v : Int) + (u : Int)) = (t : Int) := by rw [IntKind.wrap_i64, ← ht]; omega
          have es : (t : Int) % (p : Int) = (s : Int) := by rw [← hs, Int.natCast_emod]
          have es2 : (t : Int).tmod (p : Int) = (s : Int) := by rw [Int.tmod_eq_emod_of_nonneg (by omega)]; exact es
          have sI : IntKind.i64.wrap (s : Int) = (s : Int) := by rw [IntKind.wrap_i64]; omega
          have jmI : (j : Int) < (m : Int) := by omega
          clear hx hy hv hu ht hs hj
          go_wp2_with fail
          refine wp_region_still_tail 22 (by kernel_rfl) (by kernel_rfl) ?_
          simp only [List.take_succ_cons, List.take_zero, List.drop_succ_cons, List.drop_zero]
          repeat (first | still_step)
          refine wpStill_nil ?_
          change wpList _ _ _ _ _ wr.drew
          go_wp2
          go_roundw
          case rel => exact ⟨k + 1, _, by omega, by go_num, Lib.hid ⟨H2.out.1.drew.put GZ.out.1 GZ.out.2.1 GZ.out.2.2 s9 E.out, rfl⟩⟩
          case measure => simp [intOf]; omega
        · obtain rfl : k = n := by omega
          go_wp2_with fail
          go_roundw
          case rel => exact ⟨i + 1, by omega, by go_num, Lib.hid (by have h := H2.out.1; rw [H2.out.2] at h; exact h)⟩
          case measure => simp [intOf]; omega
    · obtain rfl : i = n := by omega
      rcases HQ.out with rfl | rfl | rfl
      · obtain ⟨n, rfl⟩ : ∃ n, n = i := ⟨_, rfl⟩
        have N2 : 2 = n := HN.out
        have GRL := Lib.hid (show gz < wr.heap.size from H.out.nz.lt)
        have Z1 := Lib.hid (H.out.alloc (.cells #[.int .i64 1, .int .i64 1] 3))
        have RR := Lib.hid (((Nr.lit2 wr 3 1 1).congr (f' := rst 4) fun i hi => by rcases (by omega : i = 0 ∨ i = 1) with rfl | rfl <;> rfl) |>.mono (Nat.le_of_eq N2.symm))
        have R1 := Lib.hid (rst_le 4)
        obtain ⟨r, hr⟩ : ∃ r, rst 4 = r := ⟨_, rfl⟩
        rw [hr] at A RR R1
        obtain ⟨t2, ht2⟩ : ∃ t, 2 * n - 2 = t := ⟨_, rfl⟩
        have et2 : 2 * (n : Int) - 2 = (t2 : Int) := by omega
        have HT := Lib.hid ht2
        have N2' := Lib.hid N2
        have M2 := Lib.hid MI.out.2
        clear hr ht2 H N2 HN HD
        go_wp2_with fail
        have ZZ := Lib.hid Z1.out
        have R2 := Lib.hid RR.out
        have GN : Hid (wr.heap.size ≠ gz) := Lib.hid (by have := GRL.out; omega)
        clear Z1 RR GRL et2
        generalize wr.heap.size = gr at R2 GN ⊢
        generalize wr.alloc (.cells #[.int .i64 1, .int .i64 1] 3) = wv at ZZ R2 ⊢
        obtain ⟨Y0, hY0⟩ : ∃ Y, zout p f g n n = Y := ⟨_, rfl⟩
        rw [hY0] at A ZZ
        clear hY0
        go_loopw [15] (fun i wr => ∃ (v : Nat) (z : Nat → Nat), n ≤ v + 1 ∧ v + 2 ≤ 2 * n ∧ i = .int .i64 (v : Int) ∧ Hid (Zs w wr g1 g2 gz n m f g z ∧ Nr wr gr n r ∧ z = rout p r n Y0 (2 * n - 2 - v))) (fun i _ => (intOf i).toNat)
        case atStart => exact ⟨t2, Y0, by have := HT.out; omega, by have := HT.out; omega, rfl, Lib.hid ⟨ZZ.out, R2.out, by rw [HT.out, Nat.sub_self]; rfl⟩⟩
        case round =>
          obtain ⟨v, z, hv1, hv2, rfl, H3⟩ := hrel
          clear ZZ R2 HT
          have vm : v < m := by have := M2.out; omega
          have vmI : (v : Int) < (m : Int) := by omega
          by_cases hge : n ≤ v
          · have hvI : (v : Int) ≥ (n : Int) := by omega
            obtain ⟨d, hd⟩ : ∃ d, v = n + d := ⟨v - n, by omega⟩
            have D := Lib.hid hd
            have d3 : d ≤ 1 := by omega
            clear hd
            go_wp2_with fail
            go_loopw [16] (fun k wr => ∃ (j : Nat) (y : Nat → Nat), j ≤ n ∧ k = .int .i64 (j : Int) ∧ Hid (Zs w wr g1 g2 gz n m f g y ∧ Nr wr gr n r ∧ y = rin p r n d j z)) (fun k _ => n - (intOf k).toNat)
            case atStart => exact ⟨0, _, Nat.zero_le _, rfl, Lib.hid ⟨H3.out.1, H3.out.2.1, rfl⟩⟩
            case round =>
              obtain ⟨k, y, hk, rfl, H4⟩ := hrel
              have Hz := Lib.hid H3.out.2.2
              clear H3
              have cv := H4.out.1.nz.cell vm
              have fv := H4.out.1.nz.frozen v
              have hv9 := H4.out.1.le v
              obtain ⟨xv, hxv⟩ : ∃ x, y v = x := ⟨_, rfl⟩
              rw [hxv] at cv hv9
              by_cases hlt2 : k < n
              · have hkI : (k : Int) < (n : Int) := by omega
                obtain ⟨j, hj⟩ : ∃ j, d + k = j := ⟨_, rfl⟩
                have jm : j < m := by have := M2.out; have := D.out; omega
                have jmI : (j : Int) < (m : Int) := by omega
                have e1 : IntKind.i64.wrap ((v : Int) - (n : Int)) = (d : Int) := by rw [IntKind.wrap_i64]; have := D.out; omega
                have e2 : IntKind.i64.wrap ((d : Int) + (k : Int)) = (j : Int) := by rw [IntKind.wrap_i64]; omega
                have cz := H4.out.1.nz.cell jm
                have cr := H4.out.2.1.cell hlt2
                have fz := H4.out.1.nz.frozen j
                have hz9 := H4.out.1.le j
                have hr1 := R1.out k
                obtain ⟨x, hx⟩ : ∃ x, y j = x := ⟨_, rfl⟩
                obtain ⟨c, hc⟩ : ∃ x, r k = x := ⟨_, rfl⟩
                rw [hx] at cz hz9
                rw [hc] at cr hr1
                obtain ⟨pc, hpc⟩ : ∃ x, p - c = x := ⟨_, rfl⟩
                have hpc3 : pc ≤ 3 := by omega
                have hxy : xv * pc ≤ 9 * 3 := Nat.mul_le_mul hv9 hpc3
                obtain ⟨u, hu⟩ : ∃ u, xv * pc = u := ⟨_, rfl⟩
                obtain ⟨t, ht⟩ : ∃ t, x + u = t := ⟨_, rfl⟩
                obtain ⟨s, hs⟩ : ∃ s, t % p = s := ⟨_, rfl⟩
                have s9 : s ≤ 9 := by have := Nat.mod_lt t (show p > 0 by omega); omega
                have E : Hid (up y j s = rin p r n d (k + 1) z) := Lib.hid (by rw [rin, ← H4.out.2.2, hj, ← D.out, hx, hc, hpc, hxv, hu, ht, hs])
                rw [hu] at hxy
                have ep : IntKind.i64.wrap ((p : Int) - (c : Int)) = (pc : Int) := by rw [IntKind.wrap_i64]; omega
                have em : IntKind.i64.wrap ((xv : Int) * (pc : Int)) = (u : Int) := by rw [IntKind.wrap_i64, ← Int.natCast_mul, hu]; omega
                have ew : IntKind.i64.wrap ((x : Int) + (u : Int)) = (t : Int) := by rw [IntKind.wrap_i64, ← ht]; omega
                have es : (t : Int) % (p : Int) = (s : Int) := by rw [← hs, Int.natCast_emod]
                have es2 : (t : Int).tmod (p : Int) = (s : Int) := by rw [Int.tmod_eq_emod_of_nonneg (by omega)]; exact es
                have sI : IntKind.i64.wrap (s : Int) = (s : Int) := by rw [IntKind.wrap_i64]; omega
                have klen : (k : Int) < 2 := by have := N2'.out; omega
                have k2 : k < 2 := by have := N2'.out; omega
                clear hx hc hpc hxv hu ht hs hj
                go_wp2_with fail
                refine wp_region_still_tail 28 (by kernel_rfl) (by kernel_rfl) ?_
                simp only [List.take_succ_cons, List.take_zero, List.drop_succ_cons, List.drop_zero]
                repeat (first | still_step)
                refine wpStill_nil ?_
                change wpList _ _ _ _ _ wr.drew
                go_wp2
                go_roundw
                case rel => exact ⟨k + 1, _, by omega, by go_num, Lib.hid ⟨H4.out.1.drew.put GZ.out.1 GZ.out.2.1 GZ.out.2.2 s9 E.out, H4.out.2.1.drew.other GN.out _, rfl⟩⟩
                case measure => simp [intOf]; omega
              · obtain rfl : k = n := by omega
                obtain ⟨v', hv'⟩ : ∃ x, v - 1 = x := ⟨_, rfl⟩
                have ev' : (v : Int) - 1 = (v' : Int) := by omega
                have E : Hid (up y v 0 = rout p r k Y0 (2 * k - 2 - v')) := Lib.hid (by
                  have hD := D.out
                  rw [show 2 * k - 2 - v' = (2 * k - 2 - v) + 1 by omega, rout, ← Hz.out, show k - 2 - (2 * k - 2 - v) = d by omega, ← H4.out.2.2, ← D.out])
                have V' := Lib.hid hv'
                clear hxv hv'
                go_wp2_with fail
                go_roundw
                case rel => exact ⟨v', _, by have := V'.out; omega, by have := V'.out; omega, rfl, Lib.hid ⟨H4.out.1.put GZ.out.1 GZ.out.2.1 GZ.out.2.2 (Nat.zero_le _) E.out, H4.out.2.1.other GN.out _, rfl⟩⟩
                case measure => simp [intOf]; have := V'.out; omega
          · have E : Hid (nmb p z n 0 = R) := Lib.hid (by rw [H3.out.2.2, show 2 * n - 2 - v = n - 1 by omega]; exact A.out)
            have hvI : ¬ (v : Int) ≥ (n : Int) := by omega
            have nmI : (n : Int) ≤ (m : Int) := by have := MI.out.1; omega
            have N := number_any gz n m p z wr (H3.out.1.nz.mono MI.out.1) (by omega) n3 H3.out.1.le
            rw [E.out] at N
            have N := Lib.hid N
            have HB := Lib.hid H3.out.1.below
            clear hge E H3
            go_wp2_with fail
            refine N.out.mono ?_
            rintro e z1 ⟨rfl, hzz⟩
            obtain rfl := hzz.symm
            go_wp2_with fail
            go_ret
            exact ⟨rfl, HB.out⟩
      · obtain ⟨n, rfl⟩ : ∃ n, n = i := ⟨_, rfl⟩
        have N2 : 3 = n := HN.out
        have GRL := Lib.hid (show gz < wr.heap.size from H.out.nz.lt)
        have Z1 := Lib.hid ((H.out.alloc (.cells #[.int .i64 1, .int .i64 1] 3)).alloc (.cells #[.int .i64 1, .int .i64 1, .int .i64 0] 3))
        have RR := Lib.hid ((show Nr ((wr.alloc (.cells #[.int .i64 1, .int .i64 1] 3)).alloc (.cells #[.int .i64 1, .int .i64 1, .int .i64 0] 3)) (wr.heap.size + 1) 3 (rst 8) from by have h := (Nr.lit3 (wr.alloc (.cells #[.int .i64 1, .int .i64 1] 3)) 3 1 1 0).congr (f' := rst 8) (fun i hi => by rcases (by omega : i = 0 ∨ i = 1 ∨ i = 2) with rfl | rfl | rfl <;> rfl); rw [show (wr.alloc (.cells #[.int .i64 1, .int .i64 1] 3)).heap.size = wr.heap.size + 1 by simp] at h; exact h) |>.mono (Nat.le_of_eq N2.symm))
        have R1 := Lib.hid (rst_le 8)
        obtain ⟨r, hr⟩ : ∃ r, rst 8 = r := ⟨_, rfl⟩
        rw [hr] at A RR R1
        obtain ⟨t2, ht2⟩ : ∃ t, 2 * n - 2 = t := ⟨_, rfl⟩
        have et2 : 2 * (n : Int) - 2 = (t2 : Int) := by omega
        have HT := Lib.hid ht2
        have N2' := Lib.hid N2
        have M2 := Lib.hid MI.out.2
        clear hr ht2 H N2 HN HD
        go_wp2_with fail
        have ZZ := Lib.hid Z1.out
        have R2 := Lib.hid RR.out
        have GN : Hid (wr.heap.size + 1 ≠ gz) := Lib.hid (by have := GRL.out; omega)
        clear Z1 RR GRL et2
        generalize wr.heap.size + 1 = gr at R2 GN ⊢
        generalize (wr.alloc (.cells #[.int .i64 1, .int .i64 1] 3)).alloc (.cells #[.int .i64 1, .int .i64 1, .int .i64 0] 3) = wv at ZZ R2 ⊢
        obtain ⟨Y0, hY0⟩ : ∃ Y, zout p f g n n = Y := ⟨_, rfl⟩
        rw [hY0] at A ZZ
        clear hY0
        go_loopw [15] (fun i wr => ∃ (v : Nat) (z : Nat → Nat), n ≤ v + 1 ∧ v + 2 ≤ 2 * n ∧ i = .int .i64 (v : Int) ∧ Hid (Zs w wr g1 g2 gz n m f g z ∧ Nr wr gr n r ∧ z = rout p r n Y0 (2 * n - 2 - v))) (fun i _ => (intOf i).toNat)
        case atStart => exact ⟨t2, Y0, by have := HT.out; omega, by have := HT.out; omega, rfl, Lib.hid ⟨ZZ.out, R2.out, by rw [HT.out, Nat.sub_self]; rfl⟩⟩
        case round =>
          obtain ⟨v, z, hv1, hv2, rfl, H3⟩ := hrel
          clear ZZ R2 HT
          have vm : v < m := by have := M2.out; omega
          have vmI : (v : Int) < (m : Int) := by omega
          by_cases hge : n ≤ v
          · have hvI : (v : Int) ≥ (n : Int) := by omega
            obtain ⟨d, hd⟩ : ∃ d, v = n + d := ⟨v - n, by omega⟩
            have D := Lib.hid hd
            have d3 : d ≤ 1 := by omega
            clear hd
            go_wp2_with fail
            go_loopw [16] (fun k wr => ∃ (j : Nat) (y : Nat → Nat), j ≤ n ∧ k = .int .i64 (j : Int) ∧ Hid (Zs w wr g1 g2 gz n m f g y ∧ Nr wr gr n r ∧ y = rin p r n d j z)) (fun k _ => n - (intOf k).toNat)
            case atStart => exact ⟨0, _, Nat.zero_le _, rfl, Lib.hid ⟨H3.out.1, H3.out.2.1, rfl⟩⟩
            case round =>
              obtain ⟨k, y, hk, rfl, H4⟩ := hrel
              have Hz := Lib.hid H3.out.2.2
              clear H3
              have cv := H4.out.1.nz.cell vm
              have fv := H4.out.1.nz.frozen v
              have hv9 := H4.out.1.le v
              obtain ⟨xv, hxv⟩ : ∃ x, y v = x := ⟨_, rfl⟩
              rw [hxv] at cv hv9
              by_cases hlt2 : k < n
              · have hkI : (k : Int) < (n : Int) := by omega
                obtain ⟨j, hj⟩ : ∃ j, d + k = j := ⟨_, rfl⟩
                have jm : j < m := by have := M2.out; have := D.out; omega
                have jmI : (j : Int) < (m : Int) := by omega
                have e1 : IntKind.i64.wrap ((v : Int) - (n : Int)) = (d : Int) := by rw [IntKind.wrap_i64]; have := D.out; omega
                have e2 : IntKind.i64.wrap ((d : Int) + (k : Int)) = (j : Int) := by rw [IntKind.wrap_i64]; omega
                have cz := H4.out.1.nz.cell jm
                have cr := H4.out.2.1.cell hlt2
                have fz := H4.out.1.nz.frozen j
                have hz9 := H4.out.1.le j
                have hr1 := R1.out k
                obtain ⟨x, hx⟩ : ∃ x, y j = x := ⟨_, rfl⟩
                obtain ⟨c, hc⟩ : ∃ x, r k = x := ⟨_, rfl⟩
                rw [hx] at cz hz9
                rw [hc] at cr hr1
                obtain ⟨pc, hpc⟩ : ∃ x, p - c = x := ⟨_, rfl⟩
                have hpc3 : pc ≤ 3 := by omega
                have hxy : xv * pc ≤ 9 * 3 := Nat.mul_le_mul hv9 hpc3
                obtain ⟨u, hu⟩ : ∃ u, xv * pc = u := ⟨_, rfl⟩
                obtain ⟨t, ht⟩ : ∃ t, x + u = t := ⟨_, rfl⟩
                obtain ⟨s, hs⟩ : ∃ s, t % p = s := ⟨_, rfl⟩
                have s9 : s ≤ 9 := by have := Nat.mod_lt t (show p > 0 by omega); omega
                have E : Hid (up y j s = rin p r n d (k + 1) z) := Lib.hid (by rw [rin, ← H4.out.2.2, hj, ← D.out, hx, hc, hpc, hxv, hu, ht, hs])
                rw [hu] at hxy
                have ep : IntKind.i64.wrap ((p : Int) - (c : Int)) = (pc : Int) := by rw [IntKind.wrap_i64]; omega
                have em : IntKind.i64.wrap ((xv : Int) * (pc : Int)) = (u : Int) := by rw [IntKind.wrap_i64, ← Int.natCast_mul, hu]; omega
                have ew : IntKind.i64.wrap ((x : Int) + (u : Int)) = (t : Int) := by rw [IntKind.wrap_i64, ← ht]; omega
                have es : (t : Int) % (p : Int) = (s : Int) := by rw [← hs, Int.natCast_emod]
                have es2 : (t : Int).tmod (p : Int) = (s : Int) := by rw [Int.tmod_eq_emod_of_nonneg (by omega)]; exact es
                have sI : IntKind.i64.wrap (s : Int) = (s : Int) := by rw [IntKind.wrap_i64]; omega
                have klen : (k : Int) < 3 := by have := N2'.out; omega
                have k2 : k < 3 := by have := N2'.out; omega
                clear hx hc hpc hxv hu ht hs hj
                go_wp2_with fail
                refine wp_region_still_tail 28 (by kernel_rfl) (by kernel_rfl) ?_
                simp only [List.take_succ_cons, List.take_zero, List.drop_succ_cons, List.drop_zero]
                repeat (first | still_step)
                refine wpStill_nil ?_
                change wpList _ _ _ _ _ wr.drew
                go_wp2
                go_roundw
                case rel => exact ⟨k + 1, _, by omega, by go_num, Lib.hid ⟨H4.out.1.drew.put GZ.out.1 GZ.out.2.1 GZ.out.2.2 s9 E.out, H4.out.2.1.drew.other GN.out _, rfl⟩⟩
                case measure => simp [intOf]; omega
              · obtain rfl : k = n := by omega
                obtain ⟨v', hv'⟩ : ∃ x, v - 1 = x := ⟨_, rfl⟩
                have ev' : (v : Int) - 1 = (v' : Int) := by omega
                have E : Hid (up y v 0 = rout p r k Y0 (2 * k - 2 - v')) := Lib.hid (by
                  have hD := D.out
                  rw [show 2 * k - 2 - v' = (2 * k - 2 - v) + 1 by omega, rout, ← Hz.out, show k - 2 - (2 * k - 2 - v) = d by omega, ← H4.out.2.2, ← D.out])
                have V' := Lib.hid hv'
                clear hxv hv'
                go_wp2_with fail
                go_roundw
                case rel => exact ⟨v', _, by have := V'.out; omega, by have := V'.out; omega, rfl, Lib.hid ⟨H4.out.1.put GZ.out.1 GZ.out.2.1 GZ.out.2.2 (Nat.zero_le _) E.out, H4.out.2.1.other GN.out _, rfl⟩⟩
                case measure => simp [intOf]; have := V'.out; omega
          · have E : Hid (nmb p z n 0 = R) := Lib.hid (by rw [H3.out.2.2, show 2 * n - 2 - v = n - 1 by omega]; exact A.out)
            have hvI : ¬ (v : Int) ≥ (n : Int) := by omega
            have nmI : (n : Int) ≤ (m : Int) := by have := MI.out.1; omega
            have N := number_any gz n m p z wr (H3.out.1.nz.mono MI.out.1) (by omega) n3 H3.out.1.le
            rw [E.out] at N
            have N := Lib.hid N
            have HB := Lib.hid H3.out.1.below
            clear hge E H3
            go_wp2_with fail
            refine N.out.mono ?_
            rintro e z1 ⟨rfl, hzz⟩
            obtain rfl := hzz.symm
            go_wp2_with fail
            go_ret
            exact ⟨rfl, HB.out⟩
      · obtain ⟨n, rfl⟩ : ∃ n, n = i := ⟨_, rfl⟩
        have N2 : 2 = n := HN.out
        have GRL := Lib.hid (show gz < wr.heap.size from H.out.nz.lt)
        have Z1 := Lib.hid ((H.out.alloc (.cells #[.int .i64 1, .int .i64 1] 3)).alloc (.cells #[.int .i64 1, .int .i64 0] 3))
        have RR := Lib.hid ((show Nr ((wr.alloc (.cells #[.int .i64 1, .int .i64 1] 3)).alloc (.cells #[.int .i64 1, .int .i64 0] 3)) (wr.heap.size + 1) 2 (rst 9) from by have h := (Nr.lit2 (wr.alloc (.cells #[.int .i64 1, .int .i64 1] 3)) 3 1 0).congr (f' := rst 9) (fun i hi => by rcases (by omega : i = 0 ∨ i = 1) with rfl | rfl <;> rfl); rw [show (wr.alloc (.cells #[.int .i64 1, .int .i64 1] 3)).heap.size = wr.heap.size + 1 by simp] at h; exact h) |>.mono (Nat.le_of_eq N2.symm))
        have R1 := Lib.hid (rst_le 9)
        obtain ⟨r, hr⟩ : ∃ r, rst 9 = r := ⟨_, rfl⟩
        rw [hr] at A RR R1
        obtain ⟨t2, ht2⟩ : ∃ t, 2 * n - 2 = t := ⟨_, rfl⟩
        have et2 : 2 * (n : Int) - 2 = (t2 : Int) := by omega
        have HT := Lib.hid ht2
        have N2' := Lib.hid N2
        have M2 := Lib.hid MI.out.2
        clear hr ht2 H N2 HN HD
        go_wp2_with fail
        have ZZ := Lib.hid Z1.out
        have R2 := Lib.hid RR.out
        have GN : Hid (wr.heap.size + 1 ≠ gz) := Lib.hid (by have := GRL.out; omega)
        clear Z1 RR GRL et2
        generalize wr.heap.size + 1 = gr at R2 GN ⊢
        generalize (wr.alloc (.cells #[.int .i64 1, .int .i64 1] 3)).alloc (.cells #[.int .i64 1, .int .i64 0] 3) = wv at ZZ R2 ⊢
        obtain ⟨Y0, hY0⟩ : ∃ Y, zout p f g n n = Y := ⟨_, rfl⟩
        rw [hY0] at A ZZ
        clear hY0
        go_loopw [15] (fun i wr => ∃ (v : Nat) (z : Nat → Nat), n ≤ v + 1 ∧ v + 2 ≤ 2 * n ∧ i = .int .i64 (v : Int) ∧ Hid (Zs w wr g1 g2 gz n m f g z ∧ Nr wr gr n r ∧ z = rout p r n Y0 (2 * n - 2 - v))) (fun i _ => (intOf i).toNat)
        case atStart => exact ⟨t2, Y0, by have := HT.out; omega, by have := HT.out; omega, rfl, Lib.hid ⟨ZZ.out, R2.out, by rw [HT.out, Nat.sub_self]; rfl⟩⟩
        case round =>
          obtain ⟨v, z, hv1, hv2, rfl, H3⟩ := hrel
          clear ZZ R2 HT
          have vm : v < m := by have := M2.out; omega
          have vmI : (v : Int) < (m : Int) := by omega
          by_cases hge : n ≤ v
          · have hvI : (v : Int) ≥ (n : Int) := by omega
            obtain ⟨d, hd⟩ : ∃ d, v = n + d := ⟨v - n, by omega⟩
            have D := Lib.hid hd
            have d3 : d ≤ 1 := by omega
            clear hd
            go_wp2_with fail
            go_loopw [16] (fun k wr => ∃ (j : Nat) (y : Nat → Nat), j ≤ n ∧ k = .int .i64 (j : Int) ∧ Hid (Zs w wr g1 g2 gz n m f g y ∧ Nr wr gr n r ∧ y = rin p r n d j z)) (fun k _ => n - (intOf k).toNat)
            case atStart => exact ⟨0, _, Nat.zero_le _, rfl, Lib.hid ⟨H3.out.1, H3.out.2.1, rfl⟩⟩
            case round =>
              obtain ⟨k, y, hk, rfl, H4⟩ := hrel
              have Hz := Lib.hid H3.out.2.2
              clear H3
              have cv := H4.out.1.nz.cell vm
              have fv := H4.out.1.nz.frozen v
              have hv9 := H4.out.1.le v
              obtain ⟨xv, hxv⟩ : ∃ x, y v = x := ⟨_, rfl⟩
              rw [hxv] at cv hv9
              by_cases hlt2 : k < n
              · have hkI : (k : Int) < (n : Int) := by omega
                obtain ⟨j, hj⟩ : ∃ j, d + k = j := ⟨_, rfl⟩
                have jm : j < m := by have := M2.out; have := D.out; omega
                have jmI : (j : Int) < (m : Int) := by omega
                have e1 : IntKind.i64.wrap ((v : Int) - (n : Int)) = (d : Int) := by rw [IntKind.wrap_i64]; have := D.out; omega
                have e2 : IntKind.i64.wrap ((d : Int) + (k : Int)) = (j : Int) := by rw [IntKind.wrap_i64]; omega
                have cz := H4.out.1.nz.cell jm
                have cr := H4.out.2.1.cell hlt2
                have fz := H4.out.1.nz.frozen j
                have hz9 := H4.out.1.le j
                have hr1 := R1.out k
                obtain ⟨x, hx⟩ : ∃ x, y j = x := ⟨_, rfl⟩
                obtain ⟨c, hc⟩ : ∃ x, r k = x := ⟨_, rfl⟩
                rw [hx] at cz hz9
                rw [hc] at cr hr1
                obtain ⟨pc, hpc⟩ : ∃ x, p - c = x := ⟨_, rfl⟩
                have hpc3 : pc ≤ 3 := by omega
                have hxy : xv * pc ≤ 9 * 3 := Nat.mul_le_mul hv9 hpc3
                obtain ⟨u, hu⟩ : ∃ u, xv * pc = u := ⟨_, rfl⟩
                obtain ⟨t, ht⟩ : ∃ t, x + u = t := ⟨_, rfl⟩
                obtain ⟨s, hs⟩ : ∃ s, t % p = s := ⟨_, rfl⟩
                have s9 : s ≤ 9 := by have := Nat.mod_lt t (show p > 0 by omega); omega
                have E : Hid (up y j s = rin p r n d (k + 1) z) := Lib.hid (by rw [rin, ← H4.out.2.2, hj, ← D.out, hx, hc, hpc, hxv, hu, ht, hs])
                rw [hu] at hxy
                have ep : IntKind.i64.wrap ((p : Int) - (c : Int)) = (pc : Int) := by rw [IntKind.wrap_i64]; omega
                have em : IntKind.i64.wrap ((xv : Int) * (pc : Int)) = (u : Int) := by rw [IntKind.wrap_i64, ← Int.natCast_mul, hu]; omega
                have ew : IntKind.i64.wrap ((x : Int) + (u : Int)) = (t : Int) := by rw [IntKind.wrap_i64, ← ht]; omega
                have es : (t : Int) % (p : Int) = (s : Int) := by rw [← hs, Int.natCast_emod]
                have es2 : (t : Int).tmod (p : Int) = (s : Int) := by rw [Int.tmod_eq_emod_of_nonneg (by omega)]; exact es
                have sI : IntKind.i64.wrap (s : Int) = (s : Int) := by rw [IntKind.wrap_i64]; omega
                have klen : (k : Int) < 2 := by have := N2'.out; omega
                have k2 : k < 2 := by have := N2'.out; omega
                clear hx hc hpc hxv hu ht hs hj
                go_wp2_with fail
                refine wp_region_still_tail 28 (by kernel_rfl) (by kernel_rfl) ?_
                simp only [List.take_succ_cons, List.take_zero, List.drop_succ_cons, List.drop_zero]
                repeat (first | still_step)
                refine wpStill_nil ?_
                change wpList _ _ _ _ _ wr.drew
                go_wp2
                go_roundw
                case rel => exact ⟨k + 1, _, by omega, by go_num, Lib.hid ⟨H4.out.1.drew.put GZ.out.1 GZ.out.2.1 GZ.out.2.2 s9 E.out, H4.out.2.1.drew.other GN.out _, rfl⟩⟩
                case measure => simp [intOf]; omega
              · obtain rfl : k = n := by omega
                obtain ⟨v', hv'⟩ : ∃ x, v - 1 = x := ⟨_, rfl⟩
                have ev' : (v : Int) - 1 = (v' : Int) := by omega
                have E : Hid (up y v 0 = rout p r k Y0 (2 * k - 2 - v')) := Lib.hid (by
                  have hD := D.out
                  rw [show 2 * k - 2 - v' = (2 * k - 2 - v) + 1 by omega, rout, ← Hz.out, show k - 2 - (2 * k - 2 - v) = d by omega, ← H4.out.2.2, ← D.out])
                have V' := Lib.hid hv'
                clear hxv hv'
                go_wp2_with fail
                go_roundw
                case rel => exact ⟨v', _, by have := V'.out; omega, by have := V'.out; omega, rfl, Lib.hid ⟨H4.out.1.put GZ.out.1 GZ.out.2.1 GZ.out.2.2 (Nat.zero_le _) E.out, H4.out.2.1.other GN.out _, rfl⟩⟩
                case measure => simp [intOf]; have := V'.out; omega
          · have E : Hid (nmb p z n 0 = R) := Lib.hid (by rw [H3.out.2.2, show 2 * n - 2 - v = n - 1 by omega]; exact A.out)
            have hvI : ¬ (v : Int) ≥ (n : Int) := by omega
            have nmI : (n : Int) ≤ (m : Int) := by have := MI.out.1; omega
            have N := number_any gz n m p z wr (H3.out.1.nz.mono MI.out.1) (by omega) n3 H3.out.1.le
            rw [E.out] at N
            have N := Lib.hid N
            have HB := Lib.hid H3.out.1.below
            clear hge E H3
            go_wp2_with fail
            refine N.out.mono ?_
            rintro e z1 ⟨rfl, hzz⟩
            obtain rfl := hzz.symm
            go_wp2_with fail
            go_ret
            exact ⟨rfl, HB.out⟩
end Go.Proofs.YtnnacofjogfkeaaDoor
namespace Go.Proofs.YtnnacofjogfkeaaDoor
open Go Go.RowKit
set_option linter.unusedVariables false

theorem rmul_prime (q a b : Nat) (w : World) (hq : q ∈ Sf.sizes) (hp : Sf.prm q = q) (ha : a < q) (hb : b < q) : Calls Tryd.prog 49 #[.int .i64 (q : Int), .int .i64 (a : Int), .int .i64 (b : Int)] w (newN (Sf.mulF q a b) w) := by
  have M0 := rprime_any q w hq
  obtain ⟨p2, -, q9, -, -⟩ := Sf.prm_ok hq
  rw [hp, show digs q = 1 from (show ∀ q ∈ Sf.sizes, Sf.prm q = q → digs q = 1 by decide) q hq hp] at M0
  rw [show Sf.mulF q a b = a * b % q by rw [Sf.mulF, if_pos hp]]
  have M0 := Lib.hid M0
  rw [hp] at p2
  have hab : a * b ≤ 8 * 8 := Nat.mul_le_mul (by omega) (by omega)
  obtain ⟨u, hu⟩ : ∃ u, a * b = u := ⟨_, rfl⟩
  rw [hu] at hab ⊢
  obtain ⟨s, hs⟩ : ∃ s, u % q = s := ⟨_, rfl⟩
  rw [hs]
  have em : (a : Int) * (b : Int) = (u : Int) := by rw [← hu, Int.natCast_mul]
  have es : (u : Int) % (q : Int) = (s : Int) := by rw [← hs, Int.natCast_emod]
  have qI : (2 : Int) ≤ (q : Int) := by omega
  clear hu hs hp hq
  go_enter Tryd.func49, Tryd.ntmps49
  go_wp2_with fail
  refine M0.out.mono ?_
  rintro e z1 ⟨rfl, hzz⟩
  obtain rfl := hzz.symm
  go_wp2_with fail
  go_ret
  exact ⟨by rw [← es]; rfl, Below.refl _ _⟩
theorem rmul_any (q a b : Nat) (w : World) (hq : q ∈ Sf.sizes) (ha : a < q) (hb : b < q) : Calls Tryd.prog 49 #[.int .i64 (q : Int), .int .i64 (a : Int), .int .i64 (b : Int)] w (newN (Sf.mulF q a b) w) := by
  by_cases hp : Sf.prm q = q
  · exact rmul_prime q a b w hq hp ha hb
  · exact rmul_big q a b w ((show ∀ q ∈ Sf.sizes, Sf.prm q ≠ q → q = 4 ∨ q = 8 ∨ q = 9 by decide) q hq hp) ha hb
def invI (q a : Nat) : Int := if a = 0 then -1 else (Sf.invF q a : Int)
end Go.Proofs.YtnnacofjogfkeaaDoor
