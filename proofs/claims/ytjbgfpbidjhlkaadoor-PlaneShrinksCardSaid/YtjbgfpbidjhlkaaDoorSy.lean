/- The reference's product. WRITTEN BY gen_Sy.py. -/
import Derived.Test.YtjbgfpbidjhlkaaDoorSx
namespace Go.Proofs.YtjbgfpbidjhlkaaDoor
open Go Go.RowKit
set_option linter.unusedVariables false

/-- The product of the polynomials, and the rest modulo the polynomial, step by step. -/
def zin (p : Nat) (f g : Nat → Nat) (i : Nat) : Nat → (Nat → Nat) → Nat → Nat
  | 0, z => z
  | k + 1, z => up (zin p f g i k z) (i + k) ((zin p f g i k z (i + k) + f i * g k) % p)
def zout (p : Nat) (f g : Nat → Nat) (n : Nat) : Nat → Nat → Nat
  | 0 => fun _ => 0
  | i + 1 => zin p f g i n (zout p f g n i)
def rin (p : Nat) (r : Nat → Nat) (n d : Nat) : Nat → (Nat → Nat) → Nat → Nat
  | 0, z => z
  | k + 1, z => up (rin p r n d k z) (d + k) ((rin p r n d k z (d + k) + rin p r n d k z (n + d) * (p - r k)) % p)
def rout (p : Nat) (r : Nat → Nat) (n : Nat) (z : Nat → Nat) : Nat → Nat → Nat
  | 0 => z
  | s + 1 => up (rin p r n (n - 2 - s) n (rout p r n z s)) (n + (n - 2 - s)) 0
/-- The rest of the polynomial. -/
def rst (q k : Nat) : Nat := if q = 8 then [1, 1, 0].getD k 0 else if q = 9 then [1, 0].getD k 0 else [1, 1].getD k 0
theorem up_le {f : Nat → Nat} {B k v : Nat} (hf : ∀ j, f j ≤ B) (hv : v ≤ B) : ∀ j, up f k v j ≤ B := fun j => by unfold up; split; exact hv; exact hf j
theorem rst_le (q : Nat) : ∀ j, rst q j ≤ 1 := fun j => by rcases j with _ | _ | _ | j <;> (unfold rst; split <;> (try split) <;> simp)
theorem mul_digits {q a b : Nat} (hq : q = 4 ∨ q = 8 ∨ q = 9) (ha : a < q) (hb : b < q) :
    nmb (Sf.prm q) (rout (Sf.prm q) (rst q) (digs q) (zout (Sf.prm q) (fun i => a / Sf.prm q ^ i % Sf.prm q) (fun i => b / Sf.prm q ^ i % Sf.prm q) (digs q) (digs q)) (digs q - 1)) (digs q) 0 = Sf.mulF q a b := by
  rcases hq with rfl | rfl | rfl
  · exact (show ∀ a, a < 4 → ∀ b, b < 4 → nmb (Sf.prm 4) (rout (Sf.prm 4) (rst 4) (digs 4) (zout (Sf.prm 4) (fun i => a / Sf.prm 4 ^ i % Sf.prm 4) (fun i => b / Sf.prm 4 ^ i % Sf.prm 4) (digs 4) (digs 4)) (digs 4 - 1)) (digs 4) 0 = Sf.mulF 4 a b by decide +kernel) a ha b hb
  · exact (show ∀ a, a < 8 → ∀ b, b < 8 → nmb (Sf.prm 8) (rout (Sf.prm 8) (rst 8) (digs 8) (zout (Sf.prm 8) (fun i => a / Sf.prm 8 ^ i % Sf.prm 8) (fun i => b / Sf.prm 8 ^ i % Sf.prm 8) (digs 8) (digs 8)) (digs 8 - 1)) (digs 8) 0 = Sf.mulF 8 a b by decide +kernel) a ha b hb
  · exact (show ∀ a, a < 9 → ∀ b, b < 9 → nmb (Sf.prm 9) (rout (Sf.prm 9) (rst 9) (digs 9) (zout (Sf.prm 9) (fun i => a / Sf.prm 9 ^ i % Sf.prm 9) (fun i => b / Sf.prm 9 ^ i % Sf.prm 9) (digs 9) (digs 9)) (digs 9 - 1)) (digs 9) 0 = Sf.mulF 9 a b by decide +kernel) a ha b hb
theorem Nr.of_row {w : World} {g n : Nat} {t : TypeId} {F : Nat → Value} {f : Nat → Nat} (h : w.rowIs g t n F) (hF : ∀ i, i < n → F i = .int .i64 ((f i : Nat) : Int)) : Nr w g n f := by
  obtain ⟨cs, hh, hs, hc⟩ := h
  exact ⟨cs, t, hh, by omega, fun i hi => by rw [hc i hi, hF i hi]⟩
theorem Nr.lit2 (w : World) (t : TypeId) (a b : Nat) : Nr (w.alloc (.cells #[.int .i64 (a : Int), .int .i64 (b : Int)] t)) w.heap.size 2 (fun i => [a, b].getD i 0) :=
  ⟨_, t, heap_alloc_new w _, by simp, fun i hi => by rcases (by omega : i = 0 ∨ i = 1) with rfl | rfl <;> rfl⟩
theorem Nr.lit3 (w : World) (t : TypeId) (a b c : Nat) : Nr (w.alloc (.cells #[.int .i64 (a : Int), .int .i64 (b : Int), .int .i64 (c : Int)] t)) w.heap.size 3 (fun i => [a, b, c].getD i 0) :=
  ⟨_, t, heap_alloc_new w _, by simp, fun i hi => by rcases (by omega : i = 0 ∨ i = 1 ∨ i = 2) with rfl | rfl | rfl <;> rfl⟩
def digF (n : Nat) (f : Nat → Nat) (w : World) (e : Ending) (w' : World) : Prop := ∃ g cap, e = .returned (.slice (some ⟨g, 0, none⟩) n cap) ∧ w.heap.size ≤ g ∧ Nr w' g n f ∧ Below w.heap.size w w' ∧ n ≤ cap ∧ cap ≤ maxLen
/-- What the walk carries. -/
structure Zs (w wr : World) (g1 g2 gz n m : Nat) (f g z : Nat → Nat) : Prop where
  below : Below w.heap.size w wr
  nz : Nr wr gz m z
  nf : Nr wr g1 n f
  ng : Nr wr g2 n g
  le : ∀ j, z j ≤ 9
theorem Zs.put {w wr : World} {g1 g2 gz n m k v : Nat} {f g z z' : Nat → Nat} (h : Zs w wr g1 g2 gz n m f g z) (h0 : w.heap.size ≤ gz) (h1 : g1 ≠ gz) (h2 : g2 ≠ gz) (hv : v ≤ 9) (e : up z k v = z') : Zs w (wr.setCell ⟨gz, k, none⟩ (.int .i64 (v : Int))) g1 g2 gz n m f g z' := by
  subst e
  exact ⟨h.below.setCell h0 _, h.nz.set k v, h.nf.other h1 _, h.ng.other h2 _, up_le h.le hv⟩
theorem Nr.mono {w : World} {g n m : Nat} {f : Nat → Nat} (h : Nr w g m f) (hn : n ≤ m) : Nr w g n f := by
  obtain ⟨cs, t, hr, hs, hc⟩ := h
  exact ⟨cs, t, hr, by omega, fun i hi => hc i (by omega)⟩
theorem Zs.alloc {w wr : World} {g1 g2 gz n m : Nat} {f g z : Nat → Nat} (h : Zs w wr g1 g2 gz n m f g z) (o : Obj) : Zs w (wr.alloc o) g1 g2 gz n m f g z :=
  have hb := (Below.refl wr.heap.size wr).alloc (Nat.le_refl _) o
  ⟨h.below.alloc h.below.size _, h.nz.below hb (Nat.le_refl _), h.nf.below hb (Nat.le_refl _), h.ng.below hb (Nat.le_refl _), h.le⟩
theorem Zs.drew {w wr : World} {g1 g2 gz n m : Nat} {f g z : Nat → Nat} (h : Zs w wr g1 g2 gz n m f g z) : Zs w wr.drew g1 g2 gz n m f g z := ⟨h.below.drew, h.nz, h.nf, h.ng, h.le⟩

set_option maxHeartbeats 4000000 in
set_option maxRecDepth 100000 in
theorem rmul_big (q a b : Nat) (w : World) (hq : q = 4 ∨ q = 8 ∨ q = 9) (ha : a < q) (hb : b < q) : Calls Tryd.prog 28 #[.int .i64 (q : Int), .int .i64 (a : Int), .int .i64 (b : Int)] w (newN (Sf.mulF q a b) w) := by
  have A := mul_digits hq ha hb
  have qs : q ∈ Sf.sizes := (Sf.big_ok hq).1
  have p23 : Sf.prm q = 2 ∨ Sf.prm q = 3 := by rcases hq with rfl | rfl | rfl <;> decide
  have n23 : digs q = 2 ∨ digs q = 3 := by rcases hq with rfl | rfl | rfl <;> decide
  have M0 := rprime_any q w qs
  have q9 := (Sf.prm_ok qs).2.2.1
  obtain ⟨R, hR⟩ : ∃ R, Sf.mulF q a b = R := ⟨_, rfl⟩
  obtain ⟨p, hp⟩ : ∃ p, Sf.prm q = p := ⟨_, rfl⟩
  obtain ⟨n, hn⟩ : ∃ n, digs q = n := ⟨_, rfl⟩
  rw [hR, hp, hn] at A
  rw [hp] at p23 M0
  rw [hn] at n23 M0
  rw [hR]
  obtain ⟨f, hf⟩ : ∃ f, (fun i => a / p ^ i % p) = f := ⟨_, rfl⟩
  obtain ⟨g, hg⟩ : ∃ g, (fun i => b / p ^ i % p) = g := ⟨_, rfl⟩
  rw [hf, hg] at A
  have M0 := Lib.hid M0
  have A := Lib.hid A
  have p2 : 2 ≤ p := by omega
  have p3 : p ≤ 3 := by omega
  have p0 : ¬ p = 0 := by omega
  have n2 : 2 ≤ n := by omega
  have n3 : n ≤ 3 := by omega
  have D1 := Lib.hid (show ∀ W, Calls Tryd.prog 37 #[.int .i64 (a : Int), .int .i64 (p : Int), .int .i64 (n : Int)] W (digF n f W) from fun W => by subst hf; exact digits_any a p n W p2 (by omega) (by omega) (by omega) (by omega))
  have D2 := Lib.hid (show ∀ W, Calls Tryd.prog 37 #[.int .i64 (b : Int), .int .i64 (p : Int), .int .i64 (n : Int)] W (digF n g W) from fun W => by subst hg; exact digits_any b p n W p2 (by omega) (by omega) (by omega) (by omega))
  have F9 := Lib.hid (show ∀ i, f i ≤ 2 by intro i; rw [← hf]; have := Nat.mod_lt (a / p ^ i) (show p > 0 by omega); show a / p ^ i % p ≤ 2; omega)
  have G9 := Lib.hid (show ∀ i, g i ≤ 2 by intro i; rw [← hg]; have := Nat.mod_lt (b / p ^ i) (show p > 0 by omega); show b / p ^ i % p ≤ 2; omega)
  obtain ⟨m, hm⟩ : ∃ m, 2 * n - 1 = m := ⟨_, rfl⟩
  have e39 : 2 * (n : Int) - 1 = (m : Int) := by omega
  have m5 : m ≤ 5 := by omega
  have hmk : ∀ w : World, (Instr.makeSlice 37 (.int .i64 (m : Int)) (.int .i64 (m : Int))).run Tryd.prog w = .ok (.slice (some ⟨w.heap.size, 0, none⟩) m m) (w.alloc (.cells (madeCells #[.int .i64 0] m) 3)) := fun w => run_make_row' (P := Tryd.prog) 37 3 _ _ Tryd.underlying37 info_int rfl .i64 .i64 m (by omega) (by omega) w
  have nm : n ≤ m ∧ m = 2 * n - 1 := by omega
  have HQ := Lib.hid hq
  have HN := Lib.hid hn
  have HD := Lib.hid hp
  have MI := Lib.hid nm
  clear hR hp hn hf hg hq qs p23 n23 ha hb hm nm
  go_enter Tryd.func28, Tryd.ntmps28
  go_wp2_with fail
  refine M0.out.mono ?_
  rintro e z1 ⟨rfl, hzz⟩
  obtain rfl := hzz.symm
  go_wp2_with fail
  refine (D1.out _).mono ?_
  rintro e w1 ⟨g1, c1, rfl, hg1, hr1, hb1, hc1⟩
  have R1 := Lib.hid hr1
  have B1 := Lib.hid hb1
  clear hg1 hr1 hb1 hc1
  go_wp2_with fail
  refine (D2.out _).mono ?_
  rintro e w2 ⟨g2, c2, rfl, hg2, hr2, hb2, hc2⟩
  have R1' := Lib.hid (R1.out.below hb2 (Nat.le_refl _))
  have R2 := Lib.hid hr2
  have B2 := Lib.hid (B1.out.trans (hb2.mono B1.out.size))
  clear hg2 hr2 hb2 hc2 R1 B1 D1 D2 M0
  obtain ⟨gz, hgz⟩ : ∃ gz, w2.heap.size = gz := ⟨_, rfl⟩
  have GZ := Lib.hid (show w.heap.size ≤ gz ∧ g1 ≠ gz ∧ g2 ≠ gz by have := R1'.out.lt; have := R2.out.lt; have := B2.out.size; omega)
  have HZ := Lib.hid hgz
  have Z0 := Lib.hid (show Zs w (w2.alloc (.cells (madeCells #[.int .i64 0] m) 3)) g1 g2 w2.heap.size n m f g (zout p f g n 0) from
    ⟨B2.out.alloc B2.out.size _, Nr.of_row (World.rowIs_made w2 _ m _) fun i _ => rfl, R1'.out.below ((Below.refl w2.heap.size w2).alloc (Nat.le_refl _) _) (Nat.le_refl _), R2.out.below ((Below.refl w2.heap.size w2).alloc (Nat.le_refl _) _) (Nat.le_refl _), fun _ => Nat.zero_le _⟩)
  rw [hgz] at Z0
  have hmk2 : (Instr.makeSlice 37 (.int .i64 (m : Int)) (.int .i64 (m : Int))).run Tryd.prog w2 = .ok (.slice (some ⟨gz, 0, none⟩) m m) (w2.alloc (.cells (madeCells #[.int .i64 0] m) 3)) := by rw [hmk w2, hgz]
  clear hmk hgz R1' R2 B2
  go_wp2_with fail
  clear hmk2 e39
  go_loopw [12] (fun i wr => ∃ k : Nat, k ≤ n ∧ i = .int .i64 (k : Int) ∧ Hid (Zs w wr g1 g2 gz n m f g (zout p f g n k))) (fun i _ => n - (intOf i).toNat)
  case atStart => exact ⟨0, Nat.zero_le _, rfl, Z0⟩
  case round =>
    obtain ⟨i, hi, rfl, H⟩ := hrel
    clear Z0
    by_cases hlt : i < n
    · have hiI : (i : Int) < (n : Int) := by omega
      go_wp2_with fail
      go_loopw [13] (fun k wr => ∃ (j : Nat) (z : Nat → Nat), j ≤ n ∧ k = .int .i64 (j : Int) ∧ Hid (Zs w wr g1 g2 gz n m f g z ∧ z = zin p f g i j (zout p f g n i))) (fun k _ => n - (intOf k).toNat)
      case atStart => exact ⟨0, _, Nat.zero_le _, rfl, Lib.hid ⟨H.out, rfl⟩⟩
      case round =>
        obtain ⟨k, z, hk, rfl, H2⟩ := hrel
        clear H
        by_cases hlt2 : k < n
        · have hkI : (k : Int) < (n : Int) := by omega
          obtain ⟨j, hj⟩ : ∃ j, i + k = j := ⟨_, rfl⟩
          have jm : j < m := by have := MI.out; omega
          have eij : IntKind.i64.wrap ((i : Int) + (k : Int)) = (j : Int) := by rw [IntKind.wrap_i64]; omega
          have cz := H2.out.1.nz.cell jm
          have cf := H2.out.1.nf.cell hlt
          have cg := H2.out.1.ng.cell hlt2
          have fz := H2.out.1.nz.frozen j
          have hz9 := H2.out.1.le j
          have hf9 := F9.out i
          have hg9 := G9.out k
          obtain ⟨x, hx⟩ : ∃ x, f i = x := ⟨_, rfl⟩
          obtain ⟨y, hy⟩ : ∃ y, g k = y := ⟨_, rfl⟩
          obtain ⟨v, hv⟩ : ∃ v, z j = v := ⟨_, rfl⟩
          rw [hx] at cf hf9
          rw [hy] at cg hg9
          rw [hv] at cz hz9
          have hxy : x * y ≤ 2 * 2 := Nat.mul_le_mul hf9 hg9
          obtain ⟨u, hu⟩ : ∃ u, x * y = u := ⟨_, rfl⟩
          obtain ⟨t, ht⟩ : ∃ t, v + u = t := ⟨_, rfl⟩
          obtain ⟨s, hs⟩ : ∃ s, t % p = s := ⟨_, rfl⟩
          have s9 : s ≤ 9 := by have := Nat.mod_lt t (show p > 0 by omega); omega
          have E : Hid (up z j s = zin p f g i (k + 1) (zout p f g n i)) := Lib.hid (by rw [zin, ← H2.out.2, hj, hx, hy, hv, hu, ht, hs])
          rw [hu] at hxy
          have em : IntKind.i64.wrap ((x : Int) * (y : Int)) = (u : Int) := by rw [IntKind.wrap_i64, ← Int.natCast_mul, hu]; omega
          have ew : IntKind.i64.wrap ((v : Int) + (u : Int)) = (t : Int) := by rw [IntKind.wrap_i64, ← ht]; omega
          have es : (t : Int) % (p : Int) = (s : Int) := by rw [← hs, Int.natCast_emod]
          have es2 : (t : Int).tmod (p : Int) = (s : Int) := by rw [Int.tmod_eq_emod_of_nonneg (by omega)]; exact es
          have sI : IntKind.i64.wrap (s : Int) = (s : Int) := by rw [IntKind.wrap_i64]; omega
          have jmI : (j : Int) < (m : Int) := by omega
          clear hx hy hv hu ht hs hj
          go_wp2_with fail
          refine wp_region_still_tail 22 (by kernel_rfl) (by kernel_rfl) ?_
          simp only [List.take_succ_cons, List.take_zero, List.drop_succ_cons, List.drop_zero]
          repeat (first | still_step)
          refine wpStill_nil ?_
          change wpList _ _ _ _ _ wr.drew
          go_wp2
          go_roundw
          case rel => exact ⟨k + 1, _, by omega, by go_num, Lib.hid ⟨H2.out.1.drew.put GZ.out.1 GZ.out.2.1 GZ.out.2.2 s9 E.out, rfl⟩⟩
          case measure => simp [intOf]; omega
        · obtain rfl : k = n := by omega
          go_wp2_with fail
          go_roundw
          case rel => exact ⟨i + 1, by omega, by go_num, Lib.hid (by have h := H2.out.1; rw [H2.out.2] at h; exact h)⟩
          case measure => simp [intOf]; omega
    · obtain rfl : i = n := by omega
      rcases HQ.out with rfl | rfl | rfl
      · obtain ⟨n, rfl⟩ : ∃ n, n = i := ⟨_, rfl⟩
        have N2 : 2 = n := HN.out
        have GRL := Lib.hid (show gz < wr.heap.size from H.out.nz.lt)
        have Z1 := Lib.hid (H.out.alloc (.cells #[.int .i64 1, .int .i64 1] 3))
        have RR := Lib.hid (((Nr.lit2 wr 3 1 1).congr (f' := rst 4) fun i hi => by rcases (by omega : i = 0 ∨ i = 1) with rfl | rfl <;> rfl) |>.mono (Nat.le_of_eq N2.symm))
        have R1 := Lib.hid (rst_le 4)
        obtain ⟨r, hr⟩ : ∃ r, rst 4 = r := ⟨_, rfl⟩
        rw [hr] at A RR R1
        obtain ⟨t2, ht2⟩ : ∃ t, 2 * n - 2 = t := ⟨_, rfl⟩
        have et2 : 2 * (n : Int) - 2 = (t2 : Int) := by omega
        have HT := Lib.hid ht2
        have N2' := Lib.hid N2
        have M2 := Lib.hid MI.out.2
        clear hr ht2 H N2 HN HD
        go_wp2_with fail
        have ZZ := Lib.hid Z1.out
        have R2 := Lib.hid RR.out
        have GN : Hid (wr.heap.size ≠ gz) := Lib.hid (by have := GRL.out; omega)
        clear Z1 RR GRL et2
        generalize wr.heap.size = gr at R2 GN ⊢
        generalize wr.alloc (.cells #[.int .i64 1, .int .i64 1] 3) = wv at ZZ R2 ⊢
        obtain ⟨Y0, hY0⟩ : ∃ Y, zout p f g n n = Y := ⟨_, rfl⟩
        rw [hY0] at A ZZ
        clear hY0
        go_loopw [15] (fun i wr => ∃ (v : Nat) (z : Nat → Nat), n ≤ v + 1 ∧ v + 2 ≤ 2 * n ∧ i = .int .i64 (v : Int) ∧ Hid (Zs w wr g1 g2 gz n m f g z ∧ Nr wr gr n r ∧ z = rout p r n Y0 (2 * n - 2 - v))) (fun i _ => (intOf i).toNat)
        case atStart => exact ⟨t2, Y0, by have := HT.out; omega, by have := HT.out; omega, rfl, Lib.hid ⟨ZZ.out, R2.out, by rw [HT.out, Nat.sub_self]; rfl⟩⟩
        case round =>
          obtain ⟨v, z, hv1, hv2, rfl, H3⟩ := hrel
          clear ZZ R2 HT
          have vm : v < m := by have := M2.out; omega
          have vmI : (v : Int) < (m : Int) := by omega
          by_cases hge : n ≤ v
          · have hvI : (v : Int) ≥ (n : Int) := by omega
            obtain ⟨d, hd⟩ : ∃ d, v = n + d := ⟨v - n, by omega⟩
            have D := Lib.hid hd
            have d3 : d ≤ 1 := by omega
            clear hd
            go_wp2_with fail
            go_loopw [16] (fun k wr => ∃ (j : Nat) (y : Nat → Nat), j ≤ n ∧ k = .int .i64 (j : Int) ∧ Hid (Zs w wr g1 g2 gz n m f g y ∧ Nr wr gr n r ∧ y = rin p r n d j z)) (fun k _ => n - (intOf k).toNat)
            case atStart => exact ⟨0, _, Nat.zero_le _, rfl, Lib.hid ⟨H3.out.1, H3.out.2.1, rfl⟩⟩
            case round =>
              obtain ⟨k, y, hk, rfl, H4⟩ := hrel
              have Hz := Lib.hid H3.out.2.2
              clear H3
              have cv := H4.out.1.nz.cell vm
              have fv := H4.out.1.nz.frozen v
              have hv9 := H4.out.1.le v
              obtain ⟨xv, hxv⟩ : ∃ x, y v = x := ⟨_, rfl⟩
              rw [hxv] at cv hv9
              by_cases hlt2 : k < n
              · have hkI : (k : Int) < (n : Int) := by omega
                obtain ⟨j, hj⟩ : ∃ j, d + k = j := ⟨_, rfl⟩
                have jm : j < m := by have := M2.out; have := D.out; omega
                have jmI : (j : Int) < (m : Int) := by omega
                have e1 : IntKind.i64.wrap ((v : Int) - (n : Int)) = (d : Int) := by rw [IntKind.wrap_i64]; have := D.out; omega
                have e2 : IntKind.i64.wrap ((d : Int) + (k : Int)) = (j : Int) := by rw [IntKind.wrap_i64]; omega
                have cz := H4.out.1.nz.cell jm
                have cr := H4.out.2.1.cell hlt2
                have fz := H4.out.1.nz.frozen j
                have hz9 := H4.out.1.le j
                have hr1 := R1.out k
                obtain ⟨x, hx⟩ : ∃ x, y j = x := ⟨_, rfl⟩
                obtain ⟨c, hc⟩ : ∃ x, r k = x := ⟨_, rfl⟩
                rw [hx] at cz hz9
                rw [hc] at cr hr1
                obtain ⟨pc, hpc⟩ : ∃ x, p - c = x := ⟨_, rfl⟩
                have hpc3 : pc ≤ 3 := by omega
                have hxy : xv * pc ≤ 9 * 3 := Nat.mul_le_mul hv9 hpc3
                obtain ⟨u, hu⟩ : ∃ u, xv * pc = u := ⟨_, rfl⟩
                obtain ⟨t, ht⟩ : ∃ t, x + u = t := ⟨_, rfl⟩
                obtain ⟨s, hs⟩ : ∃ s, t % p = s := ⟨_, rfl⟩
                have s9 : s ≤ 9 := by have := Nat.mod_lt t (show p > 0 by omega); omega
                have E : Hid (up y j s = rin p r n d (k + 1) z) := Lib.hid (by rw [rin, ← H4.out.2.2, hj, ← D.out, hx, hc, hpc, hxv, hu, ht, hs])
                rw [hu] at hxy
                have ep : IntKind.i64.wrap ((p : Int) - (c : Int)) = (pc : Int) := by rw [IntKind.wrap_i64]; omega
                have em : IntKind.i64.wrap ((xv : Int) * (pc : Int)) = (u : Int) := by rw [IntKind.wrap_i64, ← Int.natCast_mul, hu]; omega
                have ew : IntKind.i64.wrap ((x : Int) + (u : Int)) = (t : Int) := by rw [IntKind.wrap_i64, ← ht]; omega
                have es : (t : Int) % (p : Int) = (s : Int) := by rw [← hs, Int.natCast_emod]
                have es2 : (t : Int).tmod (p : Int) = (s : Int) := by rw [Int.tmod_eq_emod_of_nonneg (by omega)]; exact es
                have sI : IntKind.i64.wrap (s : Int) = (s : Int) := by rw [IntKind.wrap_i64]; omega
                have klen : (k : Int) < 2 := by have := N2'.out; omega
                have k2 : k < 2 := by have := N2'.out; omega
                clear hx hc hpc hxv hu ht hs hj
                go_wp2_with fail
                refine wp_region_still_tail 28 (by kernel_rfl) (by kernel_rfl) ?_
                simp only [List.take_succ_cons, List.take_zero, List.drop_succ_cons, List.drop_zero]
                repeat (first | still_step)
                refine wpStill_nil ?_
                change wpList _ _ _ _ _ wr.drew
                go_wp2
                go_roundw
                case rel => exact ⟨k + 1, _, by omega, by go_num, Lib.hid ⟨H4.out.1.drew.put GZ.out.1 GZ.out.2.1 GZ.out.2.2 s9 E.out, H4.out.2.1.drew.other GN.out _, rfl⟩⟩
                case measure => simp [intOf]; omega
              · obtain rfl : k = n := by omega
                obtain ⟨v', hv'⟩ : ∃ x, v - 1 = x := ⟨_, rfl⟩
                have ev' : (v : Int) - 1 = (v' : Int) := by omega
                have E : Hid (up y v 0 = rout p r k Y0 (2 * k - 2 - v')) := Lib.hid (by
                  have hD := D.out
                  rw [show 2 * k - 2 - v' = (2 * k - 2 - v) + 1 by omega, rout, ← Hz.out, show k - 2 - (2 * k - 2 - v) = d by omega, ← H4.out.2.2, ← D.out])
                have V' := Lib.hid hv'
                clear hxv hv'
                go_wp2_with fail
                go_roundw
                case rel => exact ⟨v', _, by have := V'.out; omega, by have := V'.out; omega, rfl, Lib.hid ⟨H4.out.1.put GZ.out.1 GZ.out.2.1 GZ.out.2.2 (Nat.zero_le _) E.out, H4.out.2.1.other GN.out _, rfl⟩⟩
                case measure => simp [intOf]; have := V'.out; omega
          · have E : Hid (nmb p z n 0 = R) := Lib.hid (by rw [H3.out.2.2, show 2 * n - 2 - v = n - 1 by omega]; exact A.out)
            have hvI : ¬ (v : Int) ≥ (n : Int) := by omega
            have nmI : (n : Int) ≤ (m : Int) := by have := MI.out.1; omega
            have N := number_any gz n m p z wr (H3.out.1.nz.mono MI.out.1) (by omega) n3 H3.out.1.le
            rw [E.out] at N
            have N := Lib.hid N
            have HB := Lib.hid H3.out.1.below
            clear hge E H3
            go_wp2_with fail
            refine N.out.mono ?_
            rintro e z1 ⟨rfl, hzz⟩
            obtain rfl := hzz.symm
            go_wp2_with fail
            go_ret
            exact ⟨rfl, HB.out⟩
      · obtain ⟨n, rfl⟩ : ∃ n, n = i := ⟨_, rfl⟩
        have N2 : 3 = n := HN.out
        have GRL := Lib.hid (show gz < wr.heap.size from H.out.nz.lt)
        have Z1 := Lib.hid ((H.out.alloc (.cells #[.int .i64 1, .int .i64 1] 3)).alloc (.cells #[.int .i64 1, .int .i64 1, .int .i64 0] 3))
        have RR := Lib.hid ((show Nr ((wr.alloc (.cells #[.int .i64 1, .int .i64 1] 3)).alloc (.cells #[.int .i64 1, .int .i64 1, .int .i64 0] 3)) (wr.heap.size + 1) 3 (rst 8) from by have h := (Nr.lit3 (wr.alloc (.cells #[.int .i64 1, .int .i64 1] 3)) 3 1 1 0).congr (f' := rst 8) (fun i hi => by rcases (by omega : i = 0 ∨ i = 1 ∨ i = 2) with rfl | rfl | rfl <;> rfl); rw [show (wr.alloc (.cells #[.int .i64 1, .int .i64 1] 3)).heap.size = wr.heap.size + 1 by simp] at h; exact h) |>.mono (Nat.le_of_eq N2.symm))
        have R1 := Lib.hid (rst_le 8)
        obtain ⟨r, hr⟩ : ∃ r, rst 8 = r := ⟨_, rfl⟩
        rw [hr] at A RR R1
        obtain ⟨t2, ht2⟩ : ∃ t, 2 * n - 2 = t := ⟨_, rfl⟩
        have et2 : 2 * (n : Int) - 2 = (t2 : Int) := by omega
        have HT := Lib.hid ht2
        have N2' := Lib.hid N2
        have M2 := Lib.hid MI.out.2
        clear hr ht2 H N2 HN HD
        go_wp2_with fail
        have ZZ := Lib.hid Z1.out
        have R2 := Lib.hid RR.out
        have GN : Hid (wr.heap.size + 1 ≠ gz) := Lib.hid (by have := GRL.out; omega)
        clear Z1 RR GRL et2
        generalize wr.heap.size + 1 = gr at R2 GN ⊢
        generalize (wr.alloc (.cells #[.int .i64 1, .int .i64 1] 3)).alloc (.cells #[.int .i64 1, .int .i64 1, .int .i64 0] 3) = wv at ZZ R2 ⊢
        obtain ⟨Y0, hY0⟩ : ∃ Y, zout p f g n n = Y := ⟨_, rfl⟩
        rw [hY0] at A ZZ
        clear hY0
        go_loopw [15] (fun i wr => ∃ (v : Nat) (z : Nat → Nat), n ≤ v + 1 ∧ v + 2 ≤ 2 * n ∧ i = .int .i64 (v : Int) ∧ Hid (Zs w wr g1 g2 gz n m f g z ∧ Nr wr gr n r ∧ z = rout p r n Y0 (2 * n - 2 - v))) (fun i _ => (intOf i).toNat)
        case atStart => exact ⟨t2, Y0, by have := HT.out; omega, by have := HT.out; omega, rfl, Lib.hid ⟨ZZ.out, R2.out, by rw [HT.out, Nat.sub_self]; rfl⟩⟩
        case round =>
          obtain ⟨v, z, hv1, hv2, rfl, H3⟩ := hrel
          clear ZZ R2 HT
          have vm : v < m := by have := M2.out; omega
          have vmI : (v : Int) < (m : Int) := by omega
          by_cases hge : n ≤ v
          · have hvI : (v : Int) ≥ (n : Int) := by omega
            obtain ⟨d, hd⟩ : ∃ d, v = n + d := ⟨v - n, by omega⟩
            have D := Lib.hid hd
            have d3 : d ≤ 1 := by omega
            clear hd
            go_wp2_with fail
            go_loopw [16] (fun k wr => ∃ (j : Nat) (y : Nat → Nat), j ≤ n ∧ k = .int .i64 (j : Int) ∧ Hid (Zs w wr g1 g2 gz n m f g y ∧ Nr wr gr n r ∧ y = rin p r n d j z)) (fun k _ => n - (intOf k).toNat)
            case atStart => exact ⟨0, _, Nat.zero_le _, rfl, Lib.hid ⟨H3.out.1, H3.out.2.1, rfl⟩⟩
            case round =>
              obtain ⟨k, y, hk, rfl, H4⟩ := hrel
              have Hz := Lib.hid H3.out.2.2
              clear H3
              have cv := H4.out.1.nz.cell vm
              have fv := H4.out.1.nz.frozen v
              have hv9 := H4.out.1.le v
              obtain ⟨xv, hxv⟩ : ∃ x, y v = x := ⟨_, rfl⟩
              rw [hxv] at cv hv9
              by_cases hlt2 : k < n
              · have hkI : (k : Int) < (n : Int) := by omega
                obtain ⟨j, hj⟩ : ∃ j, d + k = j := ⟨_, rfl⟩
                have jm : j < m := by have := M2.out; have := D.out; omega
                have jmI : (j : Int) < (m : Int) := by omega
                have e1 : IntKind.i64.wrap ((v : Int) - (n : Int)) = (d : Int) := by rw [IntKind.wrap_i64]; have := D.out; omega
                have e2 : IntKind.i64.wrap ((d : Int) + (k : Int)) = (j : Int) := by rw [IntKind.wrap_i64]; omega
                have cz := H4.out.1.nz.cell jm
                have cr := H4.out.2.1.cell hlt2
                have fz := H4.out.1.nz.frozen j
                have hz9 := H4.out.1.le j
                have hr1 := R1.out k
                obtain ⟨x, hx⟩ : ∃ x, y j = x := ⟨_, rfl⟩
                obtain ⟨c, hc⟩ : ∃ x, r k = x := ⟨_, rfl⟩
                rw [hx] at cz hz9
                rw [hc] at cr hr1
                obtain ⟨pc, hpc⟩ : ∃ x, p - c = x := ⟨_, rfl⟩
                have hpc3 : pc ≤ 3 := by omega
                have hxy : xv * pc ≤ 9 * 3 := Nat.mul_le_mul hv9 hpc3
                obtain ⟨u, hu⟩ : ∃ u, xv * pc = u := ⟨_, rfl⟩
                obtain ⟨t, ht⟩ : ∃ t, x + u = t := ⟨_, rfl⟩
                obtain ⟨s, hs⟩ : ∃ s, t % p = s := ⟨_, rfl⟩
                have s9 : s ≤ 9 := by have := Nat.mod_lt t (show p > 0 by omega); omega
                have E : Hid (up y j s = rin p r n d (k + 1) z) := Lib.hid (by rw [rin, ← H4.out.2.2, hj, ← D.out, hx, hc, hpc, hxv, hu, ht, hs])
                rw [hu] at hxy
                have ep : IntKind.i64.wrap ((p : Int) - (c : Int)) = (pc : Int) := by rw [IntKind.wrap_i64]; omega
                have em : IntKind.i64.wrap ((xv : Int) * (pc : Int)) = (u : Int) := by rw [IntKind.wrap_i64, ← Int.natCast_mul, hu]; omega
                have ew : IntKind.i64.wrap ((x : Int) + (u : Int)) = (t : Int) := by rw [IntKind.wrap_i64, ← ht]; omega
                have es : (t : Int) % (p : Int) = (s : Int) := by rw [← hs, Int.natCast_emod]
                have es2 : (t : Int).tmod (p : Int) = (s : Int) := by rw [Int.tmod_eq_emod_of_nonneg (by omega)]; exact es
                have sI : IntKind.i64.wrap (s : Int) = (s : Int) := by rw [IntKind.wrap_i64]; omega
                have klen : (k : Int) < 3 := by have := N2'.out; omega
                have k2 : k < 3 := by have := N2'.out; omega
                clear hx hc hpc hxv hu ht hs hj
                go_wp2_with fail
                refine wp_region_still_tail 28 (by kernel_rfl) (by kernel_rfl) ?_
                simp only [List.take_succ_cons, List.take_zero, List.drop_succ_cons, List.drop_zero]
                repeat (first | still_step)
                refine wpStill_nil ?_
                change wpList _ _ _ _ _ wr.drew
                go_wp2
                go_roundw
                case rel => exact ⟨k + 1, _, by omega, by go_num, Lib.hid ⟨H4.out.1.drew.put GZ.out.1 GZ.out.2.1 GZ.out.2.2 s9 E.out, H4.out.2.1.drew.other GN.out _, rfl⟩⟩
                case measure => simp [intOf]; omega
              · obtain rfl : k = n := by omega
                obtain ⟨v', hv'⟩ : ∃ x, v - 1 = x := ⟨_, rfl⟩
                have ev' : (v : Int) - 1 = (v' : Int) := by omega
                have E : Hid (up y v 0 = rout p r k Y0 (2 * k - 2 - v')) := Lib.hid (by
                  have hD := D.out
                  rw [show 2 * k - 2 - v' = (2 * k - 2 - v) + 1 by omega, rout, ← Hz.out, show k - 2 - (2 * k - 2 - v) = d by omega, ← H4.out.2.2, ← D.out])
                have V' := Lib.hid hv'
                clear hxv hv'
                go_wp2_with fail
                go_roundw
                case rel => exact ⟨v', _, by have := V'.out; omega, by have := V'.out; omega, rfl, Lib.hid ⟨H4.out.1.put GZ.out.1 GZ.out.2.1 GZ.out.2.2 (Nat.zero_le _) E.out, H4.out.2.1.other GN.out _, rfl⟩⟩
                case measure => simp [intOf]; have := V'.out; omega
          · have E : Hid (nmb p z n 0 = R) := Lib.hid (by rw [H3.out.2.2, show 2 * n - 2 - v = n - 1 by omega]; exact A.out)
            have hvI : ¬ (v : Int) ≥ (n : Int) := by omega
            have nmI : (n : Int) ≤ (m : Int) := by have := MI.out.1; omega
            have N := number_any gz n m p z wr (H3.out.1.nz.mono MI.out.1) (by omega) n3 H3.out.1.le
            rw [E.out] at N
            have N := Lib.hid N
            have HB := Lib.hid H3.out.1.below
            clear hge E H3
            go_wp2_with fail
            refine N.out.mono ?_
            rintro e z1 ⟨rfl, hzz⟩
            obtain rfl := hzz.symm
            go_wp2_with fail
            go_ret
            exact ⟨rfl, HB.out⟩
      · obtain ⟨n, rfl⟩ : ∃ n, n = i := ⟨_, rfl⟩
        have N2 : 2 = n := HN.out
        have GRL := Lib.hid (show gz < wr.heap.size from H.out.nz.lt)
        have Z1 := Lib.hid ((H.out.alloc (.cells #[.int .i64 1, .int .i64 1] 3)).alloc (.cells #[.int .i64 1, .int .i64 0] 3))
        have RR := Lib.hid ((show Nr ((wr.alloc (.cells #[.int .i64 1, .int .i64 1] 3)).alloc (.cells #[.int .i64 1, .int .i64 0] 3)) (wr.heap.size + 1) 2 (rst 9) from by have h := (Nr.lit2 (wr.alloc (.cells #[.int .i64 1, .int .i64 1] 3)) 3 1 0).congr (f' := rst 9) (fun i hi => by rcases (by omega : i = 0 ∨ i = 1) with rfl | rfl <;> rfl); rw [show (wr.alloc (.cells #[.int .i64 1, .int .i64 1] 3)).heap.size = wr.heap.size + 1 by simp] at h; exact h) |>.mono (Nat.le_of_eq N2.symm))
        have R1 := Lib.hid (rst_le 9)
        obtain ⟨r, hr⟩ : ∃ r, rst 9 = r := ⟨_, rfl⟩
        rw [hr] at A RR R1
        obtain ⟨t2, ht2⟩ : ∃ t, 2 * n - 2 = t := ⟨_, rfl⟩
        have et2 : 2 * (n : Int) - 2 = (t2 : Int) := by omega
        have HT := Lib.hid ht2
        have N2' := Lib.hid N2
        have M2 := Lib.hid MI.out.2
        clear hr ht2 H N2 HN HD
        go_wp2_with fail
        have ZZ := Lib.hid Z1.out
        have R2 := Lib.hid RR.out
        have GN : Hid (wr.heap.size + 1 ≠ gz) := Lib.hid (by have := GRL.out; omega)
        clear Z1 RR GRL et2
        generalize wr.heap.size + 1 = gr at R2 GN ⊢
        generalize (wr.alloc (.cells #[.int .i64 1, .int .i64 1] 3)).alloc (.cells #[.int .i64 1, .int .i64 0] 3) = wv at ZZ R2 ⊢
        obtain ⟨Y0, hY0⟩ : ∃ Y, zout p f g n n = Y := ⟨_, rfl⟩
        rw [hY0] at A ZZ
        clear hY0
        go_loopw [15] (fun i wr => ∃ (v : Nat) (z : Nat → Nat), n ≤ v + 1 ∧ v + 2 ≤ 2 * n ∧ i = .int .i64 (v : Int) ∧ Hid (Zs w wr g1 g2 gz n m f g z ∧ Nr wr gr n r ∧ z = rout p r n Y0 (2 * n - 2 - v))) (fun i _ => (intOf i).toNat)
        case atStart => exact ⟨t2, Y0, by have := HT.out; omega, by have := HT.out; omega, rfl, Lib.hid ⟨ZZ.out, R2.out, by rw [HT.out, Nat.sub_self]; rfl⟩⟩
        case round =>
          obtain ⟨v, z, hv1, hv2, rfl, H3⟩ := hrel
          clear ZZ R2 HT
          have vm : v < m := by have := M2.out; omega
          have vmI : (v : Int) < (m : Int) := by omega
          by_cases hge : n ≤ v
          · have hvI : (v : Int) ≥ (n : Int) := by omega
            obtain ⟨d, hd⟩ : ∃ d, v = n + d := ⟨v - n, by omega⟩
            have D := Lib.hid hd
            have d3 : d ≤ 1 := by omega
            clear hd
            go_wp2_with fail
            go_loopw [16] (fun k wr => ∃ (j : Nat) (y : Nat → Nat), j ≤ n ∧ k = .int .i64 (j : Int) ∧ Hid (Zs w wr g1 g2 gz n m f g y ∧ Nr wr gr n r ∧ y = rin p r n d j z)) (fun k _ => n - (intOf k).toNat)
            case atStart => exact ⟨0, _, Nat.zero_le _, rfl, Lib.hid ⟨H3.out.1, H3.out.2.1, rfl⟩⟩
            case round =>
              obtain ⟨k, y, hk, rfl, H4⟩ := hrel
              have Hz := Lib.hid H3.out.2.2
              clear H3
              have cv := H4.out.1.nz.cell vm
              have fv := H4.out.1.nz.frozen v
              have hv9 := H4.out.1.le v
              obtain ⟨xv, hxv⟩ : ∃ x, y v = x := ⟨_, rfl⟩
              rw [hxv] at cv hv9
              by_cases hlt2 : k < n
              · have hkI : (k : Int) < (n : Int) := by omega
                obtain ⟨j, hj⟩ : ∃ j, d + k = j := ⟨_, rfl⟩
                have jm : j < m := by have := M2.out; have := D.out; omega
                have jmI : (j : Int) < (m : Int) := by omega
                have e1 : IntKind.i64.wrap ((v : Int) - (n : Int)) = (d : Int) := by rw [IntKind.wrap_i64]; have := D.out; omega
                have e2 : IntKind.i64.wrap ((d : Int) + (k : Int)) = (j : Int) := by rw [IntKind.wrap_i64]; omega
                have cz := H4.out.1.nz.cell jm
                have cr := H4.out.2.1.cell hlt2
                have fz := H4.out.1.nz.frozen j
                have hz9 := H4.out.1.le j
                have hr1 := R1.out k
                obtain ⟨x, hx⟩ : ∃ x, y j = x := ⟨_, rfl⟩
                obtain ⟨c, hc⟩ : ∃ x, r k = x := ⟨_, rfl⟩
                rw [hx] at cz hz9
                rw [hc] at cr hr1
                obtain ⟨pc, hpc⟩ : ∃ x, p - c = x := ⟨_, rfl⟩
                have hpc3 : pc ≤ 3 := by omega
                have hxy : xv * pc ≤ 9 * 3 := Nat.mul_le_mul hv9 hpc3
                obtain ⟨u, hu⟩ : ∃ u, xv * pc = u := ⟨_, rfl⟩
                obtain ⟨t, ht⟩ : ∃ t, x + u = t := ⟨_, rfl⟩
                obtain ⟨s, hs⟩ : ∃ s, t % p = s := ⟨_, rfl⟩
                have s9 : s ≤ 9 := by have := Nat.mod_lt t (show p > 0 by omega); omega
                have E : Hid (up y j s = rin p r n d (k + 1) z) := Lib.hid (by rw [rin, ← H4.out.2.2, hj, ← D.out, hx, hc, hpc, hxv, hu, ht, hs])
                rw [hu] at hxy
                have ep : IntKind.i64.wrap ((p : Int) - (c : Int)) = (pc : Int) := by rw [IntKind.wrap_i64]; omega
                have em : IntKind.i64.wrap ((xv : Int) * (pc : Int)) = (u : Int) := by rw [IntKind.wrap_i64, ← Int.natCast_mul, hu]; omega
                have ew : IntKind.i64.wrap ((x : Int) + (u : Int)) = (t : Int) := by rw [IntKind.wrap_i64, ← ht]; omega
                have es : (t : Int) % (p : Int) = (s : Int) := by rw [← hs, Int.natCast_emod]
                have es2 : (t : Int).tmod (p : Int) = (s : Int) := by rw [Int.tmod_eq_emod_of_nonneg (by omega)]; exact es
                have sI : IntKind.i64.wrap (s : Int) = (s : Int) := by rw [IntKind.wrap_i64]; omega
                have klen : (k : Int) < 2 := by have := N2'.out; omega
                have k2 : k < 2 := by have := N2'.out; omega
                clear hx hc hpc hxv hu ht hs hj
                go_wp2_with fail
                refine wp_region_still_tail 28 (by kernel_rfl) (by kernel_rfl) ?_
                simp only [List.take_succ_cons, List.take_zero, List.drop_succ_cons, List.drop_zero]
                repeat (first | still_step)
                refine wpStill_nil ?_
                change wpList _ _ _ _ _ wr.drew
                go_wp2
                go_roundw
                case rel => exact ⟨k + 1, _, by omega, by go_num, Lib.hid ⟨H4.out.1.drew.put GZ.out.1 GZ.out.2.1 GZ.out.2.2 s9 E.out, H4.out.2.1.drew.other GN.out _, rfl⟩⟩
                case measure => simp [intOf]; omega
              · obtain rfl : k = n := by omega
                obtain ⟨v', hv'⟩ : ∃ x, v - 1 = x := ⟨_, rfl⟩
                have ev' : (v : Int) - 1 = (v' : Int) := by omega
                have E : Hid (up y v 0 = rout p r k Y0 (2 * k - 2 - v')) := Lib.hid (by
                  have hD := D.out
                  rw [show 2 * k - 2 - v' = (2 * k - 2 - v) + 1 by omega, rout, ← Hz.out, show k - 2 - (2 * k - 2 - v) = d by omega, ← H4.out.2.2, ← D.out])
                have V' := Lib.hid hv'
                clear hxv hv'
                go_wp2_with fail
                go_roundw
                case rel => exact ⟨v', _, by have := V'.out; omega, by have := V'.out; omega, rfl, Lib.hid ⟨H4.out.1.put GZ.out.1 GZ.out.2.1 GZ.out.2.2 (Nat.zero_le _) E.out, H4.out.2.1.other GN.out _, rfl⟩⟩
                case measure => simp [intOf]; have := V'.out; omega
          · have E : Hid (nmb p z n 0 = R) := Lib.hid (by rw [H3.out.2.2, show 2 * n - 2 - v = n - 1 by omega]; exact A.out)
            have hvI : ¬ (v : Int) ≥ (n : Int) := by omega
            have nmI : (n : Int) ≤ (m : Int) := by have := MI.out.1; omega
            have N := number_any gz n m p z wr (H3.out.1.nz.mono MI.out.1) (by omega) n3 H3.out.1.le
            rw [E.out] at N
            have N := Lib.hid N
            have HB := Lib.hid H3.out.1.below
            clear hge E H3
            go_wp2_with fail
            refine N.out.mono ?_
            rintro e z1 ⟨rfl, hzz⟩
            obtain rfl := hzz.symm
            go_wp2_with fail
            go_ret
            exact ⟨rfl, HB.out⟩
end Go.Proofs.YtjbgfpbidjhlkaaDoor
