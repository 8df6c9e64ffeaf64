/- Joined: Sa Sb Sc Sd Se Sf. -/
import Derived.Test.YtnnacofjogfkeaaDoorProg
import Derived.Test.YtnnacofjogfkeaaDoorSm
import Derived.Test.YtnnacofjogfkeaaDoorGA
import Derived.Deep.QuietTactic
import Derived.BigQuiet
import Derived.WalkSpells
import Derived.Laws.EntriesVeiled
import Derived.Deep.RegionWith
import Derived.Deep.OwnRows
import Derived.Shelf.Abstract
import Derived.Deep.MidRow
namespace Go.Proofs.YtnnacofjogfkeaaDoor
open Go Go.RowKit

/-- A call that answers the number n, and leaves the world. -/
def num (n : Nat) (w : World) (e : Ending) (w' : World) : Prop := e = .returned (.int .i64 (n : Int)) ∧ w' = w

theorem modf_any (a b p B : Nat) (w : World) (hc : w.cell? ⟨B, 0, none⟩ = some (.int .i64 (p : Int))) (ha : a ≤ 8) (hb : b ≤ 8) (hp : 2 ≤ p) :
    Calls Tryd.prog 63 #[.int .i64 (a : Int), .int .i64 (b : Int), .pointer (some ⟨B, 0, none⟩)] w (num (a * b % p) w) := by
  have hab : a * b ≤ 64 := Nat.mul_le_mul ha hb
  have e1 : IntKind.i64.wrap ((a : Int) * (b : Int)) = ((a * b : Nat) : Int) := by
    rw [IntKind.wrap_i64, ← Int.natCast_mul]; omega
  go_enter Tryd.func63, Tryd.ntmps63
  go_wp2
  go_ret
  exact ⟨rfl, rfl⟩

/-- What is left to add is not less than a digit. -/
theorem dig_step (p f a b R s pl : Nat) (h : s + pl * Sf.dig p (f + 1) a b = R) : s + pl * ((a + b) % p) + pl * p * Sf.dig p f (a / p) (b / p) = R := by
  rw [← h, Sf.dig, Nat.mul_add, Nat.mul_assoc, Nat.add_assoc]
set_option maxHeartbeats 1000000 in
set_option maxRecDepth 100000 in
theorem digit_any (a b p B : Nat) (w : World) (hc : w.cell? ⟨B, 0, none⟩ = some (.int .i64 (p : Int))) (ha : a ≤ 8) (hb : b ≤ 8) (hp : 2 ≤ p) (hp9 : p ≤ 9) (hR : Sf.dig p 4 a b ≤ 8) :
    Calls Tryd.prog 62 #[.int .i64 (a : Int), .int .i64 (b : Int), .pointer (some ⟨B, 0, none⟩)] w (num (Sf.dig p 4 a b) w) := by
  obtain ⟨R, hRe⟩ : ∃ R, Sf.dig p 4 a b = R := ⟨_, rfl⟩
  rw [hRe] at hR ⊢
  have A0 : Hid (0 + 1 * Sf.dig p 4 a b = R) := Lib.hid (by rw [hRe]; omega)
  clear hRe
  go_enter Tryd.func62, Tryd.ntmps62
  go_wp2
  go_loopw [0, 1, 6, 7] (fun x y s pl wr => wr = w ∧ ∃ f a' b' s' pl' : Nat, f ≤ 4 ∧ x = .int .i64 (a' : Int) ∧ y = .int .i64 (b' : Int) ∧ s = .int .i64 (s' : Int) ∧ pl = .int .i64 (pl' : Int) ∧ Hid (a' < 2 ^ f ∧ b' < 2 ^ f ∧ pl' ≤ 9 ^ (4 - f) ∧ 1 ≤ pl' ∧ s' + pl' * Sf.dig p f a' b' = R)) (fun x y _ _ _ => (intOf x).toNat + (intOf y).toNat)
  case atStart => exact ⟨rfl, 4, a, b, 0, 1, by omega, rfl, rfl, rfl, rfl, Lib.hid ⟨by omega, by omega, by omega, by omega, A0.out⟩⟩
  case round =>
    obtain ⟨rfl, f, a', b', s', pl', hf, rfl, rfl, rfl, rfl, H⟩ := hrel
    by_cases h0 : a' = 0 ∧ b' = 0
    · obtain ⟨rfl, rfl⟩ := h0
      obtain rfl : s' = R := by have := H.out.2.2.2.2; rw [Sf.dig_zero] at this; omega
      go_wp2
      go_ret
      exact ⟨rfl, rfl⟩
    · obtain ⟨g, rfl⟩ : ∃ g, f = g + 1 := by
        rcases f with _ | g
        · have := H.out.1; have := H.out.2.1; omega
        · exact ⟨g, rfl⟩
      have hs := dig_step _ _ _ _ _ _ _ H.out.2.2.2.2
      have hpl : pl' ≤ 729 := Nat.le_trans H.out.2.2.1 (Nat.le_trans (Nat.pow_le_pow_right (by omega) (show 4 - (g + 1) ≤ 3 by omega)) (by decide))
      have hab : a' < 16 ∧ b' < 16 := ⟨Nat.lt_of_lt_of_le H.out.1 (Nat.le_trans (Nat.pow_le_pow_right (by omega) hf) (by decide)), Nat.lt_of_lt_of_le H.out.2.1 (Nat.le_trans (Nat.pow_le_pow_right (by omega) hf) (by decide))⟩
      have hpp : pl' * p ≤ 9 ^ (4 - g) := by
        rw [show 4 - g = (4 - (g + 1)) + 1 by omega, Nat.pow_succ]; exact Nat.mul_le_mul H.out.2.2.1 hp9
      have hq1 : a' / p < 2 ^ g := Nat.div_lt_of_lt_mul (Nat.lt_of_lt_of_le H.out.1 (by rw [Nat.pow_succ, Nat.mul_comm]; exact Nat.mul_le_mul_right _ hp))
      have hq2 : b' / p < 2 ^ g := Nat.div_lt_of_lt_mul (Nat.lt_of_lt_of_le H.out.2.1 (by rw [Nat.pow_succ, Nat.mul_comm]; exact Nat.mul_le_mul_right _ hp))
      have hpp2 : pl' * p ≤ 6561 := Nat.le_trans hpp (Nat.le_trans (Nat.pow_le_pow_right (by omega) (show 4 - g ≤ 4 by omega)) (by decide))
      have hm8 : s' + pl' * ((a' + b') % p) ≤ 8 := by omega
      have hpos : 1 ≤ pl' * p := Nat.mul_le_mul H.out.2.2.2.1 (show 1 ≤ p by omega)
      have F := Lib.hid (And.intro hq1 (And.intro hq2 (And.intro hpp (And.intro hpos hs))))
      obtain ⟨m, hm⟩ : ∃ m, pl' * ((a' + b') % p) = m := ⟨_, rfl⟩
      obtain ⟨n, hn⟩ : ∃ n, pl' * p = n := ⟨_, rfl⟩
      have em : (pl' : Int) * (((a' : Int) + (b' : Int)) % (p : Int)) = (m : Int) := by rw [← hm, Int.natCast_mul, Int.natCast_emod, Int.natCast_add]
      have en : (pl' : Int) * (p : Int) = (n : Int) := by rw [← hn, Int.natCast_mul]
      rw [hm] at hm8
      rw [hn] at hpp2
      have M := Lib.hid hm
      have NN := Lib.hid hn
      have h0' : 0 < a' ∨ 0 < b' := by omega
      have hd1 : a' / p ≤ a' := Nat.div_le_self _ _
      have hd2 : b' / p ≤ b' := Nat.div_le_self _ _
      have hd3 : 0 < a' → a' / p < a' := fun h => Nat.div_lt_self h hp
      have hd4 : 0 < b' → b' / p < b' := fun h => Nat.div_lt_self h hp
      have hx8 : a' / p ≤ 15 := by omega
      have hy8 : b' / p ≤ 15 := by omega
      have D := Lib.hid (And.intro hd1 (And.intro hd2 (And.intro hd3 (And.intro hd4 h0'))))
      obtain ⟨x, hx⟩ : ∃ x, a' / p = x := ⟨_, rfl⟩
      obtain ⟨y, hy⟩ : ∃ y, b' / p = y := ⟨_, rfl⟩
      have ex : (a' : Int) / (p : Int) = (x : Int) := by rw [← hx, Int.natCast_ediv]
      have ey : (b' : Int) / (p : Int) = (y : Int) := by rw [← hy, Int.natCast_ediv]
      rw [hx] at F D hx8
      rw [hy] at F D hy8
      clear hx hy hs hpl hpp hq1 hq2 hm hn h0 hpos hd1 hd2 hd3 hd4 h0'
      by_cases h1 : 0 < a'
      · go_wp2
        go_roundw
        case rel => exact ⟨trivial, g, x, y, s' + m, n, by omega, rfl, rfl, by rw [Int.natCast_add], rfl, Lib.hid (by rw [← M.out, ← NN.out]; exact F.out)⟩
        case measure => simp [intOf]; have := D.out; omega
      · have h2 : 0 < b' := by have := D.out.2.2.2.2; omega
        go_wp2
        go_roundw
        case rel => exact ⟨trivial, g, x, y, s' + m, n, by omega, rfl, rfl, by rw [Int.natCast_add], rfl, Lib.hid (by rw [← M.out, ← NN.out]; exact F.out)⟩
        case measure => simp [intOf]; have := D.out; omega
end Go.Proofs.YtnnacofjogfkeaaDoor
namespace Go.Proofs.YtnnacofjogfkeaaDoor
open Go Go.RowKit

/-- A variable that was captured. -/
def Cap (w : World) (B : Nat) (v : Value) : Prop := w.cell? ⟨B, 0, none⟩ = some v
theorem Cap.dr {w w' : World} {B : Nat} {v : Value} (h : Cap w B v) (hd : Dr w w') : Cap w' B v := (hd.cell _).trans h
theorem Cap.below {w w' : World} {B : Nat} {v : Value} (h : Cap w B v) (hb : Below w.heap.size w w') : Cap w' B v := (hb.cell (World.block_lt_of_cell? w _ h)).trans h

set_option maxHeartbeats 1000000 in
set_option maxRecDepth 100000 in
theorem tx_any (q h p o a Bh Bp Ba Bo Bd : Nat) (w : World) (hq : q = 4 ∨ q = 8 ∨ q = 9) (hp : Sf.prm q = p) (hh : q / Sf.prm q = h) (ho : Sf.ovf q = o) (ha : a < q)
    (c1 : Cap w Bh (.int .i64 (h : Int))) (c2 : Cap w Bp (.int .i64 (p : Int))) (c3 : Cap w Ba (.func (.func 62) #[] #[.pointer (some ⟨Bd, 0, none⟩)])) (c4 : Cap w Bo (.int .i64 (o : Int))) (c5 : Cap w Bd (.int .i64 (p : Int))) :
    Calls Tryd.prog 64 #[.int .i64 (a : Int), .pointer (some ⟨Bh, 0, none⟩), .pointer (some ⟨Bp, 0, none⟩), .pointer (some ⟨Ba, 0, none⟩), .pointer (some ⟨Bo, 0, none⟩)] w (drPost (.int .i64 (Sf.tX q a : Nat)) w) := by
  obtain ⟨qs, b1, b2, b3, b4, b5⟩ := Sf.big_ok hq
  obtain ⟨p1, p2, p3, p4, p5⟩ := Sf.prm_ok qs
  have ht : Sf.tX q a = Sf.rep (fun s => Sf.addF q s o) (a / h) (a % h * p) := by rw [Sf.tX, hh, hp, ho]
  rw [hh] at b1 b2 b3
  rw [hp] at b3 b5 p1 p2 p5
  rw [ho] at b4
  have hm : a % h * p < q := Nat.lt_of_lt_of_le (Nat.mul_lt_mul_of_pos_right (Nat.mod_lt _ (by omega)) (by omega)) b3
  have hn : a / h ≤ 8 := Nat.le_trans (Nat.div_le_self _ _) (by omega)
  obtain ⟨n, hne⟩ : ∃ n, a / h = n := ⟨_, rfl⟩
  obtain ⟨m, hme⟩ : ∃ m, a % h * p = m := ⟨_, rfl⟩
  have e1 : (a : Int) / (h : Int) = (n : Int) := by rw [← hne, Int.natCast_ediv]
  have e2 : ((a : Int) % (h : Int)) * (p : Int) = (m : Int) := by rw [← hme, Int.natCast_mul, Int.natCast_emod]
  rw [hne] at hn ht
  rw [hme] at hm ht
  have T := Lib.hid ht
  have QS := Lib.hid qs
  have PQ := Lib.hid hp
  have BB := Lib.hid (And.intro p1 (And.intro p3 (And.intro b4 p5)))
  have C := Lib.hid (And.intro c3 (And.intro c4 c5))
  have m8 : m ≤ 8 := by omega
  have MQ := Lib.hid hm
  have a8 : a ≤ 8 := by omega
  have h1 : 1 ≤ h := by omega
  have h4 : h ≤ 4 := b2
  unfold Cap at c1 c2
  clear hne hme ht qs hp hh ho hq ha b1 b2 b3 b4 b5 p1 p2 p3 p4 c3 c4 c5 hm
  go_enter Tryd.func64, Tryd.ntmps64
  go_wp2
  go_quiet (fail)
  go_wp2
  go_loopw [7, 16] (fun x y wr => ∃ k s : Nat, k ≤ n ∧ x = .int .i64 (s : Int) ∧ y = .int .i64 (k : Int) ∧ Hid (Dr w wr ∧ s < q ∧ s = Sf.rep (fun s => Sf.addF q s o) k m)) (fun _ y _ => n - (intOf y).toNat)
  case atStart => exact ⟨0, m, Nat.zero_le _, rfl, rfl, Lib.hid ⟨⟨_, rfl⟩, MQ.out, rfl⟩⟩
  case round =>
    obtain ⟨k, s, hk, rfl, rfl, H⟩ := hrel
    by_cases hlt : k < n
    · have hkI : (k : Int) < (n : Int) := by omega
      have d3 := C.out.1.dr H.out.1
      have d4 := C.out.2.1.dr H.out.1
      have cA := Lib.hid (digit_any s o p Bd wr (C.out.2.2.dr H.out.1) (by have := BB.out; have := H.out.2.1; omega) (by have := BB.out; omega) (by have := BB.out; omega) (by have := BB.out; omega) (by have := BB.out; have h1 := Sf.add_lt QS.out H.out.2.1 this.2.2.1; rw [Sf.addF, PQ.out] at h1; omega))
      obtain ⟨y, hy⟩ : ∃ y, Sf.dig p 4 s o = y := ⟨_, rfl⟩
      rw [hy] at cA
      have Y : Hid (y < q ∧ y = Sf.rep (fun s => Sf.addF q s o) (k + 1) m) := Lib.hid (by
        have h1 := Sf.add_lt QS.out H.out.2.1 BB.out.2.2.1
        rw [Sf.rep_succ, ← H.out.2.2]
        show y < q ∧ y = Sf.addF q s o
        rw [Sf.addF, PQ.out, hy] at h1 ⊢
        exact ⟨h1, rfl⟩)
      have HD := Lib.hid H.out.1
      unfold Cap at d3 d4
      clear hy H
      go_wp2_with (go_at_call 62; refine cA.out.mono ?_; rintro e w' ⟨rfl, rfl⟩)
      go_roundw
      case rel => exact ⟨k + 1, y, by omega, rfl, by go_num, Lib.hid ⟨HD.out, Y.out⟩⟩
      case measure => simp [intOf]; omega
    · obtain rfl : k = n := by omega
      go_wp2
      go_ret
      exact ⟨by rw [T.out, ← H.out.2.2]; rfl, H.out.1⟩
end Go.Proofs.YtnnacofjogfkeaaDoor
namespace Go.Proofs.YtnnacofjogfkeaaDoor
open Go Go.RowKit

set_option maxHeartbeats 2000000 in
set_option maxRecDepth 100000 in
theorem poly_any (q h p o a b Bh Bp Bt Ba Bo Bd : Nat) (w : World) (hq : q = 4 ∨ q = 8 ∨ q = 9) (hp : Sf.prm q = p) (hh : q / Sf.prm q = h) (ho : Sf.ovf q = o) (ha : a < q) (hb : b < q)
    (c1 : Cap w Bh (.int .i64 (h : Int))) (c2 : Cap w Bp (.int .i64 (p : Int))) (c3 : Cap w Ba (.func (.func 62) #[] #[.pointer (some ⟨Bd, 0, none⟩)])) (c4 : Cap w Bo (.int .i64 (o : Int))) (c5 : Cap w Bd (.int .i64 (p : Int)))
    (c6 : Cap w Bt (.func (.func 64) #[] #[.pointer (some ⟨Bh, 0, none⟩), .pointer (some ⟨Bp, 0, none⟩), .pointer (some ⟨Ba, 0, none⟩), .pointer (some ⟨Bo, 0, none⟩)])) :
    Calls Tryd.prog 65 #[.int .i64 (a : Int), .int .i64 (b : Int), .pointer (some ⟨Bh, 0, none⟩), .pointer (some ⟨Bp, 0, none⟩), .pointer (some ⟨Bt, 0, none⟩), .pointer (some ⟨Ba, 0, none⟩)] w (drPost (.int .i64 (Sf.mulF q a b : Nat)) w) := by
  obtain ⟨qs, b1, b2, b3, b4, b5⟩ := Sf.big_ok hq
  obtain ⟨p1, p2, p3, p4, p5⟩ := Sf.prm_ok qs
  obtain ⟨R, hR⟩ : ∃ R, Sf.mulF q a b = R := ⟨_, rfl⟩
  have ht : Sf.hor q a b 3 h 0 = R := by rw [← hh, ← hR, Sf.mul_big hq]
  rw [hh] at b1 b2 b3
  rw [hp] at b3 b5 p1 p2 p5
  rw [ho] at b4
  rw [hR]
  have T := Lib.hid ht
  have QS := Lib.hid qs
  have QB := Lib.hid hq
  have PQ := Lib.hid (And.intro hp (And.intro hh ho))
  have BB := Lib.hid (And.intro p1 (And.intro p3 (And.intro b4 (And.intro p5 ha))))
  have C := Lib.hid (And.intro c1 (And.intro c2 (And.intro c3 (And.intro c4 (And.intro c5 c6)))))
  have a8 : a ≤ 8 := by omega
  have b8 : b ≤ 8 := by omega
  have h1 : 1 ≤ h := by omega
  have h4 : h ≤ 4 := b2
  have p2' : 2 ≤ p := p1
  have p9' : p ≤ 9 := by omega
  have q9 : q ≤ 9 := p3
  have q2 : 2 ≤ q := p4
  unfold Cap at c1 c2 c3 c6
  clear ht qs hp hh ho hq ha hb b1 b2 b3 b4 b5 p1 p2 p3 p4 p5 c3 c4 c5 c6 hR
  go_enter Tryd.func65, Tryd.ntmps65
  go_wp2
  go_loopw [9, 10] (fun x y wr => ∃ f r pl : Nat, f ≤ 3 ∧ x = .int .i64 (r : Int) ∧ y = .int .i64 (pl : Int) ∧ pl ≤ h ∧ Hid (Dr w wr ∧ pl < 2 ^ f ∧ r < q ∧ Sf.hor q a b f pl r = R)) (fun _ y _ => (intOf y).toNat)
  case atStart => exact ⟨3, 0, h, Nat.le_refl _, rfl, rfl, Nat.le_refl _, Lib.hid ⟨Dr.refl _, by omega, by omega, T.out⟩⟩
  case round =>
    obtain ⟨f, r, pl, hf, rfl, rfl, hpl, H⟩ := hrel
    obtain ⟨wo, rfl⟩ : ∃ wo, wo = wr := ⟨_, rfl⟩
    by_cases h0 : pl = 0
    · subst h0
      have E : Hid (r = R) := Lib.hid (by rw [← H.out.2.2.2, Sf.hor_zero])
      go_wp2
      go_ret
      exact ⟨by rw [← E.out]; rfl, H.out.1⟩
    · obtain ⟨g, rfl⟩ : ∃ g, f = g + 1 := by
        rcases f with _ | g
        · have := H.out.2.1; omega
        · exact ⟨g, rfl⟩
      have hpos : 0 < pl := by omega
      have hx4 : pl / p ≤ pl := Nat.div_le_self _ _
      have hx5 : pl / p < pl := Nat.div_lt_self hpos p2'
      have hx6 : pl / p < 2 ^ g := Nat.div_lt_of_lt_mul (Nat.lt_of_lt_of_le H.out.2.1 (by rw [Nat.pow_succ, Nat.mul_comm]; exact Nat.mul_le_mul_right _ p2'))
      have hn : b / pl % p < p := Nat.mod_lt _ (by omega)
      have hbp : b / pl ≤ 8 := Nat.le_trans (Nat.div_le_self _ _) b8
      have hs : Sf.hor q a b g (pl / p) (Sf.rep (fun s => Sf.addF q s a) (b / pl % p) (Sf.tX q r)) = R := by rw [← H.out.2.2.2, Sf.hor, if_neg h0, PQ.out.1]
      have htx := Sf.tX_lt QB.out H.out.2.2.1
      have cT := Lib.hid (tx_any q h p o r Bh Bp Ba Bo Bd wo QB.out PQ.out.1 PQ.out.2.1 PQ.out.2.2 H.out.2.2.1 (C.out.1.dr H.out.1) (C.out.2.1.dr H.out.1) (C.out.2.2.1.dr H.out.1) (C.out.2.2.2.1.dr H.out.1) (C.out.2.2.2.2.1.dr H.out.1))
      have d1 := H.out.1.cell ⟨Bt, 0, none⟩
      rw [C.out.2.2.2.2.2] at d1
      obtain ⟨x, hx⟩ : ∃ x, pl / p = x := ⟨_, rfl⟩
      obtain ⟨n, hne⟩ : ∃ n, b / pl % p = n := ⟨_, rfl⟩
      obtain ⟨t, hte⟩ : ∃ t, Sf.tX q r = t := ⟨_, rfl⟩
      have e1 : (pl : Int) / (p : Int) = (x : Int) := by rw [← hx, Int.natCast_ediv]
      have e2 : ((b : Int) / (pl : Int)) % (p : Int) = (n : Int) := by rw [← hne, Int.natCast_emod, Int.natCast_ediv]
      rw [hx] at hx4 hx5 hx6 hs
      rw [hne] at hn hs
      rw [hte] at hs htx cT
      have S := Lib.hid (And.intro hx6 (And.intro hs htx))
      have hbi : (b : Int) / (pl : Int) ≤ 8 := by rw [← Int.natCast_ediv]; exact Int.ofNat_le.2 hbp
      have hbi0 : 0 ≤ (b : Int) / (pl : Int) := by rw [← Int.natCast_ediv]; exact Int.natCast_nonneg _
      have HD := Lib.hid H.out.1
      clear hx hne hte hs hx6 htx hbp H
      go_wp2_with (go_at_call 64; refine cT.out.mono ?_; rintro e w' ⟨rfl, hdr⟩; have HT := Lib.hid hdr; have f3 := (HD.out.trans hdr).cell ⟨Bp, 0, none⟩; rw [C.out.2.1] at f3; clear hdr)
      go_quiet (fail)
      rw [e2]
      go_wp2_with fail
      go_loopw [9, 25] (fun x y wq => ∃ k s : Nat, k ≤ n ∧ x = .int .i64 (s : Int) ∧ y = .int .i64 (k : Int) ∧ Hid (Dr w wq ∧ s < q ∧ s = Sf.rep (fun s => Sf.addF q s a) k t)) (fun _ y _ => n - (intOf y).toNat)
      case atStart => exact ⟨0, t, Nat.zero_le _, rfl, rfl, Lib.hid ⟨(HD.out.trans HT.out).more _, S.out.2.2, rfl⟩⟩
      case round =>
        obtain ⟨k, s, hk, rfl, rfl, H⟩ := hrel
        by_cases hlt : k < n
        · have hkI : (k : Int) < (n : Int) := by omega
          have d3 := C.out.2.2.1.dr H.out.1
          have cA := Lib.hid (digit_any s a p Bd wr (C.out.2.2.2.2.1.dr H.out.1) (by have := BB.out; have := H.out.2.1; omega) a8 p2' p9' (by have h1 := Sf.add_lt QS.out H.out.2.1 BB.out.2.2.2.2; rw [Sf.addF, PQ.out.1] at h1; omega))
          obtain ⟨y, hy⟩ : ∃ y, Sf.dig p 4 s a = y := ⟨_, rfl⟩
          rw [hy] at cA
          have Y : Hid (y < q ∧ y = Sf.rep (fun s => Sf.addF q s a) (k + 1) t) := Lib.hid (by
            have h1 := Sf.add_lt QS.out H.out.2.1 BB.out.2.2.2.2
            rw [Sf.rep_succ, ← H.out.2.2]
            show y < q ∧ y = Sf.addF q s a
            rw [Sf.addF, PQ.out.1, hy] at h1 ⊢
            exact ⟨h1, rfl⟩)
          have HD2 := Lib.hid H.out.1
          unfold Cap at d3
          clear hy H
          go_wp2_with (go_at_call 62; refine cA.out.mono ?_; rintro e w' ⟨rfl, rfl⟩)
          go_roundw
          case rel => exact ⟨k + 1, y, by omega, rfl, by go_num, Lib.hid ⟨HD2.out, Y.out⟩⟩
          case measure => simp [intOf]; omega
        · obtain rfl : k = n := by omega
          have g3 := H.out.1.cell ⟨Bp, 0, none⟩
          rw [C.out.2.1] at g3
          go_wp2
          go_roundw
          case rel => exact ⟨g, s, x, by omega, rfl, by go_num, by omega, Lib.hid ⟨H.out.1, S.out.1, H.out.2.1, by rw [H.out.2.2]; exact S.out.2.1⟩⟩
          case measure => simp [intOf]; omega
end Go.Proofs.YtnnacofjogfkeaaDoor
namespace Go.Proofs.YtnnacofjogfkeaaDoor
open Go Go.RowKit

theorem Cap.alloc {w : World} {B : Nat} {v : Value} (h : Cap w B v) (o : Obj) : Cap (w.alloc o) B v := (World.cell?_alloc_lt w o _ (World.block_lt_of_cell? w _ h)).trans h
/-- The value of digitwise's closure, over the block where p lies. -/
def addV (Bd : Nat) : Value := .func (.func 62) #[] #[.pointer (some ⟨Bd, 0, none⟩)]
def modV (Bd : Nat) : Value := .func (.func 63) #[] #[.pointer (some ⟨Bd, 0, none⟩)]
def polyV (Bh Bp Bt Ba : Nat) : Value := .func (.func 65) #[] #[.pointer (some ⟨Bh, 0, none⟩), .pointer (some ⟨Bp, 0, none⟩), .pointer (some ⟨Bt, 0, none⟩), .pointer (some ⟨Ba, 0, none⟩)]

theorem digitwise_any (p : Nat) (w : World) :
    Calls Tryd.prog 57 #[.int .i64 (p : Int)] w fun e w' => e = .returned (addV w.heap.size) ∧ Cap w' w.heap.size (.int .i64 (p : Int)) ∧ Below w.heap.size w w' := by
  go_enter Tryd.func57, Tryd.ntmps57
  go_wp2
  go_ret
  refine ⟨rfl, cell_new w _ _ _ rfl, (Below.refl _ _).alloc (Nat.le_refl _) _⟩
theorem modulo_any (p : Nat) (w : World) :
    Calls Tryd.prog 58 #[.int .i64 (p : Int)] w fun e w' => e = .returned (modV w.heap.size) ∧ Cap w' w.heap.size (.int .i64 (p : Int)) ∧ Below w.heap.size w w' := by
  go_enter Tryd.func58, Tryd.ntmps58
  go_wp2
  go_ret
  refine ⟨rfl, cell_new w _ _ _ rfl, (Below.refl _ _).alloc (Nat.le_refl _) _⟩
set_option maxHeartbeats 1000000 in
theorem polynomial_any (q p o h : Nat) (v : Value) (w : World) (hv : ∃ Bd, v = addV Bd) (hh : q / p = h) (hq : q ≤ 9) (hp : 2 ≤ p) (hp9 : p ≤ 9) :
    Calls Tryd.prog 59 #[.int .i64 (q : Int), .int .i64 (p : Int), .int .i64 (o : Int), v] w fun e w' => ∃ Bh Bp Bt Ba Bo, e = .returned (polyV Bh Bp Bt Ba) ∧
      Cap w' Bh (.int .i64 (h : Int)) ∧ Cap w' Bp (.int .i64 (p : Int)) ∧ Cap w' Ba v ∧ Cap w' Bo (.int .i64 (o : Int)) ∧
      Cap w' Bt (.func (.func 64) #[] #[.pointer (some ⟨Bh, 0, none⟩), .pointer (some ⟨Bp, 0, none⟩), .pointer (some ⟨Ba, 0, none⟩), .pointer (some ⟨Bo, 0, none⟩)]) ∧ Below w.heap.size w w' := by
  obtain ⟨Bd, rfl⟩ := hv
  have e1 : (q : Int) / (p : Int) = (h : Int) := by rw [← hh, Int.natCast_ediv]
  have hh9 : h ≤ 9 := by rw [← hh]; exact Nat.le_trans (Nat.div_le_self _ _) hq
  clear hh
  unfold addV
  go_enter Tryd.func59, Tryd.ntmps59
  go_wp2
  go_ret
  refine ⟨_, _, _, _, w.heap.size + 1, rfl, ?_, ?_, ?_, ?_, ?_, ?_⟩
  · exact Cap.alloc (cell_new _ _ _ _ (by simp)) _
  · exact Cap.alloc (Cap.alloc (Cap.alloc (Cap.alloc (cell_new w _ _ _ rfl) _) _) _) _
  · exact Cap.alloc (Cap.alloc (cell_new _ _ _ _ (by simp)) _) _
  · exact Cap.alloc (Cap.alloc (Cap.alloc (cell_new _ _ _ _ (by simp)) _) _) _
  · exact cell_new _ _ _ _ (by simp)
  · exact (((((Below.refl _ _).alloc (Nat.le_refl _) _).alloc (by simp) _).alloc (by simp; omega) _).alloc (by simp; omega) _).alloc (by simp; omega) _
end Go.Proofs.YtnnacofjogfkeaaDoor
namespace Go.Proofs.YtnnacofjogfkeaaDoor
open Go Go.RowKit
set_option linter.unusedVariables false

/-- A function value that gives g on the elements, in this world and later ones. -/
def Fv (q : Nat) (g : Nat → Nat → Nat) (w : World) (v : Value) : Prop := ∃ k lb, v = .func (.func k) #[] lb ∧ Enters Tryd.prog k ∧
  ∀ w', Below w.heap.size w w' → ∀ a b, a < q → b < q → Calls Tryd.prog k (#[.int .i64 (a : Int), .int .i64 (b : Int)] ++ lb) w' (drPost (.int .i64 (g a b : Nat)) w')
theorem Fv.below {q : Nat} {g : Nat → Nat → Nat} {w w' : World} {v : Value} (h : Fv q g w v) (hb : Below w.heap.size w w') : Fv q g w' v := by
  obtain ⟨k, lb, hv, he, hc⟩ := h
  exact ⟨k, lb, hv, he, fun w'' hb' => hc w'' (hb.trans (hb'.mono hb.size))⟩
theorem Dr.size {w w' : World} (h : Dr w w') : w'.heap.size = w.heap.size := by
  obtain ⟨q, rfl⟩ := h; rfl
theorem Dr.row {w w' : World} (h : Dr w w') {b : Nat} {t : TypeId} {n : Nat} {f : Nat → Value} (hr : w.rowIs b t n f) : w'.rowIs b t n f := by
  obtain ⟨q, rfl⟩ := h; exact hr
theorem Dr.frozen {w w' : World} (h : Dr w w') (p : Addr) : w'.frozen? p = w.frozen? p := by
  obtain ⟨q, rfl⟩ := h; rfl

theorem info_ints : (Tryd.prog.info? 40).map (fun i => (i.zero, i.size, i.bytes)) = some (some (.slice none 0 0), 1, 24) := by kernel_rfl
theorem info_int : (Tryd.prog.info? 3).map (fun i => (i.zero, i.size, i.bytes)) = some (some (.int .i64 0), 1, 8) := by kernel_rfl

/-- The rows below k are there. -/
def TTop (w : World) (B q k : Nat) : Prop := w.rowIs B 40 q (fun i => if i < k then .slice (some ⟨B + 1 + i, 0, none⟩) q q else .slice none 0 0)
def TRow (w : World) (B q i : Nat) (f : Nat → Nat) : Prop := w.rowIs (B + 1 + i) 3 q (fun j => .int .i64 ((f j : Nat) : Int))
/-- The table of g. -/
def Tb (w : World) (v : Value) (q : Nat) (g : Nat → Nat → Nat) : Prop := ∃ B, v = .slice (some ⟨B, 0, none⟩) q q ∧ TTop w B q q ∧ ∀ i, i < q → TRow w B q i (g i)
theorem rowTo {w w' : World} {b : Nat} {t : TypeId} {n : Nat} {f : Nat → Value} (h : w.rowIs b t n f) (hb : Below w.heap.size w w') : w'.rowIs b t n f := h.of_block (hb.block _ h.lt)
theorem Tb.to {w w' : World} {v : Value} {q : Nat} {g : Nat → Nat → Nat} (h : Tb w v q g) (hb : Below w.heap.size w w') : Tb w' v q g := by
  obtain ⟨B, hv, ht, hr⟩ := h
  exact ⟨B, hv, rowTo ht hb, fun i hi => rowTo (hr i hi) hb⟩

set_option maxHeartbeats 2000000 in
set_option maxRecDepth 100000 in
theorem table_any (q : Nat) (g : Nat → Nat → Nat) (v : Value) (w : World) (hq : q ≤ 9) (hF : Fv q g w v) :
    Calls Tryd.prog 60 #[.int .i64 (q : Int), v] w fun e w' => ∃ u, e = .returned u ∧ Tb w' u q g ∧ Below w.heap.size w w' := by
  have hm1 := run_make_row' (P := Tryd.prog) 23 40 _ _ Tryd.underlying23 info_ints rfl .i64 .i64 q (by omega) (by omega)
  have hm2 := run_make_row' (P := Tryd.prog) 40 3 _ _ Tryd.underlying40 info_int rfl .i64 .i64 q (by omega) (by omega)
  obtain ⟨K, lb, rfl, hent, hcalls⟩ := hF
  have eK := hent
  have HC := Lib.hid hcalls
  clear hcalls hent
  unfold Enters at eK
  go_enter Tryd.func60, Tryd.ntmps60
  go_wp2
  go_loopw [6, 7, 12] (fun _ _ i wr => ∃ k : Nat, k ≤ q ∧ i = .int .i64 (k : Int) ∧ Hid (Below w.heap.size w wr ∧ wr.heap.size = w.heap.size + 1 + k ∧ TTop wr w.heap.size q k ∧ ∀ i, i < k → TRow wr w.heap.size q i (g i))) (fun _ _ i _ => q - (intOf i).toNat)
  case atStart =>
    refine ⟨0, Nat.zero_le _, rfl, Lib.hid ⟨(Below.refl _ _).alloc (Nat.le_refl _) _, by simp, ?_, fun i hi => absurd hi (Nat.not_lt_zero i)⟩⟩
    exact (World.rowIs_made w _ q _).congr fun i _ => by rw [if_neg (Nat.not_lt_zero i)]
  case round =>
    obtain ⟨a, hk, rfl, H⟩ := hrel
    obtain ⟨wo, rfl⟩ : ∃ wo, wo = wr := ⟨_, rfl⟩
    by_cases hlt : a < q
    · have haI : (a : Int) < (q : Int) := by omega
      obtain ⟨hbel, hsz, htop, hrows⟩ := H.out
      have q1 : ∀ o, (wo.alloc o).cell? ⟨w.heap.size, a, none⟩ = some (.slice none 0 0) := fun o => by
        have := (World.rowIs.alloc htop o).cell hlt
        rwa [if_neg (Nat.lt_irrefl a)] at this
      have q2 : ∀ o, (wo.alloc o).frozen? ⟨w.heap.size, a, none⟩ = false := fun o => (World.rowIs.alloc htop o).frozen a
      have HB := Lib.hid hbel
      have HS := Lib.hid hsz
      have HT := Lib.hid htop
      have HR := Lib.hid hrows
      clear hbel hsz htop hrows H
      go_wp2_with fail
      go_loopw [7, 25] (fun _ j wq => ∃ k : Nat, k ≤ q ∧ j = .int .i64 (k : Int) ∧ Hid (Below w.heap.size w wq ∧ wq.heap.size = w.heap.size + 1 + (a + 1) ∧ TTop wq w.heap.size q (a + 1) ∧ (∀ i, i < a → TRow wq w.heap.size q i (g i)) ∧ TRow wq w.heap.size q a (fun j => if j < k then g a j else 0))) (fun _ j _ => q - (intOf j).toNat)
      case atStart =>
        have hle : w.heap.size ≤ wo.heap.size := by have := HS.out; omega
        refine ⟨0, Nat.zero_le _, rfl, Lib.hid ⟨(HB.out.alloc hle _).setCell (Nat.le_refl _) _, by simp [World.setCell, HS.out]; omega, ?_, fun i hi => ?_, ?_⟩⟩
        · refine ((World.rowIs.alloc HT.out _).set a _).congr fun i hi => ?_
          by_cases e : i = a
          · rw [if_pos e, if_pos (by omega), e, HS.out]
          · rw [if_neg e]
            by_cases e2 : i < a
            · rw [if_pos e2, if_pos (by omega)]
            · rw [if_neg e2, if_neg (by omega)]
        · exact World.rowIs.setOther ((World.rowIs.alloc (HR.out i hi) _)) (by show w.heap.size + 1 + i ≠ w.heap.size; omega) _
        · refine World.rowIs.setOther ?_ (by show w.heap.size + 1 + a ≠ w.heap.size; omega) _
          rw [← HS.out]
          exact (World.rowIs_made wo _ q _).congr fun j _ => by simp
      case round =>
        obtain ⟨j, hj, rfl, H⟩ := hrel
        by_cases hltj : j < q
        · have hjI : (j : Int) < (q : Int) := by omega
          obtain ⟨hbel, hsz, htop, hrows, hrow⟩ := H.out
          have q1 := htop.cell hlt
          rw [if_pos (Nat.lt_succ_self a)] at q1
          have q3 := hrow.cell hltj
          simp only [if_neg (Nat.lt_irrefl j)] at q3
          have q4 := hrow.frozen j
          have cF := Lib.hid (HC.out wr.drew (hbel.drew) a j hlt hltj)
          have HB := Lib.hid hbel
          have HS2 := Lib.hid hsz
          have HT := Lib.hid htop
          have HR := Lib.hid hrows
          have HW := Lib.hid hrow
          clear hbel hsz htop hrows hrow H
          go_wp2_with fail
          go_region_with (go_at_fn K; refine cF.out.mono ?_; rintro e w2 ⟨rfl, hd⟩; have c1 := (hd.cell ⟨w.heap.size, a, none⟩).trans q1; have c3 := (hd.cell ⟨w.heap.size + 1 + a, j, none⟩).trans q3; have c4 := (hd.frozen ⟨w.heap.size + 1 + a, j, none⟩).trans q4; have HD := Lib.hid hd; clear hd)
          all_goals
            go_wp2
            go_roundw
            case rel =>
              have hd := HD.out
              refine ⟨j + 1, by omega, by go_num, Lib.hid ⟨(HB.out.drew.trans (hd.below _)).setCell (by show w.heap.size ≤ w.heap.size + 1 + a; omega) _, by simp [World.setCell, hd.size]; exact HS2.out, ?_, fun i hi => ?_, ?_⟩⟩
              · exact World.rowIs.setOther (hd.row HT.out) (by show w.heap.size ≠ w.heap.size + 1 + a; omega) _
              · exact World.rowIs.setOther (hd.row (HR.out i hi)) (by show w.heap.size + 1 + i ≠ w.heap.size + 1 + a; omega) _
              · refine ((hd.row HW.out).set j _).congr fun j' hj' => ?_
                show _ = Value.int .i64 (((if j' < j + 1 then g a j' else 0 : Nat)) : Int)
                by_cases e : j' = j
                · rw [if_pos e, if_pos (by omega), e]
                · rw [if_neg e]
                  by_cases e2 : j' < j
                  · simp only [if_pos e2, if_pos (show j' < j + 1 by omega)]
                  · simp only [if_neg e2, if_neg (show ¬ j' < j + 1 by omega)]
            case measure => simp [intOf]; omega
        · obtain rfl : j = q := by omega
          go_wp2
          go_roundw
          case rel =>
            obtain ⟨hbel, hsz, htop, hrows, hrow⟩ := H.out
            refine ⟨a + 1, by omega, by go_num, Lib.hid ⟨hbel, hsz, htop, fun i hi => ?_⟩⟩
            by_cases e : i < a
            · exact hrows i e
            · obtain rfl : i = a := by omega
              exact World.rowIs.congr hrow fun j' hj' => by simp only [if_pos hj']
          case measure => simp [intOf]; omega
    · obtain rfl : a = q := by omega
      obtain ⟨hbel, hsz, htop, hrows⟩ := H.out
      clear H
      have HB := Lib.hid hbel
      have HT := Lib.hid htop
      have HR := Lib.hid hrows
      clear hbel hsz htop hrows
      go_wp2
      go_ret
      exact ⟨_, rfl, ⟨_, rfl, HT.out, HR.out⟩, HB.out⟩
end Go.Proofs.YtnnacofjogfkeaaDoor
namespace Go.Proofs.YtnnacofjogfkeaaDoor
open Go Go.RowKit
set_option linter.unusedVariables false

theorem addFv {q Bd : Nat} {w : World} (hq : q ∈ Sf.sizes) (hc : Cap w Bd (.int .i64 (Sf.prm q : Int))) : Fv q (Sf.addF q) w (addV Bd) := by
  refine ⟨_, _, rfl, enters_of Tryd.func62 (by kernel_rfl) rfl, fun w' hb a b ha hb' => ?_⟩
  obtain ⟨p1, p2, p3, p4, p5⟩ := Sf.prm_ok hq
  have hs := Sf.add_lt hq ha hb'
  exact (digit_any a b (Sf.prm q) Bd w' (hc.below hb) (by omega) (by omega) p1 (by omega) (by rw [Sf.addF] at hs; omega)).mono fun e x ⟨he, hx⟩ => ⟨he, hx ▸ Dr.refl _⟩
theorem modFv {q Bd : Nat} {w : World} (hq : q ∈ Sf.sizes) (hp : Sf.prm q = q) (hc : Cap w Bd (.int .i64 (q : Int))) : Fv q (Sf.mulF q) w (modV Bd) := by
  refine ⟨_, _, rfl, enters_of Tryd.func63 (by kernel_rfl) rfl, fun w' hb a b ha hb' => ?_⟩
  obtain ⟨p1, p2, p3, p4, p5⟩ := Sf.prm_ok hq
  rw [Sf.mulF, if_pos hp]
  exact (modf_any a b q Bd w' (hc.below hb) (by omega) (by omega) p4).mono fun e x ⟨he, hx⟩ => ⟨he, hx ▸ Dr.refl _⟩
theorem polyFv {q Bh Bp Bt Ba Bo Bd : Nat} {w : World} (hq : q = 4 ∨ q = 8 ∨ q = 9)
    (c1 : Cap w Bh (.int .i64 ((q / Sf.prm q : Nat) : Int))) (c2 : Cap w Bp (.int .i64 (Sf.prm q : Int))) (c3 : Cap w Ba (addV Bd)) (c4 : Cap w Bo (.int .i64 (Sf.ovf q : Int))) (c5 : Cap w Bd (.int .i64 (Sf.prm q : Int)))
    (c6 : Cap w Bt (.func (.func 64) #[] #[.pointer (some ⟨Bh, 0, none⟩), .pointer (some ⟨Bp, 0, none⟩), .pointer (some ⟨Ba, 0, none⟩), .pointer (some ⟨Bo, 0, none⟩)])) : Fv q (Sf.mulF q) w (polyV Bh Bp Bt Ba) := by
  refine ⟨_, _, rfl, enters_of Tryd.func65 (by kernel_rfl) rfl, fun w' hb a b ha hb' => ?_⟩
  exact poly_any q _ _ _ a b Bh Bp Bt Ba Bo Bd w' hq rfl rfl rfl ha hb' (c1.below hb) (c2.below hb) (c3.below hb) (c4.below hb) (c5.below hb) (c6.below hb)

/-- The fields' table, as it lies in memory. -/
def kindC : List Value := [2, 2, 0, 3, 3, 0, 4, 2, 3, 5, 5, 0, 7, 7, 0, 8, 2, 3, 9, 3, 2].map fun n : Nat => .int .i64 (n : Int)
def Kd (w : World) : Prop := w.rangeAt 1 0 kindC
theorem Kd.below {w w' : World} (h : Kd w) (hb : Below w.heap.size w w') : Kd w' := fun j v hv => (hb.cell (World.block_lt_of_cell? w _ (h j v hv))).trans (h j v hv)
/-- The k-th size. -/
def kS (k : Nat) : Nat := Sf.sizes.getD k 0
theorem kind_at (k : Nat) (hk : k < 7) (w : World) : (Instr.index 95 (.agg kindC.toArray) (.int .i64 (k : Int))).run Tryd.prog w = .ok (.agg #[.int .i64 (kS k : Int), .int .i64 (Sf.prm (kS k) : Int), .int .i64 (Sf.ovf (kS k) : Int)]) w := by
  rcases (by omega : k = 0 ∨ k = 1 ∨ k = 2 ∨ k = 3 ∨ k = 4 ∨ k = 5 ∨ k = 6) with rfl | rfl | rfl | rfl | rfl | rfl | rfl <;> kernel_rfl
theorem kS_ok (k : Nat) (hk : k < 7) : kS k ∈ Sf.sizes ∧ kS k ≤ 9 ∧ Sf.prm (kS k) ≤ 9 ∧ Sf.ovf (kS k) ≤ 9 := (show ∀ k, k < 7 → kS k ∈ Sf.sizes ∧ kS k ≤ 9 ∧ Sf.prm (kS k) ≤ 9 ∧ Sf.ovf (kS k) ≤ 9 by decide) k hk
theorem kS_all (q : Nat) (hq : q ∈ Sf.sizes) : ∃ k, k < 7 ∧ kS k = q := (show ∀ q ∈ Sf.sizes, ∃ k, k < 7 ∧ kS k = q by decide) q hq

/-- A field: its prime number and its tables. -/
def Fd (w : World) (v : Value) (q : Nat) : Prop := ∃ B s1 s2, v = .pointer (some ⟨B, 0, none⟩) ∧ w.cell? ⟨B, 0, none⟩ = some (.int .i64 (Sf.prm q : Int)) ∧ w.cell? ⟨B, 1, none⟩ = some s1 ∧ w.cell? ⟨B, 2, none⟩ = some s2 ∧ Tb w s1 q (Sf.addF q) ∧ Tb w s2 q (Sf.mulF q)
theorem Fd.to {w w' : World} {v : Value} {q : Nat} (h : Fd w v q) (hb : Below w.heap.size w w') : Fd w' v q := by
  obtain ⟨B, s1, s2, hv, c0, c1, c2, t1, t2⟩ := h
  exact ⟨B, s1, s2, hv, (hb.cell (World.block_lt_of_cell? w _ c0)).trans c0, (hb.cell (World.block_lt_of_cell? w _ c1)).trans c1, (hb.cell (World.block_lt_of_cell? w _ c2)).trans c2, t1.to hb, t2.to hb⟩

set_option maxHeartbeats 2000000 in
set_option maxRecDepth 100000 in
theorem new_err (q : Int) (w : World) (hK : Kd w) (hq : ∀ k, k < 7 → (kS k : Int) ≠ q) :
    Calls Tryd.prog 51 #[.int .i64 q] w fun e w' => e = .returned (.tuple #[.pointer none, .int .i64 1]) ∧ Below w.heap.size w w' := by
  obtain ⟨C, hC⟩ : ∃ C, kindC = C := ⟨_, rfl⟩
  have KI := Lib.hid kind_at
  have KR := hK
  unfold Kd at KR
  rw [hC] at KI KR
  have SI : Hid ((Tryd.prog.info? 95).map (·.size) = some C.length) := Lib.hid (by rw [← hC]; kernel_rfl)
  have KR' := Lib.hid KR
  have HQ := Lib.hid hq
  clear KR hK hq hC
  go_enter Tryd.func51, Tryd.ntmps51
  go_wp2_with (refine wpList_load_mid rfl _ _ rfl 1 0 rfl C _ KR'.out Tryd.underlying95 rfl SI.out ?_)
  go_loopw [5, 6, 7, 9] (fun _ _ _ i wr => ∃ k : Nat, k ≤ 7 ∧ i = .int .i64 (k : Int) ∧ Hid (Below w.heap.size w wr)) (fun _ _ _ i _ => 7 - (intOf i).toNat)
  case atStart => exact ⟨0, by omega, rfl, Lib.hid (Below.refl _ _)⟩
  case round =>
    obtain ⟨k, hk, rfl, H⟩ := hrel
    by_cases hlt : k < 7
    · have hkI : (k : Int) < 7 := by omega
      have hidx := KI.out k hlt
      have hne : ((kS k : Int) != q) = true := by simp [HQ.out k hlt]
      generalize (kS k : Int) = s at hidx hne
      generalize (Sf.prm (kS k) : Int) = p at hidx
      generalize (Sf.ovf (kS k) : Int) = o at hidx
      go_wp2
      go_roundw
      case rel => exact ⟨k + 1, by omega, by go_num, Lib.hid (H.out.alloc H.out.size _)⟩
      case measure => simp [intOf]; omega
    · obtain rfl : k = 7 := by omega
      go_wp2
      go_ret2
      exact ⟨rfl, H.out⟩
end Go.Proofs.YtnnacofjogfkeaaDoor
