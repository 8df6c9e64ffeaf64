/- Contracts: the closures that multiply polynomials. -/
import Derived.Test.YtjbgfpbidjhlkaaDoorSa
import Derived.Test.YtjbgfpbidjhlkaaDoorGA
import Derived.Deep.QuietTactic
import Derived.BigQuiet
namespace Go.Proofs.YtjbgfpbidjhlkaaDoor
open Go Go.RowKit

/-- A variable that was captured. -/
def Cap (w : World) (B : Nat) (v : Value) : Prop := w.cell? ⟨B, 0, none⟩ = some v
theorem Cap.dr {w w' : World} {B : Nat} {v : Value} (h : Cap w B v) (hd : Dr w w') : Cap w' B v := (hd.cell _).trans h
theorem Cap.below {w w' : World} {B : Nat} {v : Value} (h : Cap w B v) (hb : Below w.heap.size w w') : Cap w' B v := (hb.cell (World.block_lt_of_cell? w _ h)).trans h

set_option maxHeartbeats 1000000 in
set_option maxRecDepth 100000 in
theorem tx_any (q h p o a Bh Bp Ba Bo Bd : Nat) (w : World) (hq : q = 4 ∨ q = 8 ∨ q = 9) (hp : Sf.prm q = p) (hh : q / Sf.prm q = h) (ho : Sf.ovf q = o) (ha : a < q)
    (c1 : Cap w Bh (.int .i64 (h : Int))) (c2 : Cap w Bp (.int .i64 (p : Int))) (c3 : Cap w Ba (.func (.func 51) #[] #[.pointer (some ⟨Bd, 0, none⟩)])) (c4 : Cap w Bo (.int .i64 (o : Int))) (c5 : Cap w Bd (.int .i64 (p : Int))) :
    Calls Tryd.prog 53 #[.int .i64 (a : Int), .pointer (some ⟨Bh, 0, none⟩), .pointer (some ⟨Bp, 0, none⟩), .pointer (some ⟨Ba, 0, none⟩), .pointer (some ⟨Bo, 0, none⟩)] w (drPost (.int .i64 (Sf.tX q a : Nat)) w) := by
  obtain ⟨qs, b1, b2, b3, b4, b5⟩ := Sf.big_ok hq
  obtain ⟨p1, p2, p3, p4, p5⟩ := Sf.prm_ok qs
  have ht : Sf.tX q a = Sf.rep (fun s => Sf.addF q s o) (a / h) (a % h * p) := by rw [Sf.tX, hh, hp, ho]
  rw [hh] at b1 b2 b3
  rw [hp] at b3 b5 p1 p2 p5
  rw [ho] at b4
  have hm : a % h * p < q := Nat.lt_of_lt_of_le (Nat.mul_lt_mul_of_pos_right (Nat.mod_lt _ (by omega)) (by omega)) b3
  have hn : a / h ≤ 8 := Nat.le_trans (Nat.div_le_self _ _) (by omega)
  obtain ⟨n, hne⟩ : ∃ n, a / h = n := ⟨_, rfl⟩
  obtain ⟨m, hme⟩ : ∃ m, a % h * p = m := ⟨_, rfl⟩
  have e1 : (a : Int) / (h : Int) = (n : Int) := by rw [← hne, Int.natCast_ediv]
  have e2 : ((a : Int) % (h : Int)) * (p : Int) = (m : Int) := by rw [← hme, Int.natCast_mul, Int.natCast_emod]
  rw [hne] at hn ht
  rw [hme] at hm ht
  have T := Lib.hid ht
  have QS := Lib.hid qs
  have PQ := Lib.hid hp
  have BB := Lib.hid (And.intro p1 (And.intro p3 (And.intro b4 p5)))
  have C := Lib.hid (And.intro c3 (And.intro c4 c5))
  have m8 : m ≤ 8 := by omega
  have MQ := Lib.hid hm
  have a8 : a ≤ 8 := by omega
  have h1 : 1 ≤ h := by omega
  have h4 : h ≤ 4 := b2
  unfold Cap at c1 c2
  clear hne hme ht qs hp hh ho hq ha b1 b2 b3 b4 b5 p1 p2 p3 p4 c3 c4 c5 hm
  go_enter Tryd.func53, Tryd.ntmps53
  go_wp2
  go_quiet (fail)
  go_wp2
  go_loopw [7, 16] (fun x y wr => ∃ k s : Nat, k ≤ n ∧ x = .int .i64 (s : Int) ∧ y = .int .i64 (k : Int) ∧ Hid (Dr w wr ∧ s < q ∧ s = Sf.rep (fun s => Sf.addF q s o) k m)) (fun _ y _ => n - (intOf y).toNat)
  case atStart => exact ⟨0, m, Nat.zero_le _, rfl, rfl, Lib.hid ⟨⟨_, rfl⟩, MQ.out, rfl⟩⟩
  case round =>
    obtain ⟨k, s, hk, rfl, rfl, H⟩ := hrel
    by_cases hlt : k < n
    · have hkI : (k : Int) < (n : Int) := by omega
      have d3 := C.out.1.dr H.out.1
      have d4 := C.out.2.1.dr H.out.1
      have cA := Lib.hid (digit_any s o p Bd wr (C.out.2.2.dr H.out.1) (by have := BB.out; have := H.out.2.1; omega) (by have := BB.out; omega) (by have := BB.out; omega) (by have := BB.out; omega) (by have := BB.out; have h1 := Sf.add_lt QS.out H.out.2.1 this.2.2.1; rw [Sf.addF, PQ.out] at h1; omega))
      obtain ⟨y, hy⟩ : ∃ y, Sf.dig p 4 s o = y := ⟨_, rfl⟩
      rw [hy] at cA
      have Y : Hid (y < q ∧ y = Sf.rep (fun s => Sf.addF q s o) (k + 1) m) := Lib.hid (by
        have h1 := Sf.add_lt QS.out H.out.2.1 BB.out.2.2.1
        rw [Sf.rep_succ, ← H.out.2.2]
        show y < q ∧ y = Sf.addF q s o
        rw [Sf.addF, PQ.out, hy] at h1 ⊢
        exact ⟨h1, rfl⟩)
      have HD := Lib.hid H.out.1
      unfold Cap at d3 d4
      clear hy H
      go_wp2_with (go_at_call 51; refine cA.out.mono ?_; rintro e w' ⟨rfl, rfl⟩)
      go_roundw
      case rel => exact ⟨k + 1, y, by omega, rfl, by go_num, Lib.hid ⟨HD.out, Y.out⟩⟩
      case measure => simp [intOf]; omega
    · obtain rfl : k = n := by omega
      go_wp2
      go_ret
      exact ⟨by rw [T.out, ← H.out.2.2]; rfl, H.out.1⟩
end Go.Proofs.YtjbgfpbidjhlkaaDoor
