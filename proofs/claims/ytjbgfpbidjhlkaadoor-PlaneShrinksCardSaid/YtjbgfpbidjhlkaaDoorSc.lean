/- Contracts: the closure that multiplies polynomials. -/
import Derived.Test.YtjbgfpbidjhlkaaDoorSb
namespace Go.Proofs.YtjbgfpbidjhlkaaDoor
open Go Go.RowKit

set_option maxHeartbeats 2000000 in
set_option maxRecDepth 100000 in
theorem poly_any (q h p o a b Bh Bp Bt Ba Bo Bd : Nat) (w : World) (hq : q = 4 ∨ q = 8 ∨ q = 9) (hp : Sf.prm q = p) (hh : q / Sf.prm q = h) (ho : Sf.ovf q = o) (ha : a < q) (hb : b < q)
    (c1 : Cap w Bh (.int .i64 (h : Int))) (c2 : Cap w Bp (.int .i64 (p : Int))) (c3 : Cap w Ba (.func (.func 51) #[] #[.pointer (some ⟨Bd, 0, none⟩)])) (c4 : Cap w Bo (.int .i64 (o : Int))) (c5 : Cap w Bd (.int .i64 (p : Int)))
    (c6 : Cap w Bt (.func (.func 53) #[] #[.pointer (some ⟨Bh, 0, none⟩), .pointer (some ⟨Bp, 0, none⟩), .pointer (some ⟨Ba, 0, none⟩), .pointer (some ⟨Bo, 0, none⟩)])) :
    Calls Tryd.prog 54 #[.int .i64 (a : Int), .int .i64 (b : Int), .pointer (some ⟨Bh, 0, none⟩), .pointer (some ⟨Bp, 0, none⟩), .pointer (some ⟨Bt, 0, none⟩), .pointer (some ⟨Ba, 0, none⟩)] w (drPost (.int .i64 (Sf.mulF q a b : Nat)) w) := by
  obtain ⟨qs, b1, b2, b3, b4, b5⟩ := Sf.big_ok hq
  obtain ⟨p1, p2, p3, p4, p5⟩ := Sf.prm_ok qs
  obtain ⟨R, hR⟩ : ∃ R, Sf.mulF q a b = R := ⟨_, rfl⟩
  have ht : Sf.hor q a b 3 h 0 = R := by rw [← hh, ← hR, Sf.mul_big hq]
  rw [hh] at b1 b2 b3
  rw [hp] at b3 b5 p1 p2 p5
  rw [ho] at b4
  rw [hR]
  have T := Lib.hid ht
  have QS := Lib.hid qs
  have QB := Lib.hid hq
  have PQ := Lib.hid (And.intro hp (And.intro hh ho))
  have BB := Lib.hid (And.intro p1 (And.intro p3 (And.intro b4 (And.intro p5 ha))))
  have C := Lib.hid (And.intro c1 (And.intro c2 (And.intro c3 (And.intro c4 (And.intro c5 c6)))))
  have a8 : a ≤ 8 := by omega
  have b8 : b ≤ 8 := by omega
  have h1 : 1 ≤ h := by omega
  have h4 : h ≤ 4 := b2
  have p2' : 2 ≤ p := p1
  have p9' : p ≤ 9 := by omega
  have q9 : q ≤ 9 := p3
  have q2 : 2 ≤ q := p4
  unfold Cap at c1 c2 c3 c6
  clear ht qs hp hh ho hq ha hb b1 b2 b3 b4 b5 p1 p2 p3 p4 p5 c3 c4 c5 c6 hR
  go_enter Tryd.func54, Tryd.ntmps54
  go_wp2
  go_loopw [9, 10] (fun x y wr => ∃ f r pl : Nat, f ≤ 3 ∧ x = .int .i64 (r : Int) ∧ y = .int .i64 (pl : Int) ∧ pl ≤ h ∧ Hid (Dr w wr ∧ pl < 2 ^ f ∧ r < q ∧ Sf.hor q a b f pl r = R)) (fun _ y _ => (intOf y).toNat)
  case atStart => exact ⟨3, 0, h, Nat.le_refl _, rfl, rfl, Nat.le_refl _, Lib.hid ⟨Dr.refl _, by omega, by omega, T.out⟩⟩
  case round =>
    obtain ⟨f, r, pl, hf, rfl, rfl, hpl, H⟩ := hrel
    obtain ⟨wo, rfl⟩ : ∃ wo, wo = wr := ⟨_, rfl⟩
    by_cases h0 : pl = 0
    · subst h0
      have E : Hid (r = R) := Lib.hid (by rw [← H.out.2.2.2, Sf.hor_zero])
      go_wp2
      go_ret
      exact ⟨by rw [← E.out]; rfl, H.out.1⟩
    · obtain ⟨g, rfl⟩ : ∃ g, f = g + 1 := by
        rcases f with _ | g
        · have := H.out.2.1; omega
        · exact ⟨g, rfl⟩
      have hpos : 0 < pl := by omega
      have hx4 : pl / p ≤ pl := Nat.div_le_self _ _
      have hx5 : pl / p < pl := Nat.div_lt_self hpos p2'
      have hx6 : pl / p < 2 ^ g := Nat.div_lt_of_lt_mul (Nat.lt_of_lt_of_le H.out.2.1 (by rw [Nat.pow_succ, Nat.mul_comm]; exact Nat.mul_le_mul_right _ p2'))
      have hn : b / pl % p < p := Nat.mod_lt _ (by omega)
      have hbp : b / pl ≤ 8 := Nat.le_trans (Nat.div_le_self _ _) b8
      have hs : Sf.hor q a b g (pl / p) (Sf.rep (fun s => Sf.addF q s a) (b / pl % p) (Sf.tX q r)) = R := by rw [← H.out.2.2.2, Sf.hor, if_neg h0, PQ.out.1]
      have htx := Sf.tX_lt QB.out H.out.2.2.1
      have cT := Lib.hid (tx_any q h p o r Bh Bp Ba Bo Bd wo QB.out PQ.out.1 PQ.out.2.1 PQ.out.2.2 H.out.2.2.1 (C.out.1.dr H.out.1) (C.out.2.1.dr H.out.1) (C.out.2.2.1.dr H.out.1) (C.out.2.2.2.1.dr H.out.1) (C.out.2.2.2.2.1.dr H.out.1))
      have d1 := H.out.1.cell ⟨Bt, 0, none⟩
      rw [C.out.2.2.2.2.2] at d1
      obtain ⟨x, hx⟩ : ∃ x, pl / p = x := ⟨_, rfl⟩
      obtain ⟨n, hne⟩ : ∃ n, b / pl % p = n := ⟨_, rfl⟩
      obtain ⟨t, hte⟩ : ∃ t, Sf.tX q r = t := ⟨_, rfl⟩
      have e1 : (pl : Int) / (p : Int) = (x : Int) := by rw [← hx, Int.natCast_ediv]
      have e2 : ((b : Int) / (pl : Int)) % (p : Int) = (n : Int) := by rw [← hne, Int.natCast_emod, Int.natCast_ediv]
      rw [hx] at hx4 hx5 hx6 hs
      rw [hne] at hn hs
      rw [hte] at hs htx cT
      have S := Lib.hid (And.intro hx6 (And.intro hs htx))
      have hbi : (b : Int) / (pl : Int) ≤ 8 := by rw [← Int.natCast_ediv]; exact Int.ofNat_le.2 hbp
      have hbi0 : 0 ≤ (b : Int) / (pl : Int) := by rw [← Int.natCast_ediv]; exact Int.natCast_nonneg _
      have HD := Lib.hid H.out.1
      clear hx hne hte hs hx6 htx hbp H
      go_wp2_with (go_at_call 53; refine cT.out.mono ?_; rintro e w' ⟨rfl, hdr⟩; have HT := Lib.hid hdr; have f3 := (HD.out.trans hdr).cell ⟨Bp, 0, none⟩; rw [C.out.2.1] at f3; clear hdr)
      go_quiet (fail)
      rw [e2]
      go_wp2_with fail
      go_loopw [9, 25] (fun x y wq => ∃ k s : Nat, k ≤ n ∧ x = .int .i64 (s : Int) ∧ y = .int .i64 (k : Int) ∧ Hid (Dr w wq ∧ s < q ∧ s = Sf.rep (fun s => Sf.addF q s a) k t)) (fun _ y _ => n - (intOf y).toNat)
      case atStart => exact ⟨0, t, Nat.zero_le _, rfl, rfl, Lib.hid ⟨(HD.out.trans HT.out).more _, S.out.2.2, rfl⟩⟩
      case round =>
        obtain ⟨k, s, hk, rfl, rfl, H⟩ := hrel
        by_cases hlt : k < n
        · have hkI : (k : Int) < (n : Int) := by omega
          have d3 := C.out.2.2.1.dr H.out.1
          have cA := Lib.hid (digit_any s a p Bd wr (C.out.2.2.2.2.1.dr H.out.1) (by have := BB.out; have := H.out.2.1; omega) a8 p2' p9' (by have h1 := Sf.add_lt QS.out H.out.2.1 BB.out.2.2.2.2; rw [Sf.addF, PQ.out.1] at h1; omega))
          obtain ⟨y, hy⟩ : ∃ y, Sf.dig p 4 s a = y := ⟨_, rfl⟩
          rw [hy] at cA
          have Y : Hid (y < q ∧ y = Sf.rep (fun s => Sf.addF q s a) (k + 1) t) := Lib.hid (by
            have h1 := Sf.add_lt QS.out H.out.2.1 BB.out.2.2.2.2
            rw [Sf.rep_succ, ← H.out.2.2]
            show y < q ∧ y = Sf.addF q s a
            rw [Sf.addF, PQ.out.1, hy] at h1 ⊢
            exact ⟨h1, rfl⟩)
          have HD2 := Lib.hid H.out.1
          unfold Cap at d3
          clear hy H
          go_wp2_with (go_at_call 51; refine cA.out.mono ?_; rintro e w' ⟨rfl, rfl⟩)
          go_roundw
          case rel => exact ⟨k + 1, y, by omega, rfl, by go_num, Lib.hid ⟨HD2.out, Y.out⟩⟩
          case measure => simp [intOf]; omega
        · obtain rfl : k = n := by omega
          have g3 := H.out.1.cell ⟨Bp, 0, none⟩
          rw [C.out.2.1] at g3
          go_wp2
          go_roundw
          case rel => exact ⟨g, s, x, by omega, rfl, by go_num, by omega, Lib.hid ⟨H.out.1, S.out.1, H.out.2.1, by rw [H.out.2.2]; exact S.out.2.1⟩⟩
          case measure => simp [intOf]; omega
end Go.Proofs.YtjbgfpbidjhlkaaDoor
