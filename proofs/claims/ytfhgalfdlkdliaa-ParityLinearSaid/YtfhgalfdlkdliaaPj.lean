/- The reference's Parity. -/
import Derived.Test.YtfhgalfdlkdliaaPn
import Derived.Test.YtfhgalfdlkdliaaMxc
import Derived.StillTailTactics
namespace Go.Proofs.Ytfhgalfdlkdliaa
open Go Go.RowKit Lin
set_option linter.unusedVariables false

theorem flat_get {D : List (List Nat)} (hD : ∀ d ∈ D, B8 d) {p : Nat} (hp : p < D.length * 8) : D.flatten.getD p 0 = el D (p / 8) (p % 8) := by
  have h8 : p % 8 < 8 := Nat.mod_lt _ (by decide)
  have hi : p / 8 < D.length := by omega
  have := flat_at (fun d hd => (hD d hd).1) hi h8
  rw [show p / 8 * 8 + p % 8 = p by omega] at this
  unfold el
  rw [getD_in hi]
  simp [List.getD, this]
theorem z24 : ∀ p, p < 24 → (List.replicate 24 0).getD p 0 = 0 := by decide
def rparPost (D : List (List Nat)) (w : World) (e : Ending) (w' : World) : Prop := e = .returned (.slice (some ⟨w.heap.size, 0, none⟩) 3 3) ∧ Row w' w.heap.size 44 (bcs (parL D).flatten) ∧ Below w.heap.size w w'
set_option maxHeartbeats 4000000 in
set_option maxRecDepth 100000 in
theorem rparity_any (v : Value) (D : List (List Nat)) (w : World) (h : Bl w v D) (h13 : D.length ≤ 200) :
    Calls Try.prog 22 #[v] w (rparPost D w) := by
  have hc := fun hn => Bl.at_ h hn
  have OK := Lib.hid h.ok
  obtain ⟨A, c, rfl⟩ := h.form
  have HC := Lib.hid hc
  obtain ⟨n, hn⟩ : ∃ n, D.length = n := ⟨_, rfl⟩
  have N := Lib.hid hn
  rw [hn] at h13 ⊢
  clear h hc hn
  go_enter Try.func22, Try.ntmps22
  have hmk := make_blk3
  go_wp2
  go_loopw [4, 5, 6, 7] (fun q _ _ _ wr => ∃ j : Nat, j ≤ 3 ∧ q = .int .i64 (j : Int) ∧ Hid (Below w.heap.size w wr ∧ wr.rowIs w.heap.size 44 24 (fun p => .int .u8 ((if p / 8 < j then par D (p / 8) (p % 8) else 0 : Nat) : Int)))) (fun q _ _ _ _ => 3 - (intOf q).toNat)
  case atStart =>
    refine ⟨0, Nat.zero_le _, rfl, Lib.hid ⟨(Below.refl _ _).alloc (Nat.le_refl _) _, ?_⟩⟩
    refine (rowIs_bytes (row_new w _ _)).congr fun p hp => ?_
    rw [if_neg (Nat.not_lt_zero _)]
    exact congrArg (fun x : Nat => Value.int .u8 (x : Int)) (z24 p hp)
  case round =>
    obtain ⟨j, hj, rfl, H⟩ := hrel
    obtain ⟨wo, rfl⟩ : ∃ wo, wo = wr := ⟨_, rfl⟩
    by_cases hlt : j < 3
    · have hjI : (j : Int) < 3 := by omega
      go_wp2_with fail
      go_loopw [5, 6, 7] (fun q _ _ wq => ∃ i : Nat, i ≤ n ∧ q = .int .i64 (i : Int) ∧ Hid (Below w.heap.size wo wq ∧ wq.rowIs w.heap.size 44 24 (fun p => .int .u8 ((if p / 8 < j then par D (p / 8) (p % 8) else if p / 8 = j then parU D i j (p % 8) else 0 : Nat) : Int)))) (fun q _ _ _ => n - (intOf q).toNat)
      case atStart =>
        refine ⟨0, Nat.zero_le _, rfl, Lib.hid ⟨Below.refl _ _, H.out.2.congr fun p hp => ?_⟩⟩
        by_cases e : p / 8 < j
        · rw [if_pos e, if_pos e]
        · rw [if_neg e, if_neg e]; split <;> rfl
      case round =>
        obtain ⟨i, hi, rfl, H2⟩ := hrel
        obtain ⟨wi, rfl⟩ : ∃ wi, wi = wr := ⟨_, rfl⟩
        by_cases hlt2 : i < n
        · have hiI : (i : Int) < (n : Int) := by omega
          obtain ⟨bd, od, cd, hv, -, hbd, hrow⟩ := HC.out (by rw [N.out]; omega)
          injection hv with hv1 hv2 hv3
          subst hv1
          clear hv2 hv3
          have hjn : j * i ≤ 3 * 200 := Nat.mul_le_mul (by omega) (by omega)
          have h1 : wrap64 ((j : Int) * (i : Int)) = ((j * i : Nat) : Int) := by
            rw [← Int.natCast_mul]
            exact IntWalk.wrap64_in _ ⟨by omega, by omega⟩
          have X := Lib.hid h1
          have DR : Hid (∀ k, k < 8 → w.cell? ⟨bd, od + i * 8 + k, none⟩ = some (.int .u8 ((el D i k : Nat) : Int))) := Lib.hid fun k hk => by
            have hl : i < D.length := by rw [N.out]; exact hlt2
            have := (range_at8 hrow OK.out hl).cell (k := k) (by rw [(OK.out _ (List.getElem_mem hl)).1]; exact hk)
            unfold el
            rwa [getD_in hl]
          clear hrow h1
          go_wp2_with fail
          rw [show (j : Int) * (i : Int) = ((j * i : Nat) : Int) from (Int.natCast_mul j i).symm]
          refine (rpower_any 2 (j * i) (by decide) (by omega) _).mono ?_
          rintro e w' ⟨rfl, rfl⟩
          obtain ⟨cf, hcf⟩ : ∃ cf, Gf.gpow 2 (j * i) = cf := ⟨_, rfl⟩
          have hcb : cf < 256 := by rw [← hcf]; exact gp_lt _
          rw [hcf]
          have CF := Lib.hid hcf
          clear hcf
          go_wp2_with fail
          go_loopw [7] (fun q wq => ∃ k : Nat, k ≤ 8 ∧ q = .int .i64 (k : Int) ∧ Hid (Below w.heap.size wi wq ∧ wq.rowIs w.heap.size 44 24 (fun p => .int .u8 ((if p / 8 < j then par D (p / 8) (p % 8) else if p / 8 = j then (if p % 8 < k then parU D (i + 1) j (p % 8) else parU D i j (p % 8)) else 0 : Nat) : Int)))) (fun q _ => 8 - (intOf q).toNat)
          case atStart => exact ⟨0, Nat.zero_le _, rfl, Lib.hid ⟨Below.refl _ _, H2.out.2.congr fun p hp => by (repeat' split) <;> first | rfl | omega⟩⟩
          case round =>
            obtain ⟨k, hk, rfl, H3⟩ := hrel
            by_cases hlt3 : k < 8
            · have hkI : (k : Int) < 8 := by omega
              have hbw := H.out.1.trans (H2.out.1.trans H3.out.1)
              have p1 := H3.out.2.cell (i := j * 8 + k) (by omega)
              have ed : (j * 8 + k) / 8 = j := by omega
              have em : (j * 8 + k) % 8 = k := by omega
              rw [ed, em, if_neg (Nat.lt_irrefl j), if_pos rfl, if_neg (Nat.lt_irrefl k)] at p1
              have f1 := H3.out.2.frozen (j * 8 + k)
              have p4 := (hbw.cell (World.block_lt_of_cell? w _ (DR.out k hlt3))).trans (DR.out k hlt3)
              obtain ⟨y, hy⟩ : ∃ y, el D i k = y := ⟨_, rfl⟩
              obtain ⟨s, hs⟩ : ∃ s, parU D i j k = s := ⟨_, rfl⟩
              have hy2 : y < 256 := by rw [← hy]; exact el_lt OK.out i k
              have hs2 : s < 256 := by rw [← hs]; exact xs_lt _ _ fun i _ => Gf.mul_lt _ _ (gp_lt _)
              have E : Hid (s ^^^ Gf.mul cf y = parU D (i + 1) j k) := Lib.hid (by rw [← hs, ← hy, ← CF.out]; rfl)
              rw [hy] at p4
              rw [hs] at p1
              have hmul := Gf.mul_lt cf y hcb
              have XX := u8_xor_nat s (Gf.mul cf y) hs2 hmul
              have ED := Lib.hid (And.intro ed em)
              clear hy hs hbw ed em
              go_wp2
              refine wp_region_still_tail 17 (by kernel_rfl) (by kernel_rfl) ?_
              simp only [List.take_succ_cons, List.take_zero, List.drop_succ_cons, List.drop_zero]
              repeat (first | still_step | still_call ((rmul_any cf y hcb hy2 _).mono fun _ _ h => ⟨h.1, h.2.symm⟩))
              refine wpStill_nil ?_
              change wpList _ _ _ _ _ wr.drew
              go_wp2
              go_roundw
              case rel =>
                refine ⟨k + 1, by omega, by go_num, Lib.hid ⟨(H3.out.1.drew).setCell (Nat.le_refl _) _, ((H3.out.2.drew).set (j * 8 + k) _).congr fun p hp => ?_⟩⟩
                by_cases e : p = j * 8 + k
                · rw [if_pos e, e, ED.out.1, ED.out.2, if_neg (Nat.lt_irrefl j), if_pos rfl, if_pos (Nat.lt_succ_self k), E.out]
                · rw [if_neg e]
                  by_cases e1 : p / 8 < j
                  · rw [if_pos e1, if_pos e1]
                  · rw [if_neg e1, if_neg e1]
                    by_cases e2 : p / 8 = j
                    · rw [if_pos e2, if_pos e2]
                      by_cases e3 : p % 8 < k
                      · rw [if_pos e3, if_pos (by omega)]
                      · rw [if_neg e3, if_neg (by omega)]
                    · rw [if_neg e2, if_neg e2]
              case measure => simp [intOf]; omega
            · have ek : k = 8 := by omega
              have E := Lib.hid ek
              clear ek
              go_wp2
              go_roundw
              case rel =>
                refine ⟨i + 1, by omega, by go_num, Lib.hid ⟨H2.out.1.trans H3.out.1, H3.out.2.congr fun p hp => ?_⟩⟩
                have h8 : p % 8 < 8 := Nat.mod_lt _ (by decide)
                rw [E.out]
                (repeat' split) <;> first | rfl | omega
              case measure => simp [intOf]; omega
        · have ei : i = n := by omega
          have E := Lib.hid ei
          clear ei
          go_wp2
          go_roundw
          case rel =>
            refine ⟨j + 1, by omega, by go_num, Lib.hid ⟨H.out.1.trans H2.out.1, H2.out.2.congr fun p hp => ?_⟩⟩
            have ep : ∀ j k, par D j k = parU D i j k := fun j k => by rw [E.out, ← N.out]; rfl
            by_cases e1 : p / 8 < j
            · rw [if_pos e1, if_pos (by omega)]
            · rw [if_neg e1]
              by_cases e2 : p / 8 = j
              · rw [if_pos e2, if_pos (by omega), ep, e2]
              · rw [if_neg e2, if_neg (by omega)]
          case measure => simp [intOf]; omega
    · go_wp2
      go_ret
      obtain ⟨hbel, hrow⟩ := H.out
      obtain rfl : j = 3 := by omega
      refine ⟨rfl, rows_of (n := 24) (hrow.congr fun p hp => ?_) (flat24 D), hbel⟩
      rw [if_pos (by omega), flat_get (parL_ok D) (by show p < 3 * 8; omega), el_parL D (by omega) (Nat.mod_lt _ (by decide))]
end Go.Proofs.Ytfhgalfdlkdliaa
