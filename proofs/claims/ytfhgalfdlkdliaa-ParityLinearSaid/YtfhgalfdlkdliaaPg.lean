/- parity's Matrix. -/
import Derived.Test.YtfhgalfdlkdliaaPm
import Derived.Test.YtfhgalfdlkdliaaMxc
import Derived.StillTailTactics
namespace Go.Proofs.Ytfhgalfdlkdliaa
open Go Go.RowKit
set_option linter.unusedVariables false

def matPost (n : Nat) (w : World) (e : Ending) (w' : World) : Prop :=
  e = .returned (.tuple #[.slice (some ⟨w.heap.size, 0, none⟩) 3 3, .int .i64 0]) ∧ Grid w' w.heap.size 3 n (fun j i => Gf.gpow 2 (j * i)) ∧ Below w.heap.size w w'
set_option maxHeartbeats 4000000 in
set_option maxRecDepth 100000 in
theorem matrix_ok (n : Nat) (w : World) (h1 : 1 ≤ n) (h13 : n ≤ 13) :
    Calls Try.prog 18 #[.int .i64 (n : Int)] w (matPost n w) := by
  have hm1 : ∀ w : World, (Instr.makeSlice 25 (.int .i64 3) (.int .i64 3)).run Try.prog w = .ok (.slice (some ⟨w.heap.size, 0, none⟩) 3 3) (w.alloc (.cells (madeCells #[.slice none 0 0] 3) 27)) := run_make_row' (P := Try.prog) 25 27 _ _ Try.underlying25 info_bytes rfl .i64 .i64 3 (by omega) (by omega)
  have hm2 := run_make_row' (P := Try.prog) 27 5 _ _ Try.underlying27 info_u8 rfl .i64 .i64 n (by omega) (by omega)
  go_enter Try.func18, Try.ntmps18
  go_wp2_with (go_at_call 37; refine (dcount_t _ _ (by omega) (by omega)).mono ?_; rintro e w' ⟨rfl, rfl⟩)
  go_loopw [5, 6, 13] (fun _ _ q wr => ∃ j : Nat, j ≤ 3 ∧ q = .int .i64 (j : Int) ∧ Hid (Below w.heap.size w wr ∧ wr.heap.size = w.heap.size + 1 + j ∧ wr.rowIs w.heap.size 27 3 (fun i => if i < j then .slice (some ⟨w.heap.size + 1 + i, 0, none⟩) n n else .slice none 0 0) ∧
    ∀ i, i < j → wr.rowIs (w.heap.size + 1 + i) 5 n (fun m => .int .u8 ((Gf.gpow 2 (i * m) : Nat) : Int)))) (fun _ _ q _ => 3 - (intOf q).toNat)
  case atStart =>
    refine ⟨0, Nat.zero_le _, rfl, Lib.hid ⟨(Below.refl _ _).alloc (Nat.le_refl _) _, by simp, ?_, fun i hi => absurd hi (Nat.not_lt_zero i)⟩⟩
    exact (World.rowIs_made w _ 3 _).congr fun i _ => by rw [if_neg (Nat.not_lt_zero i)]
  case round =>
    obtain ⟨j, hj, rfl, H⟩ := hrel
    by_cases hlt : j < 3
    · obtain ⟨hbel, hsz, htop, hrows⟩ := H.out
      have hjI : (j : Int) < 3 := by omega
      have q1 : ∀ o, (wr.alloc o).cell? ⟨w.heap.size, j, none⟩ = some (.slice none 0 0) := fun o => by
        have := (htop.alloc o).cell hlt
        rwa [if_neg (Nat.lt_irrefl j)] at this
      have q2 : ∀ o, (wr.alloc o).frozen? ⟨w.heap.size, j, none⟩ = false := fun o => (htop.alloc o).frozen j
      have HB := Lib.hid hbel
      have HS := Lib.hid hsz
      have HT := Lib.hid htop
      have HRS := Lib.hid hrows
      clear hbel hsz htop hrows
      go_wp2_with fail
      obtain ⟨W1, hW1⟩ : ∃ W1, (wr.alloc (.cells (madeCells #[.int .u8 0] n) 5)).setCell ⟨w.heap.size, j, none⟩ (.slice (some ⟨wr.heap.size, 0, none⟩) n n) = W1 := ⟨_, rfl⟩
      have hle : w.heap.size ≤ wr.heap.size := by have := HS.out; omega
      have z1 : Below w.heap.size w W1 := by rw [← hW1]; exact (HB.out.alloc hle _).setCell (Nat.le_refl _) _
      have z2 : W1.heap.size = w.heap.size + 1 + (j + 1) := by rw [← hW1]; simp [World.setCell, HS.out]; omega
      have z3 : W1.rowIs w.heap.size 27 3 (fun i => if i < j + 1 then .slice (some ⟨w.heap.size + 1 + i, 0, none⟩) n n else .slice none 0 0) := by
        rw [← hW1]
        refine ((HT.out.alloc _).set j _).congr fun i hi => ?_
        by_cases e : i = j
        · rw [if_pos e, if_pos (by omega), e, HS.out]
        · rw [if_neg e]
          by_cases e2 : i < j
          · rw [if_pos e2, if_pos (by omega)]
          · rw [if_neg e2, if_neg (by omega)]
      have z4 : ∀ i, i < j → W1.rowIs (w.heap.size + 1 + i) 5 n (fun m => .int .u8 ((Gf.gpow 2 (i * m) : Nat) : Int)) := fun i hi => by
        rw [← hW1]
        exact ((HRS.out i hi).alloc _).setOther (by show w.heap.size + 1 + i ≠ w.heap.size; omega) _
      have z5 : W1.rowIs (w.heap.size + 1 + j) 5 n (fun m => .int .u8 ((if m < 0 then Gf.gpow 2 (j * m) else 0 : Nat) : Int)) := by
        rw [← hW1]
        refine World.rowIs.setOther ?_ (by show w.heap.size + 1 + j ≠ w.heap.size; omega) _
        rw [← HS.out]
        exact (World.rowIs_made wr _ n _).congr fun i _ => by rw [if_neg (Nat.not_lt_zero i)]; rfl
      rw [hW1]
      have Z := Lib.hid (And.intro z1 (And.intro z2 (And.intro z3 (And.intro z4 z5))))
      clear hW1 z1 z2 z3 z4 z5 q1 q2 HB HS HT HRS hle
      go_loopw [6, 26] (fun _ q wq => ∃ k : Nat, k ≤ n ∧ q = .int .i64 (k : Int) ∧ Hid (Below w.heap.size w wq ∧ wq.heap.size = w.heap.size + 1 + (j + 1) ∧ wq.rowIs w.heap.size 27 3 (fun i => if i < j + 1 then .slice (some ⟨w.heap.size + 1 + i, 0, none⟩) n n else .slice none 0 0) ∧
        (∀ i, i < j → wq.rowIs (w.heap.size + 1 + i) 5 n (fun m => .int .u8 ((Gf.gpow 2 (i * m) : Nat) : Int))) ∧ wq.rowIs (w.heap.size + 1 + j) 5 n (fun m => .int .u8 ((if m < k then Gf.gpow 2 (j * m) else 0 : Nat) : Int)))) (fun _ q _ => n - (intOf q).toNat)
      case atStart => exact ⟨0, Nat.zero_le _, rfl, Z⟩
      case round =>
        obtain ⟨k, hk, rfl, H2⟩ := hrel
        by_cases hlt2 : k < n
        · have hkI : (k : Int) < (n : Int) := by omega
          obtain ⟨y1, y2, y3, y4, y5⟩ := H2.out
          have p1 := y3.cell hlt
          rw [if_pos (Nat.lt_succ_self j)] at p1
          have p2 := y5.cell hlt2
          rw [if_neg (Nat.lt_irrefl k)] at p2
          have f2 := y5.frozen k
          have B1 := Lib.hid y1
          have B2 := Lib.hid y2
          have B3 := Lib.hid y3
          have B4 := Lib.hid y4
          have B5 := Lib.hid y5
          have er : Gf.gpow 2 (red ((j * k : Nat) : Int)) = Gf.gpow 2 (j * k) := by
            have : j * k ≤ 2 * 13 := Nat.mul_le_mul (by omega) (by omega)
            rw [red_small _ (by omega)]
          have CO := Lib.hid (coef_any j k (by omega) (by omega))
          rw [er] at CO
          obtain ⟨x, hx⟩ : ∃ x, Gf.gpow 2 (j * k) = x := ⟨_, rfl⟩
          rw [hx] at CO
          have X := Lib.hid hx
          clear y1 y2 y3 y4 y5 er hx Z
          go_wp2
          refine wp_region_still_tail 9 (by kernel_rfl) (by kernel_rfl) ?_
          simp only [List.take_succ_cons, List.take_zero, List.drop_succ_cons, List.drop_zero]
          repeat (first | still_step | still_call ((CO.out _).mono fun _ _ h => ⟨h.1, h.2.symm⟩))
          refine wpStill_nil ?_
          change wpList _ _ _ _ _ wr.drew
          go_wp2
          go_roundw
          case rel =>
            refine ⟨k + 1, by omega, by go_num, Lib.hid ⟨(B1.out.drew).setCell (by show w.heap.size ≤ w.heap.size + 1 + j; omega) _, by simp [World.setCell]; exact B2.out, (B3.out.drew).setOther (by show w.heap.size ≠ w.heap.size + 1 + j; omega) _, fun i hi => (B4.out i hi).drew.setOther (by show w.heap.size + 1 + i ≠ w.heap.size + 1 + j; omega) _, ((B5.out.drew).set k _).congr fun m hm => ?_⟩⟩
            by_cases e : m = k
            · rw [if_pos e, if_pos (by omega), e, X.out]
            · rw [if_neg e]; (repeat' split) <;> first | rfl | omega
          case measure => simp [intOf]; omega
        · have ek : k = n := by omega
          have E := Lib.hid ek
          clear ek
          go_wp2
          go_roundw
          case rel =>
            obtain ⟨y1, y2, y3, y4, y5⟩ := H2.out
            refine ⟨j + 1, by omega, by go_num, Lib.hid ⟨y1, y2, y3, fun i hi => ?_⟩⟩
            rcases Nat.lt_or_ge i j with h | h
            · exact y4 i h
            · obtain rfl : i = j := by omega
              exact y5.congr fun m hm => by rw [if_pos (by rw [E.out]; exact hm)]
          case measure => simp [intOf]; omega
    · go_wp2
      go_ret2
      obtain ⟨hbel, hsz, htop, hrows⟩ := H.out
      obtain rfl : j = 3 := by omega
      exact ⟨rfl, ⟨htop.congr fun i hi => by rw [if_pos hi], fun i hi => hrows i hi, fun _ _ => gp_lt _⟩, hbel⟩
set_option maxHeartbeats 400000 in
theorem matrix_err (n : Int) (w : World) (h : n < 1 ∨ 13 < n) :
    Calls Try.prog 18 #[.int .i64 n] w fun e w' => e = .returned (.tuple #[.slice none 0 0, .int .i64 1]) ∧ w = w' := by
  have H := Lib.hid h
  clear h
  go_enter Try.func18, Try.ntmps18
  go_wp2_with (go_at_call 37; refine (dcount_f _ _ H.out).mono ?_; rintro e w' ⟨rfl, rfl⟩)
  go_ret2
  exact ⟨rfl, rfl⟩
end Go.Proofs.Ytfhgalfdlkdliaa
