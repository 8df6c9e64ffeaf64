/- Joined: Pg Ph Pi Lit Pl Po Rec Pq Ps. -/
import Derived.Test.YtheijobnmdbodaaPm
import Derived.Test.YtheijobnmdbodaaGE
import Derived.StillTailTactics
import Derived.Test.YtheijobnmdbodaaGH
import Derived.Laws.Cover3
import Derived.Test.YtheijobnmdbodaaGA
namespace Go.Proofs.Ytheijobnmdbodaa
open Go Go.RowKit
set_option linter.unusedVariables false

def matPost (n : Nat) (w : World) (e : Ending) (w' : World) : Prop :=
  e = .returned (.tuple #[.slice (some ⟨w.heap.size, 0, none⟩) 3 3, .int .i64 0]) ∧ Grid w' w.heap.size 3 n (fun j i => Gf.gpow 2 (j * i)) ∧ Below w.heap.size w w'
set_option maxHeartbeats 4000000 in
set_option maxRecDepth 100000 in
theorem matrix_ok (n : Nat) (w : World) (h1 : 1 ≤ n) (h13 : n ≤ 13) :
    Calls Try.prog 46 #[.int .i64 (n : Int)] w (matPost n w) := by
  have hm1 : ∀ w : World, (Instr.makeSlice 61 (.int .i64 3) (.int .i64 3)).run Try.prog w = .ok (.slice (some ⟨w.heap.size, 0, none⟩) 3 3) (w.alloc (.cells (madeCells #[.slice none 0 0] 3) 24)) := run_make_row' (P := Try.prog) 61 24 _ _ Try.underlying61 info_bytes rfl .i64 .i64 3 (by omega) (by omega)
  have hm2 := run_make_row' (P := Try.prog) 24 5 _ _ Try.underlying24 info_u8 rfl .i64 .i64 n (by omega) (by omega)
  go_enter Try.func46, Try.ntmps46
  go_wp2_with (go_at_call 53; refine (dcount_t _ _ (by omega) (by omega)).mono ?_; rintro e w' ⟨rfl, rfl⟩)
  go_loopw [5, 6, 13] (fun _ _ q wr => ∃ j : Nat, j ≤ 3 ∧ q = .int .i64 (j : Int) ∧ Hid (Below w.heap.size w wr ∧ wr.heap.size = w.heap.size + 1 + j ∧ wr.rowIs w.heap.size 24 3 (fun i => if i < j then .slice (some ⟨w.heap.size + 1 + i, 0, none⟩) n n else .slice none 0 0) ∧
    ∀ i, i < j → wr.rowIs (w.heap.size + 1 + i) 5 n (fun m => .int .u8 ((Gf.gpow 2 (i * m) : Nat) : Int)))) (fun _ _ q _ => 3 - (intOf q).toNat)
  case atStart =>
    refine ⟨0, Nat.zero_le _, rfl, Lib.hid ⟨(Below.refl _ _).alloc (Nat.le_refl _) _, by simp, ?_, fun i hi => absurd hi (Nat.not_lt_zero i)⟩⟩
    exact (World.rowIs_made w _ 3 _).congr fun i _ => by rw [if_neg (Nat.not_lt_zero i)]
  case round =>
    obtain ⟨j, hj, rfl, H⟩ := hrel
    by_cases hlt : j < 3
    · obtain ⟨hbel, hsz, htop, hrows⟩ := H.out
      have hjI : (j : Int) < 3 := by omega
      have q1 : ∀ o, (wr.alloc o).cell? ⟨w.heap.size, j, none⟩ = some (.slice none 0 0) := fun o => by
        have := (htop.alloc o).cell hlt
        rwa [if_neg (Nat.lt_irrefl j)] at this
      have q2 : ∀ o, (wr.alloc o).frozen? ⟨w.heap.size, j, none⟩ = false := fun o => (htop.alloc o).frozen j
      have HB := Lib.hid hbel
      have HS := Lib.hid hsz
      have HT := Lib.hid htop
      have HRS := Lib.hid hrows
      clear hbel hsz htop hrows
      go_wp2_with fail
      obtain ⟨W1, hW1⟩ : ∃ W1, (wr.alloc (.cells (madeCells #[.int .u8 0] n) 5)).setCell ⟨w.heap.size, j, none⟩ (.slice (some ⟨wr.heap.size, 0, none⟩) n n) = W1 := ⟨_, rfl⟩
      have hle : w.heap.size ≤ wr.heap.size := by have := HS.out; omega
      have z1 : Below w.heap.size w W1 := by rw [← hW1]; exact (HB.out.alloc hle _).setCell (Nat.le_refl _) _
      have z2 : W1.heap.size = w.heap.size + 1 + (j + 1) := by rw [← hW1]; simp [World.setCell, HS.out]; omega
      have z3 : W1.rowIs w.heap.size 24 3 (fun i => if i < j + 1 then .slice (some ⟨w.heap.size + 1 + i, 0, none⟩) n n else .slice none 0 0) := by
        rw [← hW1]
        refine ((HT.out.alloc _).set j _).congr fun i hi => ?_
        by_cases e : i = j
        · rw [if_pos e, if_pos (by omega), e, HS.out]
        · rw [if_neg e]
          by_cases e2 : i < j
          · rw [if_pos e2, if_pos (by omega)]
          · rw [if_neg e2, if_neg (by omega)]
      have z4 : ∀ i, i < j → W1.rowIs (w.heap.size + 1 + i) 5 n (fun m => .int .u8 ((Gf.gpow 2 (i * m) : Nat) : Int)) := fun i hi => by
        rw [← hW1]
        exact ((HRS.out i hi).alloc _).setOther (by show w.heap.size + 1 + i ≠ w.heap.size; omega) _
      have z5 : W1.rowIs (w.heap.size + 1 + j) 5 n (fun m => .int .u8 ((if m < 0 then Gf.gpow 2 (j * m) else 0 : Nat) : Int)) := by
        rw [← hW1]
        refine World.rowIs.setOther ?_ (by show w.heap.size + 1 + j ≠ w.heap.size; omega) _
        rw [← HS.out]
        exact (World.rowIs_made wr _ n _).congr fun i _ => by rw [if_neg (Nat.not_lt_zero i)]; rfl
      rw [hW1]
      have Z := Lib.hid (And.intro z1 (And.intro z2 (And.intro z3 (And.intro z4 z5))))
      clear hW1 z1 z2 z3 z4 z5 q1 q2 HB HS HT HRS hle
      go_loopw [6, 26] (fun _ q wq => ∃ k : Nat, k ≤ n ∧ q = .int .i64 (k : Int) ∧ Hid (Below w.heap.size w wq ∧ wq.heap.size = w.heap.size + 1 + (j + 1) ∧ wq.rowIs w.heap.size 24 3 (fun i => if i < j + 1 then .slice (some ⟨w.heap.size + 1 + i, 0, none⟩) n n else .slice none 0 0) ∧
        (∀ i, i < j → wq.rowIs (w.heap.size + 1 + i) 5 n (fun m => .int .u8 ((Gf.gpow 2 (i * m) : Nat) : Int))) ∧ wq.rowIs (w.heap.size + 1 + j) 5 n (fun m => .int .u8 ((if m < k then Gf.gpow 2 (j * m) else 0 : Nat) : Int)))) (fun _ q _ => n - (intOf q).toNat)
      case atStart => exact ⟨0, Nat.zero_le _, rfl, Z⟩
      case round =>
        obtain ⟨k, hk, rfl, H2⟩ := hrel
        by_cases hlt2 : k < n
        · have hkI : (k : Int) < (n : Int) := by omega
          obtain ⟨y1, y2, y3, y4, y5⟩ := H2.out
          have p1 := y3.cell hlt
          rw [if_pos (Nat.lt_succ_self j)] at p1
          have p2 := y5.cell hlt2
          rw [if_neg (Nat.lt_irrefl k)] at p2
          have f2 := y5.frozen k
          have B1 := Lib.hid y1
          have B2 := Lib.hid y2
          have B3 := Lib.hid y3
          have B4 := Lib.hid y4
          have B5 := Lib.hid y5
          have er : Gf.gpow 2 (red ((j * k : Nat) : Int)) = Gf.gpow 2 (j * k) := by
            have : j * k ≤ 2 * 13 := Nat.mul_le_mul (by omega) (by omega)
            rw [red_small _ (by omega)]
          have CO := Lib.hid (coef_any j k (by omega) (by omega))
          rw [er] at CO
          obtain ⟨x, hx⟩ : ∃ x, Gf.gpow 2 (j * k) = x := ⟨_, rfl⟩
          rw [hx] at CO
          have X := Lib.hid hx
          clear y1 y2 y3 y4 y5 er hx Z
          go_wp2
          refine wp_region_still_tail 9 (by kernel_rfl) (by kernel_rfl) ?_
          simp only [List.take_succ_cons, List.take_zero, List.drop_succ_cons, List.drop_zero]
          repeat (first | still_step | still_call ((CO.out _).mono fun _ _ h => ⟨h.1, h.2.symm⟩))
          refine wpStill_nil ?_
          change wpList _ _ _ _ _ wr.drew
          go_wp2
          go_roundw
          case rel =>
            refine ⟨k + 1, by omega, by go_num, Lib.hid ⟨(B1.out.drew).setCell (by show w.heap.size ≤ w.heap.size + 1 + j; omega) _, by simp [World.setCell]; exact B2.out, (B3.out.drew).setOther (by show w.heap.size ≠ w.heap.size + 1 + j; omega) _, fun i hi => (B4.out i hi).drew.setOther (by show w.heap.size + 1 + i ≠ w.heap.size + 1 + j; omega) _, ((B5.out.drew).set k _).congr fun m hm => ?_⟩⟩
            by_cases e : m = k
            · rw [if_pos e, if_pos (by omega), e, X.out]
            · rw [if_neg e]; (repeat' split) <;> first | rfl | omega
          case measure => simp [intOf]; omega
        · have ek : k = n := by omega
          have E := Lib.hid ek
          clear ek
          go_wp2
          go_roundw
          case rel =>
            obtain ⟨y1, y2, y3, y4, y5⟩ := H2.out
            refine ⟨j + 1, by omega, by go_num, Lib.hid ⟨y1, y2, y3, fun i hi => ?_⟩⟩
            rcases Nat.lt_or_ge i j with h | h
            · exact y4 i h
            · obtain rfl : i = j := by omega
              exact y5.congr fun m hm => by rw [if_pos (by rw [E.out]; exact hm)]
          case measure => simp [intOf]; omega
    · go_wp2
      go_ret2
      obtain ⟨hbel, hsz, htop, hrows⟩ := H.out
      obtain rfl : j = 3 := by omega
      exact ⟨rfl, ⟨htop.congr fun i hi => by rw [if_pos hi], fun i hi => hrows i hi, fun _ _ => gp_lt _⟩, hbel⟩
set_option maxHeartbeats 400000 in
theorem matrix_err (n : Int) (w : World) (h : n < 1 ∨ 13 < n) :
    Calls Try.prog 46 #[.int .i64 n] w fun e w' => e = .returned (.tuple #[.slice none 0 0, .int .i64 1]) ∧ w = w' := by
  have H := Lib.hid h
  clear h
  go_enter Try.func46, Try.ntmps46
  go_wp2_with (go_at_call 53; refine (dcount_f _ _ H.out).mono ?_; rintro e w' ⟨rfl, rfl⟩)
  go_ret2
  exact ⟨rfl, rfl⟩
end Go.Proofs.Ytheijobnmdbodaa
namespace Go.Proofs.Ytheijobnmdbodaa
open Go Go.RowKit
set_option linter.unusedVariables false
set_option linter.unusedSimpArgs false

/-- Parity block j after a change of data piece i from a to b. -/
def updX (D : List (List Nat)) (hD : ∀ d ∈ D, B8 d) (a b : Blk) (i j : Nat) : Blk := ⟨pmB (nth D hD j).1 (pmB a.1 b.1 1) (Gf.gpow 2 (j * i)), pmB_ok (nth D hD j).2 (pmB_ok a.2 b.2 (by decide)) (gp_lt _)⟩
def updPost (L : List Nat) (w : World) (e : Ending) (w' : World) : Prop := ∃ g, e = .returned (.tuple #[.slice (some ⟨g, 0, none⟩) 3 3, .int .i64 0]) ∧ w.heap.size ≤ g ∧ Row w' g 33 (bcs L) ∧ Below w.heap.size w w'
theorem below2 {w w' : World} {o o' : Obj} (h : Below ((w.alloc o).alloc o').heap.size ((w.alloc o).alloc o') w') : Below w.heap.size w w' := (((Below.refl w.heap.size w).alloc (Nat.le_refl _) o).alloc (by simp) o').trans (h.mono (by simp; omega))
theorem rep24 : List.replicate 24 0 = cat3 (fun _ => zeroB) := by decide
theorem make_blk3z (w : World) : (Instr.makeSlice 31 (.int .i64 3) (.int .i64 3)).run Try.prog w = .ok (.slice (some ⟨w.heap.size, 0, none⟩) 3 3) (w.alloc (.cells (bcs (cat3 fun _ => zeroB)) 33)) := by rw [← rep24]; exact make_blk3 w
end Go.Proofs.Ytheijobnmdbodaa
namespace Go.Proofs.Ytheijobnmdbodaa
open Go Go.RowKit
set_option linter.unusedVariables false
set_option linter.unusedSimpArgs false

theorem flat_inj : ∀ {D E : List (List Nat)}, (∀ d ∈ D, d.length = 8) → (∀ d ∈ E, d.length = 8) → D.length = E.length → D.flatten = E.flatten → D = E
  | [], [], _, _, _, _ => rfl
  | [], _ :: _, _, _, h, _ => by cases h
  | _ :: _, [], _, _, h, _ => by cases h
  | d :: r, e :: s, h1, h2, h, hf => by
    rw [List.flatten_cons, List.flatten_cons] at hf
    obtain ⟨a, b⟩ := List.append_inj hf ((h1 d List.mem_cons_self).trans (h2 e List.mem_cons_self).symm)
    rw [a, flat_inj (fun x hx => h1 x (List.mem_cons_of_mem _ hx)) (fun x hx => h2 x (List.mem_cons_of_mem _ hx)) (by simpa using h) b]
theorem chk_flat {D : List (List Nat)} (hD : ∀ d ∈ D, B8 d) (h4 : 4 ≤ D.length) (h16 : D.length ≤ 16) : chk D = decide ((parL (D.take (D.length - 3))).flatten = (D.drop (D.length - 3)).flatten) := by
  unfold chk
  refine decide_eq_decide.2 ⟨fun h => ?_, fun h => ⟨h4, h16, ?_⟩⟩
  · have := h.2.2
    conv at this => lhs; rw [← List.take_append_drop (D.length - 3) D]
    rw [List.append_cancel_left this]
  · have e := flat_inj (fun d hd => (parL_ok _ d hd).1) (fun d hd => (hD d (List.mem_of_mem_drop hd)).1) (by simp [parL]; omega) h
    rw [e, List.take_append_drop]
theorem cat3_drop {E : List (List Nat)} (hE : ∀ d ∈ E, B8 d) (h3 : E.length = 3) : cat3 (nth E hE) = E.flatten := by
  match E, h3, hE with
  | [a, b, c], _, _ => simp [cat3, nth]
theorem eql24 (S T : Nat → Blk) (w : World) : (binOp .eql 49 (.agg (bcs (cat3 S))) (.agg (bcs (cat3 T)))).run Try.prog w = .ok (.bool (decide (cat3 S = cat3 T))) w := by
  rw [run_eql_struct, eq24 9997 S T]; rfl

theorem drop_range {w : World} {b off : Nat} {D : List (List Nat)} (h : w.rangeAt b off (D.flatten.map bv)) (hD : ∀ d ∈ D, B8 d) (m : Nat) (hm : m ≤ D.length) : w.rangeAt b (off + m * 8) ((D.drop m).flatten.map bv) := fun j u hu => by
  rw [Nat.add_assoc]
  refine h (m * 8 + j) u ?_
  have e : D.flatten = (D.take m).flatten ++ (D.drop m).flatten := by rw [← List.flatten_append, List.take_append_drop]
  have l : (D.take m).flatten.length = m * 8 := by rw [flat_len fun d hd => (hD d (List.mem_of_mem_take hd)).1, List.length_take]; omega
  rw [e, List.map_append, List.getElem?_append_right (by rw [List.length_map, l]; omega), List.length_map, l, Nat.add_sub_cancel_left]; exact hu
theorem take_bl {w : World} {b off c n m : Nat} {D : List (List Nat)} (hr : w.rangeAt b off (D.flatten.map bv)) (hD : ∀ d ∈ D, B8 d) (hn : D.length = n) (hc : n ≤ c ∧ c ≤ maxLen) (hm : m ≤ n) : Bl w (.slice (some ⟨b, off, none⟩) m c) (D.take m) := by
  have l1 : (D.take m).length = m := by rw [List.length_take]; omega
  refine ⟨_, c, by rw [l1], ⟨by omega, hc.2⟩, fun d hd => hD d (List.mem_of_mem_take hd), fun e => (by cases e), fun _ => ⟨b, off, rfl, fun j u hu => ?_⟩⟩
  refine hr j u ?_
  obtain ⟨t, ht⟩ : ∃ t, D.flatten = (D.take m).flatten ++ t := ⟨(D.drop m).flatten, by rw [← List.flatten_append, List.take_append_drop]⟩
  rw [ht, List.map_append, List.getElem?_append_left (List.getElem?_eq_some_iff.1 hu).1]; exact hu

end Go.Proofs.Ytheijobnmdbodaa
namespace Go.Proofs.Ytheijobnmdbodaa
open Go Go.RowKit

theorem bs_lit (w : World) (x y n : Nat) (hn : w.heap.size = n) (hx : x < 256) (hy : y < 256) : Bs (w.alloc (.cells #[.int .u8 (x : Int), .int .u8 (y : Int)] 5)) (.slice (some ⟨n, 0, none⟩) 2 2) [x, y] := by
  subst hn
  refine Bs.of_row (t := 5) (heap_alloc_new w _) rfl ⟨by decide, by decide⟩ (by intro z hz; simp at hz; omega) fun k hk => ?_
  match k, hk with
  | 0, _ => rfl
  | 1, _ => rfl
theorem ms_lit2 (w : World) (n : Nat) (hn : w.heap.size = n) (a b c d : Nat) (ha : a < 256) (hb : b < 256) (hc : c < 256) (hd : d < 256) :
    Ms (((w.alloc (.cells #[.int .u8 (a : Int), .int .u8 (b : Int)] 5)).alloc (.cells #[.int .u8 (c : Int), .int .u8 (d : Int)] 5)).alloc (.cells #[.slice (some ⟨n, 0, none⟩) 2 2, .slice (some ⟨n + 1, 0, none⟩) 2 2] 24)) (.slice (some ⟨n + 2, 0, none⟩) 2 2) [[a, b], [c, d]] := by
  have h1 := ((bs_lit w a b n hn ha hb).alloc (.cells #[.int .u8 (c : Int), .int .u8 (d : Int)] 5)).alloc (.cells #[.slice (some ⟨n, 0, none⟩) 2 2, .slice (some ⟨n + 1, 0, none⟩) 2 2] 24)
  have h2 := (bs_lit (w.alloc (.cells #[.int .u8 (a : Int), .int .u8 (b : Int)] 5)) c d (n + 1) (by simp [hn]) hc hd).alloc (.cells #[.slice (some ⟨n, 0, none⟩) 2 2, .slice (some ⟨n + 1, 0, none⟩) 2 2] 24)
  have hz : (((w.alloc (.cells #[.int .u8 (a : Int), .int .u8 (b : Int)] 5)).alloc (.cells #[.int .u8 (c : Int), .int .u8 (d : Int)] 5)).heap.size) = n + 2 := by simp [hn]
  have hrow := heap_alloc_new ((w.alloc (.cells #[.int .u8 (a : Int), .int .u8 (b : Int)] 5)).alloc (.cells #[.int .u8 (c : Int), .int .u8 (d : Int)] 5)) (.cells #[.slice (some ⟨n, 0, none⟩) 2 2, .slice (some ⟨n + 1, 0, none⟩) 2 2] 24)
  rw [hz] at hrow
  refine ⟨_, 2, rfl, ⟨Nat.le_refl 2, by decide⟩, fun h => (by cases h), fun _ => ⟨n + 2, 0, rfl, fun k hk => ?_⟩⟩
  rw [cell_of_row _ _ _ _ _ _ hrow]
  match k, hk with
  | 0, _ => exact ⟨_, rfl, h1⟩
  | 1, _ => exact ⟨_, rfl, h2⟩
theorem ms_lit3 (w : World) (n : Nat) (hn : w.heap.size = n) (a b c d e f : Nat) (ha : a < 256) (hb : b < 256) (hc : c < 256) (hd : d < 256) (he : e < 256) (hf : f < 256) :
    Ms ((((w.alloc (.cells #[.int .u8 (a : Int), .int .u8 (b : Int)] 5)).alloc (.cells #[.int .u8 (c : Int), .int .u8 (d : Int)] 5)).alloc (.cells #[.int .u8 (e : Int), .int .u8 (f : Int)] 5)).alloc (.cells #[.slice (some ⟨n, 0, none⟩) 2 2, .slice (some ⟨n + 1, 0, none⟩) 2 2, .slice (some ⟨n + 2, 0, none⟩) 2 2] 24)) (.slice (some ⟨n + 3, 0, none⟩) 3 3) [[a, b], [c, d], [e, f]] := by
  have h1 := (((bs_lit w a b n hn ha hb).alloc (.cells #[.int .u8 (c : Int), .int .u8 (d : Int)] 5)).alloc (.cells #[.int .u8 (e : Int), .int .u8 (f : Int)] 5)).alloc (.cells #[.slice (some ⟨n, 0, none⟩) 2 2, .slice (some ⟨n + 1, 0, none⟩) 2 2, .slice (some ⟨n + 2, 0, none⟩) 2 2] 24)
  have h2 := ((bs_lit (w.alloc (.cells #[.int .u8 (a : Int), .int .u8 (b : Int)] 5)) c d (n + 1) (by simp [hn]) hc hd).alloc (.cells #[.int .u8 (e : Int), .int .u8 (f : Int)] 5)).alloc (.cells #[.slice (some ⟨n, 0, none⟩) 2 2, .slice (some ⟨n + 1, 0, none⟩) 2 2, .slice (some ⟨n + 2, 0, none⟩) 2 2] 24)
  have h3 := (bs_lit ((w.alloc (.cells #[.int .u8 (a : Int), .int .u8 (b : Int)] 5)).alloc (.cells #[.int .u8 (c : Int), .int .u8 (d : Int)] 5)) e f (n + 2) (by simp [hn]) he hf).alloc (.cells #[.slice (some ⟨n, 0, none⟩) 2 2, .slice (some ⟨n + 1, 0, none⟩) 2 2, .slice (some ⟨n + 2, 0, none⟩) 2 2] 24)
  have hz : ((((w.alloc (.cells #[.int .u8 (a : Int), .int .u8 (b : Int)] 5)).alloc (.cells #[.int .u8 (c : Int), .int .u8 (d : Int)] 5)).alloc (.cells #[.int .u8 (e : Int), .int .u8 (f : Int)] 5)).heap.size) = n + 3 := by simp [hn]
  have hrow := heap_alloc_new (((w.alloc (.cells #[.int .u8 (a : Int), .int .u8 (b : Int)] 5)).alloc (.cells #[.int .u8 (c : Int), .int .u8 (d : Int)] 5)).alloc (.cells #[.int .u8 (e : Int), .int .u8 (f : Int)] 5)) (.cells #[.slice (some ⟨n, 0, none⟩) 2 2, .slice (some ⟨n + 1, 0, none⟩) 2 2, .slice (some ⟨n + 2, 0, none⟩) 2 2] 24)
  rw [hz] at hrow
  refine ⟨_, 3, rfl, ⟨Nat.le_refl 3, by decide⟩, fun h => (by cases h), fun _ => ⟨n + 3, 0, rfl, fun k hk => ?_⟩⟩
  rw [cell_of_row _ _ _ _ _ _ hrow]
  match k, hk with
  | 0, _ => exact ⟨_, rfl, h1⟩
  | 1, _ => exact ⟨_, rfl, h2⟩
  | 2, _ => exact ⟨_, rfl, h3⟩
end Go.Proofs.Ytheijobnmdbodaa
namespace Go.Proofs.Ytheijobnmdbodaa
open Go Go.RowKit
set_option linter.unusedVariables false

theorem al1 {w w' : World} {o : Obj} (h : Below (w.alloc o).heap.size (w.alloc o) w') : Below w.heap.size w w' := ((Below.refl w.heap.size w).alloc (Nat.le_refl _) o).trans (h.mono (by simp))
theorem Bl.to {w w' : World} {v : Value} {D : List (List Nat)} (h : Bl w v D) (hb : Below w.heap.size w w') : Bl w' v D := h.below hb (Nat.le_refl _)
theorem OwnB.to {w w' : World} {base : Nat} {v : Value} {D : List (List Nat)} (h : OwnB w base v D) (hb : Below w.heap.size w w') : OwnB w' base v D := h.below hb (Nat.le_refl _)
/-- The call answers v, and all that stood stands. -/
def bPost (v : Value) (w : World) (e : Ending) (w' : World) : Prop := e = .returned v ∧ Below w.heap.size w w'
theorem Msto {w w' : World} {v : Value} {m : List (List Nat)} (h : Ms w v m) (hb : Below w.heap.size w w') : Ms w' v m := Sl.keeps Bs.keeps _ _ _ _ h (Below.toSame hb)
theorem same_b (v1 v2 : Value) (D1 D2 : List (List Nat)) (b : Bool) (w : World) (h1 : Bl w v1 D1) (h2 : Bl w v2 D2) (hb : decide (D1 = D2) = b) : Calls Try.prog 21 #[v1, v2] w (bPost (.bool b) w) :=
  (same_bl v1 v2 D1 D2 w h1 h2).mono fun _ _ ⟨he, hd⟩ => ⟨by rw [he, hb], hd.below _⟩
/-- Encode's three blocks. -/
def encL (P : List (List Nat)) (w : World) (e : Ending) (w' : World) : Prop := ∃ g, e = .returned (.tuple #[.slice (some ⟨g, 0, none⟩) 3 3, .int .i64 0]) ∧ w.heap.size ≤ g ∧ Bl w' (.slice (some ⟨g, 0, none⟩) 3 3) P ∧ Below w.heap.size w w'
theorem encode_b (v : Value) (D P : List (List Nat)) (w : World) (h : Bl w v D) (h1 : 1 ≤ D.length) (h13 : D.length ≤ 13) (hP : parL D = P) : Calls Try.prog 42 #[v] w (encL P w) :=
  (encode_ok v D w h h1 h13).mono fun _ _ ⟨g, he, hg, hr, hb⟩ => ⟨g, he, hg, hP ▸ Bl.par hr, hb⟩
theorem bl_lit (w : World) (cs : Array Value) (D : List (List Nat)) (n : Nat) (hc : cs = bcs D.flatten) (hD : D.all (fun d => d.length == 8 && d.all (· < 256)) = true) (hn : D.length = n) (hm : n ≤ 1000) : Bl (w.alloc (.cells cs 33)) (.slice (some ⟨w.heap.size, 0, none⟩) n n) D := by
  refine Bl.of_row (t := 33) (by rw [hc]; exact row_new w _ _) (fun d hd => ?_) hn (Nat.le_refl _) (by unfold maxLen; omega)
  have := List.all_eq_true.1 hD d hd
  rw [Bool.and_eq_true, beq_iff_eq, List.all_eq_true] at this
  exact ⟨this.1, fun x hx => by simpa using this.2 x hx⟩
def mat2 : List (List Nat) := [[1, 1], [1, 2], [1, 4]]
theorem mat2_eq : gridL 3 2 (fun j i => Gf.gpow 2 (j * i)) = mat2 := by decide +kernel
def exD : List (List Nat) := [[3, 0, 0, 0, 0, 0, 0, 0], [5, 0, 0, 0, 0, 0, 0, 0]]
def exP : List (List Nat) := [[6, 0, 0, 0, 0, 0, 0, 0], [9, 0, 0, 0, 0, 0, 0, 0], [23, 0, 0, 0, 0, 0, 0, 0]]
def exG : List (List Nat) := [[3, 0, 0, 0, 0, 0, 0, 0], [5, 0, 0, 0, 0, 0, 0, 0], [6, 0, 0, 0, 0, 0, 0, 0], [9, 0, 0, 0, 0, 0, 0, 0], [23, 0, 0, 0, 0, 0, 0, 0]]
def exF : List (List Nat) := [[3, 0, 0, 0, 0, 0, 0, 0], [5, 0, 0, 0, 0, 0, 0, 0], [6, 0, 0, 0, 0, 0, 0, 0], [9, 0, 0, 0, 0, 0, 0, 0], [24, 0, 0, 0, 0, 0, 0, 0]]
theorem exP_eq : parL exD = exP := by decide +kernel
theorem exG_eq : chk exG = true := by decide +kernel
theorem exF_eq : chk exF = false := by decide +kernel
end Go.Proofs.Ytheijobnmdbodaa
namespace Go.Proofs.Ytheijobnmdbodaa
open Go Go.RowKit Lin
set_option linter.unusedVariables false

theorem scl_b (c : Nat) (a s : List Nat) (w : World) (hc : c < 256) (ha : B8 a) (hs : sclB c a = s) : Calls Try.prog 38 #[.int .u8 (c : Int), .agg (bcs a)] w (bPost (.agg (bcs s)) w) :=
  (scl_blk c a w hc ha).mono fun _ _ ⟨he, hb⟩ => ⟨by rw [he, hs]; rfl, hb⟩
theorem xor_b (a b s : List Nat) (w : World) (ha : B8 a) (hb : B8 b) (hs : xorB a b = s) : Calls Try.prog 26 #[.agg (bcs a), .agg (bcs b)] w (bPost (.agg (bcs s)) w) :=
  (xor_blk a b w ha hb).mono fun _ _ ⟨he, hb⟩ => ⟨by rw [he, hs]; rfl, hb⟩
theorem Bl.at8 {w : World} {b off n c : Nat} {D : List (List Nat)} (h : Bl w (.slice (some ⟨b, off, none⟩) n c) D) {i : Nat} (hi : i < D.length) : At8 w b (off + i * 8) (D.getD i []) := by
  obtain ⟨b', off', c', hv, -, -, hr⟩ := h.at_ (by omega)
  injection hv with e1 e2 e3
  injection e1 with e1
  injection e1 with e4 e5 e6
  subst e4 e5
  have := range_at8 hr h.ok hi
  rw [getD_in hi]
  exact this
theorem el_zero (k : Nat) (D : List (List Nat)) : el (zeroB.1 :: D) 0 k = 0 := by
  show zeroB.1.getD k 0 = 0
  rcases Nat.lt_or_ge k 8 with h | h
  · exact blk_at (fun _ => 0) h
  · rw [getD_out (by rw [zeroB.2.1]; exact h)]
theorem par_shift (D : List (List Nat)) (hD : ∀ d ∈ D, B8 d) (j k : Nat) : par (zeroB.1 :: D) j k = Gf.mul (Gf.gpow 2 j) (par D j k) := by
  unfold par
  rw [List.length_cons, xs_head, el_zero, Gf.mul_zero, Nat.zero_xor, mul_xs]
  refine xs_congr _ _ _ fun i _ => ?_
  show Gf.mul (Gf.gpow 2 (j * (i + 1))) (el D i k) = _
  rw [Nat.mul_succ, Nat.add_comm, Gf.gpow_add _ _ _ (by decide), Gf.mul_assoc _ _ _ (gp_lt _) (gp_lt _) (el_lt hD i k)]
theorem parL_shift (D : List (List Nat)) (hD : ∀ d ∈ D, B8 d) : parL (zeroB.1 :: D) = [parB D 0, sclB 2 (parB D 1), sclB 4 (parB D 2)] := by
  have e : ∀ j, parB (zeroB.1 :: D) j = sclB (Gf.gpow 2 j) (parB D j) := fun j => blk_congr fun k hk => by
    rw [par_shift D hD, parB, blk_at _ hk]
  have e0 : sclB 1 (parB D 0) = parB D 0 := B8.ext (sclB_ok (by decide) (parB_ok D 0)) (parB_ok D 0) fun k hk => by rw [sclB, blk_at _ hk, Gf.one_mul _ ((parB_ok D 0).lt k)]
  have g1 : Gf.gpow 2 1 = 2 := by decide
  have g2 : Gf.gpow 2 2 = 4 := by decide
  have g0 : Gf.gpow 2 0 = 1 := rfl
  unfold parL
  rw [e, e, e, g0, g1, g2, e0]
theorem parL_tail (D : List (List Nat)) : parL (D ++ [zeroB.1]) = parL D := by
  have e : ∀ j, parB (D ++ [zeroB.1]) j = parB D j := fun j => blk_congr fun k hk => by
    unfold par
    rw [List.length_append, List.length_singleton, xs_succ, el_app_r _ (Nat.le_refl _), Nat.sub_self, el_zero, Gf.mul_zero, Nat.xor_zero]
    exact xs_congr _ _ _ fun i hi => by rw [el_app_l k hi]
  unfold parL
  rw [e, e, e]
theorem zlit : (#[.int .u8 0, .int .u8 0, .int .u8 0, .int .u8 0, .int .u8 0, .int .u8 0, .int .u8 0, .int .u8 0] : Array Value) = bcs [zeroB.1].flatten := rfl
theorem own_lit {w : World} {base : Nat} (hb : base ≤ w.heap.size) (cs : Array Value) (hc : cs = bcs [zeroB.1].flatten) : OwnB (w.alloc (.cells cs 33)) base (.slice (some ⟨w.heap.size, 0, none⟩) 1 1) [zeroB.1] := by
  refine ⟨fun d hd => ?_, rfl, Or.inr ⟨w.heap.size, 1, cs, rfl, hb, heap_alloc_new w _, Nat.le_refl _, by decide, by rw [hc]; rfl, by rw [hc]; rfl⟩⟩
  rw [List.mem_singleton.1 hd]; exact zeroB.2
end Go.Proofs.Ytheijobnmdbodaa
namespace Go.Proofs.Ytheijobnmdbodaa
open Go Go.RowKit
set_option linter.unusedVariables false

theorem flatm_at {α : Type} {m : Nat} : ∀ {D : List (List α)}, (∀ d ∈ D, d.length = m) → ∀ {i : Nat} (hi : i < D.length) {j : Nat}, j < m → D.flatten[i * m + j]? = D[i][j]?
  | d :: r, h, 0, _, j, hj => by
    rw [List.flatten_cons, Nat.zero_mul, Nat.zero_add, List.getElem?_append_left (by rw [h d List.mem_cons_self]; exact hj)]; rfl
  | d :: r, h, i + 1, hi, j, hj => by
    have h8 := h d List.mem_cons_self
    rw [List.flatten_cons, List.getElem?_append_right (by rw [h8, Nat.succ_mul]; omega), h8]
    have := flatm_at (fun x hx => h x (List.mem_cons_of_mem _ hx)) (i := i) (by simpa using hi) hj
    rw [show (i + 1) * m + j - m = i * m + j by rw [Nat.succ_mul]; omega, this]
    rfl
theorem flatm_len {α : Type} {m : Nat} : ∀ {D : List (List α)}, (∀ d ∈ D, d.length = m) → D.flatten.length = D.length * m
  | [], _ => by simp
  | d :: r, h => by
    rw [List.flatten_cons, List.length_append, flatm_len (fun x hx => h x (List.mem_cons_of_mem _ hx)), h d List.mem_cons_self, List.length_cons, Nat.succ_mul]; omega
/-- A record's cells. -/
def rec1 (k : Int) (b : Blk) : List Value := .int .i64 k :: b.1.map bv
theorem rec1_len (k : Int) (b : Blk) : (rec1 k b).length = 9 := by simp [rec1, b.2.1]
def recs (n : Nat) (K : Nat → Int) (B : Nat → Blk) : List Value := ((List.range n).map fun i => rec1 (K i) (B i)).flatten
theorem recs_len (n : Nat) (K : Nat → Int) (B : Nat → Blk) : (recs n K B).length = n * 9 := by
  rw [recs, flatm_len (m := 9) (by simp [rec1_len])]; simp
theorem recs_at {n : Nat} (K : Nat → Int) (B : Nat → Blk) {i j : Nat} (hi : i < n) (hj : j < 9) : (recs n K B)[i * 9 + j]? = (rec1 (K i) (B i))[j]? := by
  rw [recs, flatm_at (m := 9) (by simp [rec1_len]) (by simpa using hi) hj]; simp
theorem recs_key {w : World} {b off n : Nat} {K : Nat → Int} {B : Nat → Blk} (h : w.rangeAt b off (recs n K B)) {i : Nat} (hi : i < n) : w.cell? ⟨b, off + i * 9, none⟩ = some (.int .i64 (K i)) :=
  h (i * 9) _ ((recs_at K B hi (j := 0) (by decide)).trans rfl)
theorem recs_blk {w : World} {b off n : Nat} {K : Nat → Int} {B : Nat → Blk} (h : w.rangeAt b off (recs n K B)) {i : Nat} (hi : i < n) : At8 w b (off + i * 9 + 1) (B i).1 := fun j v hv => by
  have hj : j < 8 := by
    have := (List.getElem?_eq_some_iff.1 hv).1
    rw [List.length_map, (B i).2.1] at this; exact this
  rw [show off + i * 9 + 1 + j = off + (i * 9 + (1 + j)) by omega]
  refine h _ v ((recs_at K B hi (j := 1 + j) (by omega)).trans ?_)
  rw [rec1, Nat.add_comm 1 j, List.getElem?_cons_succ]; exact hv
theorem rangeTo {w w' : World} {b off : Nat} {cs : List Value} (h : w.rangeAt b off cs) (hb : Below w.heap.size w w') : w'.rangeAt b off cs := fun j v hv => (hb.cell (World.block_lt_of_cell? w _ (h j v hv))).trans (h j v hv)
theorem Row.range_ {w : World} {g : Nat} {t : TypeId} {l : List Value} (h : Row w g t l.toArray) : w.rangeAt g 0 l := fun j v hv => by
  rw [Nat.zero_add, h.cell]; simpa using hv

theorem OwnB.form {w : World} {base : Nat} {v : Value} {D : List (List Nat)} (h : OwnB w base v D) (hn : 0 < D.length) : ∃ g cap, v = .slice (some ⟨g, 0, none⟩) D.length cap ∧ base ≤ g ∧ g < w.heap.size := h.2.form hn
theorem OwnB.there {w : World} {base g n cap : Nat} {D : List (List Nat)} (h : OwnB w base (.slice (some ⟨g, 0, none⟩) n cap) D) {i : Nat} (hi : i < D.length) : w.there g (i * 8) 8 := by
  obtain ⟨hD, hl, h⟩ := h
  rcases h with ⟨h, _⟩ | ⟨g', cap', cur, hv, hg, hh, hle, hm, hs, ht⟩
  · cases h
  · injection hv with e1 e2 e3
    injection e1 with e1
    injection e1 with e4 e5 e6
    subst e4
    have hr : Row w g 33 cur := hh
    exact fun j hj => ⟨by rw [hr.cell, Array.getElem?_eq_getElem (by omega)]; rfl, hr.frozen _⟩
theorem OwnB.set {w : World} {base g n cap : Nat} {D : List (List Nat)} (h : OwnB w base (.slice (some ⟨g, 0, none⟩) n cap) D) {i : Nat} (hi : i < D.length) {b : List Nat} (hb : B8 b) : OwnB (w.setCells g (i * 8) (b.map bv)) base (.slice (some ⟨g, 0, none⟩) n cap) (D.set i b) := by
  obtain ⟨hD, hl, h⟩ := h
  rcases h with ⟨h, _⟩ | ⟨g', cap', cur, hv, hg, hh, hle, hm, hs, ht⟩
  · cases h
  · injection hv with e1 e2 e3
    injection e1 with e1
    injection e1 with e4 e5 e6
    subst e4 e2 e3
    have hr : Row w g 33 cur := hh
    obtain ⟨cs', h1, h2, h3⟩ := hr.puts (vs := b.map bv) (o := i * 8)
    have hD' : ∀ d ∈ D.set i b, B8 d := fun d hd => by
      rcases List.mem_or_eq_of_mem_set hd with h | rfl
      · exact hD d h
      · exact hb
    refine ⟨hD', by rw [List.length_map, flat_len fun d hd => (hD' d hd).1], Or.inr ⟨g, cap, cs', by rw [List.length_set], hg, h1, by rw [List.length_set]; exact hle, hm, by omega, ?_⟩⟩
    rw [List.length_set]
    refine List.ext_getElem? fun p => ?_
    rcases Nat.lt_or_ge p (D.length * 8) with hp | hp
    · rw [List.getElem?_take_of_lt hp, Array.getElem?_toList, h3 p (by omega), List.length_map, hb.1]
      have h8 : p % 8 < 8 := Nat.mod_lt _ (by decide)
      have ep : p / 8 * 8 + p % 8 = p := by omega
      have e1 := flat_at (fun d hd => (hD' d hd).1) (i := p / 8) (by rw [List.length_set]; omega) h8
      have e2 := flat_at (fun d hd => (hD d hd).1) (i := p / 8) (by omega) h8
      rw [ep] at e1 e2
      have e1m : ((D.set i b).flatten.map bv)[p]? = (((D.set i b)[p / 8]'(by rw [List.length_set]; omega)).map bv)[p % 8]? := by rw [List.getElem?_map, e1, ← List.getElem?_map]
      rw [e1m]
      by_cases e : p / 8 = i
      · subst e
        rw [if_pos (by omega), show p - p / 8 * 8 = p % 8 by omega]
        simp
      · rw [if_neg (by omega)]
        have : cur[p]? = (D.flatten.map bv)[p]? := by
          rw [← ht, List.getElem?_take_of_lt hp]; simp
        rw [this, List.getElem?_map, e2, List.getElem_set_ne (fun x => e x.symm), ← List.getElem?_map]
    · rw [List.getElem?_eq_none (by have := List.length_take_le (D.length * 8) cs'.toList; omega), List.getElem?_eq_none (by rw [List.length_map, flat_len fun d hd => (hD' d hd).1, List.length_set]; omega)]
end Go.Proofs.Ytheijobnmdbodaa
namespace Go.Proofs.Ytheijobnmdbodaa
open Go Go.RowKit Lin
set_option linter.unusedVariables false

theorem cat3_of {S : Nat → Blk} {D : List (List Nat)} (h : ∀ j, j < 3 → (S j).1 = parB D j) : cat3 S = (parL D).flatten := by
  unfold cat3 parL
  rw [h 0 (by decide), h 1 (by decide), h 2 (by decide)]
  simp
theorem upd_eq {D : List (List Nat)} (hD : ∀ d ∈ D, B8 d) (hP : ∀ d ∈ parL D, B8 d) {i : Nat} (hi : i < D.length) (a b : Blk) (ha : a.1 = D.getD i []) : cat3 (updX (parL D) hP a b i) = (parL (D.set i b.1)).flatten := by
  refine cat3_of fun j hj => B8.ext (updX (parL D) hP a b i j).2 (parB_ok _ _) fun k hk => ?_
  have e1 : (nth (parL D) hP j).1 = parB D j := by
    show (parL D).getD j zeroB.1 = _
    match j, hj with
    | 0, _ => rfl
    | 1, _ => rfl
    | 2, _ => rfl
  have e2 : (pmB a.1 b.1 1).getD k 0 = el D i k ^^^ b.1.getD k 0 := by
    rw [pmB, blk_at _ hk, Gf.mul_one _ (b.2.lt k), ha]; rfl
  show (pmB (nth (parL D) hP j).1 (pmB a.1 b.1 1) (Gf.gpow 2 (j * i))).getD k 0 = (parB (D.set i b.1) j).getD k 0
  rw [pmB, blk_at _ hk, e1, e2, parB, blk_at _ hk, parB, blk_at _ hk, par_set hD hi b.2]
def updAny (w : World) (e : Ending) (w' : World) : Prop := ∃ g, e = .returned (.tuple #[.slice (some ⟨g, 0, none⟩) 3 3, .int .i64 0]) ∧ Below w.heap.size w w'
theorem rparity_b (v : Value) (D P : List (List Nat)) (w : World) (h : Bl w v D) (hl : D.length ≤ 200) (hP : parL D = P) : Calls Try.prog 43 #[v] w fun e w' => ∃ g, e = .returned (.slice (some ⟨g, 0, none⟩) 3 3) ∧ Bl w' (.slice (some ⟨g, 0, none⟩) 3 3) P ∧ Below w.heap.size w w' :=
  (rparity_any v D w h hl).mono fun _ _ ⟨he, hr, hb⟩ => ⟨w.heap.size, he, hP ▸ Bl.par hr, hb⟩
theorem Bl.cap {w : World} {A : Option Addr} {n c : Nat} {D : List (List Nat)} (h : Bl w (.slice A n c) D) : n ≤ c := by
  obtain ⟨_, _, hv, hm, _⟩ := h
  injection hv with e1 e2 e3
  subst e2 e3
  exact hm.1
theorem take_own {w : World} {b n m c : Nat} {D : List (List Nat)} (h : Bl w (.slice (some ⟨b, 0, none⟩) n c) D) (hn : D.length = n) (hm : m ≤ n) (hp : 0 < n) : Bl w (.slice (some ⟨b, 0, none⟩) m c) (D.take m) := by
  obtain ⟨b', off', c', hv, hc, -, hr⟩ := h.at_ (by omega)
  injection hv with e1 e2 e3
  injection e1 with e1
  injection e1 with e4 e5 e6
  subst e4 e5 e3
  rw [hn] at hc
  exact take_bl hr h.ok hn hc hm
end Go.Proofs.Ytheijobnmdbodaa
namespace Go.Proofs.Ytheijobnmdbodaa
open Go Go.RowKit Lin
set_option linter.unusedVariables false

section
variable {w : World}
/-- 'append(x, b)' at the operation: where the new list lies. -/
theorem wp_push_bl {o : Oper} {a : Act} {K : Act → World → Prop} {Q : Exit → Act → World → Prop} (s x : Operand)
    (ho : o.op = .call { callee := .builtin .append, args := #[s, x], argTypes := #[31, 31] })
    (base : Nat) (v : Value) (D : List (List Nat)) (n : Nat) (b : List Nat) (bl c : Nat) (hs : a.eval s = v) (hown : OwnB w base v D) (hn : D.length = n) (hx : a.eval x = .slice (some ⟨bl, 0, none⟩) 1 c) (hsrc : Bl w (.slice (some ⟨bl, 0, none⟩) 1 c) [b]) (hlen : n ≤ 1000) (hbase : base ≤ w.heap.size)
    (h : ∀ g cap w', OwnB w' base (.slice (some ⟨g, 0, none⟩) (n + 1) cap) (D ++ [b]) → w.grownBy w' v.ownBlock → (v.ownBlock = some g ∨ g = w.heap.size) → g < w'.heap.size → K (a.put o.dst (.slice (some ⟨g, 0, none⟩) (n + 1) cap)) w') : o.wp Try.prog a w K Q := by
  subst hn
  obtain ⟨i, hi, hzz⟩ := Option.map_eq_some_iff.1 info_blk
  simp only [Prod.mk.injEq] at hzz
  obtain ⟨hz, hsz, hby⟩ := hzz
  have hb : B8 b := hsrc.ok b List.mem_cons_self
  have hr := hsrc.at8 (i := 0) (by simp)
  refine wp_append_lies w s x _ ho base _ i _ 8 8 Try.underlying31 hi hz hsz hby rfl (by decide) v D.length _ hs hown.2 ⟨bl, 0, none⟩ 1 c (b.map bv) hx (by rw [List.length_map, hb.1]) (fun j u hu => ?_) bv_one (by decide) (by unfold maxLen; omega) (by omega) hbase _ rfl fun g cap w' h1 h2 h3 h4 => h g cap w' ⟨fun d hd => ?_, ?_⟩ h2 h3 h4
  · have := hr j u hu
    rw [Go.WideShapes.add_plain]; rw [Nat.zero_mul, Nat.add_zero] at this; exact this
  · rcases List.mem_append.1 hd with hd | hd
    · exact hown.1 d hd
    · rw [List.mem_singleton.1 hd]; exact hb
  · rw [List.length_append, List.flatten_append, List.map_append, List.length_singleton]
    simpa using h1
theorem wpList_push_bl {ops : Array Oper} {rest : List Oper} {o : Oper} {a : Act} {Q : Exit → Act → World → Prop} (hgd : o.guard = none) (s x : Operand)
    (ho : o.op = .call { callee := .builtin .append, args := #[s, x], argTypes := #[31, 31] })
    (base : Nat) (v : Value) (D : List (List Nat)) (n : Nat) (b : List Nat) (bl c : Nat) (hs : a.eval s = v) (hown : OwnB w base v D) (hn : D.length = n) (hx : a.eval x = .slice (some ⟨bl, 0, none⟩) 1 c) (hsrc : Bl w (.slice (some ⟨bl, 0, none⟩) 1 c) [b]) (hlen : n ≤ 1000) (hbase : base ≤ w.heap.size)
    (h : ∀ g cap w', OwnB w' base (.slice (some ⟨g, 0, none⟩) (n + 1) cap) (D ++ [b]) → w.grownBy w' v.ownBlock → (v.ownBlock = some g ∨ g = w.heap.size) → g < w'.heap.size → wpList Try.prog ops Q rest (a.put o.dst (.slice (some ⟨g, 0, none⟩) (n + 1) cap)) w') : wpList Try.prog ops Q (o :: rest) a w :=
  wpList_plain hgd fun _ hK => wp_push_bl s x ho base v D n b bl c hs hown hn hx hsrc hlen hbase fun g cap w' h1 h2 h3 h4 => hK _ _ (h g cap w' h1 h2 h3 h4)
/-- Another own list stands where one grows. -/
theorem OwnB.beside {w' : World} {base : Nat} {v : Value} {D : List (List Nat)} {row : Option Nat} (h : OwnB w base v D) (hg : w.grownBy w' row) (hne : ∀ k, v.ownBlock = some k → row ≠ some k) : OwnB w' base v D := by
  obtain ⟨hD, hl, h⟩ := h
  refine ⟨hD, hl, ?_⟩
  rcases h with h | ⟨g, cap, cur, rfl, hb, hh, hr⟩
  · exact .inl h
  · exact .inr ⟨g, cap, cur, rfl, hb, (hg.block g (Array.getElem?_eq_some_iff.1 hh).1 (fun e => hne g rfl e.symm)).trans hh, hr⟩
end
theorem range8 : Array.range 8 = #[0, 1, 2, 3, 4, 5, 6, 7] := rfl
/-- A literal list of one block. -/
theorem run_build1 (l : List Nat) (h : B8 l) (w : World) : (Instr.buildSlice 31 1 #[(0, .agg (bcs l))]).run Try.prog w = .ok (.slice (some ⟨w.heap.size, 0, none⟩) 1 1) (w.alloc (.cells (bcs l) 33)) := by
  obtain ⟨i, hi, hzz⟩ := Option.map_eq_some_iff.1 info_blk
  simp only [Prod.mk.injEq] at hzz
  obtain ⟨hz, hs, hb⟩ := hzz
  match l, h.1 with
  | [a, b, c, d, e, f, g, k], _ =>
    simp [Instr.buildSlice, run_underlying Try.underlying31, sizeOf, typeInfo, hi, hs, zeroValue, hz, newRow, Instr.fill, bcs, bv, Value.cells, range8]
theorem wp_build1 {o : Oper} {a : Act} {w : World} {K : Act → World → Prop} {Q : Exit → Act → World → Prop} (x : Operand) (ho : o.op = .buildSlice 31 1 #[(0, x)]) (l : List Nat) (hx : a.eval x = .agg (bcs l)) (h : B8 l)
    (hk : K (a.put o.dst (.slice (some ⟨w.heap.size, 0, none⟩) 1 1)) (w.alloc (.cells (bcs l) 33))) : o.wp Try.prog a w K Q := by
  unfold Oper.wp
  simp only [execOp, ho, List.map_toArray, List.map_cons, List.map_nil, hx, Sem.run_bind, Sem.run_pure, Result.andThen_ok, run_build1 l h w]
  exact hk
theorem wpList_build1 {ops : Array Oper} {rest : List Oper} {o : Oper} {a : Act} {w : World} {Q : Exit → Act → World → Prop} (hgd : o.guard = none) (x : Operand) (ho : o.op = .buildSlice 31 1 #[(0, x)]) (l : List Nat) (hx : a.eval x = .agg (bcs l)) (h : B8 l)
    (hk : wpList Try.prog ops Q rest (a.put o.dst (.slice (some ⟨w.heap.size, 0, none⟩) 1 1)) (w.alloc (.cells (bcs l) 33))) : wpList Try.prog ops Q (o :: rest) a w :=
  wpList_plain hgd fun _ hK => wp_build1 x ho l hx h (hK _ _ hk)
theorem bl_one {w : World} {l : List Nat} (h : B8 l) : Bl (w.alloc (.cells (bcs l) 33)) (.slice (some ⟨w.heap.size, 0, none⟩) 1 1) [l] :=
  Bl.of_row (t := 33) (by rw [List.flatten_singleton]; exact row_new w _ _) (fun d hd => by rw [List.mem_singleton.1 hd]; exact h) rfl (Nat.le_refl _) (by decide)
theorem el_upto {f : Nat → List Nat} {n i k : Nat} (hi : i < n) : el (upto f n) i k = (f i).getD k 0 := by
  have e : (upto f n).getD i [] = f i := by
    rw [getD_in (show i < (upto f n).length by rw [upto_length]; exact hi)]
    simp [upto]
  unfold el
  rw [e]
theorem el_take {D : List (List Nat)} {n i k : Nat} (hi : i < n) : el (D.take n) i k = el D i k := by
  unfold el; simp only [List.getD, List.getElem?_take_of_lt hi]
theorem par_fun {D : List (List Nat)} {n : Nat} (hn : D.length = n) (f : Nat → Nat) {j k : Nat} (h : ∀ i, i < n → el D i k = f i) : par D j k = xs n (fun i => Gf.mul (Gf.gpow 2 (j * i)) (f i)) := by
  unfold par; rw [hn]; exact xs_congr _ _ _ fun i hi => by rw [h i hi]
def sumF (A B : List (List Nat)) (i : Nat) : List Nat := xorB (A.getD i []) (B.getD i [])
def mulF (c : Nat) (A : List (List Nat)) (i : Nat) : List Nat := sclB c (A.getD i [])
theorem par_sum {A B : List (List Nat)} {n : Nat} (hA : n ≤ A.length) (hB : n ≤ B.length) (j : Nat) : parB (upto (sumF A B) n) j = xorB (parB (A.take n) j) (parB (B.take n) j) := by
  refine blk_congr fun k hk => ?_
  rw [parB, parB, blk_at _ hk, blk_at _ hk, par_fun (upto_length _ _) (fun i => el A i k ^^^ el B i k) fun i hi => by rw [el_upto hi, sumF, xorB, blk_at _ hk]; rfl,
    par_fun (n := n) (by rw [List.length_take]; omega) (fun i => el A i k) fun i hi => el_take hi, par_fun (n := n) (by rw [List.length_take]; omega) (fun i => el B i k) fun i hi => el_take hi, ← xs_xor]
  exact xs_congr _ _ _ fun i _ => Gf.mul_xor_right _ _ _
theorem par_mul {A : List (List Nat)} {n c : Nat} (hA : n ≤ A.length) (hc : c < 256) (h8 : ∀ d ∈ A, B8 d) (j : Nat) : parB (upto (mulF c A) n) j = sclB c (parB (A.take n) j) := by
  refine blk_congr fun k hk => ?_
  rw [parB, blk_at _ hk, par_fun (upto_length _ _) (fun i => Gf.mul c (el A i k)) fun i hi => by rw [el_upto hi, mulF, sclB, blk_at _ hk]; rfl,
    par_fun (n := n) (by rw [List.length_take]; omega) (fun i => el A i k) fun i hi => el_take hi, mul_xs]
  refine xs_congr _ _ _ fun i _ => ?_
  have hx := el_lt h8 i k
  rw [← Gf.mul_assoc _ _ _ (gp_lt _) hc hx, Gf.mul_comm _ c (gp_lt _) hc, Gf.mul_assoc _ _ _ hc (gp_lt _) hx]
end Go.Proofs.Ytheijobnmdbodaa
