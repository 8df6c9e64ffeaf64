/- Rows of bytes that read as blocks; parity's Encode. -/
import Derived.Test.YtfhgalfdlkdliaaPm
import Derived.Test.YtfhgalfdlkdliaaPd
import Derived.Test.YtfhgalfdlkdliaaMxb
import Derived.Deep.OwnRows
import Derived.Laws.MakeOwn
namespace Go.Proofs.Ytfhgalfdlkdliaa
open Go Go.RowKit
set_option linter.unusedVariables false

theorem Row.putAll {w : World} {g : Nat} {t : TypeId} {cs : Array Value} (h : Row w g t cs) {l : List Nat} (hl : l.length = cs.size) : Row (w.setCells g 0 (l.map bv)) g t (bcs l) := by
  obtain ⟨cs', h1, h2, h3⟩ := h.puts (vs := l.map bv) (o := 0)
  have : cs' = bcs l := by
    refine Array.ext_getElem? fun i => ?_
    rcases Nat.lt_or_ge i cs.size with hi | hi
    · rw [h3 i hi, if_pos (by simp; omega), bcs_at (by omega), Nat.sub_zero]; exact getD_bv (by omega)
    · rw [Array.getElem?_eq_none (by omega), Array.getElem?_eq_none (by rw [bcs_size]; omega)]
  rw [← this]; exact h1
theorem Bl.of_row {w : World} {g : Nat} {t : TypeId} {D : List (List Nat)} {n c : Nat} (h : Row w g t (bcs D.flatten)) (hD : ∀ d ∈ D, B8 d) (hn : D.length = n) (hc : n ≤ c) (hm : c ≤ maxLen) : Bl w (.slice (some ⟨g, 0, none⟩) n c) D := by
  subst hn
  exact ⟨_, c, rfl, ⟨hc, hm⟩, hD, fun h => (by cases h), fun _ => ⟨g, 0, rfl, h.at8⟩⟩
theorem flat24 (D : List (List Nat)) : (parL D).flatten.length = 24 := by
  rw [flat_len fun d hd => (parL_ok D d hd).1]; rfl
theorem Bl.par {w : World} {g : Nat} {t : TypeId} {D : List (List Nat)} (h : Row w g t (bcs (parL D).flatten)) : Bl w (.slice (some ⟨g, 0, none⟩) 3 3) (parL D) := Bl.of_row h (parL_ok D) rfl (Nat.le_refl 3) (by decide)
/-- Three blocks of the call's own, and what stands beside them. -/
def encPost (D : List (List Nat)) (w : World) (e : Ending) (w' : World) : Prop := ∃ g, e = .returned (.tuple #[.slice (some ⟨g, 0, none⟩) 3 3, .int .i64 0]) ∧ w.heap.size ≤ g ∧ Row w' g 73 (bcs (parL D).flatten) ∧ Below w.heap.size w w'
set_option maxHeartbeats 1000000 in
set_option maxRecDepth 100000 in
theorem encode_ok (v : Value) (D : List (List Nat)) (w : World) (h : Bl w v D) (h1 : 1 ≤ D.length) (h13 : D.length ≤ 13) :
    Calls Try.prog 20 #[v] w (encPost D w) := by
  have PA := Lib.hid (fun w' (hb : Below w.heap.size w w') => parityOf_any v D w' (h.below hb (Nat.le_refl _)) h1 h13)
  obtain ⟨L, hL⟩ : ∃ L, (parL D).flatten = L := ⟨_, rfl⟩
  have h24 : L.length = 24 := by rw [← hL]; exact flat24 D
  have th := fun (w' : World) => (row_new w' #[.int .u8 0, .int .u8 0, .int .u8 0, .int .u8 0, .int .u8 0, .int .u8 0, .int .u8 0, .int .u8 0, .int .u8 0, .int .u8 0, .int .u8 0, .int .u8 0, .int .u8 0, .int .u8 0, .int .u8 0, .int .u8 0, .int .u8 0, .int .u8 0, .int .u8 0, .int .u8 0, .int .u8 0, .int .u8 0, .int .u8 0, .int .u8 0] 73).there (n := (bcs L).size) (by rw [bcs_size, h24]; exact Nat.le_refl _)
  have pu := fun (w' : World) => (row_new w' #[.int .u8 0, .int .u8 0, .int .u8 0, .int .u8 0, .int .u8 0, .int .u8 0, .int .u8 0, .int .u8 0, .int .u8 0, .int .u8 0, .int .u8 0, .int .u8 0, .int .u8 0, .int .u8 0, .int .u8 0, .int .u8 0, .int .u8 0, .int .u8 0, .int .u8 0, .int .u8 0, .int .u8 0, .int .u8 0, .int .u8 0, .int .u8 0] 73).putAll (l := L) (h24)
  have si : (Try.prog.info? 73).map (·.size) = some (bcs L).size := by rw [bcs_size, h24]; kernel_rfl
  have TH := Lib.hid th
  have PU := Lib.hid pu
  have SI := Lib.hid si
  have HL := Lib.hid hL
  obtain ⟨A, c, rfl⟩ := h.form
  obtain ⟨n, hn⟩ : ∃ n, D.length = n := ⟨_, rfl⟩
  rw [hn] at h1 h13 PA ⊢
  clear h th pu si hn hL h24
  go_enter Try.func20, Try.ntmps20
  go_wp2_with (go_at_call 37; refine (dcount_t _ _ (by omega) (by omega)).mono ?_; rintro e w' ⟨rfl, rfl⟩)
  refine (PA.out _ (Below.refl _ _)).mono ?_
  rintro e w1 ⟨hD, rfl, hb⟩
  rw [cat3_par, HL.out]
  have HB := Lib.hid hb
  clear hb
  go_wp2_with (refine wpList_store8 rfl _ _ _ rfl _ 0 _ rfl rfl (TH.out _) SI.out ?_)
  go_ret2
  exact ⟨_, rfl, HB.out.size, by rw [HL.out]; exact PU.out _, below_setCells (HB.out.alloc HB.out.size _) _ _ _ HB.out.size⟩
set_option maxHeartbeats 400000 in
theorem encode_err (v : Value) (D : List (List Nat)) (w : World) (h : Bl w v D) (h1 : D.length < 1 ∨ 13 < D.length) :
    Calls Try.prog 20 #[v] w fun e w' => e = .returned (.tuple #[.slice none 0 0, .int .i64 1]) ∧ w = w' := by
  obtain ⟨A, c, rfl⟩ := h.form
  obtain ⟨n, hn⟩ : ∃ n, D.length = n := ⟨_, rfl⟩
  rw [hn] at h1 ⊢
  have H := Lib.hid h1
  clear h hn h1
  go_enter Try.func20, Try.ntmps20
  go_wp2_with (go_at_call 37; refine (dcount_f _ _ (by have := H.out; omega)).mono ?_; rintro e w' ⟨rfl, rfl⟩)
  go_ret2
  exact ⟨rfl, rfl⟩
theorem info_blk : (Try.prog.info? 44).map (fun i => (i.zero, i.size, i.bytes)) = some (some (.agg #[.int .u8 0, .int .u8 0, .int .u8 0, .int .u8 0, .int .u8 0, .int .u8 0, .int .u8 0, .int .u8 0]), 8, 8) := by kernel_rfl
theorem zeros8 : (#[.int .u8 0, .int .u8 0, .int .u8 0, .int .u8 0, .int .u8 0, .int .u8 0, .int .u8 0, .int .u8 0] : Array Value) = bcs (List.replicate 8 0) := rfl
theorem madeCells_at (z : Array Value) (n i : Nat) (hi : i < n) : (madeCells z n)[i]? = some (z[i % z.size]!) := by simp [madeCells, hi]
theorem zrow : ∀ m, m < 8 → (bcs (List.replicate 8 0))[m]! = .int .u8 0 := by
  intro m h
  match m, h with
  | 0, _ => rfl
  | 1, _ => rfl
  | 2, _ => rfl
  | 3, _ => rfl
  | 4, _ => rfl
  | 5, _ => rfl
  | 6, _ => rfl
  | 7, _ => rfl
theorem made_blk (k : Nat) : madeCells (bcs (List.replicate 8 0)) (k * 8) = bcs (List.replicate (k * 8) 0) := by
  refine Array.ext_getElem? fun i => ?_
  rcases Nat.lt_or_ge i (k * 8) with hi | hi
  · have h8 : i % 8 < 8 := Nat.mod_lt _ (by decide)
    rw [bcs_at (by simpa using hi)]
    have e : (List.replicate (k * 8) 0).getD i 0 = 0 := by rw [getD_in (by simpa using hi)]; simp
    rw [e, madeCells_at _ _ _ hi, bcs_size, List.length_replicate, zrow _ h8]; rfl
  · rw [Array.getElem?_eq_none (by simpa [madeCells] using hi), Array.getElem?_eq_none (by rw [bcs_size]; simpa using hi)]
theorem make_blk (k : Nat) (hk : k ≤ 1000) (w : World) : (Instr.makeSlice 37 (.int .i64 (k : Int)) (.int .i64 (k : Int))).run Try.prog w = .ok (.slice (some ⟨w.heap.size, 0, none⟩) k k) (w.alloc (.cells (bcs (List.replicate (k * 8) 0)) 44)) := by
  obtain ⟨i, hi, hzz⟩ := Option.map_eq_some_iff.1 info_blk
  simp only [Prod.mk.injEq] at hzz
  obtain ⟨hz, hs, hb⟩ := hzz
  have hr := run_make (P := Try.prog) w 37 44 i _ Try.underlying37 hi hz .i64 .i64 k k (by omega) (Int.le_refl _) (by rw [hb]; omega) (by omega)
  rw [Int.toNat_natCast, hs] at hr
  rw [hr]
  congr 3
  exact (congrArg (madeCells · (k * 8)) zeros8).trans (made_blk k)
theorem make_blk3 (w : World) : (Instr.makeSlice 37 (.int .i64 3) (.int .i64 3)).run Try.prog w = .ok (.slice (some ⟨w.heap.size, 0, none⟩) 3 3) (w.alloc (.cells (bcs (List.replicate 24 0)) 44)) := make_blk 3 (by decide) w
theorem rowIs_bytes {w : World} {g : Nat} {t : TypeId} {l : List Nat} (h : Row w g t (bcs l)) : w.rowIs g t l.length (fun i => .int .u8 ((l.getD i 0 : Nat) : Int)) := ⟨_, h, bcs_size l, fun i hi => bcs_at hi⟩
theorem rows_of {w : World} {g n : Nat} {t : TypeId} {l : List Nat} (h : w.rowIs g t n (fun i => .int .u8 ((l.getD i 0 : Nat) : Int))) (hl : l.length = n) : Row w g t (bcs l) := by
  obtain ⟨cs, hh, hs, hcell⟩ := h
  have : cs = bcs l := by
    refine Array.ext_getElem? fun i => ?_
    rcases Nat.lt_or_ge i n with hi | hi
    · rw [hcell i hi, bcs_at (by omega)]
    · rw [Array.getElem?_eq_none (by omega), Array.getElem?_eq_none (by rw [bcs_size]; omega)]
  rw [← this]; exact hh
end Go.Proofs.Ytfhgalfdlkdliaa
