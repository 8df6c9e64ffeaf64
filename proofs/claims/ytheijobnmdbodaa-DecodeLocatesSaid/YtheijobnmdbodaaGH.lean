/- Joined: Be Pn Pj Pe Bo Pk. -/
import Derived.Test.YtheijobnmdbodaaPc
import Derived.Stop.BytesEq
import Derived.ChangeKeysEq
import Derived.Test.YtheijobnmdbodaaPm
import Derived.Test.YtheijobnmdbodaaPd
import Derived.Test.YtheijobnmdbodaaGE
import Derived.Deep.OwnRows
import Derived.Laws.MakeOwn
import Derived.StillTailTactics
import Derived.Deep.AppendLies
namespace Go.Proofs.Ytheijobnmdbodaa
open Go Go.RowKit
set_option linter.unusedVariables false

theorem bcs_cells (l : List Nat) (h : ∀ x ∈ l, x < 256) : bcs l = ((l.map UInt8.ofNat).map Extern.Stop.cell).toArray := by
  unfold bcs
  rw [List.map_map]
  congr 1
  refine List.map_congr_left fun x hx => ?_
  have := h x hx
  simp [bv, Extern.Stop.cell, Nat.mod_eq_of_lt this]
theorem u8s_eq (a b : List Nat) (ha : ∀ x ∈ a, x < 256) (hb : ∀ x ∈ b, x < 256) : (a.map UInt8.ofNat == b.map UInt8.ofNat) = decide (a = b) := by
  have h := strOf_eq a b ha hb
  rw [strOf_toList, strOf_toList] at h
  exact h
theorem size_u8 (w : World) : (sizeOf 5).run Try.prog w = .ok 1 w := by
  obtain ⟨i, hi, hz⟩ : ∃ i, Try.prog.info? 5 = some i ∧ i.size = 1 := by
    have h : (Try.prog.info? 5).map (·.size) = some 1 := by kernel_rfl
    cases hq : Try.prog.info? 5 with
    | none => rw [hq] at h; cases h
    | some i => rw [hq] at h; exact ⟨i, rfl, by simpa using h⟩
  simp [sizeOf, typeInfo, hi, hz]
theorem eq8 (d : Nat) (a b : List Nat) (ha : B8 a) (hb : B8 b) (w : World) : (Op.equalIn (d + 2) 33 (.agg (bcs a)) (.agg (bcs b))).run Try.prog w = .ok (decide (a = b)) w := by
  rw [bcs_cells a ha.2, bcs_cells b hb.2, run_equalIn_bytes w d 33 5 8 Try.underlying33 Try.underlying5 size_u8 _ _ (by rw [List.length_map, ha.1]) (by rw [List.length_map, hb.1]), u8s_eq a b ha.2 hb.2]
theorem guard37 : Try.prog.eqGuardType Try.prog.depth 33 = false := by kernel_rfl
theorem guard63 : Try.prog.eqGuardType Try.prog.depth 49 = false := by kernel_rfl
theorem neq8 (a b : List Nat) (ha : B8 a) (hb : B8 b) (w : World) : (binOp .neq 33 (.agg (bcs a)) (.agg (bcs b))).run Try.prog w = .ok (.bool (!decide (a = b))) w := by
  rw [run_neq_struct, eq8 9998 a b ha hb]; rfl
theorem eql8 (a b : List Nat) (ha : B8 a) (hb : B8 b) (w : World) : (binOp .eql 33 (.agg (bcs a)) (.agg (bcs b))).run Try.prog w = .ok (.bool (decide (a = b))) w := by
  rw [run_eql_struct, eq8 9998 a b ha hb]; rfl
theorem ext3 (S : Nat → Blk) {j : Nat} (hj : j < 3) : (bcs (cat3 S)).extract (j * 8) (j * 8 + 8) = bcs (S j).1 := by
  refine Array.ext_getElem? fun i => ?_
  rw [Array.getElem?_extract]
  split
  · rename_i h
    have hi : i < 8 := by rw [bcs_size, cat3_len] at h; omega
    simp only [bcs, List.getElem?_toArray]
    rw [List.getElem?_map, cat3_at S hj hi, ← List.getElem?_map]
  · rename_i h
    rw [bcs_size, cat3_len] at h
    rw [Array.getElem?_eq_none (by rw [bcs_size, (S j).2.1]; omega)]
theorem part3 (S : Nat → Blk) {j : Nat} (hj : j < 3) (w : World) : (part 33 (bcs (cat3 S)) (j * 8)).run Try.prog w = .ok (.agg (bcs (S j).1)) w := by
  have h : (Try.prog.info? 33).map (·.size) = some 8 := by kernel_rfl
  cases hq : Try.prog.info? 33 with
  | none => rw [hq] at h; cases h
  | some i =>
    rw [hq] at h
    have hs : i.size = 8 := by simpa using h
    simp [part, isAgg, run_underlying Try.underlying33, sizeOf, typeInfo, hq, hs, ext3 S hj]
theorem items3 (d : Nat) (S T : Nat → Blk) (w : World) : ∀ js : List Nat, (∀ j ∈ js, j < 3) → (Op.eqItems (d + 2) 33 8 (bcs (cat3 S)) (bcs (cat3 T)) js).run Try.prog w = .ok (decide (∀ j ∈ js, (S j).1 = (T j).1)) w
  | [], _ => by simp [Op.eqItems]
  | j :: js, h => by
    have ih := items3 d S T w js fun k hk => h k (List.mem_cons_of_mem _ hk)
    have hj := h j List.mem_cons_self
    simp only [Op.eqItems, Sem.run_bind, part3 S hj, part3 T hj, Result.andThen_ok, eq8 d _ _ (S j).2 (T j).2]
    by_cases e : (S j).1 = (T j).1
    · simp [e, ih]
    · simp [e]
theorem cat3_eq (S T : Nat → Blk) : (∀ j ∈ [0, 1, 2], (S j).1 = (T j).1) ↔ cat3 S = cat3 T := by
  constructor
  · intro h
    unfold cat3
    rw [h 0 (by simp), h 1 (by simp), h 2 (by simp)]
  · intro h
    unfold cat3 at h
    obtain ⟨h0, h⟩ := List.append_inj h ((S 0).2.1.trans (T 0).2.1.symm)
    obtain ⟨h1, h2⟩ := List.append_inj h ((S 1).2.1.trans (T 1).2.1.symm)
    intro j hj
    simp at hj
    rcases hj with rfl | rfl | rfl
    · exact h0
    · exact h1
    · exact h2
theorem eq24 (d : Nat) (S T : Nat → Blk) (w : World) : (Op.equalIn (d + 3) 49 (.agg (bcs (cat3 S))) (.agg (bcs (cat3 T)))).run Try.prog w = .ok (decide (cat3 S = cat3 T)) w := by
  have h : (Try.prog.info? 33).map (·.size) = some 8 := by kernel_rfl
  cases hq : Try.prog.info? 33 with
  | none => rw [hq] at h; cases h
  | some i =>
    have hs : Try.prog.cellsOf 33 = 8 := by kernel_rfl
    rw [run_equalIn_array (w := w) (d + 2) _ _ Try.underlying49 hq, hs, items3 d S T w _ (fun j hj => by simpa using hj)]
    congr 1
    exact decide_eq_decide.2 (cat3_eq S T)
end Go.Proofs.Ytheijobnmdbodaa
namespace Go.Proofs.Ytheijobnmdbodaa
open Go Go.RowKit
set_option linter.unusedVariables false

theorem Row.putAll {w : World} {g : Nat} {t : TypeId} {cs : Array Value} (h : Row w g t cs) {l : List Nat} (hl : l.length = cs.size) : Row (w.setCells g 0 (l.map bv)) g t (bcs l) := by
  obtain ⟨cs', h1, h2, h3⟩ := h.puts (vs := l.map bv) (o := 0)
  have : cs' = bcs l := by
    refine Array.ext_getElem? fun i => ?_
    rcases Nat.lt_or_ge i cs.size with hi | hi
    · rw [h3 i hi, if_pos (by simp; omega), bcs_at (by omega), Nat.sub_zero]; exact getD_bv (by omega)
    · rw [Array.getElem?_eq_none (by omega), Array.getElem?_eq_none (by rw [bcs_size]; omega)]
  rw [← this]; exact h1
theorem Bl.of_row {w : World} {g : Nat} {t : TypeId} {D : List (List Nat)} {n c : Nat} (h : Row w g t (bcs D.flatten)) (hD : ∀ d ∈ D, B8 d) (hn : D.length = n) (hc : n ≤ c) (hm : c ≤ maxLen) : Bl w (.slice (some ⟨g, 0, none⟩) n c) D := by
  subst hn
  exact ⟨_, c, rfl, ⟨hc, hm⟩, hD, fun h => (by cases h), fun _ => ⟨g, 0, rfl, h.at8⟩⟩
theorem flat24 (D : List (List Nat)) : (parL D).flatten.length = 24 := by
  rw [flat_len fun d hd => (parL_ok D d hd).1]; rfl
theorem Bl.par {w : World} {g : Nat} {t : TypeId} {D : List (List Nat)} (h : Row w g t (bcs (parL D).flatten)) : Bl w (.slice (some ⟨g, 0, none⟩) 3 3) (parL D) := Bl.of_row h (parL_ok D) rfl (Nat.le_refl 3) (by decide)
/-- Three blocks of the call's own, and what stands beside them. -/
def encPost (D : List (List Nat)) (w : World) (e : Ending) (w' : World) : Prop := ∃ g, e = .returned (.tuple #[.slice (some ⟨g, 0, none⟩) 3 3, .int .i64 0]) ∧ w.heap.size ≤ g ∧ Row w' g 49 (bcs (parL D).flatten) ∧ Below w.heap.size w w'
set_option maxHeartbeats 1000000 in
set_option maxRecDepth 100000 in
theorem encode_ok (v : Value) (D : List (List Nat)) (w : World) (h : Bl w v D) (h1 : 1 ≤ D.length) (h13 : D.length ≤ 13) :
    Calls Try.prog 42 #[v] w (encPost D w) := by
  have PA := Lib.hid (fun w' (hb : Below w.heap.size w w') => parityOf_any v D w' (h.below hb (Nat.le_refl _)) h1 h13)
  obtain ⟨L, hL⟩ : ∃ L, (parL D).flatten = L := ⟨_, rfl⟩
  have h24 : L.length = 24 := by rw [← hL]; exact flat24 D
  have th := fun (w' : World) => (row_new w' #[.int .u8 0, .int .u8 0, .int .u8 0, .int .u8 0, .int .u8 0, .int .u8 0, .int .u8 0, .int .u8 0, .int .u8 0, .int .u8 0, .int .u8 0, .int .u8 0, .int .u8 0, .int .u8 0, .int .u8 0, .int .u8 0, .int .u8 0, .int .u8 0, .int .u8 0, .int .u8 0, .int .u8 0, .int .u8 0, .int .u8 0, .int .u8 0] 49).there (n := (bcs L).size) (by rw [bcs_size, h24]; exact Nat.le_refl _)
  have pu := fun (w' : World) => (row_new w' #[.int .u8 0, .int .u8 0, .int .u8 0, .int .u8 0, .int .u8 0, .int .u8 0, .int .u8 0, .int .u8 0, .int .u8 0, .int .u8 0, .int .u8 0, .int .u8 0, .int .u8 0, .int .u8 0, .int .u8 0, .int .u8 0, .int .u8 0, .int .u8 0, .int .u8 0, .int .u8 0, .int .u8 0, .int .u8 0, .int .u8 0, .int .u8 0] 49).putAll (l := L) (h24)
  have si : (Try.prog.info? 49).map (·.size) = some (bcs L).size := by rw [bcs_size, h24]; kernel_rfl
  have TH := Lib.hid th
  have PU := Lib.hid pu
  have SI := Lib.hid si
  have HL := Lib.hid hL
  obtain ⟨A, c, rfl⟩ := h.form
  obtain ⟨n, hn⟩ : ∃ n, D.length = n := ⟨_, rfl⟩
  rw [hn] at h1 h13 PA ⊢
  clear h th pu si hn hL h24
  go_enter Try.func42, Try.ntmps42
  go_wp2_with (go_at_call 53; refine (dcount_t _ _ (by omega) (by omega)).mono ?_; rintro e w' ⟨rfl, rfl⟩)
  refine (PA.out _ (Below.refl _ _)).mono ?_
  rintro e w1 ⟨hD, rfl, hb⟩
  rw [cat3_par, HL.out]
  have HB := Lib.hid hb
  clear hb
  go_wp2_with (refine wpList_store8 rfl _ _ _ rfl _ 0 _ rfl rfl (TH.out _) SI.out ?_)
  go_ret2
  exact ⟨_, rfl, HB.out.size, by rw [HL.out]; exact PU.out _, below_setCells (HB.out.alloc HB.out.size _) _ _ _ HB.out.size⟩
set_option maxHeartbeats 400000 in
theorem encode_err (v : Value) (D : List (List Nat)) (w : World) (h : Bl w v D) (h1 : D.length < 1 ∨ 13 < D.length) :
    Calls Try.prog 42 #[v] w fun e w' => e = .returned (.tuple #[.slice none 0 0, .int .i64 1]) ∧ w = w' := by
  obtain ⟨A, c, rfl⟩ := h.form
  obtain ⟨n, hn⟩ : ∃ n, D.length = n := ⟨_, rfl⟩
  rw [hn] at h1 ⊢
  have H := Lib.hid h1
  clear h hn h1
  go_enter Try.func42, Try.ntmps42
  go_wp2_with (go_at_call 53; refine (dcount_f _ _ (by have := H.out; omega)).mono ?_; rintro e w' ⟨rfl, rfl⟩)
  go_ret2
  exact ⟨rfl, rfl⟩
theorem info_blk : (Try.prog.info? 33).map (fun i => (i.zero, i.size, i.bytes)) = some (some (.agg #[.int .u8 0, .int .u8 0, .int .u8 0, .int .u8 0, .int .u8 0, .int .u8 0, .int .u8 0, .int .u8 0]), 8, 8) := by kernel_rfl
theorem zeros8 : (#[.int .u8 0, .int .u8 0, .int .u8 0, .int .u8 0, .int .u8 0, .int .u8 0, .int .u8 0, .int .u8 0] : Array Value) = bcs (List.replicate 8 0) := rfl
theorem madeCells_at (z : Array Value) (n i : Nat) (hi : i < n) : (madeCells z n)[i]? = some (z[i % z.size]!) := by simp [madeCells, hi]
theorem zrow : ∀ m, m < 8 → (bcs (List.replicate 8 0))[m]! = .int .u8 0 := by
  intro m h
  match m, h with
  | 0, _ => rfl
  | 1, _ => rfl
  | 2, _ => rfl
  | 3, _ => rfl
  | 4, _ => rfl
  | 5, _ => rfl
  | 6, _ => rfl
  | 7, _ => rfl
theorem made_blk (k : Nat) : madeCells (bcs (List.replicate 8 0)) (k * 8) = bcs (List.replicate (k * 8) 0) := by
  refine Array.ext_getElem? fun i => ?_
  rcases Nat.lt_or_ge i (k * 8) with hi | hi
  · have h8 : i % 8 < 8 := Nat.mod_lt _ (by decide)
    rw [bcs_at (by simpa using hi)]
    have e : (List.replicate (k * 8) 0).getD i 0 = 0 := by rw [getD_in (by simpa using hi)]; simp
    rw [e, madeCells_at _ _ _ hi, bcs_size, List.length_replicate, zrow _ h8]; rfl
  · rw [Array.getElem?_eq_none (by simpa [madeCells] using hi), Array.getElem?_eq_none (by rw [bcs_size]; simpa using hi)]
theorem make_blk (k : Nat) (hk : k ≤ 1000) (w : World) : (Instr.makeSlice 31 (.int .i64 (k : Int)) (.int .i64 (k : Int))).run Try.prog w = .ok (.slice (some ⟨w.heap.size, 0, none⟩) k k) (w.alloc (.cells (bcs (List.replicate (k * 8) 0)) 33)) := by
  obtain ⟨i, hi, hzz⟩ := Option.map_eq_some_iff.1 info_blk
  simp only [Prod.mk.injEq] at hzz
  obtain ⟨hz, hs, hb⟩ := hzz
  have hr := run_make (P := Try.prog) w 31 33 i _ Try.underlying31 hi hz .i64 .i64 k k (by omega) (Int.le_refl _) (by rw [hb]; omega) (by omega)
  rw [Int.toNat_natCast, hs] at hr
  rw [hr]
  congr 3
  exact (congrArg (madeCells · (k * 8)) zeros8).trans (made_blk k)
theorem make_blk3 (w : World) : (Instr.makeSlice 31 (.int .i64 3) (.int .i64 3)).run Try.prog w = .ok (.slice (some ⟨w.heap.size, 0, none⟩) 3 3) (w.alloc (.cells (bcs (List.replicate 24 0)) 33)) := make_blk 3 (by decide) w
theorem rowIs_bytes {w : World} {g : Nat} {t : TypeId} {l : List Nat} (h : Row w g t (bcs l)) : w.rowIs g t l.length (fun i => .int .u8 ((l.getD i 0 : Nat) : Int)) := ⟨_, h, bcs_size l, fun i hi => bcs_at hi⟩
theorem rows_of {w : World} {g n : Nat} {t : TypeId} {l : List Nat} (h : w.rowIs g t n (fun i => .int .u8 ((l.getD i 0 : Nat) : Int))) (hl : l.length = n) : Row w g t (bcs l) := by
  obtain ⟨cs, hh, hs, hcell⟩ := h
  have : cs = bcs l := by
    refine Array.ext_getElem? fun i => ?_
    rcases Nat.lt_or_ge i n with hi | hi
    · rw [hcell i hi, bcs_at (by omega)]
    · rw [Array.getElem?_eq_none (by omega), Array.getElem?_eq_none (by rw [bcs_size]; omega)]
  rw [← this]; exact hh
end Go.Proofs.Ytheijobnmdbodaa
namespace Go.Proofs.Ytheijobnmdbodaa
open Go Go.RowKit Lin
set_option linter.unusedVariables false

theorem flat_get {D : List (List Nat)} (hD : ∀ d ∈ D, B8 d) {p : Nat} (hp : p < D.length * 8) : D.flatten.getD p 0 = el D (p / 8) (p % 8) := by
  have h8 : p % 8 < 8 := Nat.mod_lt _ (by decide)
  have hi : p / 8 < D.length := by omega
  have := flat_at (fun d hd => (hD d hd).1) hi h8
  rw [show p / 8 * 8 + p % 8 = p by omega] at this
  unfold el
  rw [getD_in hi]
  simp [List.getD, this]
theorem z24 : ∀ p, p < 24 → (List.replicate 24 0).getD p 0 = 0 := by decide
def rparPost (D : List (List Nat)) (w : World) (e : Ending) (w' : World) : Prop := e = .returned (.slice (some ⟨w.heap.size, 0, none⟩) 3 3) ∧ Row w' w.heap.size 33 (bcs (parL D).flatten) ∧ Below w.heap.size w w'
set_option maxHeartbeats 4000000 in
set_option maxRecDepth 100000 in
theorem rparity_any (v : Value) (D : List (List Nat)) (w : World) (h : Bl w v D) (h13 : D.length ≤ 200) :
    Calls Try.prog 43 #[v] w (rparPost D w) := by
  have hc := fun hn => Bl.at_ h hn
  have OK := Lib.hid h.ok
  obtain ⟨A, c, rfl⟩ := h.form
  have HC := Lib.hid hc
  obtain ⟨n, hn⟩ : ∃ n, D.length = n := ⟨_, rfl⟩
  have N := Lib.hid hn
  rw [hn] at h13 ⊢
  clear h hc hn
  go_enter Try.func43, Try.ntmps43
  have hmk := make_blk3
  go_wp2
  go_loopw [4, 5, 6, 7] (fun q _ _ _ wr => ∃ j : Nat, j ≤ 3 ∧ q = .int .i64 (j : Int) ∧ Hid (Below w.heap.size w wr ∧ wr.rowIs w.heap.size 33 24 (fun p => .int .u8 ((if p / 8 < j then par D (p / 8) (p % 8) else 0 : Nat) : Int)))) (fun q _ _ _ _ => 3 - (intOf q).toNat)
  case atStart =>
    refine ⟨0, Nat.zero_le _, rfl, Lib.hid ⟨(Below.refl _ _).alloc (Nat.le_refl _) _, ?_⟩⟩
    refine (rowIs_bytes (row_new w _ _)).congr fun p hp => ?_
    rw [if_neg (Nat.not_lt_zero _)]
    exact congrArg (fun x : Nat => Value.int .u8 (x : Int)) (z24 p hp)
  case round =>
    obtain ⟨j, hj, rfl, H⟩ := hrel
    obtain ⟨wo, rfl⟩ : ∃ wo, wo = wr := ⟨_, rfl⟩
    by_cases hlt : j < 3
    · have hjI : (j : Int) < 3 := by omega
      go_wp2_with fail
      go_loopw [5, 6, 7] (fun q _ _ wq => ∃ i : Nat, i ≤ n ∧ q = .int .i64 (i : Int) ∧ Hid (Below w.heap.size wo wq ∧ wq.rowIs w.heap.size 33 24 (fun p => .int .u8 ((if p / 8 < j then par D (p / 8) (p % 8) else if p / 8 = j then parU D i j (p % 8) else 0 : Nat) : Int)))) (fun q _ _ _ => n - (intOf q).toNat)
      case atStart =>
        refine ⟨0, Nat.zero_le _, rfl, Lib.hid ⟨Below.refl _ _, H.out.2.congr fun p hp => ?_⟩⟩
        by_cases e : p / 8 < j
        · rw [if_pos e, if_pos e]
        · rw [if_neg e, if_neg e]; split <;> rfl
      case round =>
        obtain ⟨i, hi, rfl, H2⟩ := hrel
        obtain ⟨wi, rfl⟩ : ∃ wi, wi = wr := ⟨_, rfl⟩
        by_cases hlt2 : i < n
        · have hiI : (i : Int) < (n : Int) := by omega
          obtain ⟨bd, od, cd, hv, -, hbd, hrow⟩ := HC.out (by rw [N.out]; omega)
          injection hv with hv1 hv2 hv3
          subst hv1
          clear hv2 hv3
          have hjn : j * i ≤ 3 * 200 := Nat.mul_le_mul (by omega) (by omega)
          have h1 : wrap64 ((j : Int) * (i : Int)) = ((j * i : Nat) : Int) := by
            rw [← Int.natCast_mul]
            exact IntWalk.wrap64_in _ ⟨by omega, by omega⟩
          have X := Lib.hid h1
          have DR : Hid (∀ k, k < 8 → w.cell? ⟨bd, od + i * 8 + k, none⟩ = some (.int .u8 ((el D i k : Nat) : Int))) := Lib.hid fun k hk => by
            have hl : i < D.length := by rw [N.out]; exact hlt2
            have := (range_at8 hrow OK.out hl).cell (k := k) (by rw [(OK.out _ (List.getElem_mem hl)).1]; exact hk)
            unfold el
            rwa [getD_in hl]
          clear hrow h1
          go_wp2_with fail
          rw [show (j : Int) * (i : Int) = ((j * i : Nat) : Int) from (Int.natCast_mul j i).symm]
          refine (rpower_any 2 (j * i) (by decide) (by omega) _).mono ?_
          rintro e w' ⟨rfl, rfl⟩
          obtain ⟨cf, hcf⟩ : ∃ cf, Gf.gpow 2 (j * i) = cf := ⟨_, rfl⟩
          have hcb : cf < 256 := by rw [← hcf]; exact gp_lt _
          rw [hcf]
          have CF := Lib.hid hcf
          clear hcf
          go_wp2_with fail
          go_loopw [7] (fun q wq => ∃ k : Nat, k ≤ 8 ∧ q = .int .i64 (k : Int) ∧ Hid (Below w.heap.size wi wq ∧ wq.rowIs w.heap.size 33 24 (fun p => .int .u8 ((if p / 8 < j then par D (p / 8) (p % 8) else if p / 8 = j then (if p % 8 < k then parU D (i + 1) j (p % 8) else parU D i j (p % 8)) else 0 : Nat) : Int)))) (fun q _ => 8 - (intOf q).toNat)
          case atStart => exact ⟨0, Nat.zero_le _, rfl, Lib.hid ⟨Below.refl _ _, H2.out.2.congr fun p hp => by (repeat' split) <;> first | rfl | omega⟩⟩
          case round =>
            obtain ⟨k, hk, rfl, H3⟩ := hrel
            by_cases hlt3 : k < 8
            · have hkI : (k : Int) < 8 := by omega
              have hbw := H.out.1.trans (H2.out.1.trans H3.out.1)
              have p1 := H3.out.2.cell (i := j * 8 + k) (by omega)
              have ed : (j * 8 + k) / 8 = j := by omega
              have em : (j * 8 + k) % 8 = k := by omega
              rw [ed, em, if_neg (Nat.lt_irrefl j), if_pos rfl, if_neg (Nat.lt_irrefl k)] at p1
              have f1 := H3.out.2.frozen (j * 8 + k)
              have p4 := (hbw.cell (World.block_lt_of_cell? w _ (DR.out k hlt3))).trans (DR.out k hlt3)
              obtain ⟨y, hy⟩ : ∃ y, el D i k = y := ⟨_, rfl⟩
              obtain ⟨s, hs⟩ : ∃ s, parU D i j k = s := ⟨_, rfl⟩
              have hy2 : y < 256 := by rw [← hy]; exact el_lt OK.out i k
              have hs2 : s < 256 := by rw [← hs]; exact xs_lt _ _ fun i _ => Gf.mul_lt _ _ (gp_lt _)
              have E : Hid (s ^^^ Gf.mul cf y = parU D (i + 1) j k) := Lib.hid (by rw [← hs, ← hy, ← CF.out]; rfl)
              rw [hy] at p4
              rw [hs] at p1
              have hmul := Gf.mul_lt cf y hcb
              have XX := u8_xor_nat s (Gf.mul cf y) hs2 hmul
              have ED := Lib.hid (And.intro ed em)
              clear hy hs hbw ed em
              go_wp2
              refine wp_region_still_tail 17 (by kernel_rfl) (by kernel_rfl) ?_
              simp only [List.take_succ_cons, List.take_zero, List.drop_succ_cons, List.drop_zero]
              repeat (first | still_step | still_call ((rmul_any cf y hcb hy2 _).mono fun _ _ h => ⟨h.1, h.2.symm⟩))
              refine wpStill_nil ?_
              change wpList _ _ _ _ _ wr.drew
              go_wp2
              go_roundw
              case rel =>
                refine ⟨k + 1, by omega, by go_num, Lib.hid ⟨(H3.out.1.drew).setCell (Nat.le_refl _) _, ((H3.out.2.drew).set (j * 8 + k) _).congr fun p hp => ?_⟩⟩
                by_cases e : p = j * 8 + k
                · rw [if_pos e, e, ED.out.1, ED.out.2, if_neg (Nat.lt_irrefl j), if_pos rfl, if_pos (Nat.lt_succ_self k), E.out]
                · rw [if_neg e]
                  by_cases e1 : p / 8 < j
                  · rw [if_pos e1, if_pos e1]
                  · rw [if_neg e1, if_neg e1]
                    by_cases e2 : p / 8 = j
                    · rw [if_pos e2, if_pos e2]
                      by_cases e3 : p % 8 < k
                      · rw [if_pos e3, if_pos (by omega)]
                      · rw [if_neg e3, if_neg (by omega)]
                    · rw [if_neg e2, if_neg e2]
              case measure => simp [intOf]; omega
            · have ek : k = 8 := by omega
              have E := Lib.hid ek
              clear ek
              go_wp2
              go_roundw
              case rel =>
                refine ⟨i + 1, by omega, by go_num, Lib.hid ⟨H2.out.1.trans H3.out.1, H3.out.2.congr fun p hp => ?_⟩⟩
                have h8 : p % 8 < 8 := Nat.mod_lt _ (by decide)
                rw [E.out]
                (repeat' split) <;> first | rfl | omega
              case measure => simp [intOf]; omega
        · have ei : i = n := by omega
          have E := Lib.hid ei
          clear ei
          go_wp2
          go_roundw
          case rel =>
            refine ⟨j + 1, by omega, by go_num, Lib.hid ⟨H.out.1.trans H2.out.1, H2.out.2.congr fun p hp => ?_⟩⟩
            have ep : ∀ j k, par D j k = parU D i j k := fun j k => by rw [E.out, ← N.out]; rfl
            by_cases e1 : p / 8 < j
            · rw [if_pos e1, if_pos (by omega)]
            · rw [if_neg e1]
              by_cases e2 : p / 8 = j
              · rw [if_pos e2, if_pos (by omega), ep, e2]
              · rw [if_neg e2, if_neg (by omega)]
          case measure => simp [intOf]; omega
    · go_wp2
      go_ret
      obtain ⟨hbel, hrow⟩ := H.out
      obtain rfl : j = 3 := by omega
      refine ⟨rfl, rows_of (n := 24) (hrow.congr fun p hp => ?_) (flat24 D), hbel⟩
      rw [if_pos (by omega), flat_get (parL_ok D) (by show p < 3 * 8; omega), el_parL D (by omega) (Nat.mod_lt _ (by decide))]
end Go.Proofs.Ytheijobnmdbodaa
namespace Go.Proofs.Ytheijobnmdbodaa
open Go Go.RowKit
set_option linter.unusedVariables false
set_option linter.unusedSimpArgs false

theorem Dr.drew {w w' : World} (h : Dr w w') : Dr w w'.drew := h.more 1
theorem Bl.eq_of {D1 D2 : List (List Nat)} (h : D1.length = D2.length) (hj : ∀ j, j < D1.length → D1.getD j [] = D2.getD j []) : D1 = D2 := by
  refine List.ext_getElem h fun j h1 h2 => ?_
  have := hj j h1
  rwa [getD_in h1, getD_in h2] at this

theorem range_atD {w : World} {b off : Nat} {D : List (List Nat)} (h : w.rangeAt b off (D.flatten.map bv)) (hD : ∀ d ∈ D, B8 d) {i : Nat} (hi : i < D.length) : At8 w b (off + i * 8) (D.getD i []) := by
  rw [getD_in hi]; exact range_at8 h hD hi
theorem okD {D : List (List Nat)} (hD : ∀ d ∈ D, B8 d) {i : Nat} (hi : i < D.length) : B8 (D.getD i []) := by
  rw [getD_in hi]; exact hD _ (List.getElem_mem hi)

set_option maxHeartbeats 4000000 in
set_option maxRecDepth 100000 in
theorem same_bl (v1 v2 : Value) (D1 D2 : List (List Nat)) (w : World) (h1 : Bl w v1 D1) (h2 : Bl w v2 D2) :
    Calls Try.prog 21 #[v1, v2] w (drPost (.bool (decide (D1 = D2))) w) := by
  have hc1 := fun hn => Bl.at_ h1 hn
  have hc2 := fun hn => Bl.at_ h2 hn
  have O1 := Lib.hid h1.ok
  have O2 := Lib.hid h2.ok
  obtain ⟨A1, c1, rfl, hm1, -⟩ := h1
  obtain ⟨A2, c2, rfl, hm2, -⟩ := h2
  have HC1 := Lib.hid hc1
  have HC2 := Lib.hid hc2
  obtain ⟨n, hn⟩ : ∃ n, D1.length = n := ⟨_, rfl⟩
  obtain ⟨n2, hn2⟩ : ∃ n, D2.length = n := ⟨_, rfl⟩
  rw [hn] at hm1 ⊢
  rw [hn2] at hm2 ⊢
  have hm : (n : Int) ≤ 9223372036854775807 := by have := hm1.1; have := hm1.2; unfold maxLen at this; omega
  have N := Lib.hid hn
  have N2 := Lib.hid hn2
  clear hn hn2 hc1 hc2 hm1 hm2
  by_cases he : n = n2
  · subst he
    go_enter Try.func21, Try.ntmps21
    go_wp2
    go_loopw [5] (fun i wr => ∃ k : Nat, k ≤ n ∧ i = .int .i64 (k : Int) ∧ Hid (Dr w wr ∧ ∀ j, j < k → D1.getD j [] = D2.getD j [])) (fun i _ => n - (intOf i).toNat)
    case atStart => exact ⟨0, Nat.zero_le _, rfl, Lib.hid ⟨Dr.refl w, fun j hj => absurd hj (Nat.not_lt_zero j)⟩⟩
    case round =>
      obtain ⟨k, hk, rfl, H⟩ := hrel
      by_cases hlt : k < n
      · obtain ⟨b1, o1, c1', hv, -, -, hrow1⟩ := HC1.out (by rw [N.out]; omega)
        injection hv with hv1 hv2 hv3
        subst hv1
        obtain ⟨b2, o2, c2', hv', -, -, hrow2⟩ := HC2.out (by rw [N2.out]; omega)
        injection hv' with hv1' hv2' hv3'
        subst hv1'
        clear hv2 hv3 hv2' hv3'
        have l1 : k < D1.length := by rw [N.out]; exact hlt
        have l2 : k < D2.length := by rw [N2.out]; exact hlt
        have q1 := range_atD hrow1 O1.out l1
        have q2 := range_atD hrow2 O2.out l2
        have x8 := okD O1.out l1
        have y8 := okD O2.out l2
        obtain ⟨x, hx⟩ : ∃ x, D1.getD k [] = x := ⟨_, rfl⟩
        obtain ⟨y, hy⟩ : ∃ y, D2.getD k [] = y := ⟨_, rfl⟩
        rw [hx] at q1 x8
        rw [hy] at q2 y8
        have X := Lib.hid hx
        have Y := Lib.hid hy
        clear hx hy hrow1 hrow2 l1 l2
        have hkI : (k : Int) < (n : Int) := by omega
        obtain ⟨t, ht⟩ : ∃ t, decide (x = y) = t := ⟨_, rfl⟩
        have EQ : ∀ w', (binOp .neq 33 (.agg (bcs x)) (.agg (bcs y))).run Try.prog w' = .ok (.bool (!t)) w' := fun w' => by rw [neq8 x y x8 y8, ht]
        have GD := guard37
        have HS : (fun w' : World => At8 w' b1 (o1 + k * 8) x ∧ At8 w' b2 (o2 + k * 8) y) wr.drew := ⟨fun i u hu => (H.out.1.cell _).trans (q1 i u hu), fun i u hu => (H.out.1.cell _).trans (q2 i u hu)⟩
        have T := Lib.hid ht
        clear ht
        go_wp2_with fail
        refine wp_region_held (S := fun w' : World => At8 w' b1 (o1 + k * 8) x ∧ At8 w' b2 (o2 + k * 8) y) rfl ?_
        change wpAnyH _ _ _ _ _ _ _ _ wr.drew

        refine takeD (i := 0) (v := .slice (some ⟨b1, o1, none⟩) n c1) (some 17) rfl rfl (by kernel_rfl) (by kernel_rfl) (by kernel_rfl) (fun _ _ _ h => h) (Or.inl ⟨by rfl, by rintro w' -; go_simp⟩) HS ?_
        simp only [Act.put, List.setIfInBounds_toArray, List.set_cons_zero, List.set_cons_succ]
        refine takeD (i := 1) (v := .int .i64 (k : Int)) (some 18) rfl rfl (by kernel_rfl) (by kernel_rfl) (by kernel_rfl) (fun _ _ _ h => h) (Or.inl ⟨by rfl, by rintro w' -; go_simp⟩) HS ?_
        simp only [Act.put, List.setIfInBounds_toArray, List.set_cons_zero, List.set_cons_succ]
        refine takeD (i := 2) (v := .pointer (some ⟨b1, o1 + k * 8, none⟩)) (some 19) rfl rfl (by kernel_rfl) (by kernel_rfl) (by kernel_rfl) (fun _ _ _ h => h) (Or.inl ⟨by rfl, by rintro w' -; go_simp⟩) HS ?_
        simp only [Act.put, List.setIfInBounds_toArray, List.set_cons_zero, List.set_cons_succ]
        refine takeD (i := 3) (v := .agg (bcs x)) (some 20) rfl rfl (by kernel_rfl) (by kernel_rfl) (by kernel_rfl) (fun _ _ _ h => h) (yieldsIf_load8 (by rfl) _ _ rfl _ _ rfl _ _ (fun w' h => h.1) Try.underlying33 rfl (size8 x8.1)) HS ?_
        simp only [Act.put, List.setIfInBounds_toArray, List.set_cons_zero, List.set_cons_succ]
        refine takeD (i := 4) (v := .slice (some ⟨b2, o2, none⟩) n c2) (some 21) rfl rfl (by kernel_rfl) (by kernel_rfl) (by kernel_rfl) (fun _ _ _ h => h) (Or.inl ⟨by rfl, by rintro w' -; go_simp⟩) HS ?_
        simp only [Act.put, List.setIfInBounds_toArray, List.set_cons_zero, List.set_cons_succ]
        refine takeD (i := 5) (v := .int .i64 (k : Int)) (some 22) rfl rfl (by kernel_rfl) (by kernel_rfl) (by kernel_rfl) (fun _ _ _ h => h) (Or.inl ⟨by rfl, by rintro w' -; go_simp⟩) HS ?_
        simp only [Act.put, List.setIfInBounds_toArray, List.set_cons_zero, List.set_cons_succ]
        refine takeD (i := 6) (v := .pointer (some ⟨b2, o2 + k * 8, none⟩)) (some 23) rfl rfl (by kernel_rfl) (by kernel_rfl) (by kernel_rfl) (fun _ _ _ h => h) (Or.inl ⟨by rfl, by rintro w' -; go_simp⟩) HS ?_
        simp only [Act.put, List.setIfInBounds_toArray, List.set_cons_zero, List.set_cons_succ]
        refine takeD (i := 7) (v := .agg (bcs y)) (some 24) rfl rfl (by kernel_rfl) (by kernel_rfl) (by kernel_rfl) (fun _ _ _ h => h) (yieldsIf_load8 (by rfl) _ _ rfl _ _ rfl _ _ (fun w' h => h.2) Try.underlying33 rfl (size8 y8.1)) HS ?_
        simp only [Act.put, List.setIfInBounds_toArray, List.set_cons_zero, List.set_cons_succ]
        refine takeD (i := 8) (v := .bool (!t)) (some 25) rfl rfl (by kernel_rfl) (by kernel_rfl) (by kernel_rfl) (fun _ _ _ h => h) (Or.inl ⟨by rfl, by rintro w' -; go_simp⟩) HS ?_
        simp only [Act.put, List.setIfInBounds_toArray, List.set_cons_zero, List.set_cons_succ]
        refine wpAnyH_done (by kernel_rfl) ?_ _
        cases t
        · have ne : x ≠ y := by simpa using T.out
          have NE := Lib.hid ne
          clear ne
          go_wp2
          go_ret
          refine ⟨ret_bool ?_, H.out.1.drew⟩
          exact (decide_eq_false fun e => NE.out (by rw [← X.out, ← Y.out, e])).symm
        · have eq : x = y := by simpa using T.out
          have E := Lib.hid eq
          clear eq
          go_wp2
          go_roundw
          case rel =>
            refine ⟨k + 1, by omega, by go_num, Lib.hid ⟨H.out.1.drew, fun j hj => ?_⟩⟩
            rcases Nat.lt_or_ge j k with h | h
            · exact H.out.2 j h
            · obtain rfl : j = k := by omega
              rw [X.out, Y.out]; exact E.out
          case measure => simp [intOf]; omega
      · go_wp2
        go_ret
        refine ⟨ret_bool ?_, H.out.1⟩
        refine (decide_eq_true ?_).symm
        exact Bl.eq_of (by rw [N.out, N2.out]) fun j hj => H.out.2 j (by rw [N.out] at hj; omega)
  · have g0 : ((n : Int) != (n2 : Int)) = true := by simp; omega
    have G : Hid (decide (D1 = D2) = false) := Lib.hid (decide_eq_false fun e => he (by rw [← N.out, ← N2.out, e]))
    clear he
    go_enter Try.func21, Try.ntmps21
    go_wp2
    go_ret
    exact ⟨ret_bool G.out.symm, Dr.refl w⟩
end Go.Proofs.Ytheijobnmdbodaa
namespace Go.Proofs.Ytheijobnmdbodaa
open Go Go.RowKit
set_option linter.unusedVariables false

/-- A list of blocks that lies in a block from base on, or is nil. -/
def OwnB (w : World) (base : Nat) (v : Value) (D : List (List Nat)) : Prop := (∀ d ∈ D, B8 d) ∧ w.ownsRow base 33 8 v D.length (D.flatten.map bv)
theorem OwnB.bl {w : World} {base : Nat} {v : Value} {D : List (List Nat)} (h : OwnB w base v D) : Bl w v D := by
  obtain ⟨hD, hl, h⟩ := h
  rcases h with ⟨rfl, h0⟩ | ⟨g, cap, cur, rfl, hg, hh, hle, hm, hs, ht⟩
  · obtain rfl : D = [] := List.length_eq_zero_iff.1 h0
    exact Bl.nil_ w
  · refine ⟨_, cap, rfl, ⟨hle, hm⟩, hD, fun h => (by cases h), fun _ => ⟨g, 0, rfl, fun j u hu => ?_⟩⟩
    have hj : j < D.length * 8 := by
      have := (List.getElem?_eq_some_iff.1 hu).1
      omega
    rw [Nat.zero_add, cell_of_row w g j cur _ (0, 0) hh]
    rw [← ht, List.getElem?_take_of_lt hj] at hu
    simpa using hu
theorem OwnB.lt {w : World} {base : Nat} {v : Value} {D : List (List Nat)} (h : OwnB w base v D) : ∀ k, v.ownBlock = some k → base ≤ k ∧ k < w.heap.size := h.2.lt
theorem OwnB.below {w w' : World} {base B : Nat} {v : Value} {D : List (List Nat)} (h : OwnB w base v D) (hb : Below B w w') (hB : w.heap.size ≤ B) : OwnB w' base v D := by
  obtain ⟨hD, hl, h⟩ := h
  refine ⟨hD, hl, ?_⟩
  rcases h with h | ⟨g, cap, cur, rfl, hg, hh, hr⟩
  · exact .inl h
  · exact .inr ⟨g, cap, cur, rfl, hg, (hb.block g (by have := (Array.getElem?_eq_some_iff.1 hh).1; omega)).trans hh, hr⟩
theorem OwnB.new {w : World} {base : Nat} (hb : base ≤ w.heap.size) : OwnB (w.alloc (.cells #[] 33)) base (.slice (some ⟨w.heap.size, 0, none⟩) 0 0) [] :=
  ⟨fun _ h => (by cases h), World.ownsRow_made w #[] 0 hb (Nat.zero_le _) rfl⟩
/-- 'append(x, y...)': x a list of the call's own, y any. -/
theorem wpList_append_bl {w : World} {ops : Array Oper} {rest : List Oper} {o : Oper} {a : Act} {Q : Exit → Act → World → Prop} (hgd : o.guard = none) (s x : Operand)
    (ho : o.op = .call { callee := .builtin .append, args := #[s, x], argTypes := #[31, 31] })
    (base : Nat) (v src : Value) (D E : List (List Nat)) (hs : a.eval s = v) (hown : OwnB w base v D) (hx : a.eval x = src) (hsrc : Bl w src E) (hlen : D.length + E.length ≤ 1000) (hbase : base ≤ w.heap.size)
    (h : ∀ v' w', OwnB w' base v' (D ++ E) → w.grownBy w' v.ownBlock → wpList Try.prog ops Q rest (a.put o.dst v') w') : wpList Try.prog ops Q (o :: rest) a w := by
  obtain ⟨i, hi, hzz⟩ := Option.map_eq_some_iff.1 info_blk
  simp only [Prod.mk.injEq] at hzz
  obtain ⟨hz, hsz, hby⟩ := hzz
  obtain ⟨A, c, rfl, hm, hE, hA, hc⟩ := hsrc
  rcases A with _ | ad
  · have h0 : E.length = 0 := by
      rcases Nat.eq_zero_or_pos E.length with h0 | h0
      · exact h0
      · obtain ⟨b, off, h1, _⟩ := hc h0; cases h1
    obtain rfl : E = [] := List.length_eq_zero_iff.1 h0
    obtain rfl := hA rfl
    exact wpList_append_own_none hgd s x _ ho base _ i 8 Try.underlying31 hi v D.length _ hs hown.2 hx (h v w (by rw [List.append_nil]; exact hown) (World.grownBy.refl w _))
  · refine wpList_append_own w hgd s x _ ho base _ i _ 8 8 Try.underlying31 hi hz hsz hby rfl (by decide) v D.length _ hs hown.2 ad E.length c (E.flatten.map bv) hx (by rw [List.length_map, flat_len fun d hd => (hE d hd).1]) (fun j u hu => ?_) bv_one (by unfold maxLen; omega) (by omega) hbase fun v' w' h1 h2 _ => h v' w' ⟨fun d hd => (List.mem_append.1 hd).elim (hown.1 d) (hE d), by rw [List.length_append, List.flatten_append, List.map_append]; exact h1⟩ h2
    have hj : j < E.flatten.length := by
      have := (List.getElem?_eq_some_iff.1 hu).1
      rwa [List.length_map] at this
    rw [flat_len fun d hd => (hE d hd).1] at hj
    obtain ⟨b, off, h1, hcell⟩ := hc (by omega)
    cases h1
    rw [Go.WideShapes.add_plain]
    exact hcell j u hu
end Go.Proofs.Ytheijobnmdbodaa
namespace Go.Proofs.Ytheijobnmdbodaa
open Go Go.RowKit
set_option linter.unusedVariables false

def blPost (D : List (List Nat)) (w : World) (e : Ending) (w' : World) : Prop := ∃ v, e = .returned v ∧ Bl w' v D ∧ Below w.heap.size w w'
set_option maxHeartbeats 1000000 in
set_option maxRecDepth 100000 in
theorem group_any (v : Value) (D : List (List Nat)) (w : World) (h : Bl w v D) (h13 : D.length ≤ 200) :
    Calls Try.prog 25 #[v] w (blPost (D ++ parL D) w) := by
  have RP := Lib.hid (fun w' (hb : Below w.heap.size w w') => rparity_any v D w' (h.below hb (Nat.le_refl _)) h13)
  have HV := Lib.hid h
  obtain ⟨A, c, rfl⟩ := h.form
  obtain ⟨n, hn⟩ : ∃ n, D.length = n := ⟨_, rfl⟩
  have N := Lib.hid hn
  rw [hn] at h13 RP HV ⊢
  clear h hn
  go_enter Try.func25, Try.ntmps25
  have L1 : Hid (([] : List (List Nat)).length + D.length ≤ 1000) := Lib.hid (by rw [N.out]; simp; omega)
  have L2 : Hid (([] ++ D : List (List Nat)).length + (parL D).length ≤ 1000) := Lib.hid (by rw [List.nil_append, N.out]; simp [parL]; omega)
  go_wp2_with (first
    | (at_builtin; refine wpList_append_bl rfl (.tmp 3) (.tmp 4) rfl w.heap.size (.slice (some ⟨w.heap.size, 0, none⟩) 0 0) (.slice A n c) [] D rfl (OwnB.new (Nat.le_refl _)) rfl (HV.out.alloc _) L1.out (by simp) ?_
       intro x0 w2 ho hg
       have HO := Lib.hid ho
       have HB : Hid (Below w.heap.size w w2) := Lib.hid (((Below.refl w.heap.size w).alloc (Nat.le_refl _) _).grown hg (by simp) (fun k e => by cases e; exact Nat.le_refl _))
       clear ho hg)
    | (go_at_call 43; refine (RP.out _ HB.out).mono ?_; rintro e w3 ⟨rfl, hr, hb⟩
       have HO3 := Lib.hid (HO.out.below hb (Nat.le_refl _))
       have HB3 := Lib.hid (HB.out.trans (hb.mono HB.out.size))
       have HR := Lib.hid (Bl.par hr)
       clear hr hb)
    | (at_builtin; refine wpList_append_bl rfl (.tmp 5) (.tmp 7) rfl w.heap.size x0 (.slice (some ⟨w2.heap.size, 0, none⟩) 3 3) ([] ++ D) (parL D) rfl HO3.out rfl HR.out L2.out HB3.out.size ?_
       intro x4 w4 ho hg
       have HO4 := Lib.hid ho
       have HB4 : Hid (Below w.heap.size w w4) := Lib.hid (HB3.out.grown hg HB3.out.size (fun k e => (HO3.out.lt k e).1))
       clear ho hg))
  go_ret
  exact ⟨_, rfl, HO4.out.bl, HB4.out⟩

/-- The reference's Check. -/
def belowB (b : Bool) (w : World) (e : Ending) (w' : World) : Prop := e = .returned (.bool b) ∧ Below w.heap.size w w'
end Go.Proofs.Ytheijobnmdbodaa
