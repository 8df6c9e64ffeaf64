/- Law MediaLocal. WRITTEN BY gen_Mdp.py. -/
import Derived.Test.YtkaklgdjlanigaaMdm
namespace Go.Proofs.Ytkaklgdjlanigaa
open Go Go.RowKit Med
set_option linter.unusedVariables false
set_option linter.unusedSimpArgs false

namespace Med
/-- Whether the operation may change sector a. -/
def tch (R B T S O : Nat) (o : Op) (a : Int) : Bool := if o.erase = true then (decide ((Geo.loc R B T S O a).2.2.2 = 0) && decide ((Geo.loc R B T S O a).1 = o.pos)) else (a == o.pos || (Geo.shadow R B T S O o.pos).any fun x => x == a)
theorem tch_off {R B T S O : Nat} {l : List Sec} (h : Geo.GV (R : Int) B T S O) (hl : l.length = R + B * (T * S)) (o : Op) (a : Nat) (ha : a < l.length) (hq : tch R B T S O o a = false ∨ opE B l o ≠ 0) : (opL R B T S O l o)[a]? = l[a]? := by
  unfold opL
  unfold opE at hq
  unfold tch at hq
  cases he : o.erase with
  | true =>
    rw [he, if_pos rfl, if_pos rfl] at hq
    rw [if_pos rfl]
    unfold er
    unfold erE at hq
    by_cases hp : 0 ≤ o.pos ∧ o.pos < B
    · rw [if_pos hp] at hq ⊢
      have hq := hq.resolve_right (fun h => h rfl)
      obtain ⟨p, hpp⟩ : ∃ p : Nat, o.pos = p := ⟨o.pos.toNat, by omega⟩
      rw [hpp] at hq ⊢
      rw [Int.toNat_natCast]
      refine wipe_off _ _ _ _ ?_
      by_cases hr : a < R
      · exact Or.inl (by omega)
      · obtain ⟨n, rfl⟩ : ∃ n, a = R + n := ⟨a - R, by omega⟩
        have hn : n < B * (T * S) := by omega
        rw [Geo.loc_in h hn] at hq
        have hne : n / (T * S) ≠ p := by
          intro e
          rw [e] at hq
          simp at hq
        have g := Geo.gv_nat h
        have q := Geo.ts_pos g.2.2.2.1 g.2.2.2.2.2.1
        rcases Nat.lt_trichotomy (n / (T * S)) p with h1 | h1 | h1
        · have := (Nat.div_lt_iff_lt_mul q).1 h1
          exact Or.inl (by omega)
        · exact absurd h1 hne
        · have := (Nat.le_div_iff_mul_le q).1 h1
          rw [Nat.succ_mul] at this
          exact Or.inr (by omega)
    · rw [if_neg hp]
  | false =>
    rw [he, if_neg Bool.false_ne_true, if_neg Bool.false_ne_true] at hq
    rw [if_neg Bool.false_ne_true]
    unfold wr
    by_cases hw : wrE l o.pos o.bytes.length = 0
    · rw [if_pos hw]
      have hq := hq.resolve_right (fun h => h hw)
      have hp : 0 ≤ o.pos := by
        unfold wrE at hw
        by_cases hc : 0 ≤ o.pos ∧ o.pos < l.length
        · exact hc.1
        · rw [if_neg hc] at hw; cases hw
      rw [Bool.or_eq_false_iff] at hq
      unfold put
      rw [kill_off _ _ _ fun x hx => ?_, List.getElem?_set_ne ?_]
      · have := hq.1
        intro e
        simp at this
        omega
      · have h2 := List.any_eq_false.1 hq.2 x hx
        have h3 := Geo.shadow_in h o.pos x hx
        intro e
        apply h2
        simp
        omega
    · rw [if_neg hw]
theorem any_take {sh : List Int} {k : Nat} (h : k < sh.length) (a : Int) : ((sh.take (k + 1)).any fun x => x == a) = (((sh.take k).any fun x => x == a) || (sh.getD k 0 == a)) := by
  rw [List.take_succ_eq_append_getElem h, List.any_append, getD_in h]; simp
end Med
theorem Row.chg {w w' : World} {g : Nat} {t : TypeId} {cs : Array Value} {o : Nat → Prop} (h : Row w g t cs) (hc : Chg o w w') (hg : ¬ o g) : Row w' g t cs := (hc.block g h.lt hg).trans h
theorem pdo_op {w : World} {M X c R B T S O : Nat} {l : List Sec} {er : Bool} {p : Int} (h : PMd w M X c R B T S O l) (o : Med.Op) (v : Value) (hb : Bs w v o.bytes) (h1 : o.erase = er) (h2 : o.pos = p) : Calls Try.prog 19 #[.pointer (some ⟨M, 0, none⟩), .agg #[.bool er, .int .i64 p, v]] w (wrPost 62 69 M X c R B T S O (opE B l o) (opL R B T S O l o) w) := by
  subst h1 h2
  exact pdo_any h o v hb
theorem op_cells3 {w : World} {g : Nat} {t : TypeId} {a b c : Value} (h : Row w g t #[a, b, c]) : w.cell? ⟨g, 0, none⟩ = some a ∧ w.cell? ⟨g, 1, none⟩ = some b ∧ w.cell? ⟨g, 2, none⟩ = some c := by
  refine ⟨?_, ?_, ?_⟩ <;> (rw [h.cell]; rfl)

set_option maxHeartbeats 4000000 in
set_option maxRecDepth 100000 in
theorem local_no (r b t s o5 : Int) (v u : Value) (L : List Med.Op) (o : Med.Op) (w : World) (h : Ols w v L) (hu : Bs w u o.bytes) (hf : ¬ Geo.fair r b t s o5) : Calls Try.prog 5 #[.agg #[.int .i64 r, .int .i64 b, .int .i64 t, .int .i64 s, .int .i64 o5], v, .agg #[.bool o.erase, .int .i64 o.pos, u]] w (lawPost w) := by
  have HO := Lib.hid h
  obtain ⟨A, cc, rfl⟩ := h.form
  clear h
  have HU := Lib.hid hu
  obtain ⟨Ao, co, rfl⟩ := hu.form
  clear hu
  have HL := Lib.hid HO.out.len
  obtain ⟨n, hn⟩ : ∃ n, L.length = n := ⟨_, rfl⟩
  have EN := Lib.hid hn
  rw [hn] at HO HL ⊢
  obtain ⟨m, hm⟩ : ∃ m, o.bytes.length = m := ⟨_, rfl⟩
  have EM := Lib.hid hm
  rw [hm] at HU ⊢
  obtain ⟨er, her⟩ : ∃ x, o.erase = x := ⟨_, rfl⟩
  have EE := Lib.hid her
  rw [her]
  obtain ⟨p, hp⟩ : ∃ x, o.pos = x := ⟨_, rfl⟩
  have EP := Lib.hid hp
  rw [hp]
  clear hn hm her hp
  obtain ⟨B0, hB0⟩ : ∃ B, w.heap.size = B := ⟨_, rfl⟩
  obtain ⟨W0, hW0⟩ : ∃ W, w.alloc (.cells #[.int .i64 r, .int .i64 b, .int .i64 t, .int .i64 s, .int .i64 o5] 23) = W := ⟨_, rfl⟩
  have T0 : Hid (Below w.heap.size w W0) := Lib.hid (by subst hW0; exact (Below.refl _ _).alloc (Nat.le_refl _) _)
  have G0 : Hid (Row W0 B0 23 #[.int .i64 r, .int .i64 b, .int .i64 t, .int .i64 s, .int .i64 o5]) := Lib.hid (by subst hW0; exact gr_new w _ _ hB0)
  have HB0 := Lib.hid hB0
  have HW0 := Lib.hid hW0
  clear hB0 hW0
  obtain ⟨B1, hB1⟩ : ∃ B, W0.heap.size = B := ⟨_, rfl⟩
  obtain ⟨W1, hW1⟩ : ∃ W, W0.alloc (.cells #[.bool er, .int .i64 p, .slice Ao m co] 43) = W := ⟨_, rfl⟩
  have T1 : Hid (Below w.heap.size w W1) := Lib.hid (by subst hW1; exact T0.out.alloc T0.out.size _)
  have O1 : Hid (Row W1 B1 43 #[.bool er, .int .i64 p, .slice Ao m co]) := Lib.hid (by subst hW1; exact gr_new W0 _ _ hB1)
  have G1 : Hid (Row W1 B0 23 #[.int .i64 r, .int .i64 b, .int .i64 t, .int .i64 s, .int .i64 o5]) := Lib.hid (by subst hW1; exact rw_fw G0.out ((Below.refl _ _).alloc (Nat.le_refl _) _))
  have HB1 := Lib.hid hB1
  have HW1 := Lib.hid hW1
  clear hB1 hW1
  go_enter Try.func5, Try.ntmps5

  go_wp2_with (first | rw [HB0.out] | rw [HW0.out] | rw [HB1.out] | rw [HW1.out])
  refine (awake11 _).mono ?_
  rintro e x1 ⟨rfl, hb2⟩
  have G_3 := Lib.hid (rw_fw G1.out (hb2))
  have O_4 := Lib.hid (rw_fw O1.out (hb2))
  have hl5 := hb2
  have HT_6 : Hid (Below w.heap.size w x1) := Lib.hid (T1.out.trans ((hl5).mono T1.out.size))
  clear hb2 
  go_wp2_with fail
  refine (short_any (.slice A n cc) L _ (HO.out.fw HT_6.out)).mono ?_
  rintro e w' ⟨bb, rfl, rfl⟩
  cases bb with
  | false =>
    go_wp2_with fail
    refine (awake11 _).mono ?_
    rintro e x7 ⟨rfl, hb8⟩
    have G_9 := Lib.hid (rw_fw G_3.out (hb8))
    have O_10 := Lib.hid (rw_fw O_4.out (hb8))
    have hl11 := hb8
    have HT_12 : Hid (Below w.heap.size w x7) := Lib.hid (HT_6.out.trans ((hl11).mono HT_6.out.size))
    clear hb8 
    go_wp2_with fail
    go_ret
    exact ⟨rfl, HT_12.out⟩
  | true =>
    by_cases h64 : 64 < m
    · have d0 : decide ((64 : Int) < (m : Int)) = true := decide_eq_true (by omega)
      obtain ⟨c0, c1, c2, c3, c4⟩ := geo_cells G_3.out
      obtain ⟨k0, k1, k2⟩ := op_cells3 O_4.out
      go_wp2_with fail
      clear c0 c1 c2 c3 c4
      clear k0 k1 k2
      refine (awake11 _).mono ?_
      rintro e x7 ⟨rfl, hb8⟩
      have G_9 := Lib.hid (rw_fw G_3.out (hb8))
      have O_10 := Lib.hid (rw_fw O_4.out (hb8))
      have hl11 := hb8
      have HT_12 : Hid (Below w.heap.size w x7) := Lib.hid (HT_6.out.trans ((hl11).mono HT_6.out.size))
      clear hb8 
      go_wp2_with fail
      go_ret
      exact ⟨rfl, HT_12.out⟩
    · have d0 : decide ((64 : Int) < (m : Int)) = false := decide_eq_false (by omega)
      obtain ⟨c0, c1, c2, c3, c4⟩ := geo_cells G_3.out
      obtain ⟨k0, k1, k2⟩ := op_cells3 O_4.out
      go_wp2_with fail
      clear c0 c1 c2 c3 c4
      clear k0 k1 k2
      refine (fair_any r b t s o5 _).mono ?_
      rintro e x7 ⟨rfl, hb8⟩
      have G_9 := Lib.hid (rw_fw G_3.out (hb8))
      have O_10 := Lib.hid (rw_fw O_4.out (hb8))
      have hl11 := hb8
      have HT_12 : Hid (Below w.heap.size w x7) := Lib.hid (HT_6.out.trans ((hl11).mono HT_6.out.size))
      clear hb8 
      rw [decide_eq_false hf]
      go_wp2_with fail
      refine (awake11 _).mono ?_
      rintro e x13 ⟨rfl, hb14⟩
      have G_15 := Lib.hid (rw_fw G_9.out (hb14))
      have O_16 := Lib.hid (rw_fw O_10.out (hb14))
      have hl17 := hb14
      have HT_18 : Hid (Below w.heap.size w x13) := Lib.hid (HT_12.out.trans ((hl17).mono HT_12.out.size))
      clear hb14 
      go_wp2_with fail
      go_ret
      exact ⟨rfl, HT_18.out⟩
set_option maxHeartbeats 4000000 in
set_option maxRecDepth 100000 in
theorem local_long (R B T S O : Nat) (v u : Value) (L : List Med.Op) (o : Med.Op) (w : World) (h : Ols w v L) (hu : Bs w u o.bytes) (hf : Geo.fair (R : Int) B T S O) (h64 : 64 < o.bytes.length) : Calls Try.prog 5 #[.agg #[.int .i64 (R : Int), .int .i64 (B : Int), .int .i64 (T : Int), .int .i64 (S : Int), .int .i64 (O : Int)], v, .agg #[.bool o.erase, .int .i64 o.pos, u]] w (lawPost w) := by
  have HO := Lib.hid h
  obtain ⟨A, cc, rfl⟩ := h.form
  clear h
  have HU := Lib.hid hu
  obtain ⟨Ao, co, rfl⟩ := hu.form
  clear hu
  have HL := Lib.hid HO.out.len
  obtain ⟨n, hn⟩ : ∃ n, L.length = n := ⟨_, rfl⟩
  have EN := Lib.hid hn
  rw [hn] at HO HL ⊢
  obtain ⟨m, hm⟩ : ∃ m, o.bytes.length = m := ⟨_, rfl⟩
  have EM := Lib.hid hm
  rw [hm] at HU ⊢
  obtain ⟨er, her⟩ : ∃ x, o.erase = x := ⟨_, rfl⟩
  have EE := Lib.hid her
  rw [her]
  obtain ⟨p, hp⟩ : ∃ x, o.pos = x := ⟨_, rfl⟩
  have EP := Lib.hid hp
  rw [hp]
  rw [hm] at h64
  clear hn hm her hp
  have d0 : decide ((64 : Int) < (m : Int)) = true := decide_eq_true (by omega)
  obtain ⟨B0, hB0⟩ : ∃ B, w.heap.size = B := ⟨_, rfl⟩
  obtain ⟨W0, hW0⟩ : ∃ W, w.alloc (.cells #[.int .i64 (R : Int), .int .i64 (B : Int), .int .i64 (T : Int), .int .i64 (S : Int), .int .i64 (O : Int)] 23) = W := ⟨_, rfl⟩
  have T0 : Hid (Below w.heap.size w W0) := Lib.hid (by subst hW0; exact (Below.refl _ _).alloc (Nat.le_refl _) _)
  have G0 : Hid (Row W0 B0 23 #[.int .i64 (R : Int), .int .i64 (B : Int), .int .i64 (T : Int), .int .i64 (S : Int), .int .i64 (O : Int)]) := Lib.hid (by subst hW0; exact gr_new w _ _ hB0)
  have HB0 := Lib.hid hB0
  have HW0 := Lib.hid hW0
  clear hB0 hW0
  obtain ⟨B1, hB1⟩ : ∃ B, W0.heap.size = B := ⟨_, rfl⟩
  obtain ⟨W1, hW1⟩ : ∃ W, W0.alloc (.cells #[.bool er, .int .i64 p, .slice Ao m co] 43) = W := ⟨_, rfl⟩
  have T1 : Hid (Below w.heap.size w W1) := Lib.hid (by subst hW1; exact T0.out.alloc T0.out.size _)
  have O1 : Hid (Row W1 B1 43 #[.bool er, .int .i64 p, .slice Ao m co]) := Lib.hid (by subst hW1; exact gr_new W0 _ _ hB1)
  have G1 : Hid (Row W1 B0 23 #[.int .i64 (R : Int), .int .i64 (B : Int), .int .i64 (T : Int), .int .i64 (S : Int), .int .i64 (O : Int)]) := Lib.hid (by subst hW1; exact rw_fw G0.out ((Below.refl _ _).alloc (Nat.le_refl _) _))
  have HB1 := Lib.hid hB1
  have HW1 := Lib.hid hW1
  clear hB1 hW1
  go_enter Try.func5, Try.ntmps5

  go_wp2_with (first | rw [HB0.out] | rw [HW0.out] | rw [HB1.out] | rw [HW1.out])
  refine (awake11 _).mono ?_
  rintro e x1 ⟨rfl, hb2⟩
  have G_3 := Lib.hid (rw_fw G1.out (hb2))
  have O_4 := Lib.hid (rw_fw O1.out (hb2))
  have hl5 := hb2
  have HT_6 : Hid (Below w.heap.size w x1) := Lib.hid (T1.out.trans ((hl5).mono T1.out.size))
  clear hb2 
  go_wp2_with fail
  refine (short_any (.slice A n cc) L _ (HO.out.fw HT_6.out)).mono ?_
  rintro e w' ⟨bb, rfl, rfl⟩
  cases bb with
  | false =>
    go_wp2_with fail
    refine (awake11 _).mono ?_
    rintro e x7 ⟨rfl, hb8⟩
    have G_9 := Lib.hid (rw_fw G_3.out (hb8))
    have O_10 := Lib.hid (rw_fw O_4.out (hb8))
    have hl11 := hb8
    have HT_12 : Hid (Below w.heap.size w x7) := Lib.hid (HT_6.out.trans ((hl11).mono HT_6.out.size))
    clear hb8 
    go_wp2_with fail
    go_ret
    exact ⟨rfl, HT_12.out⟩
  | true =>
    obtain ⟨c0, c1, c2, c3, c4⟩ := geo_cells G_3.out
    obtain ⟨k0, k1, k2⟩ := op_cells3 O_4.out
    go_wp2_with fail
    clear c0 c1 c2 c3 c4
    clear k0 k1 k2
    refine (awake11 _).mono ?_
    rintro e x7 ⟨rfl, hb8⟩
    have G_9 := Lib.hid (rw_fw G_3.out (hb8))
    have O_10 := Lib.hid (rw_fw O_4.out (hb8))
    have hl11 := hb8
    have HT_12 : Hid (Below w.heap.size w x7) := Lib.hid (HT_6.out.trans ((hl11).mono HT_6.out.size))
    clear hb8 
    go_wp2_with fail
    go_ret
    exact ⟨rfl, HT_12.out⟩
set_option maxHeartbeats 4000000 in
set_option maxRecDepth 100000 in
theorem local_main (R B T S O : Nat) (v u : Value) (L : List Med.Op) (o : Med.Op) (w : World) (h : Ols w v L) (hu : Bs w u o.bytes) (hf : Geo.fair (R : Int) B T S O) (h64 : ¬ 64 < o.bytes.length) : Calls Try.prog 5 #[.agg #[.int .i64 (R : Int), .int .i64 (B : Int), .int .i64 (T : Int), .int .i64 (S : Int), .int .i64 (O : Int)], v, .agg #[.bool o.erase, .int .i64 o.pos, u]] w (lawPost w) := by
  have HO := Lib.hid h
  obtain ⟨A, cc, rfl⟩ := h.form
  clear h
  have HU := Lib.hid hu
  obtain ⟨Ao, co, rfl⟩ := hu.form
  clear hu
  have HL := Lib.hid HO.out.len
  obtain ⟨n, hn⟩ : ∃ n, L.length = n := ⟨_, rfl⟩
  have EN := Lib.hid hn
  rw [hn] at HO HL ⊢
  obtain ⟨m, hm⟩ : ∃ m, o.bytes.length = m := ⟨_, rfl⟩
  have EM := Lib.hid hm
  rw [hm] at HU ⊢
  obtain ⟨er, her⟩ : ∃ x, o.erase = x := ⟨_, rfl⟩
  have EE := Lib.hid her
  rw [her]
  obtain ⟨p, hp⟩ : ∃ x, o.pos = x := ⟨_, rfl⟩
  have EP := Lib.hid hp
  rw [hp]
  rw [hm] at h64
  clear hn hm her hp
  have d0 : decide ((64 : Int) < (m : Int)) = false := decide_eq_false (by omega)
  have HV := Lib.hid hf.1
  have SZ := Lib.hid fun w => rsize_any (R : Int) B T S O w
  have N2 := Lib.hid hf.2
  rw [Geo.size_nat hf.1] at SZ N2
  obtain ⟨N, hN⟩ : ∃ N, R + B * (T * S) = N := ⟨_, rfl⟩
  have EZ := Lib.hid hN
  rw [hN] at SZ N2
  clear hN
  obtain ⟨B0, hB0⟩ : ∃ B, w.heap.size = B := ⟨_, rfl⟩
  obtain ⟨W0, hW0⟩ : ∃ W, w.alloc (.cells #[.int .i64 (R : Int), .int .i64 (B : Int), .int .i64 (T : Int), .int .i64 (S : Int), .int .i64 (O : Int)] 23) = W := ⟨_, rfl⟩
  have T0 : Hid (Below w.heap.size w W0) := Lib.hid (by subst hW0; exact (Below.refl _ _).alloc (Nat.le_refl _) _)
  have G0 : Hid (Row W0 B0 23 #[.int .i64 (R : Int), .int .i64 (B : Int), .int .i64 (T : Int), .int .i64 (S : Int), .int .i64 (O : Int)]) := Lib.hid (by subst hW0; exact gr_new w _ _ hB0)
  have HB0 := Lib.hid hB0
  have HW0 := Lib.hid hW0
  clear hB0 hW0
  obtain ⟨B1, hB1⟩ : ∃ B, W0.heap.size = B := ⟨_, rfl⟩
  obtain ⟨W1, hW1⟩ : ∃ W, W0.alloc (.cells #[.bool er, .int .i64 p, .slice Ao m co] 43) = W := ⟨_, rfl⟩
  have T1 : Hid (Below w.heap.size w W1) := Lib.hid (by subst hW1; exact T0.out.alloc T0.out.size _)
  have O1 : Hid (Row W1 B1 43 #[.bool er, .int .i64 p, .slice Ao m co]) := Lib.hid (by subst hW1; exact gr_new W0 _ _ hB1)
  have G1 : Hid (Row W1 B0 23 #[.int .i64 (R : Int), .int .i64 (B : Int), .int .i64 (T : Int), .int .i64 (S : Int), .int .i64 (O : Int)]) := Lib.hid (by subst hW1; exact rw_fw G0.out ((Below.refl _ _).alloc (Nat.le_refl _) _))
  have HB1 := Lib.hid hB1
  have HW1 := Lib.hid hW1
  clear hB1 hW1
  go_enter Try.func5, Try.ntmps5

  go_wp2_with (first | rw [HB0.out] | rw [HW0.out] | rw [HB1.out] | rw [HW1.out])
  refine (awake11 _).mono ?_
  rintro e x1 ⟨rfl, hb2⟩
  have G_3 := Lib.hid (rw_fw G1.out (hb2))
  have O_4 := Lib.hid (rw_fw O1.out (hb2))
  have hl5 := hb2
  have HT_6 : Hid (Below w.heap.size w x1) := Lib.hid (T1.out.trans ((hl5).mono T1.out.size))
  clear hb2 
  go_wp2_with fail
  refine (short_any (.slice A n cc) L _ (HO.out.fw HT_6.out)).mono ?_
  rintro e w' ⟨bb, rfl, rfl⟩
  cases bb with
  | false =>
    go_wp2_with fail
    refine (awake11 _).mono ?_
    rintro e x7 ⟨rfl, hb8⟩
    have G_9 := Lib.hid (rw_fw G_3.out (hb8))
    have O_10 := Lib.hid (rw_fw O_4.out (hb8))
    have hl11 := hb8
    have HT_12 : Hid (Below w.heap.size w x7) := Lib.hid (HT_6.out.trans ((hl11).mono HT_6.out.size))
    clear hb8 
    go_wp2_with fail
    go_ret
    exact ⟨rfl, HT_12.out⟩
  | true =>
    obtain ⟨c0, c1, c2, c3, c4⟩ := geo_cells G_3.out
    obtain ⟨k0, k1, k2⟩ := op_cells3 O_4.out
    go_wp2_with fail
    clear c0 c1 c2 c3 c4
    clear k0 k1 k2
    refine (fair_any (R : Int) B T S O _).mono ?_
    rintro e x7 ⟨rfl, hb8⟩
    have G_9 := Lib.hid (rw_fw G_3.out (hb8))
    have O_10 := Lib.hid (rw_fw O_4.out (hb8))
    have hl11 := hb8
    have HT_12 : Hid (Below w.heap.size w x7) := Lib.hid (HT_6.out.trans ((hl11).mono HT_6.out.size))
    clear hb8 
    rw [decide_eq_true hf]
    clear hf d0
    obtain ⟨c0, c1, c2, c3, c4⟩ := geo_cells G_9.out
    go_wp2_with fail
    clear c0 c1 c2 c3 c4
    refine (pnew_ok R B T S O _ HV.out).mono ?_
    rintro e x14 ⟨M, X, rfl, hn16, hx13, hb15⟩
    have QP := Lib.hid (show (w.heap.size ≤ M ∧ w.heap.size ≤ X) ∧ (B0 ≠ X ∧ B1 ≠ X) from ⟨⟨Nat.le_trans HT_12.out.size hx13.1, Nat.le_trans HT_12.out.size hx13.2⟩, by have := G_9.out.lt; have := O_10.out.lt; omega⟩)
    have G_17 := Lib.hid (rw_fw G_9.out (hb15))
    have O_18 := Lib.hid (rw_fw O_10.out (hb15))
    have hl19 := hb15
    have HT_20 : Hid (Below w.heap.size w x14) := Lib.hid (HT_12.out.trans ((hl19).mono HT_12.out.size))
    have P_21 := Lib.hid (hn16)
    clear hb15 hn16
    clear hx13
    go_wp2_with fail
    obtain ⟨l0, hl0⟩ : ∃ l, List.replicate (R + B * (T * S)) Med.blank = l := ⟨_, rfl⟩
    have P0 := Lib.hid P_21.out
    rw [hl0] at P0
    clear hl0
    go_loopw [9] (fun i wr => ∃ k : Nat, k ≤ n ∧ i = .int .i64 (k : Int) ∧ Hid (PMd wr M X (R + B * (T * S)) R B T S O (Med.play R B T S O l0 (L.take k)) ∧ Chg (fun j => j = X) x14 wr)) (fun i _ => n - (intOf i).toNat)
    case atStart => exact ⟨0, Nat.zero_le _, rfl, Lib.hid ⟨P0.out, Chg.refl _ _⟩⟩
    case round =>
      obtain ⟨k, hk, rfl, V⟩ := hrel
      have nb := HL.out
      have TW : Hid (Below w.heap.size w wr) := Lib.hid (HT_20.out.trans (V.out.2.below HT_20.out.size (fun j hj => by rw [hj]; exact QP.out.1.2)))
      by_cases hlt : k < n
      · have kI : (k : Int) < (n : Int) := by omega
        obtain ⟨b, off, u, hk2, rfl, f0, f1, f2, f3⟩ := (HO.out.fw TW.out).nth hlt
        have PK := Lib.hid (play_take R B T S O l0 L hk2)
        obtain ⟨ok, ho⟩ : ∃ o, L[k] = o := ⟨_, rfl⟩
        rw [ho] at PK f0 f1 f3
        have DO := Lib.hid (pdo_any V.out.1 ok u f3)
        have CV := Lib.hid V.out.2
        clear f3 V ho
        go_wp2_with fail
        refine DO.out.mono ?_
        rintro e w2 ⟨rfl, hm, hc⟩
        have M2 := Lib.hid (And.intro hm (CV.out.trans hc))
        clear hm hc DO CV f0 f1 f2
        go_wp2_with fail
        go_roundw
        case rel => exact ⟨k + 1, by omega, by go_num, Lib.hid ⟨by rw [PK.out]; exact M2.out.1, M2.out.2⟩⟩
        case measure => simp [intOf]; omega
      · obtain rfl : n = k := by omega
        have kI : ¬ (n : Int) < (n : Int) := by omega
        have dk : decide ((n : Int) < (n : Int)) = false := decide_eq_false kI
        obtain ⟨lk, hlk⟩ : ∃ l, Med.play R B T S O l0 (L.take n) = l := ⟨_, rfl⟩
        rw [hlk] at V
        have PV := Lib.hid V.out.1
        have GV := Lib.hid (G_17.out.chg V.out.2 QP.out.2.1)
        have OV := Lib.hid (O_18.out.chg V.out.2 QP.out.2.2)
        clear V hlk nb dk
        have dk : decide ((n : Int) < (n : Int)) = false := decide_eq_false kI
        go_wp2_with fail
        refine (pcl_any PV.out).mono ?_
        rintro e x23 ⟨Mc, Xc, ec, rfl, hn25, hx22, hb24⟩
        have QC := Lib.hid (show (Mc ≠ X ∧ Xc ≠ X) ∧ w.heap.size ≤ Xc from ⟨by have := PV.out.sx.lt; omega, Nat.le_trans TW.out.size hx22.2⟩)
        have P_26 := Lib.hid (Md.fw PV.out (hb24))
        have G_27 := Lib.hid (rw_fw GV.out (hb24))
        have O_28 := Lib.hid (rw_fw OV.out (hb24))
        have hl29 := hb24
        have HT_30 : Hid (Below w.heap.size w x23) := Lib.hid (TW.out.trans ((hl29).mono TW.out.size))
        have C_31 := Lib.hid (hn25)
        clear hb24 hn25
        clear hx22
        clear kI dk
        obtain ⟨k0, k1, k2⟩ := op_cells3 O_28.out
        go_wp2_with fail
        clear k0 k1 k2
        refine (pdo_op P_26.out o (.slice Ao m co) (HU.out.below HT_30.out) EE.out EP.out).mono ?_
        rintro e x32 ⟨rfl, hm, hc⟩
        have PQ := Lib.hid hm
        have CQ := Lib.hid (C_31.out.chg hc QC.out.1.1 QC.out.1.2)
        have GQ := Lib.hid (G_27.out.chg hc QP.out.2.1)
        have OQ := Lib.hid (O_28.out.chg hc QP.out.2.2)
        have HT_33 : Hid (Below w.heap.size w x32) := Lib.hid (HT_30.out.trans (hc.below HT_30.out.size (fun j hj => by rw [hj]; exact QP.out.1.2)))
        clear hm hc
        have LN := Lib.hid (show lk.length = N by have := CQ.out.len; rw [EZ.out] at this; exact this)
        have OFF := Lib.hid fun (a : Nat) (ha : a < N) => tch_off HV.out (by rw [LN.out, EZ.out]) o a (by rw [LN.out]; exact ha)
        have LK2 := Lib.hid (opL_len R B T S O lk o)
        obtain ⟨l2, hl2⟩ : ∃ l, opL R B T S O lk o = l := ⟨_, rfl⟩
        rw [hl2] at PQ OFF LK2
        obtain ⟨ev, hev⟩ : ∃ e, opE B lk o = e := ⟨_, rfl⟩
        rw [hev] at OFF ⊢
        have TH := Lib.hid fun (a : Int) => (show Med.tch R B T S O o a = if er = true then (decide ((Geo.loc R B T S O a).2.2.2 = 0) && decide ((Geo.loc R B T S O a).1 = p)) else (a == p || (Geo.shadow R B T S O p).any fun x => x == a) by unfold Med.tch; rw [EE.out, EP.out])
        clear hl2 hev
        obtain ⟨c0, c1, c2, c3, c4⟩ := geo_cells GQ.out
        obtain ⟨k0, k1, k2⟩ := op_cells3 OQ.out
        go_wp2_with fail
        clear c0 c1 c2 c3 c4
        clear k0 k1 k2
        have SL := Lib.hid (Geo.shadow_len HV.out p)
        refine (rshadow_any (R : Int) B T S O p _).mono ?_
        rintro e x34 ⟨v2, rfl, hn36, hb35⟩
        have P_37 := Lib.hid (Md.fw PQ.out (hb35))
        have C_38 := Lib.hid (Md.fw CQ.out (hb35))
        have G_39 := Lib.hid (rw_fw GQ.out (hb35))
        have O_40 := Lib.hid (rw_fw OQ.out (hb35))
        have hl41 := hb35
        have HT_42 : Hid (Below w.heap.size w x34) := Lib.hid (HT_33.out.trans ((hl41).mono HT_33.out.size))
        have I_43 := Lib.hid (hn36)
        clear hb35 hn36
        obtain ⟨sh, hsh⟩ : ∃ s, Geo.shadow (R : Int) B T S O p = s := ⟨_, rfl⟩
        rw [hsh] at TH SL I_43
        obtain ⟨As, cs, es⟩ := is_form I_43.out
        obtain ⟨q, hq⟩ : ∃ q, sh.length = q := ⟨_, rfl⟩
        have EQ := Lib.hid hq
        rw [hq] at es SL
        subst es
        clear hsh hq
        go_wp2_with fail
        have FP := Lib.hid P_37.out
        have FC := Lib.hid C_38.out
        have FG := Lib.hid G_39.out
        have FO := Lib.hid O_40.out
        have FI := Lib.hid I_43.out
        have FT := Lib.hid HT_42.out
        go_loopw [13, 14, 15, 16, 17, 18, 19, 20, 21, 22, 23] (fun a _ _ _ _ _ _ _ _ _ _ wr => ∃ k : Nat, k ≤ N ∧ a = .int .i64 (k : Int) ∧ Hid (Below x34.heap.size x34 wr)) (fun a _ _ _ _ _ _ _ _ _ _ _ => N - (intOf a).toNat)
        case atStart => exact ⟨0, Nat.zero_le _, rfl, Lib.hid (Below.refl _ _)⟩
        case round =>
          obtain ⟨k, hk, rfl, V⟩ := hrel
          have N9 := N2.out
          obtain ⟨wo, hwo⟩ : ∃ wo, wo = wr := ⟨_, rfl⟩
          subst hwo
          have DP := Lib.hid (Md.fw FP.out (V.out))
          have DC := Lib.hid (Md.fw FC.out (V.out))
          have DG := Lib.hid (rw_fw FG.out (V.out))
          have DO := Lib.hid (rw_fw FO.out (V.out))
          have DI := Lib.hid (is_fw FI.out (V.out))
          have DT := Lib.hid (FT.out.trans (V.out.mono FT.out.size))
          have VB := Lib.hid V.out
          clear V
          obtain ⟨c0, c1, c2, c3, c4⟩ := geo_cells DG.out
          go_wp2_with fail
          clear c0 c1 c2 c3 c4
          refine (SZ.out _).mono ?_
          rintro e x44 ⟨rfl, hb45⟩
          have P_46 := Lib.hid (Md.fw DP.out (hb45))
          have C_47 := Lib.hid (Md.fw DC.out (hb45))
          have G_48 := Lib.hid (rw_fw DG.out (hb45))
          have O_49 := Lib.hid (rw_fw DO.out (hb45))
          have I_50 := Lib.hid (is_fw DI.out (hb45))
          have hl51 := hb45
          have HT_52 : Hid (Below x34.heap.size x34 x44) := Lib.hid (VB.out.trans ((hl51).mono VB.out.size))
          clear hb45 
          by_cases hlt : k < N
          · have kI : (k : Int) < (N : Int) := by omega
            obtain ⟨k0, k1, k2⟩ := op_cells3 O_49.out
            go_wp2_with fail
            clear k0 k1 k2
            have EP := Lib.hid P_46.out
            have EC := Lib.hid C_47.out
            have EG := Lib.hid G_48.out
            have EO := Lib.hid O_49.out
            have EI := Lib.hid I_50.out
            have ET := Lib.hid HT_52.out
            go_loopw [14, 15] (fun t i wr => ∃ (j : Nat) (tb : Bool), j ≤ q ∧ i = .int .i64 (j : Int) ∧ t = .bool tb ∧ wr = x44 ∧ Hid (tb = (((k : Int) == p) || (sh.take j).any fun x => x == (k : Int)))) (fun _ i _ => q - (intOf i).toNat)
            case atStart => exact ⟨0, _, Nat.zero_le _, rfl, rfl, rfl, Lib.hid (by simp)⟩
            case round =>
              obtain ⟨j, tb, hj, rfl, rfl, rfl, TB⟩ := hrel
              have q3 := SL.out
              by_cases hjt : j < q
              · have jI : (j : Int) < (q : Int) := by omega
                obtain ⟨gb, off, ha, hcell⟩ := is_nth EI.out hjt
                subst ha
                have AT := Lib.hid (Med.any_take (sh := sh) (k := j) (by rw [EQ.out]; exact hjt) (k : Int))
                obtain ⟨y, hy⟩ : ∃ y, sh.getD j 0 = y := ⟨_, rfl⟩
                rw [hy] at AT hcell
                clear hy
                cases tb with
                | true =>
                  go_wp2_with fail
                  go_roundw
                  case rel => exact ⟨j + 1, _, by omega, by go_num, rfl, by trivial, Lib.hid (by rw [AT.out, ← Bool.or_assoc, ← TB.out]; rfl)⟩
                  case measure => simp [intOf]; omega
                | false =>
                  go_wp2_with fail
                  go_roundw
                  case rel => exact ⟨j + 1, _, by omega, by go_num, rfl, by trivial, Lib.hid (by rw [AT.out, ← Bool.or_assoc, ← TB.out]; simp)⟩
                  case measure => simp [intOf]; omega
              · obtain rfl : q = j := by omega
                have jI : ¬ (q : Int) < (q : Int) := by omega
                have dj : decide ((q : Int) < (q : Int)) = false := decide_eq_false jI
                have tk : sh.take q = sh := List.take_of_length_le (Nat.le_of_eq EQ.out)
                rw [tk] at TB
                clear tk
                obtain ⟨c0, c1, c2, c3, c4⟩ := geo_cells EG.out
                go_wp2_with fail
                clear c0 c1 c2 c3 c4
                clear jI dj
                refine (rloc_any (R : Int) B T S O (k : Int) _).mono ?_
                rintro e x53 ⟨rfl, hb54⟩
                have P_55 := Lib.hid (Md.fw EP.out (hb54))
                have C_56 := Lib.hid (Md.fw EC.out (hb54))
                have G_57 := Lib.hid (rw_fw EG.out (hb54))
                have O_58 := Lib.hid (rw_fw EO.out (hb54))
                have I_59 := Lib.hid (is_fw EI.out (hb54))
                have hl60 := hb54
                have HT_61 : Hid (Below x34.heap.size x34 x53) := Lib.hid (ET.out.trans ((hl60).mono ET.out.size))
                clear hb54 
                have TK := Lib.hid (TH.out (k : Int))
                have OK := Lib.hid (OFF.out k hlt)
                obtain ⟨q1, q2, q3, q4, hql⟩ : ∃ q1 q2 q3 q4, Geo.loc (R : Int) B T S O (k : Int) = (q1, q2, q3, q4) := ⟨_, _, _, _, rfl⟩
                rw [hql] at TK ⊢
                unfold locV
                clear hql
                obtain ⟨tc, htc⟩ : ∃ b, Med.tch R B T S O o (k : Int) = b := ⟨_, rfl⟩
                rw [htc] at TK OK
                clear htc
                cases er with
                | false =>
                  cases tb with
                  | true =>
                    have TC : Hid (tc = true) := Lib.hid (by rw [TK.out, if_neg Bool.false_ne_true]; exact TB.out.symm)
                    obtain ⟨k0, k1, k2⟩ := op_cells3 O_58.out
                    go_wp2_with fail
                    clear k0 k1 k2
                    have RA := Lib.hid (prd_any C_56.out (k : Int))
                    refine RA.out.mono ?_
                    clear RA
                    rintro e x62 ⟨va, rfl, hva, hb⟩
                    have P_63 := Lib.hid (Md.fw P_55.out (hb))
                    have C_64 := Lib.hid (Md.fw C_56.out (hb))
                    have G_65 := Lib.hid (rw_fw G_57.out (hb))
                    have O_66 := Lib.hid (rw_fw O_58.out (hb))
                    have I_67 := Lib.hid (is_fw I_59.out (hb))
                    have hl68 := hb
                    have HT_69 : Hid (Below x34.heap.size x34 x62) := Lib.hid (HT_61.out.trans ((hl68).mono HT_61.out.size))
                    have VA := Lib.hid hva.1
                    clear hva hb
                    go_wp2_with fail
                    have RB := Lib.hid (prd_any P_63.out (k : Int))
                    by_cases he : ev = 0
                    · subst he
                      refine RB.out.mono ?_
                      clear RB
                      rintro e x70 ⟨vb, rfl, hvb, hb⟩
                      have P_71 := Lib.hid (Md.fw P_63.out (hb))
                      have C_72 := Lib.hid (Md.fw C_64.out (hb))
                      have G_73 := Lib.hid (rw_fw G_65.out (hb))
                      have O_74 := Lib.hid (rw_fw O_66.out (hb))
                      have I_75 := Lib.hid (is_fw I_67.out (hb))
                      have A_76 := Lib.hid (Bs.below VA.out (hb))
                      have hl77 := hb
                      have HT_78 : Hid (Below x34.heap.size x34 x70) := Lib.hid (HT_69.out.trans ((hl77).mono HT_69.out.size))
                      clear hvb hb
                      go_wp2_with fail
                      go_roundw
                      case rel => exact ⟨k + 1, by omega, by go_num, Lib.hid HT_78.out⟩
                      case measure => simp [intOf]; omega
                    · have de : (ev == 0) = false := by simpa using he
                      have SA := Lib.hid (same_at (l := lk) (k := l2) (a := k) LK2.out (OK.out (Or.inr he)))
                      rw [SA.out.2.1, SA.out.2.2] at RB
                      refine RB.out.mono ?_
                      clear RB
                      rintro e x70 ⟨vb, rfl, hvb, hb⟩
                      have P_71 := Lib.hid (Md.fw P_63.out (hb))
                      have C_72 := Lib.hid (Md.fw C_64.out (hb))
                      have G_73 := Lib.hid (rw_fw G_65.out (hb))
                      have O_74 := Lib.hid (rw_fw O_66.out (hb))
                      have I_75 := Lib.hid (is_fw I_67.out (hb))
                      have A_76 := Lib.hid (Bs.below VA.out (hb))
                      have hl77 := hb
                      have HT_78 : Hid (Below x34.heap.size x34 x70) := Lib.hid (HT_69.out.trans ((hl77).mono HT_69.out.size))
                      have VBB := hvb.1
                      have VAA := A_76.out
                      obtain ⟨Aa, ca, rfl⟩ := VAA.form
                      obtain ⟨Ab, cb, rfl⟩ := VBB.form
                      have cv1 := cvb Aa _ ca _ VAA
                      have cv2 := cvb Ab _ cb _ VBB
                      rw [strOf_bOf] at cv1 cv2
                      obtain ⟨mm, hmm⟩ : ∃ m, (bOf (rdB lk (k : Int))).length = m := ⟨_, rfl⟩
                      rw [hmm] at cv1 cv2 ⊢
                      obtain ⟨sb, hsb⟩ : ∃ s, rdB lk (k : Int) = s := ⟨_, rfl⟩
                      rw [hsb] at cv1 cv2
                      obtain ⟨re, hre⟩ : ∃ s, rdE lk (k : Int) = s := ⟨_, rfl⟩
                      rw [hre]
                      have S1 := Lib.hid (pst_any C_72.out (k : Int))
                      have S2 := Lib.hid (pst_any P_71.out (k : Int))
                      rw [SA.out.1] at S2
                      generalize st lk (k : Int) = sv at S1 S2
                      clear hvb VAA VBB hmm hsb hre hb
                      go_wp2_with fail
                      refine (S1.out).mono ?_
                      rintro e w' ⟨rfl, rfl⟩
                      go_wp2_with fail
                      refine (S2.out).mono ?_
                      rintro e w' ⟨rfl, rfl⟩
                      go_wp2_with fail
                      go_roundw
                      case rel => exact ⟨k + 1, by omega, by go_num, Lib.hid HT_78.out⟩
                      case measure => simp [intOf]; omega
                  | false =>
                    have TC : Hid (tc = false) := Lib.hid (by rw [TK.out, if_neg Bool.false_ne_true]; exact TB.out.symm)
                    obtain ⟨k0, k1, k2⟩ := op_cells3 O_58.out
                    go_wp2_with fail
                    clear k0 k1 k2
                    have RA := Lib.hid (prd_any C_56.out (k : Int))
                    refine RA.out.mono ?_
                    clear RA
                    rintro e x62 ⟨va, rfl, hva, hb⟩
                    have P_63 := Lib.hid (Md.fw P_55.out (hb))
                    have C_64 := Lib.hid (Md.fw C_56.out (hb))
                    have G_65 := Lib.hid (rw_fw G_57.out (hb))
                    have O_66 := Lib.hid (rw_fw O_58.out (hb))
                    have I_67 := Lib.hid (is_fw I_59.out (hb))
                    have hl68 := hb
                    have HT_69 : Hid (Below x34.heap.size x34 x62) := Lib.hid (HT_61.out.trans ((hl68).mono HT_61.out.size))
                    have VA := Lib.hid hva.1
                    clear hva hb
                    go_wp2_with fail
                    have RB := Lib.hid (prd_any P_63.out (k : Int))
                    have SA := Lib.hid (same_at (l := lk) (k := l2) (a := k) LK2.out (OK.out (Or.inl TC.out)))
                    rw [SA.out.2.1, SA.out.2.2] at RB
                    refine RB.out.mono ?_
                    clear RB
                    rintro e x70 ⟨vb, rfl, hvb, hb⟩
                    have P_71 := Lib.hid (Md.fw P_63.out (hb))
                    have C_72 := Lib.hid (Md.fw C_64.out (hb))
                    have G_73 := Lib.hid (rw_fw G_65.out (hb))
                    have O_74 := Lib.hid (rw_fw O_66.out (hb))
                    have I_75 := Lib.hid (is_fw I_67.out (hb))
                    have A_76 := Lib.hid (Bs.below VA.out (hb))
                    have hl77 := hb
                    have HT_78 : Hid (Below x34.heap.size x34 x70) := Lib.hid (HT_69.out.trans ((hl77).mono HT_69.out.size))
                    have VBB := hvb.1
                    have VAA := A_76.out
                    obtain ⟨Aa, ca, rfl⟩ := VAA.form
                    obtain ⟨Ab, cb, rfl⟩ := VBB.form
                    have cv1 := cvb Aa _ ca _ VAA
                    have cv2 := cvb Ab _ cb _ VBB
                    rw [strOf_bOf] at cv1 cv2
                    obtain ⟨mm, hmm⟩ : ∃ m, (bOf (rdB lk (k : Int))).length = m := ⟨_, rfl⟩
                    rw [hmm] at cv1 cv2 ⊢
                    obtain ⟨sb, hsb⟩ : ∃ s, rdB lk (k : Int) = s := ⟨_, rfl⟩
                    rw [hsb] at cv1 cv2
                    obtain ⟨re, hre⟩ : ∃ s, rdE lk (k : Int) = s := ⟨_, rfl⟩
                    rw [hre]
                    have S1 := Lib.hid (pst_any C_72.out (k : Int))
                    have S2 := Lib.hid (pst_any P_71.out (k : Int))
                    rw [SA.out.1] at S2
                    generalize st lk (k : Int) = sv at S1 S2
                    clear hvb VAA VBB hmm hsb hre hb
                    go_wp2_with fail
                    refine (S1.out).mono ?_
                    rintro e w' ⟨rfl, rfl⟩
                    go_wp2_with fail
                    refine (S2.out).mono ?_
                    rintro e w' ⟨rfl, rfl⟩
                    go_wp2_with fail
                    go_roundw
                    case rel => exact ⟨k + 1, by omega, by go_num, Lib.hid HT_78.out⟩
                    case measure => simp [intOf]; omega
                | true =>
                  by_cases h4 : q4 = 0
                  · subst h4
                    by_cases h1 : q1 = p
                    · subst h1
                      have TC : Hid (tc = true) := Lib.hid (by rw [TK.out, if_pos rfl]; simp)
                      obtain ⟨k0, k1, k2⟩ := op_cells3 O_58.out
                      go_wp2_with fail
                      clear k0 k1 k2
                      have RA := Lib.hid (prd_any C_56.out (k : Int))
                      refine RA.out.mono ?_
                      clear RA
                      rintro e x62 ⟨va, rfl, hva, hb⟩
                      have P_63 := Lib.hid (Md.fw P_55.out (hb))
                      have C_64 := Lib.hid (Md.fw C_56.out (hb))
                      have G_65 := Lib.hid (rw_fw G_57.out (hb))
                      have O_66 := Lib.hid (rw_fw O_58.out (hb))
                      have I_67 := Lib.hid (is_fw I_59.out (hb))
                      have hl68 := hb
                      have HT_69 : Hid (Below x34.heap.size x34 x62) := Lib.hid (HT_61.out.trans ((hl68).mono HT_61.out.size))
                      have VA := Lib.hid hva.1
                      clear hva hb
                      go_wp2_with fail
                      have RB := Lib.hid (prd_any P_63.out (k : Int))
                      by_cases he : ev = 0
                      · subst he
                        refine RB.out.mono ?_
                        clear RB
                        rintro e x70 ⟨vb, rfl, hvb, hb⟩
                        have P_71 := Lib.hid (Md.fw P_63.out (hb))
                        have C_72 := Lib.hid (Md.fw C_64.out (hb))
                        have G_73 := Lib.hid (rw_fw G_65.out (hb))
                        have O_74 := Lib.hid (rw_fw O_66.out (hb))
                        have I_75 := Lib.hid (is_fw I_67.out (hb))
                        have A_76 := Lib.hid (Bs.below VA.out (hb))
                        have hl77 := hb
                        have HT_78 : Hid (Below x34.heap.size x34 x70) := Lib.hid (HT_69.out.trans ((hl77).mono HT_69.out.size))
                        clear hvb hb
                        go_wp2_with fail
                        go_roundw
                        case rel => exact ⟨k + 1, by omega, by go_num, Lib.hid HT_78.out⟩
                        case measure => simp [intOf]; omega
                      · have de : (ev == 0) = false := by simpa using he
                        have SA := Lib.hid (same_at (l := lk) (k := l2) (a := k) LK2.out (OK.out (Or.inr he)))
                        rw [SA.out.2.1, SA.out.2.2] at RB
                        refine RB.out.mono ?_
                        clear RB
                        rintro e x70 ⟨vb, rfl, hvb, hb⟩
                        have P_71 := Lib.hid (Md.fw P_63.out (hb))
                        have C_72 := Lib.hid (Md.fw C_64.out (hb))
                        have G_73 := Lib.hid (rw_fw G_65.out (hb))
                        have O_74 := Lib.hid (rw_fw O_66.out (hb))
                        have I_75 := Lib.hid (is_fw I_67.out (hb))
                        have A_76 := Lib.hid (Bs.below VA.out (hb))
                        have hl77 := hb
                        have HT_78 : Hid (Below x34.heap.size x34 x70) := Lib.hid (HT_69.out.trans ((hl77).mono HT_69.out.size))
                        have VBB := hvb.1
                        have VAA := A_76.out
                        obtain ⟨Aa, ca, rfl⟩ := VAA.form
                        obtain ⟨Ab, cb, rfl⟩ := VBB.form
                        have cv1 := cvb Aa _ ca _ VAA
                        have cv2 := cvb Ab _ cb _ VBB
                        rw [strOf_bOf] at cv1 cv2
                        obtain ⟨mm, hmm⟩ : ∃ m, (bOf (rdB lk (k : Int))).length = m := ⟨_, rfl⟩
                        rw [hmm] at cv1 cv2 ⊢
                        obtain ⟨sb, hsb⟩ : ∃ s, rdB lk (k : Int) = s := ⟨_, rfl⟩
                        rw [hsb] at cv1 cv2
                        obtain ⟨re, hre⟩ : ∃ s, rdE lk (k : Int) = s := ⟨_, rfl⟩
                        rw [hre]
                        have S1 := Lib.hid (pst_any C_72.out (k : Int))
                        have S2 := Lib.hid (pst_any P_71.out (k : Int))
                        rw [SA.out.1] at S2
                        generalize st lk (k : Int) = sv at S1 S2
                        clear hvb VAA VBB hmm hsb hre hb
                        go_wp2_with fail
                        refine (S1.out).mono ?_
                        rintro e w' ⟨rfl, rfl⟩
                        go_wp2_with fail
                        refine (S2.out).mono ?_
                        rintro e w' ⟨rfl, rfl⟩
                        go_wp2_with fail
                        go_roundw
                        case rel => exact ⟨k + 1, by omega, by go_num, Lib.hid HT_78.out⟩
                        case measure => simp [intOf]; omega
                    · skip
                      have TC : Hid (tc = false) := Lib.hid (by rw [TK.out, if_pos rfl]; simp [h1])
                      have d1 : (q1 == p) = false := by simpa using h1
                      obtain ⟨k0, k1, k2⟩ := op_cells3 O_58.out
                      go_wp2_with fail
                      clear k0 k1 k2
                      have RA := Lib.hid (prd_any C_56.out (k : Int))
                      refine RA.out.mono ?_
                      clear RA
                      rintro e x62 ⟨va, rfl, hva, hb⟩
                      have P_63 := Lib.hid (Md.fw P_55.out (hb))
                      have C_64 := Lib.hid (Md.fw C_56.out (hb))
                      have G_65 := Lib.hid (rw_fw G_57.out (hb))
                      have O_66 := Lib.hid (rw_fw O_58.out (hb))
                      have I_67 := Lib.hid (is_fw I_59.out (hb))
                      have hl68 := hb
                      have HT_69 : Hid (Below x34.heap.size x34 x62) := Lib.hid (HT_61.out.trans ((hl68).mono HT_61.out.size))
                      have VA := Lib.hid hva.1
                      clear hva hb
                      go_wp2_with fail
                      have RB := Lib.hid (prd_any P_63.out (k : Int))
                      have SA := Lib.hid (same_at (l := lk) (k := l2) (a := k) LK2.out (OK.out (Or.inl TC.out)))
                      rw [SA.out.2.1, SA.out.2.2] at RB
                      refine RB.out.mono ?_
                      clear RB
                      rintro e x70 ⟨vb, rfl, hvb, hb⟩
                      have P_71 := Lib.hid (Md.fw P_63.out (hb))
                      have C_72 := Lib.hid (Md.fw C_64.out (hb))
                      have G_73 := Lib.hid (rw_fw G_65.out (hb))
                      have O_74 := Lib.hid (rw_fw O_66.out (hb))
                      have I_75 := Lib.hid (is_fw I_67.out (hb))
                      have A_76 := Lib.hid (Bs.below VA.out (hb))
                      have hl77 := hb
                      have HT_78 : Hid (Below x34.heap.size x34 x70) := Lib.hid (HT_69.out.trans ((hl77).mono HT_69.out.size))
                      have VBB := hvb.1
                      have VAA := A_76.out
                      obtain ⟨Aa, ca, rfl⟩ := VAA.form
                      obtain ⟨Ab, cb, rfl⟩ := VBB.form
                      have cv1 := cvb Aa _ ca _ VAA
                      have cv2 := cvb Ab _ cb _ VBB
                      rw [strOf_bOf] at cv1 cv2
                      obtain ⟨mm, hmm⟩ : ∃ m, (bOf (rdB lk (k : Int))).length = m := ⟨_, rfl⟩
                      rw [hmm] at cv1 cv2 ⊢
                      obtain ⟨sb, hsb⟩ : ∃ s, rdB lk (k : Int) = s := ⟨_, rfl⟩
                      rw [hsb] at cv1 cv2
                      obtain ⟨re, hre⟩ : ∃ s, rdE lk (k : Int) = s := ⟨_, rfl⟩
                      rw [hre]
                      have S1 := Lib.hid (pst_any C_72.out (k : Int))
                      have S2 := Lib.hid (pst_any P_71.out (k : Int))
                      rw [SA.out.1] at S2
                      generalize st lk (k : Int) = sv at S1 S2
                      clear hvb VAA VBB hmm hsb hre hb
                      go_wp2_with fail
                      refine (S1.out).mono ?_
                      rintro e w' ⟨rfl, rfl⟩
                      go_wp2_with fail
                      refine (S2.out).mono ?_
                      rintro e w' ⟨rfl, rfl⟩
                      go_wp2_with fail
                      go_roundw
                      case rel => exact ⟨k + 1, by omega, by go_num, Lib.hid HT_78.out⟩
                      case measure => simp [intOf]; omega
                  · skip
                    have TC : Hid (tc = false) := Lib.hid (by rw [TK.out, if_pos rfl]; simp [h4])
                    have d4 : (q4 == 0) = false := by simpa using h4
                    obtain ⟨k0, k1, k2⟩ := op_cells3 O_58.out
                    go_wp2_with fail
                    clear k0 k1 k2
                    have RA := Lib.hid (prd_any C_56.out (k : Int))
                    refine RA.out.mono ?_
                    clear RA
                    rintro e x62 ⟨va, rfl, hva, hb⟩
                    have P_63 := Lib.hid (Md.fw P_55.out (hb))
                    have C_64 := Lib.hid (Md.fw C_56.out (hb))
                    have G_65 := Lib.hid (rw_fw G_57.out (hb))
                    have O_66 := Lib.hid (rw_fw O_58.out (hb))
                    have I_67 := Lib.hid (is_fw I_59.out (hb))
                    have hl68 := hb
                    have HT_69 : Hid (Below x34.heap.size x34 x62) := Lib.hid (HT_61.out.trans ((hl68).mono HT_61.out.size))
                    have VA := Lib.hid hva.1
                    clear hva hb
                    go_wp2_with fail
                    have RB := Lib.hid (prd_any P_63.out (k : Int))
                    have SA := Lib.hid (same_at (l := lk) (k := l2) (a := k) LK2.out (OK.out (Or.inl TC.out)))
                    rw [SA.out.2.1, SA.out.2.2] at RB
                    refine RB.out.mono ?_
                    clear RB
                    rintro e x70 ⟨vb, rfl, hvb, hb⟩
                    have P_71 := Lib.hid (Md.fw P_63.out (hb))
                    have C_72 := Lib.hid (Md.fw C_64.out (hb))
                    have G_73 := Lib.hid (rw_fw G_65.out (hb))
                    have O_74 := Lib.hid (rw_fw O_66.out (hb))
                    have I_75 := Lib.hid (is_fw I_67.out (hb))
                    have A_76 := Lib.hid (Bs.below VA.out (hb))
                    have hl77 := hb
                    have HT_78 : Hid (Below x34.heap.size x34 x70) := Lib.hid (HT_69.out.trans ((hl77).mono HT_69.out.size))
                    have VBB := hvb.1
                    have VAA := A_76.out
                    obtain ⟨Aa, ca, rfl⟩ := VAA.form
                    obtain ⟨Ab, cb, rfl⟩ := VBB.form
                    have cv1 := cvb Aa _ ca _ VAA
                    have cv2 := cvb Ab _ cb _ VBB
                    rw [strOf_bOf] at cv1 cv2
                    obtain ⟨mm, hmm⟩ : ∃ m, (bOf (rdB lk (k : Int))).length = m := ⟨_, rfl⟩
                    rw [hmm] at cv1 cv2 ⊢
                    obtain ⟨sb, hsb⟩ : ∃ s, rdB lk (k : Int) = s := ⟨_, rfl⟩
                    rw [hsb] at cv1 cv2
                    obtain ⟨re, hre⟩ : ∃ s, rdE lk (k : Int) = s := ⟨_, rfl⟩
                    rw [hre]
                    have S1 := Lib.hid (pst_any C_72.out (k : Int))
                    have S2 := Lib.hid (pst_any P_71.out (k : Int))
                    rw [SA.out.1] at S2
                    generalize st lk (k : Int) = sv at S1 S2
                    clear hvb VAA VBB hmm hsb hre hb
                    go_wp2_with fail
                    refine (S1.out).mono ?_
                    rintro e w' ⟨rfl, rfl⟩
                    go_wp2_with fail
                    refine (S2.out).mono ?_
                    rintro e w' ⟨rfl, rfl⟩
                    go_wp2_with fail
                    go_roundw
                    case rel => exact ⟨k + 1, by omega, by go_num, Lib.hid HT_78.out⟩
                    case measure => simp [intOf]; omega
          · have kN : k = N := by omega
            subst kN
            have kI : ¬ (k : Int) < (k : Int) := by omega
            have dk : decide ((k : Int) < (k : Int)) = false := decide_eq_false kI
            go_wp2_with fail
            go_ret
            exact ⟨rfl, (FT.out.trans (HT_52.out.mono FT.out.size))⟩
theorem local_walk (r b t s o5 : Int) (v u : Value) (L : List Med.Op) (o : Med.Op) (w : World) (h : Ols w v L) (hu : Bs w u o.bytes) : Calls Try.prog 5 #[.agg #[.int .i64 r, .int .i64 b, .int .i64 t, .int .i64 s, .int .i64 o5], v, .agg #[.bool o.erase, .int .i64 o.pos, u]] w (lawPost w) := by
  by_cases hf : Geo.fair r b t s o5
  · obtain ⟨R, B, T, S, O, rfl, rfl, rfl, rfl, rfl⟩ := Geo.fair_nat hf
    by_cases h64 : 64 < o.bytes.length
    · exact local_long R B T S O v u L o w h hu hf h64
    · exact local_main R B T S O v u L o w h hu hf h64
  · exact local_no r b t s o5 v u L o w h hu hf
end Go.Proofs.Ytkaklgdjlanigaa
