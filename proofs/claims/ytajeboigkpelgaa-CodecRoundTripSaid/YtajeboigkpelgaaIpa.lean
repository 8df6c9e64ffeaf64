/- The program's appending functions: groups, slices.Clone, slices.Grow, slices.Concat. -/
import Derived.Test.YtajeboigkpelgaaIl
import Derived.Lib.AppendZeros
import Derived.Laws.BitsAllLaws
namespace Go.Proofs.Ytajeboigkpelgaa
open Go Go.RowKit
set_option linter.unusedVariables false
set_option linter.unusedSimpArgs false
theorem or128_u8 (m : Nat) : bits .or .u8 ((m : Int) % 256) 128 = ((m % 128 + 128 : Nat) : Int) := by
  have h : (m : Int) % 256 = ((m % 256 : Nat) : Int) := by omega
  have key : ∀ a : Fin 256, a.val ||| 128 = a.val % 128 + 128 := by decide +kernel
  have h2 := u8_or_nat (m % 256) 128 (by omega) (by decide)
  have h3 := key ⟨m % 256, by omega⟩
  rw [h]
  refine h2.trans ?_
  rw [h3]
  show ((m % 256 % 128 + 128 : Nat) : Int) = _
  rw [show m % 256 % 128 = m % 128 by omega]
set_option maxHeartbeats 2000000 in
set_option maxRecDepth 100000 in
theorem pgroups_any (n : Nat) (w : World) (hn : n < 2 ^ 64) : Calls Try.prog 33 #[.int .u64 (n : Int)] w (newB (Cod.enc n) w) := by
  have L10 := Lib.hid (Cod.enc_len10 hn)
  have N64 := Lib.hid hn
  clear hn
  go_enter Try.func33, Try.ntmps33
  go_wp2_with fail
  go_loopw [0, 3] (fun i v wr => ∃ (m : Nat) (p : List Nat), m < 2 ^ 64 ∧ i = .int .u64 (m : Int) ∧ Hid (OwB wr w.heap.size v p ∧ p ++ Cod.enc m = Cod.enc n ∧ Below w.heap.size w wr)) (fun i _ _ => (intOf i).toNat)
  case atStart => exact ⟨n, [], N64.out, rfl, Lib.hid ⟨OwB.nil_ _ _, rfl, Below.refl _ _⟩⟩
  case round =>
    obtain ⟨m, p, hm, rfl, F⟩ := hrel
    have LN := Lib.hid (show p.length + 1 ≤ 1000010 by
      have h1 := congrArg List.length F.out.2.1
      rw [List.length_append] at h1
      have := L10.out; have := Cod.enc_len_pos m; omega)
    by_cases hge : 128 ≤ m
    · have mI : (128 : Int) ≤ (m : Int) := by omega
      have SRC := Lib.hid (show Bs (wr.alloc (.cells #[.int .u8 ((m % 128 + 128 : Nat) : Int)] 5)) (.slice (some ⟨wr.heap.size, 0, none⟩) 1 1) [m % 128 + 128] from bs_one wr _ (m % 128 + 128) (by omega))
      have OA := Lib.hid (F.out.1.below ((Below.refl _ _).alloc (Nat.le_refl _) (.cells #[.int .u8 ((m % 128 + 128 : Nat) : Int)] 5)))
      have EQ := Lib.hid (show (p ++ [m % 128 + 128]) ++ Cod.enc (m / 128) = Cod.enc n by
        rw [← F.out.2.1, Cod.enc_big (by omega : ¬ m < 128), List.append_assoc]; rfl)
      have BA := Lib.hid (F.out.2.2.alloc F.out.2.2.size (.cells #[.int .u8 ((m % 128 + 128 : Nat) : Int)] 5))
      have SZ := Lib.hid F.out.2.2.size
      have WM := Lib.hid (or128_u8 m)
      clear F
      go_wp2_with (first | rw [WM.out] | (at_builtin; refine wp_app rfl (.tmp 8) (.tmp 12) rfl w.heap.size _ _ p [m % 128 + 128] rfl rfl OA.out SRC.out (by have := LN.out; simp; omega) (by have := SZ.out; simp; omega) ?_; intro x2 w2 hown2 hg2))
      go_roundw
      case rel => exact ⟨m / 128, _, by omega, by go_num, Lib.hid ⟨hown2, EQ.out, BA.out.trans hg2⟩⟩
      case measure => simp [intOf]; omega
    · have mI : ¬ (128 : Int) ≤ (m : Int) := by omega
      have SRC := Lib.hid (show Bs (wr.alloc (.cells #[.int .u8 (m : Int)] 5)) (.slice (some ⟨wr.heap.size, 0, none⟩) 1 1) [m] from bs_one wr _ m (by omega))
      have OA := Lib.hid (F.out.1.below ((Below.refl _ _).alloc (Nat.le_refl _) (.cells #[.int .u8 (m : Int)] 5)))
      have EQ := Lib.hid (show p ++ [m] = Cod.enc n by
        rw [← F.out.2.1, Cod.enc_small (by omega : m < 128)])
      have BA := Lib.hid (F.out.2.2.alloc F.out.2.2.size (.cells #[.int .u8 (m : Int)] 5))
      have SZ := Lib.hid F.out.2.2.size
      have WM := Lib.hid (low_u8 (m := m) (by omega))
      clear F
      go_wp2_with (first | rw [WM.out] | (at_builtin; refine wp_app rfl (.tmp 14) (.tmp 17) rfl w.heap.size _ _ p [m] rfl rfl OA.out SRC.out (by have := LN.out; simp; omega) (by have := SZ.out; simp; omega) ?_; intro x2 w2 hown2 hg2))
      go_ret
      exact ⟨x2, rfl, EQ.out ▸ hown2, BA.out.trans hg2⟩
set_option maxHeartbeats 1000000 in
set_option maxRecDepth 100000 in
theorem pclone_any (v : Value) (b : List Nat) (w : World) (hb : Bs w v b) (hl : b.length ≤ 10000000) : Calls Try.prog 34 #[v] w (newB b w) := by
  have H := Lib.hid hb
  obtain ⟨A1, c1, e1, hm, -, hA, -⟩ := hb
  obtain ⟨m1, em⟩ : ∃ m, b.length = m := ⟨_, rfl⟩
  rw [em] at e1 hm
  have E1 := Lib.hid e1
  have ML := Lib.hid hl
  have EM := Lib.hid em
  rw [e1]
  have MK := Lib.hid (OwB.made w (Nat.le_refl _))
  have HA := Lib.hid (show Bs (w.alloc (.cells #[] 5)) (.slice A1 m1 c1) b by rw [← E1.out]; exact H.out.alloc _)
  have hnil := fun w => Lib.run_eql_slice_nil (P := Try.prog) w 22 5 A1 m1 c1 0 0 Try.underlying22
  clear e1 em hl
  rcases A1 with _ | a1
  · have h0 := hA rfl
    subst h0
    obtain rfl : m1 = 0 := by omega
    have eb : b = [] := List.length_eq_zero_iff.1 EM.out
    have EB := Lib.hid (show OwB w w.heap.size (.slice none 0 0) b by rw [eb]; exact OwB.nil_ _ _)
    clear eb hA hm
    go_enter Try.func34, Try.ntmps34
    go_wp2_with fail
    go_ret
    exact ⟨_, rfl, EB.out, Below.refl _ _⟩
  · clear hA hm
    go_enter Try.func34, Try.ntmps34
    go_wp2_with (at_builtin; refine wp_app rfl (.tmp 5) (.tmp 6) rfl w.heap.size _ _ [] b rfl rfl MK.out HA.out (by have := ML.out; simp; omega) (by simp) ?_; intro x1 w1 hown1 hg1)
    go_ret
    exact ⟨x1, rfl, hown1, ((Below.refl w.heap.size w).alloc (Nat.le_refl _) _).trans hg1⟩
theorem at_u8 : Try.prog.underlying 3 = some (.int .i64) := Try.underlying3
set_option maxHeartbeats 1000000 in
set_option maxRecDepth 100000 in
theorem pgrow_any (n : Nat) (w : World) (hn : n ≤ 10000000) : Calls Try.prog 42 #[.slice none 0 0, .int .i64 (n : Int)] w (newB [] w) := by
  have n0 : ¬ (n : Int) < 0 := by omega
  by_cases h0 : n = 0
  · subst h0
    clear n0
    go_enter Try.func42, Try.ntmps42
    go_wp2_with fail
    go_ret
    exact ⟨_, rfl, OwB.nil_ _ _, Below.refl _ _⟩
  · have np : (n : Int) > 0 := by omega
    obtain ⟨i0, hi, hz0, hz1, hz2⟩ := info_parts info_u8
    have hrz : ∀ ty, (Builtin.append_ #[22, 3] ty #[.slice none 0 0, .int .i64 (n : Int)]).run Try.prog w = .ok (.slice (some ⟨w.heap.size, 0, none⟩) n (grownCap w n 0 5)) (w.drew.alloc (.cells (Builtin.zeroCells (Value.int .u8 0).cells n ++ Builtin.zeroCells (Value.int .u8 0).cells (grownCap w n 0 5 - n)) 5)) := fun ty =>
      Lib.run_append_nil_zeros w 22 3 ty 5 i0 (.int .u8 0) .i64 .i64 Try.underlying22 at_u8 hi hz0 n (by omega) (by rw [hz1]; decide) (by omega) (by rw [hz2]; omega)
    have hG := grownCap_ge w n 0 5
    have hM := grownCap_le_maxLen w n 0 5 (by unfold maxLen; omega)
    generalize grownCap w n 0 5 = G at hrz hG hM
    have hZ : (Builtin.zeroCells (Value.int .u8 0).cells n ++ Builtin.zeroCells (Value.int .u8 0).cells (G - n)).size = G := by
      rw [Array.size_append, size_zeroCells, size_zeroCells]; show n * 1 + (G - n) * 1 = G; omega
    generalize Builtin.zeroCells (Value.int .u8 0).cells n ++ Builtin.zeroCells (Value.int .u8 0).cells (G - n) = Z at hrz hZ
    have FIN := Lib.hid (show newB [] w (.returned (.slice (some ⟨w.heap.size, 0, none⟩) 0 G)) (w.drew.alloc (.cells Z 5)) from
      ⟨_, rfl, ⟨⟨rfl, Or.inr ⟨w.heap.size, G, Z, rfl, Nat.le_refl _, heap_alloc_new w.drew _, Nat.zero_le _, hM, by omega, by simp⟩⟩, fun _ h => (by cases h)⟩, (Below.refl w.heap.size w).drew.alloc (Nat.le_refl _) _⟩)
    have hG63 : G ≤ 9223372036854775807 := by unfold maxLen at hM; omega
    clear hZ hM hi hz0 hz1 hz2
    go_enter Try.func42, Try.ntmps42
    go_wp2_with (at_builtin; refine Lib.wpList_append_run _ rfl _ _ _ _ rfl _ _ rfl rfl _ _ (hrz _) ?_)
    all_goals (go_ret; exact FIN.out)
theorem Ms.at0 {w : World} {v : Value} {L : List (List Nat)} (h : Ms w v L) {A : Option Addr} {N c : Nat} (e : v = .slice A N c) {k : Nat} (hk : k < N) : ∃ b off u, A = some ⟨b, off, none⟩ ∧ w.cell? ⟨b, off + k, none⟩ = some u ∧ Bs w u (L.getD k []) := by
  obtain ⟨A', c', h1, -, -, h2⟩ := h
  rw [e] at h1
  injection h1 with h3 h4 h5
  subst h3 h4
  obtain ⟨b, off, rfl, h6⟩ := h2 (by omega)
  obtain ⟨u, h7, h8⟩ := h6 k hk
  exact ⟨b, off, u, rfl, h7, by rw [getD_in hk]; exact h8⟩
def lenS (L : List (List Nat)) (k : Nat) : Nat := (L.take k).flatten.length
theorem take_S {L : List (List Nat)} {k : Nat} (h : k < L.length) : (L.take (k + 1)).flatten = (L.take k).flatten ++ L.getD k [] := by
  rw [getD_in h, List.take_succ_eq_append_getElem h, List.flatten_append]; simp only [List.flatten_cons, List.flatten_nil, List.append_nil]
theorem take_le (L : List (List Nat)) (k : Nat) : (L.take k).flatten.length ≤ L.flatten.length := by
  conv => rhs; rw [← List.take_append_drop k L, List.flatten_append, List.length_append]
  omega
set_option maxHeartbeats 1000000 in
set_option maxRecDepth 100000 in
theorem pconcat_any (v : Value) (L : List (List Nat)) (w : World) (h : Ms w v L) (hn : L.length ≤ 10) (hl : L.flatten.length ≤ 3000000) : Calls Try.prog 32 #[v] w (newB L.flatten w) := by
  obtain ⟨A, c, e, hm, -, -⟩ := id h
  obtain ⟨N, hN⟩ : ∃ N, L.length = N := ⟨_, rfl⟩
  rw [hN] at e hn
  have HV := Lib.hid h
  have HE := Lib.hid e
  have HN := Lib.hid hN
  have TL := Lib.hid fun k => Nat.le_trans (take_le L k) hl
  obtain ⟨F, hF⟩ : ∃ F, L.flatten = F := ⟨_, rfl⟩
  have HF := Lib.hid hF
  rw [e, hF]
  clear h e hm hN hl hF
  go_enter Try.func32, Try.ntmps32
  go_wp2_with fail
  go_loop [3, 5, 11] (fun s _ i => ∃ k t : Nat, k ≤ N ∧ t ≤ 3000000 ∧ i = .int .i64 (k : Int) ∧ s = .int .i64 (t : Int) ∧ Hid (t = lenS L k)) (fun _ _ i => N - (intOf i).toNat)
  case atStart => exact ⟨0, 0, Nat.zero_le _, by omega, rfl, rfl, Lib.hid (by simp [lenS])⟩
  case round =>
    obtain ⟨k, t, hk, ht, rfl, rfl, H⟩ := hrel
    by_cases hlt : k < N
    · obtain ⟨b, off, u, rfl, p1, hb⟩ := Ms.at0 HV.out HE.out hlt
      obtain ⟨A2, c2, rfl⟩ := hb.form
      have S := Lib.hid (show (t + (L.getD k []).length) = lenS L (k + 1) by unfold lenS; rw [take_S (by rw [HN.out]; exact hlt), List.length_append, H.out]; rfl)
      obtain ⟨q, hq⟩ : ∃ q, (L.getD k []).length = q := ⟨_, rfl⟩
      rw [hq] at S p1
      have S2 : t + q ≤ 3000000 := by rw [S.out]; exact TL.out _
      clear hb hq
      go_wp2_with fail
      go_round
      case rel => exact ⟨k + 1, t + q, by omega, S2, by go_num, by go_num, S⟩
      case measure => simp [intOf]; omega
    · go_wp2_with fail
      refine (pgrow_any t w (by omega)).mono ?_
      rintro e w1 ⟨x1, rfl, ho1, hb1⟩
      have F1 := Lib.hid (And.intro ho1 hb1)
      clear ho1 hb1 H hlt
      go_wp2_with fail
      go_loopw [6, 8, 27] (fun u _ i wr => ∃ k : Nat, k ≤ N ∧ i = .int .i64 (k : Int) ∧ Hid (OwB wr w.heap.size u (L.take k).flatten ∧ Below w.heap.size w wr)) (fun _ _ i _ => N - (intOf i).toNat)
      case atStart => exact ⟨0, Nat.zero_le _, rfl, Lib.hid ⟨by simpa using F1.out.1, F1.out.2⟩⟩
      case round =>
        obtain ⟨k, hk, rfl, H⟩ := hrel
        by_cases hlt : k < N
        · obtain ⟨b, off, u, rfl, p0, hb⟩ := Ms.at0 HV.out HE.out hlt
          have p1 := (H.out.2.cell (World.block_lt_of_cell? w _ p0)).trans p0
          have HB := Lib.hid (hb.below H.out.2)
          have S := Lib.hid (take_S (L := L) (k := k) (by rw [HN.out]; exact hlt))
          clear p0 hb
          go_wp2_with (at_builtin; refine wp_app rfl (.tmp 31) (.tmp 32) rfl w.heap.size _ _ (L.take k).flatten (L.getD k []) rfl rfl H.out.1 HB.out (by rw [← List.length_append, ← S.out]; have := TL.out (k + 1); omega) H.out.2.size ?_; intro x2 w2 hown2 hg2)
          go_roundw
          case rel => exact ⟨k + 1, by omega, by go_num, Lib.hid ⟨by rw [S.out]; exact hown2, H.out.2.trans hg2⟩⟩
          case measure => simp [intOf]; omega
        · go_wp2_with fail
          go_ret
          refine ⟨_, rfl, ?_, H.out.2⟩
          have := H.out.1
          rw [List.take_of_length_le (by rw [HN.out]; omega), HF.out] at this
          exact this
theorem ms_lit2 (w : World) (t : TypeId) {u1 u2 : Value} {l1 l2 : List Nat} (h1 : Bs w u1 l1) (h2 : Bs w u2 l2) : Ms (w.alloc (.cells #[u1, u2] t)) (.slice (some ⟨w.heap.size, 0, none⟩) 2 2) [l1, l2] := by
  refine ⟨_, 2, rfl, ⟨Nat.le_refl _, by decide⟩, fun h => (by cases h), fun _ => ⟨w.heap.size, 0, rfl, fun k hk => ?_⟩⟩
  have hr : Row (w.alloc (.cells #[u1, u2] t)) w.heap.size t #[u1, u2] := heap_alloc_new w _
  match k, hk with
  | 0, _ => exact ⟨u1, by rw [hr.cell]; rfl, h1.alloc _⟩
  | 1, _ => exact ⟨u2, by rw [hr.cell]; rfl, h2.alloc _⟩
  | (n + 2), h => exact absurd h (by simp)
theorem ms_lit3 (w : World) (t : TypeId) {u1 u2 u3 : Value} {l1 l2 l3 : List Nat} (h1 : Bs w u1 l1) (h2 : Bs w u2 l2) (h3 : Bs w u3 l3) : Ms (w.alloc (.cells #[u1, u2, u3] t)) (.slice (some ⟨w.heap.size, 0, none⟩) 3 3) [l1, l2, l3] := by
  refine ⟨_, 3, rfl, ⟨Nat.le_refl _, by decide⟩, fun h => (by cases h), fun _ => ⟨w.heap.size, 0, rfl, fun k hk => ?_⟩⟩
  have hr : Row (w.alloc (.cells #[u1, u2, u3] t)) w.heap.size t #[u1, u2, u3] := heap_alloc_new w _
  match k, hk with
  | 0, _ => exact ⟨u1, by rw [hr.cell]; rfl, h1.alloc _⟩
  | 1, _ => exact ⟨u2, by rw [hr.cell]; rfl, h2.alloc _⟩
  | 2, _ => exact ⟨u3, by rw [hr.cell]; rfl, h3.alloc _⟩
  | (n + 3), h => exact absurd h (by simp)
theorem newB.trans {l : List Nat} {w w1 : World} {e : Ending} {w2 : World} (h : newB l w1 e w2) (hb : Below w.heap.size w w1) : newB l w e w2 := by
  obtain ⟨v, rfl, h1, h2⟩ := h
  exact ⟨v, rfl, h1.mono hb.size, hb.trans (h2.mono hb.size)⟩
set_option maxHeartbeats 1000000 in
set_option maxRecDepth 100000 in
theorem papu_any (v : Value) (b : List Nat) (n : Nat) (w : World) (hb : Bs w v b) (hn : n < 2 ^ 64) (hl : b.length ≤ 1000000) :
    Calls Try.prog 11 #[v, .int .u64 (n : Int)] w (newB (b ++ Cod.enc n) w) := by
  have G := Lib.hid (pgroups_any n w hn)
  have L10 := Lib.hid (Cod.enc_len10 hn)
  obtain ⟨E, hE⟩ : ∃ E, Cod.enc n = E := ⟨_, rfl⟩
  rw [hE] at G L10 ⊢
  have H := Lib.hid hb
  have HL := Lib.hid hl
  obtain ⟨A1, c1, e1⟩ := hb.form
  obtain ⟨m1, em⟩ : ∃ m, b.length = m := ⟨_, rfl⟩
  rw [em] at e1
  have E1 := Lib.hid e1
  rw [e1]
  clear hb hn hl e1 em hE
  go_enter Try.func11, Try.ntmps11
  go_wp2_with fail
  refine G.out.mono ?_
  rintro e w1 ⟨x, rfl, ho, hbel⟩
  obtain ⟨Ax, cx, rfl⟩ := ho.bs.form
  have MS := Lib.hid (show Ms (w1.alloc (.cells #[.slice A1 m1 c1, .slice Ax E.length cx] 22)) (.slice (some ⟨w1.heap.size, 0, none⟩) 2 2) [b, E] from ms_lit2 w1 _ (by rw [← E1.out]; exact H.out.below hbel) ho.bs)
  have C := Lib.hid (pconcat_any _ _ _ MS.out (by simp) (by have := L10.out; have := HL.out; simp; omega))
  have BA := Lib.hid (hbel.alloc hbel.size (.cells #[.slice A1 m1 c1, .slice Ax E.length cx] 22))
  clear ho hbel
  go_wp2_with fail
  refine C.out.mono ?_
  rintro e w2 hnew
  obtain ⟨y, rfl, h3⟩ := hnew
  go_wp2_with fail
  go_ret
  have := (show newB [b, E].flatten _ (.returned y) w2 from ⟨y, rfl, h3⟩).trans BA.out
  simpa using this
set_option maxHeartbeats 1000000 in
set_option maxRecDepth 100000 in
theorem papb_any (v u : Value) (b x : List Nat) (w : World) (hb : Bs w v b) (hx : Bs w u x) (hl : b.length ≤ 1000000) (hl2 : x.length ≤ 1000000) :
    Calls Try.prog 15 #[v, u] w (newB (b ++ Cod.enc x.length ++ x) w) := by
  have G := Lib.hid (pgroups_any x.length w (by omega))
  have L10 := Lib.hid (Cod.enc_len10 (show x.length < 2 ^ 64 by omega))
  obtain ⟨E, hE⟩ : ∃ E, Cod.enc x.length = E := ⟨_, rfl⟩
  rw [hE] at G L10 ⊢
  have H := Lib.hid hb
  have H2 := Lib.hid hx
  have HL := Lib.hid (And.intro hl hl2)
  obtain ⟨A1, c1, e1⟩ := hb.form
  obtain ⟨A2, c2, e2⟩ := hx.form
  obtain ⟨m1, em⟩ : ∃ m, b.length = m := ⟨_, rfl⟩
  obtain ⟨m2, em2⟩ : ∃ m, x.length = m := ⟨_, rfl⟩
  rw [em] at e1
  rw [em2] at e2 G hl2
  have E1 := Lib.hid e1
  have E2 := Lib.hid e2
  rw [e1, e2]
  clear hb hx hl e1 em e2 em2 hE
  go_enter Try.func15, Try.ntmps15
  go_wp2_with fail
  refine G.out.mono ?_
  rintro e w1 ⟨y, rfl, ho, hbel⟩
  obtain ⟨Ax, cx, rfl⟩ := ho.bs.form
  have MS := Lib.hid (show Ms (w1.alloc (.cells #[.slice A1 m1 c1, .slice Ax E.length cx, .slice A2 m2 c2] 22)) (.slice (some ⟨w1.heap.size, 0, none⟩) 3 3) [b, E, x] from ms_lit3 w1 _ (by rw [← E1.out]; exact H.out.below hbel) ho.bs (by rw [← E2.out]; exact H2.out.below hbel))
  have C := Lib.hid (pconcat_any _ _ _ MS.out (by simp) (by have := L10.out; have := HL.out; simp; omega))
  have BA := Lib.hid (hbel.alloc hbel.size (.cells #[.slice A1 m1 c1, .slice Ax E.length cx, .slice A2 m2 c2] 22))
  clear ho hbel
  go_wp2_with fail
  refine C.out.mono ?_
  rintro e w2 hnew
  obtain ⟨z, rfl, h3⟩ := hnew
  go_wp2_with fail
  go_ret
  have := (show newB [b, E, x].flatten _ (.returned z) w2 from ⟨z, rfl, h3⟩).trans BA.out
  simpa using this
set_option maxHeartbeats 1000000 in
set_option maxRecDepth 100000 in
theorem papk_any (v : Value) (b x : List Nat) (w : World) (hb : Bs w v b) (hx : x.length = 8 ∧ ∀ y ∈ x, y < 256) (hl : b.length ≤ 1000000) :
    Calls Try.prog 17 #[v, .agg (x.map bv).toArray] w (newB (b ++ x) w) := by
  obtain ⟨A1, c1, e1⟩ := hb.form
  obtain ⟨n1, hn1⟩ : ∃ n, b.length = n := ⟨_, rfl⟩
  rw [hn1] at e1
  have HE := Lib.hid e1
  have HB0 := Lib.hid hb
  have HX := Lib.hid hx
  have LL := Lib.hid hl
  rw [e1]
  clear hb hx e1 hn1 hl
  obtain ⟨C, hC⟩ : ∃ C, (x.map bv).toArray = C := ⟨_, rfl⟩
  obtain ⟨B0, hB0⟩ : ∃ B, w.heap.size = B := ⟨_, rfl⟩
  obtain ⟨W, hW⟩ : ∃ W, w.alloc (.cells C 25) = W := ⟨_, rfl⟩
  rw [hC]
  have BW : Hid (Below w.heap.size w W) := Lib.hid (by subst hW; exact (Below.refl _ _).alloc (Nat.le_refl _) _)
  have RX : Hid (Bs W (.slice (some ⟨B0, 0, none⟩) 8 8) x) := Lib.hid (by
    have := bs_blk (t := 25) (w := W) (g := B0) (l := x) (by rw [hC]; subst hW hB0; exact heap_alloc_new w _) HX.out.1 HX.out.2
    exact this)
  have pa := run_blk (g := B0)
  have MS := Lib.hid (show Ms (W.alloc (.cells #[.slice A1 n1 c1, .slice (some ⟨B0, 0, none⟩) 8 8] 22)) (.slice (some ⟨W.heap.size, 0, none⟩) 2 2) [b, x] from ms_lit2 W _ (by rw [← HE.out]; exact HB0.out.below BW.out) RX.out)
  have CC := Lib.hid (pconcat_any _ _ _ MS.out (by simp) (by have := HX.out.1; have := LL.out; simp; omega))
  have BA := Lib.hid (BW.out.alloc BW.out.size (.cells #[.slice A1 n1 c1, .slice (some ⟨B0, 0, none⟩) 8 8] 22))
  have HB1 := Lib.hid hB0
  have HW1 := Lib.hid hW
  clear hC hB0 hW MS
  go_enter Try.func17, Try.ntmps17
  go_wp2_with (first | rw [HB1.out] | rw [HW1.out])
  refine CC.out.mono ?_
  rintro e w2 ⟨y, rfl, h3⟩
  go_wp2_with fail
  go_ret
  have := (show newB [b, x].flatten _ (.returned y) w2 from ⟨y, rfl, h3⟩).trans BA.out
  simpa using this
end Go.Proofs.Ytajeboigkpelgaa
