/- Bytes that a call appends to a slice of its own; contracts of the reference's appending functions. -/
import Derived.Test.YtajeboigkpelgaaIa
import Derived.Test.YtajeboigkpelgaaGB
import Derived.Deep.DeepMust
namespace Go.Proofs.Ytajeboigkpelgaa
open Go Go.RowKit
set_option linter.unusedVariables false
set_option linter.unusedSimpArgs false
/-- A slice of bytes whose block is the call's own. -/
def OwB (w : World) (B : Nat) (v : Value) (l : List Nat) : Prop := w.ownsRow B 5 1 v l.length (l.map bv) ∧ ∀ x ∈ l, x < 256
theorem OwB.bs {w : World} {B : Nat} {v : Value} {l : List Nat} (h : OwB w B v l) : Bs w v l := Bs.of_own h.1 rfl h.2
theorem OwB.own {w : World} {B : Nat} {v : Value} {l : List Nat} (h : OwB w B v l) : ∀ k, v.ownBlock = some k → B ≤ k ∧ k < w.heap.size := h.1.lt
theorem OwB.below {w w' : World} {B : Nat} {v : Value} {l : List Nat} (h : OwB w B v l) (hb : Below w.heap.size w w') : OwB w' B v l := by
  refine ⟨⟨h.1.1, ?_⟩, h.2⟩
  rcases h.1.2 with h1 | ⟨g, cap, cur, h1, h2, h3, h4⟩
  · exact Or.inl h1
  · have hg : g < w.heap.size := Row.lt (t := 5) (cs := cur) h3
    exact Or.inr ⟨g, cap, cur, h1, h2, (hb.block g hg).trans h3, h4⟩
theorem OwB.mono {w : World} {B B' : Nat} {v : Value} {l : List Nat} (h : OwB w B v l) (hB : B' ≤ B) : OwB w B' v l := by
  refine ⟨⟨h.1.1, ?_⟩, h.2⟩
  rcases h.1.2 with h1 | ⟨g, cap, cur, h1, h2, h3⟩
  · exact Or.inl h1
  · exact Or.inr ⟨g, cap, cur, h1, Nat.le_trans hB h2, h3⟩
theorem OwB.made (w : World) {B : Nat} (hB : B ≤ w.heap.size) : OwB (w.alloc (.cells #[] 5)) B (.slice (some ⟨w.heap.size, 0, none⟩) 0 0) [] :=
  ⟨World.ownsRow_made w #[] 0 hB (Nat.zero_le _) rfl, fun _ h => by cases h⟩
theorem OwB.nil_ (w : World) (B : Nat) : OwB w B (.slice none 0 0) [] := ⟨⟨rfl, Or.inl ⟨rfl, rfl⟩⟩, fun _ h => by cases h⟩
/-- 'append(x, y...)' and 'append(x, a)': x the call's own, y any slice of bytes. -/
theorem wp_app {ops : Array Oper} {rest : List Oper} {o : Oper} {a : Act} {Q : Exit → Act → World → Prop} {w : World} (hgd : o.guard = none) (s x : Operand)
    (ho : o.op = .call { callee := .builtin .append, args := #[s, x], argTypes := #[22, 22] })
    (B : Nat) (v src : Value) (l d : List Nat) (hs : a.eval s = v) (hx : a.eval x = src) (hown : OwB w B v l) (hsrc : Bs w src d) (hlen : l.length + d.length ≤ 1099511627776) (hB : B ≤ w.heap.size)
    (h : ∀ v' w', OwB w' B v' (l ++ d) → Below B w w' → wpList Try.prog ops Q rest (a.put o.dst v') w') : wpList Try.prog ops Q (o :: rest) a w := by
  obtain ⟨i0, hi, hz0, hz1, hz2⟩ := info_parts info_u8
  refine wpList_append_bs hgd s x 22 ho B 5 i0 Try.underlying22 hi hz0 hz1 hz2 v src l.length _ hs hown.1 d hx hsrc (by unfold maxLen; omega) (by omega) hB fun v' w' h1 h2 => h v' w' ?_ ?_
  · refine ⟨?_, fun y hy => ?_⟩
    · rw [List.length_append, List.map_append]; exact h1
    · rcases List.mem_append.1 hy with h3 | h3
      · exact hown.2 y h3
      · exact hsrc.lt y h3
  · exact (Below.refl B w).grown h2 hB fun k hk => (hown.own k hk).1
/-- The same within a region that draws. -/
theorem wpO_app {o : Oper} {a : Act} {K : Act → World → Prop} {Q : Exit → Act → World → Prop} {w : World} (s x : Operand)
    (ho : o.op = .call { callee := .builtin .append, args := #[s, x], argTypes := #[22, 22] })
    (B : Nat) (v src : Value) (l d : List Nat) (hs : a.eval s = v) (hx : a.eval x = src) (hown : OwB w B v l) (hsrc : Bs w src d) (hlen : l.length + d.length ≤ 1099511627776) (hB : B ≤ w.heap.size)
    (h : ∀ v' w', OwB w' B v' (l ++ d) → Below B w w' → K (a.put o.dst v') w') : o.wp Try.prog a w K Q := by
  obtain ⟨i0, hi, hz0, hz1, hz2⟩ := info_parts info_u8
  obtain ⟨A, c, rfl, hm, hd, hA, hc⟩ := hsrc
  have fin : ∀ v' w', w'.ownsRow B 5 1 v' (l.length + d.length) (l.map bv ++ d.map bv) → w.grownBy w' v.ownBlock → K (a.put o.dst v') w' := fun v' w' h1 h2 => by
    refine h v' w' ⟨?_, fun y hy => ?_⟩ ((Below.refl B w).grown h2 hB fun k hk => (hown.own k hk).1)
    · rw [List.length_append, List.map_append]; exact h1
    · rcases List.mem_append.1 hy with h3 | h3
      · exact hown.2 y h3
      · exact hd y h3
  rcases A with _ | ad
  · have h0 : d.length = 0 := by
      rcases Nat.eq_zero_or_pos d.length with h0 | h0
      · exact h0
      · obtain ⟨b, off, h1, _⟩ := hc h0; cases h1
    obtain rfl : d = [] := List.length_eq_zero_iff.1 h0
    obtain rfl := hA rfl
    have hrun := run_append_owned_none (P := Try.prog) (w := w) B 22 o.type 5 i0 1 Try.underlying22 hi v l.length (l.map bv) hown.1
    have hx' : a.eval x = .slice none 0 0 := hx
    unfold Oper.wp
    simp [execOp, ho, resolve, invoke, builtin, hs, hx', hrun, Result.andThen]
    exact fin v w (by simpa using hown.1) (World.grownBy.refl w _)
  · refine wp_append_own w s x 22 ho B 5 i0 (.int .u8 0) 1 1 Try.underlying22 hi hz0 hz1 hz2 rfl (by decide) v l.length (l.map bv) hs hown.1 ad d.length c (d.map bv) hx (by simp) (fun j u hu => ?_) bv_one (by unfold maxLen; omega) (by omega) hB fun v' w' h1 h2 _ => fin v' w' h1 h2
    have hj : j < d.length := by
      rcases Nat.lt_or_ge j d.length with h1 | h1
      · exact h1
      · rw [List.getElem?_eq_none (by simpa using h1)] at hu; cases hu
    obtain ⟨b, off, h1, hcell⟩ := hc (by omega)
    cases h1
    rw [getD_bv hj] at hu
    rw [Go.WideShapes.add_plain, hcell j hj]
    exact hu
theorem runB_build_0 (w : World) : (Instr.buildSlice 22 0 #[]).run Try.prog w = .ok (.slice (some ⟨w.heap.size, 0, none⟩) 0 0) (w.alloc (.cells #[] 5)) := by
  obtain ⟨i, hi, hzz⟩ := Option.map_eq_some_iff.1 info_u8
  simp only [Prod.mk.injEq] at hzz
  obtain ⟨hz, hs, hb⟩ := hzz
  simp [Instr.buildSlice, run_underlying Try.underlying22, sizeOf, typeInfo, hi, hs, zeroValue, hz, newRow, Instr.fill, Value.cells, show Array.range 0 = #[] from rfl]
theorem wpB_build_0 {o : Oper} {a : Act} {w : World} {K : Act → World → Prop} {Q : Exit → Act → World → Prop} (ho : o.op = .buildSlice 22 0 #[])
    (hk : K (a.put o.dst (.slice (some ⟨w.heap.size, 0, none⟩) 0 0)) (w.alloc (.cells #[] 5))) : o.wp Try.prog a w K Q := by
  unfold Oper.wp
  simp only [execOp, ho, List.map_toArray, List.map_nil, Sem.run_bind, Sem.run_pure, Result.andThen_ok, runB_build_0 w]
  exact hk
/-- Bytes in new memory, all else as it was. -/
def newB (l : List Nat) (w : World) (e : Ending) (w' : World) : Prop := ∃ v, e = .returned v ∧ OwB w' w.heap.size v l ∧ Below w.heap.size w w'
theorem bs_one (w : World) (t : TypeId) (x : Nat) (hx : x < 256) : Bs (w.alloc (.cells #[.int .u8 (x : Int)] t)) (.slice (some ⟨w.heap.size, 0, none⟩) 1 1) [x] := by
  refine Bs.of_row (n := 1) (c := 1) (heap_alloc_new w _) rfl ⟨by decide, by decide⟩ (fun y hy => by simp at hy; omega) fun k hk => ?_
  obtain rfl : k = 0 := by omega
  rfl
theorem mod_u8 {m : Nat} : IntKind.u8.wrap ((m : Int) % 128) = ((m % 128 : Nat) : Int) := by rw [IntKind.wrap_u8]; omega
theorem add_u8 {m : Nat} : IntKind.u8.wrap (((m % 128 : Nat) : Int) + 128) = ((m % 128 + 128 : Nat) : Int) := by rw [IntKind.wrap_u8]; omega
theorem low_u8 {m : Nat} (h : m < 128) : IntKind.u8.wrap (m : Int) = (m : Int) := by rw [IntKind.wrap_u8]; omega
set_option maxHeartbeats 2000000 in
set_option maxRecDepth 100000 in
theorem rapu_any (v : Value) (b : List Nat) (n : Nat) (w : World) (hb : Bs w v b) (hn : n < 2 ^ 64) (hl : b.length ≤ 1000000) :
    Calls Try.prog 12 #[v, .int .u64 (n : Int)] w (newB (b ++ Cod.enc n) w) := by
  have H := Lib.hid hb
  obtain ⟨A1, c1, e1⟩ := hb.form
  obtain ⟨m1, em⟩ : ∃ m, b.length = m := ⟨_, rfl⟩
  rw [em] at e1
  have E1 := Lib.hid e1
  have EM := Lib.hid em
  have L10 := Lib.hid (Cod.enc_len10 hn)
  have N64 := Lib.hid hn
  have ML := Lib.hid (show b.length ≤ 1000000 from hl)
  rw [e1]
  clear hb e1 em hl hn
  have MK := Lib.hid (OwB.made w (Nat.le_refl _))
  have HA := Lib.hid (show Bs (w.alloc (.cells #[] 5)) (.slice A1 m1 c1) b by rw [← E1.out]; exact H.out.alloc _)
  go_enter Try.func12, Try.ntmps12
  go_wp2_with (at_builtin; refine wp_app rfl (.tmp 6) (.tmp 7) rfl w.heap.size _ _ [] b rfl rfl MK.out HA.out (by have := ML.out; simp; omega) (by simp) ?_; intro x1 w1 hown1 hg1)
  have ST := Lib.hid (show OwB w1 w.heap.size x1 b from hown1)
  have BW := Lib.hid (((Below.refl w.heap.size w).alloc (Nat.le_refl _) _).trans hg1)
  clear hown1 hg1 MK HA
  go_loopw [1, 5] (fun i v wr => ∃ (m : Nat) (p : List Nat), m < 2 ^ 64 ∧ i = .int .u64 (m : Int) ∧ Hid (OwB wr w.heap.size v p ∧ p ++ Cod.enc m = b ++ Cod.enc n ∧ Below w.heap.size w wr)) (fun i _ _ => (intOf i).toNat)
  case atStart => exact ⟨n, b, N64.out, rfl, Lib.hid ⟨ST.out, rfl, BW.out⟩⟩
  case round =>
    obtain ⟨m, p, hm, rfl, F⟩ := hrel
    have LN := Lib.hid (show p.length + 1 ≤ 1000010 by
      have h1 := congrArg List.length F.out.2.1
      rw [List.length_append, List.length_append] at h1
      have := ML.out; have := L10.out; have := Cod.enc_len_pos m; omega)
    by_cases hge : 128 ≤ m
    · have mI : (128 : Int) ≤ (m : Int) := by omega
      have SRC := Lib.hid (show Bs (wr.alloc (.cells #[.int .u8 ((m : Int) % 128 + 128)] 5)) (.slice (some ⟨wr.heap.size, 0, none⟩) 1 1) [m % 128 + 128] from bs_one wr _ (m % 128 + 128) (by omega))
      have OA := Lib.hid (F.out.1.below ((Below.refl _ _).alloc (Nat.le_refl _) (.cells #[.int .u8 ((m : Int) % 128 + 128)] 5)))
      have EQ := Lib.hid (show (p ++ [m % 128 + 128]) ++ Cod.enc (m / 128) = b ++ Cod.enc n by
        rw [← F.out.2.1, Cod.enc_big (by omega : ¬ m < 128), List.append_assoc]; rfl)
      have BA := Lib.hid (F.out.2.2.alloc F.out.2.2.size (.cells #[.int .u8 ((m : Int) % 128 + 128)] 5))
      have SZ := Lib.hid F.out.2.2.size
      clear F
      go_wp2_with (at_builtin; refine wp_app rfl (.tmp 11) (.tmp 16) rfl w.heap.size _ _ p [m % 128 + 128] rfl rfl OA.out SRC.out (by have := LN.out; simp; omega) (by have := SZ.out; simp; omega) ?_; intro x2 w2 hown2 hg2)
      go_roundw
      case rel => exact ⟨m / 128, _, by omega, by go_num, Lib.hid ⟨hown2, EQ.out, BA.out.trans hg2⟩⟩
      case measure => simp [intOf]; omega
    · have mI : ¬ (128 : Int) ≤ (m : Int) := by omega
      have SRC := Lib.hid (show Bs (wr.alloc (.cells #[.int .u8 (m : Int)] 5)) (.slice (some ⟨wr.heap.size, 0, none⟩) 1 1) [m] from bs_one wr _ m (by omega))
      have OA := Lib.hid (F.out.1.below ((Below.refl _ _).alloc (Nat.le_refl _) (.cells #[.int .u8 (m : Int)] 5)))
      have EQ := Lib.hid (show p ++ [m] = b ++ Cod.enc n by
        rw [← F.out.2.1, Cod.enc_small (by omega : m < 128)])
      have BA := Lib.hid (F.out.2.2.alloc F.out.2.2.size (.cells #[.int .u8 (m : Int)] 5))
      have SZ := Lib.hid F.out.2.2.size
      have WM := Lib.hid (low_u8 (m := m) (by omega))
      clear F
      go_wp2_with (first | rw [WM.out] | (at_builtin; refine wp_app rfl (.tmp 20) (.tmp 23) rfl w.heap.size _ _ p [m] rfl rfl OA.out SRC.out (by have := LN.out; simp; omega) (by have := SZ.out; simp; omega) ?_; intro x2 w2 hown2 hg2))
      go_ret
      exact ⟨x2, rfl, EQ.out ▸ hown2, BA.out.trans hg2⟩
end Go.Proofs.Ytajeboigkpelgaa
