/- The contract of the reference's Fused: it appends one byte a round to a slice of its own. -/
import Derived.Test.YtiibdoibcbokcaaGff
import Derived.Test.YtiibdoibcbokcaaGfr
import Derived.Deep.DeepMust
import Derived.Deep.RegionHeld3
import Derived.Deep.AppendLies
namespace Go.Proofs.Ytiibdoibcbokcaa
open Go Go.RowKit

def rfusedPost (d s : List Nat) (c : Nat) (w : World) (e : Ending) (w' : World) : Prop :=
  ∃ v, e = .returned v ∧ Bs w' v (fused d s c) ∧ Below w.heap.size w w'
/-- .. and the list lies in new memory. -/
def rfusedNew (d s : List Nat) (c : Nat) (w : World) (e : Ending) (w' : World) : Prop :=
  ∃ v, e = .returned v ∧ Bs w' v (fused d s c) ∧ (∀ k, v.ownBlock = some k → w.heap.size ≤ k) ∧ Below w.heap.size w w'
theorem fused_take (d s : List Nat) (c k : Nat) (hk : k < d.length) : (fused d s c).take (k + 1) = (fused d s c).take k ++ [d.getD k 0 ^^^ Gf.mul c (s.getD k 0)] := by
  rw [List.take_add_one, List.getElem?_eq_getElem (by rw [fused_len]; exact hk), ← getD_in (x := 0), fused_at d s c k hk]; rfl

set_option maxHeartbeats 1000000 in
set_option maxRecDepth 100000 in
theorem rfused_new (v1 v2 : Value) (d s : List Nat) (c : Nat) (w : World) (h1 : Bs w v1 d) (h2 : Bs w v2 s) (hl : d.length = s.length) (hc : c < 256) (hr : d.length ≤ 140737488351232) :
    Calls Try.prog 44 #[v1, v2, .int .u8 (c : Int)] w (rfusedNew d s c w) := by
  have H1 := Lib.hid h1
  have H2 := Lib.hid h2
  obtain ⟨A1, c1, rfl, -, -, -, hc1⟩ := h1
  obtain ⟨A2, c2, rfl, -, -, -, hc2⟩ := h2
  obtain ⟨n, hn⟩ : ∃ n, d.length = n := ⟨_, rfl⟩
  have hn2 : s.length = n := by omega
  rw [hn] at hc1 hr ⊢
  rw [hn2] at hc2 ⊢
  have HC1 := Lib.hid hc1
  have HC2 := Lib.hid hc2
  have N1 := Lib.hid hn
  have N2 := Lib.hid hn2
  obtain ⟨i0, hi, hz0, hz1, hz2⟩ := info_parts info_u8
  have I0 := Lib.hid (And.intro hi (And.intro hz0 (And.intro hz1 hz2)))
  clear hc1 hc2 hl hn hn2 hi hz0 hz1 hz2
  have hm : (n : Int) ≤ 9223372036854775807 := by omega
  go_enter Try.func44, Try.ntmps44
  go_wp2
  go_loopw [7, 8] (fun v i wr => ∃ k : Nat, k ≤ n ∧ i = .int .i64 (k : Int) ∧ Hid (Below w.heap.size w wr ∧ wr.ownsRow w.heap.size 5 1 v k (((fused d s c).take k).map bv))) (fun _ i _ => n - (intOf i).toNat)
  case atStart => exact ⟨0, Nat.zero_le _, rfl, Lib.hid ⟨Below.refl _ _, World.ownsRow_nil _ _ _ _⟩⟩
  case round =>

    obtain ⟨k, hk, rfl, H⟩ := hrel
    by_cases hlt : k < n
    · have hkI : (k : Int) < (n : Int) := by omega
      obtain ⟨b1, off1, rfl, q1⟩ := HC1.out (by omega)
      obtain ⟨b2, off2, rfl, q2⟩ := HC2.out (by omega)
      obtain ⟨hbel, hown⟩ := H.out
      have q1' := (hbel.cell (p := ⟨b1, off1 + k, none⟩) (World.block_lt_of_cell? w _ (q1 k hlt))).trans (q1 k hlt)
      have q2' := (hbel.cell (p := ⟨b2, off2 + k, none⟩) (World.block_lt_of_cell? w _ (q2 k hlt))).trans (q2 k hlt)
      obtain ⟨x, hx⟩ : ∃ x, d.getD k 0 = x := ⟨_, rfl⟩
      obtain ⟨y, hy⟩ : ∃ y, s.getD k 0 = y := ⟨_, rfl⟩
      have hx2 : x < 256 := hx ▸ H1.out.getD_lt k
      have hy2 : y < 256 := hy ▸ H2.out.getD_lt k
      rw [hx] at q1'
      rw [hy] at q2'
      have HT : Hid ((fused d s c).take (k + 1) = (fused d s c).take k ++ [x ^^^ Gf.mul c y]) := Lib.hid (by rw [fused_take d s c k (by rw [N1.out]; exact hlt), hx, hy])
      have hmul := Gf.mul_lt c y hc
      have hxor := u8_xor_nat x (Gf.mul c y) hx2 hmul
      have HB2 := Lib.hid hbel
      have HO := Lib.hid hown
      clear q1 q2 hx hy hbel hown
      have L1 : k + 1 ≤ maxLen := by unfold maxLen; omega
      have L2 : (k + 1) * 1 ≤ 140737488355328 := by omega
      have L3 : w.heap.size ≤ wr.heap.size := HB2.out.size
      have one : ∀ u ∈ [bv (x ^^^ Gf.mul c y)], u.oneCell' = true := by intro u hu; simp at hu; subst hu; rfl
      have lb1 : b1 < w.heap.size := by
        obtain ⟨b, off, he, hq⟩ := HC1.out (by omega)
        cases he
        exact World.block_lt_of_cell? w ⟨b1, off1 + k, none⟩ (hq k hlt)
      have lb2 : b2 < w.heap.size := by
        obtain ⟨b, off, he, hq⟩ := HC2.out (by omega)
        cases he
        exact World.block_lt_of_cell? w ⟨b2, off2 + k, none⟩ (hq k hlt)
      have ag : u7.ownBlock ≠ some b1 := fun h => by have := (HO.out.lt b1 h).1; omega
      have ak : u7.ownBlock ≠ some b2 := fun h => by have := (HO.out.lt b2 h).1; omega
      have k0 : (0 : Int) ≤ (k : Int) := Int.natCast_nonneg _
      have ONE := Lib.hid one
      clear one
      go_wp2_with fail
      go_region_held3 (fun w' => w'.cell? ⟨b1, off1 + k, none⟩ = some (.int .u8 (x : Int)) ∧ w'.cell? ⟨b2, off2 + k, none⟩ = some (.int .u8 (y : Int)))
        (first
          | go_keep
          | (go_split_ands
             refine ⟨?_, ?_⟩
             · (rw [hgrow.cell_far _ (by simp; omega) (Ne.symm ag)]; assumption)
             · (rw [hgrow.cell_far _ (by simp; omega) (Ne.symm ak)]; assumption)))
        ((first
          | (go_at_call 37; refine (rmul_any c y hc hy2 _).mono ?_; rintro e w' ⟨rfl, rfl⟩)
          | (refine step_append_lies _ (by rfl) _ _ _ (by rfl) w.heap.size 5 i0 _ 1 1 Try.underlying31 I0.out.1 I0.out.2.1 I0.out.2.2.1 I0.out.2.2.2 rfl (by decide) u7 k _ (by rfl) ((HO.out.alloc _).drew)
              ⟨wr.heap.size, 0, none⟩ 1 1 [bv (x ^^^ Gf.mul c y)] (by rfl) (by rfl) (World.news_of_block (cs := #[bv (x ^^^ Gf.mul c y)]) (t := 5) (fr := (0, 0)) (heap_alloc_new wr _)) ONE.out
              (by decide) L1 L2 (by simp; omega) (wr.heap.size + 1) (by simp) ?_; intro gg cap w1 hown1 hgrow hat hlt1)))
      have HO1 := Lib.hid hown1
      have HG1 := Lib.hid hgrow
      clear hown1 hgrow hat hlt1
      go_wp2
      go_roundw
      case rel =>
        refine ⟨k + 1, by omega, by go_num, Lib.hid ⟨?_, ?_⟩⟩
        · exact ((HB2.out.alloc L3 _).drew).grown HG1.out (by simp; omega) (fun g hg => (HO.out.lt g hg).1)
        · rw [HT.out, List.map_append]; exact HO1.out
      case measure => simp [intOf]; omega
    · go_wp2
      go_ret
      obtain ⟨hbel, hown⟩ := H.out
      obtain rfl : k = n := by omega
      rw [List.take_of_length_le (by rw [fused_len, N1.out]; exact Nat.le_refl _)] at hown
      exact ⟨_, rfl, Bs.of_own hown (by rw [fused_len]; exact N1.out) (fused_bytes _ _ _ H1.out.lt hc), (fun k hk => (hown.lt k hk).1), hbel⟩
theorem rfused_any (v1 v2 : Value) (d s : List Nat) (c : Nat) (w : World) (h1 : Bs w v1 d) (h2 : Bs w v2 s) (hl : d.length = s.length) (hc : c < 256) (hr : d.length ≤ 140737488351232) :
    Calls Try.prog 44 #[v1, v2, .int .u8 (c : Int)] w (rfusedPost d s c w) :=
  (rfused_new v1 v2 d s c w h1 h2 hl hc hr).mono fun _ _ ⟨v, he, hb, _, hw⟩ => ⟨v, he, hb, hw⟩
end Go.Proofs.Ytiibdoibcbokcaa
