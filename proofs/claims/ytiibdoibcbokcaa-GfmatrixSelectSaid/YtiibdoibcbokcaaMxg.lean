/- Contracts: the reference's Apply and Mul. -/
import Derived.Test.YtiibdoibcbokcaaMxf
namespace Go.Proofs.Ytiibdoibcbokcaa
open Go Go.RowKit Lin

/-- A byte in memory. -/
def Bv (_ : World) (u : Value) (x : Nat) : Prop := u = .int .u8 (x : Int)
theorem Bv.keeps : Keeps Bv := fun _ _ _ _ h _ => h
theorem Bv.off {w : World} {g : Nat} {u : Value} {x : Nat} (h : Bv w u x) : Off Bv w g u x := fun _ _ => h
theorem OwnL.bs {w : World} {base : Nat} {e : TypeId} {v : Value} {l : List Nat} (h : OwnL Bv w base e v l) (hb : ∀ x ∈ l, x < 256) : Bs w v l := by
  rcases h with ⟨rfl, rfl⟩ | ⟨g, cap, rfl, _, cs, hr, hs, hm, hl, hc⟩
  · exact Bs.nil_ w
  · refine Bs.of_row hr rfl ⟨hl, hm⟩ hb fun k hk => ?_
    obtain ⟨u, hu, ho⟩ := hc k hk
    rw [hu, getD_in hk, ho.here]
/-- What a push of a plain value asks. -/
theorem push_plain {α : Type} {R : World → Value → α → Prop} {w1 w2 : World} {base : Nat} {e : TypeId} {v u : Value} {l : List α} {y : α} (h : OwnL R w1 base e v l) (hb : Below w1.heap.size w1 w2) (hu : ∀ w, R w u y) (t : TypeId) (b : Nat) (hbn : w2.heap.size = b) :
    OwnL R (w2.alloc (.cells #[u] t)) base e v l ∧ (w2.alloc (.cells #[u] t)).cell? ⟨b, 0, none⟩ = some u ∧ R (w2.alloc (.cells #[u] t)) u y ∧ (∀ g, v.ownBlock = some g → Off R (w2.alloc (.cells #[u] t)) g u y) :=
  ⟨(h.below hb (Nat.le_refl _)).alloc _, cell_new w2 u t _ hbn, hu _, fun _ _ _ _ => hu _⟩

theorem rmul_quiet (a b : Nat) (ha : a < 256) (hb : b < 256) (w : World) (n : Nat) :
    Calls Try.prog 37 #[.int .u8 (a : Int), .int .u8 (b : Int)] (w.drewN n) fun e w'' => e = .returned (.int .u8 (Gf.mul a b : Nat)) ∧ ∃ m, w'' = w.drewN m :=
  Calls.quiet_of_same ((rmul_any a b ha hb (w.drewN n)).mono fun _ _ h => ⟨h.1, h.2.symm⟩)

/-- Row i times the list. -/
def dotE (m : List (List Nat)) (v : List Nat) (i k : Nat) : Nat := xs k (fun l => Gf.mul (el m i l) (v.getD l 0))
def applyL (r n : Nat) (m : List (List Nat)) (v : List Nat) : List Nat := (List.range r).map fun i => dotE m v i n
theorem dotE_lt {r n : Nat} {m : List (List Nat)} (h : Rect r n m) (v : List Nat) (i k : Nat) : dotE m v i k < 256 := xs_lt _ _ fun l _ => Gf.mul_lt _ _ (h.by i l)
theorem applyL_bytes {r n : Nat} {m : List (List Nat)} (h : Rect r n m) (v : List Nat) : ∀ x ∈ applyL r n m v, x < 256 := by
  intro x hx
  obtain ⟨i, _, rfl⟩ := List.mem_map.1 hx
  exact dotE_lt h v i n
theorem applyL_at (r n : Nat) (m : List (List Nat)) (v : List Nat) (i : Nat) (hi : i < r) : (applyL r n m v).getD i 0 = dotE m v i n := range_getD _ _ _ _ hi

def bsNew (l : List Nat) (w : World) (e : Ending) (w' : World) : Prop := ∃ v, e = .returned v ∧ Bs w' v l ∧ Below w.heap.size w w'
set_option maxHeartbeats 2000000 in
set_option maxRecDepth 100000 in
theorem rapply_any (v v2 : Value) (m : List (List Nat)) (l : List Nat) (w : World) {r n : Nat} (h : Ms w v m) (hR : Rect r n m) (h0 : 0 < r) (hn0 : 0 < n) (hr64 : r ≤ 64) (hn64 : n ≤ 64) (h2 : Bs w v2 l) (hl : l.length = n) :
    Calls Try.prog 22 #[v, v2] w (bsNew (applyL r n m l) w) := by
  obtain ⟨b, off, c, rfl, hm, hat⟩ := Ms.open_ h hR h0 hn0
  obtain ⟨b2, o2, c2, rfl, hm2, hcell2⟩ := Bs.at_ h2 (by omega)
  rw [hl] at hcell2 ⊢
  have HA := Lib.hid hat
  have HC := Lib.hid hcell2
  have RL := Lib.hid hR
  have LB := Lib.hid h2.getD_lt
  obtain ⟨i1, hi, hz0, hz1, hz2⟩ := info_parts info_u8
  have I1 := Lib.hid (And.intro hi (And.intro hz0 (And.intro hz1 hz2)))
  clear hi hz0 hz1 hz2 hat hcell2 h h2 hm hm2 hl hR
  go_enter Try.func22, Try.ntmps22
  go_wp2
  go_loopw [5, 6, 7, 8] (fun v i _ _ wr => ∃ k : Nat, k ≤ r ∧ i = .int .i64 (k : Int) ∧ Hid (Below w.heap.size w wr ∧ OwnL Bv wr w.heap.size 5 v ((applyL r n m l).take k))) (fun _ i _ _ _ => r - (intOf i).toNat)
  case atStart => exact ⟨0, Nat.zero_le _, rfl, Lib.hid ⟨Below.refl _ _, OwnL.nil_ _ _ _⟩⟩
  case round =>
    obtain ⟨i, hk, rfl, H⟩ := hrel
    obtain ⟨wo, rfl⟩ : ∃ wo, wo = wr := ⟨_, rfl⟩
    by_cases hlt : i < r
    · have hiI : (i : Int) < (r : Int) := by omega
      obtain ⟨b', o', c', q1, -, -, qc⟩ := (HA.out i hlt)
      have q1' := (H.out.1.cell (World.block_lt_of_cell? w _ q1)).trans q1
      have QC := Lib.hid (fun k hk => (H.out.1.cell (World.block_lt_of_cell? w _ (qc k hk))).trans (qc k hk))
      have QL := Lib.hid (fun k hk => (H.out.1.cell (World.block_lt_of_cell? w _ (HC.out k hk))).trans (HC.out k hk))
      clear q1 qc
      go_wp2
      go_loopw [7, 8] (fun x j wq => ∃ k s : Nat, k ≤ n ∧ s < 256 ∧ x = .int .u8 (s : Int) ∧ j = .int .i64 (k : Int) ∧ Hid (Dr wo wq ∧ s = dotE m l i k)) (fun _ j _ => n - (intOf j).toNat)
      case atStart => exact ⟨0, 0, Nat.zero_le _, by decide, rfl, rfl, Lib.hid ⟨Dr.refl _, rfl⟩⟩
      case round =>
        obtain ⟨k, s, hk2, hs, rfl, rfl, H2⟩ := hrel
        by_cases hlt2 : k < n
        · have hkI : (k : Int) < (n : Int) := by omega
          have p1 := QC.out k hlt2
          have p2 := QL.out k hlt2
          rw [← H2.out.1.cell] at p1 p2
          have q1'' := q1'
          rw [← H2.out.1.cell] at q1''
          obtain ⟨x, hx⟩ : ∃ x, el m i k = x := ⟨_, rfl⟩
          obtain ⟨y, hy⟩ : ∃ y, l.getD k 0 = y := ⟨_, rfl⟩
          have hx2 : x < 256 := by rw [← hx]; exact RL.out.by i k
          have hy2 : y < 256 := by rw [← hy]; exact LB.out k
          rw [hx] at p1
          rw [hy] at p2
          have E : Hid (s ^^^ Gf.mul x y = dotE m l i (k + 1)) := Lib.hid (by rw [H2.out.2, ← hx, ← hy]; rfl)
          have hmul := Gf.mul_lt x y hx2
          have hxor := u8_xor_nat s (Gf.mul x y) hs hmul
          have hxl := Gf.xor_lt s (Gf.mul x y) hs hmul
          clear hx hy
          go_wp2
          go_quiet ((go_at_call 37; exact rmul_quiet x y hx2 hy2 _ _))
          go_wp2
          go_roundw
          case rel => exact ⟨k + 1, _, by omega, hxl, rfl, by go_num, Lib.hid ⟨H2.out.1.more _, E.out⟩⟩
          case measure => simp [intOf]; omega
        · have ek : k = n := by omega
          subst ek
          have hlen : ((applyL r k m l).take i).length = i := by rw [List.length_take, applyL, List.length_map, List.length_range]; omega
          have LN := Lib.hid hlen
          have F := Lib.hid (push_plain H.out.2 (H2.out.1.below _) (fun _ => (rfl : Bv _ (.int .u8 (s : Int)) s)) 5 wr.heap.size rfl)
          have T := Lib.hid (take_snoc 0 (applyL r k m l) i (by rw [applyL, List.length_map, List.length_range]; exact hlt))
          have T2 : Hid ((applyL r k m l).getD i 0 = s) := Lib.hid (by rw [applyL_at r k m l i hlt, H2.out.2])
          have L1 : i + 1 ≤ maxLen := by unfold maxLen; omega
          have L2 : (i + 1) * 1 ≤ 140737488355328 := by omega
          have L := Lib.hid (And.intro L1 L2)
          have HS := Lib.hid H.out.1.size
          have HS2 := Lib.hid (H2.out.1.below wo.heap.size)
          clear hlen L1 L2
          go_wp2_with (at_builtin; refine wpList_push rfl _ _ 31 rfl w.heap.size 5 i1 (.int .u8 0) 1 Try.underlying31 I1.out.1 I1.out.2.1 I1.out.2.2.1 I1.out.2.2.2 rfl Bv.keeps u5 _ rfl F.out.1 i LN.out wr.heap.size (.int .u8 (s : Int)) s rfl F.out.2.1 rfl F.out.2.2.1 F.out.2.2.2 L.out.1 L.out.2 (by simp; have := HS.out; have := HS2.out.size; omega) ?_; intro g cap w3 hown3 hgrow3)
          have HO3 := Lib.hid hown3
          have HG3 := Lib.hid hgrow3
          clear hown3 hgrow3
          go_wp2
          go_roundw
          case rel =>
            have hsz := HS.out
            have hs2 := HS2.out.size
            refine ⟨i + 1, by omega, by go_num, Lib.hid ⟨?_, ?_⟩⟩
            · exact ((H.out.1.trans (HS2.out.mono hsz)).alloc (by omega) _).grown HG3.out (by simp; omega) fun g hg => (H.out.2.own g hg).1
            · rw [T.out, T2.out]; exact HO3.out
          case measure => simp [intOf]; omega
    · go_wp2
      go_ret
      obtain ⟨hbel, hown⟩ := H.out
      rw [List.take_of_length_le (by rw [applyL, List.length_map, List.length_range]; omega)] at hown
      exact ⟨_, rfl, hown.bs (applyL_bytes RL.out l), hbel⟩
end Go.Proofs.Ytiibdoibcbokcaa
