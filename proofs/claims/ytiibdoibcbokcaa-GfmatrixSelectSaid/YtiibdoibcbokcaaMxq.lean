/- Contracts: the reference's reduced and Independent. -/
import Derived.Test.YtiibdoibcbokcaaMxl
import Derived.Test.YtiibdoibcbokcaaMxg
import Derived.Test.YtiibdoibcbokcaaGfs
namespace Go.Proofs.Ytiibdoibcbokcaa
open Go Go.RowKit Lin

/-- What is left of a row, as a list. -/
def residL (C k : Nat) (b : List (List Nat)) (l : Nat → Nat) (row : List Nat) : List Nat := (List.range C).map (resid k (el b) l (fun j => row.getD j 0))
theorem leadOf (C : Nat) (v : Nat → Nat) (h : ∃ j, j < C ∧ v j ≠ 0) : ∃ q, Lead C v q := by
  obtain ⟨j, hj, hne⟩ := h
  induction j using Nat.strongRecOn with
  | ind j ih =>
    by_cases h0 : ∀ i, i < j → v i = 0
    · exact ⟨j, hj, hne, h0⟩
    · have : ∃ i, i < j ∧ v i ≠ 0 := by
        apply Classical.byContradiction
        intro hn
        exact h0 fun i hi => Classical.byContradiction fun hv => hn ⟨i, hi, hv⟩
      obtain ⟨i, hi, hv⟩ := this
      exact ih i hi (by omega) hv

set_option maxHeartbeats 4000000 in
set_option maxRecDepth 100000 in
theorem rreduced_any (v1 v2 : Value) (row : List Nat) (b : List (List Nat)) (l : Nat → Nat) (w : World) {k C : Nat} (h1 : Bs w v1 row) (hl : row.length = C) (h2 : Ms w v2 b) (hR : Rect k C b) (hE : Ech C k (el b) l) (hk : k ≤ 64) (hC0 : 0 < C) (hC : C ≤ 64) :
    Calls Try.prog 41 #[v1, v2] w (madeRow (residL C k b l row) w) := by
  have hc2 := fun hn => Ms.at_ h2 hn
  obtain ⟨A2, c2, rfl⟩ := Sl.form h2
  rw [hR.len] at hc2 ⊢
  have H1 := Lib.hid h1
  have H2 := Lib.hid h2
  have HC := Lib.hid hc2
  have RL := Lib.hid hR
  have EC := Lib.hid hE
  have LN := Lib.hid hl
  obtain ⟨A1, c1, rfl⟩ := h1.form
  obtain ⟨i1, hi, hz0, hz1, hz2⟩ := info_parts info_u8
  have I1 := Lib.hid (And.intro hi (And.intro hz0 (And.intro hz1 hz2)))
  have L3 : 0 + row.length ≤ maxLen := by unfold maxLen; omega
  have L4 : 0 + row.length ≤ 140737488355328 := by omega
  have L := Lib.hid (And.intro L3 L4)
  clear hi hz0 hz1 hz2 L3 L4 hc2 h1 h2 hl hR hE
  go_enter Try.func41, Try.ntmps41
  go_wp2_with (at_builtin; refine wpList_append_bs rfl (.tmp 7) (.tmp 8) 31 rfl w.heap.size 5 i1 Try.underlying31 I1.out.1 I1.out.2.1 I1.out.2.2.1 I1.out.2.2.2 (.slice (some ⟨w.heap.size, 0, none⟩) 0 0) (.slice A1 row.length c1) 0 [] rfl (World.ownsRow_made w #[] 0 (Nat.le_refl _) (Nat.zero_le _) rfl) row rfl (H1.out.alloc _) L.out.1 L.out.2 (by simp) ?_; intro x0 w1 hown1 hg1)
  have hb1 : Below w.heap.size w w1 := ((Below.refl _ w).alloc (Nat.le_refl _) _).grown hg1 (by simp) fun q hq => by injection hq with hq; exact Nat.le_of_eq hq
  have P : Hid (Bs w1 x0 row ∧ (∀ k, x0.ownBlock = some k → w.heap.size ≤ k) ∧ Below w.heap.size w w1) := Lib.hid ⟨Bs.of_own hown1 (by omega) H1.out.lt, fun k hk => (hown1.lt k hk).1, hb1⟩
  clear hown1 hg1 hb1
  go_wp2
  go_loopw [5, 6] (fun v q wr => ∃ i : Nat, i ≤ k ∧ q = .int .i64 (i : Int) ∧ Hid (Below w.heap.size w wr ∧ (∀ k, v.ownBlock = some k → w.heap.size ≤ k) ∧ ∃ out : List Nat, Bs wr v out ∧ out.length = C ∧ ∀ j, out.getD j 0 = row.getD j 0 ^^^ xs i (fun n => Gf.mul (row.getD (l n) 0) (el b n j)))) (fun _ q _ => k - (intOf q).toNat)
  case atStart => exact ⟨0, Nat.zero_le _, rfl, Lib.hid ⟨P.out.2.2, P.out.2.1, row, P.out.1, LN.out, fun j => (Nat.xor_zero _).symm⟩⟩
  case round =>
    obtain ⟨i, hik, rfl, H⟩ := hrel
    by_cases hlt : i < k
    · have hiI : (i : Int) < (k : Int) := by omega
      obtain ⟨hbel, hnew, out, hbs, hol, hout⟩ := H.out
      obtain ⟨b2, o2, c2', hv, -, hrow⟩ := HC.out (by omega)
      injection hv with e1 e2 e3
      subst e1
      obtain ⟨A3, c3, q1, r1⟩ := hrow i hlt
      have hlr := (RL.out.row i hlt).1
      obtain ⟨E1, E2, E3, E4⟩ := EC.out i hlt
      have q1' := (hbel.cell (World.block_lt_of_cell? w _ q1)).trans q1
      have r1' := r1.below hbel
      rw [hlr] at q1' r1'
      have hlead : (b.getD i []).getD (l i) 0 = 1 := E2
      have LD := Lib.hid (lead_t _ (b.getD i []) (l i) wr.drew (r1'.keep fun _ _ => rfl) (by rw [hlr]; exact E1) (by rw [hlead]; decide) E3)
      have hx : out.getD (l i) 0 = row.getD (l i) 0 := by
        rw [hout, xs_zero _ _ fun n hn => by rw [(EC.out i hlt).2.2.2 n (by omega) (by omega), Gf.mul_zero], Nat.xor_zero]
      obtain ⟨b5, o5, c5, hv5, -, hcell5⟩ := Bs.at_ hbs (by rw [hol]; exact hC0)
      subst hv5
      rw [hol] at hcell5 hbs ⊢
      have p5 := hcell5 (l i) E1
      have hlI : ((l i : Nat) : Int) < (C : Int) := by omega
      have hx2 : row.getD (l i) 0 < 256 := H1.out.getD_lt _
      rw [hx] at p5
      have RF := Lib.hid (rfused_new _ _ out (b.getD i []) (row.getD (l i) 0) wr.drew (hbs.keep fun _ _ => rfl) (r1'.keep fun _ _ => rfl) (by rw [hol, hlr]) hx2 (by omega))
      have EQ : Hid (∀ j, (fused out (b.getD i []) (row.getD (l i) 0)).getD j 0 = row.getD j 0 ^^^ xs (i + 1) (fun n => Gf.mul (row.getD (l n) 0) (el b n j))) := Lib.hid fun j => by
        rw [fused_getD _ _ _ _ (by rw [hol, hlr]), hout j, Nat.xor_assoc]; rfl
      have OL : Hid ((fused out (b.getD i []) (row.getD (l i) 0)).length = C) := Lib.hid (by rw [fused_len, hol])
      have HB := Lib.hid hbel
      obtain ⟨x, ex⟩ : ∃ x, row.getD (l i) 0 = x := ⟨_, rfl⟩
      obtain ⟨y, ey⟩ : ∃ y, l i = y := ⟨_, rfl⟩
      obtain ⟨fo, efo⟩ : ∃ fo, fused out (b.getD i []) (row.getD (l i) 0) = fo := ⟨_, rfl⟩
      have E5 : Hid (rfusedNew out (b.getD i []) (row.getD (l i) 0) wr.drew = rfusedNew out (b.getD i []) x wr.drew) := Lib.hid (by rw [ex])
      rw [efo] at EQ OL
      rw [ex] at p5
      rw [ey] at p5 LD hlI E1
      have FO := Lib.hid efo
      rw [E5.out] at RF
      rw [ex] at RF FO
      clear hbel hnew hbs hol hout hrow e2 e3 q1 r1 r1' hlr E2 E3 E4 hlead hx hcell5 hx2 ex ey efo E5
      go_wp2
      go_region_with (first
        | (go_at_call 42; refine LD.out.mono ?_; rintro e w' ⟨rfl, rfl⟩)
        | (go_at_call 44; refine RF.out.mono ?_; rintro e w4 ⟨nv, rfl, nb, nn, nw⟩; have NB := Lib.hid nb; have NN := Lib.hid nn; have NW := Lib.hid nw; clear nb nn nw))
      all_goals
        go_wp2
        go_roundw
        case rel =>
          have hsz := HB.out.size
          refine ⟨i + 1, by omega, by go_num, Lib.hid ⟨((HB.out.drew).trans (NW.out.mono hsz)), fun q hq => by have := NN.out q hq; have h3 : wr.drew.heap.size = wr.heap.size := rfl; omega, fo, by rw [← FO.out]; exact NB.out, OL.out, EQ.out⟩⟩
        case measure => simp [intOf]; omega
    · go_wp2
      go_ret
      obtain ⟨hbel, hnew, out, hbs, hol, hout⟩ := H.out
      have e : out = residL C k b l row := by
        refine list_ext 0 (by rw [hol]; simp [residL]) fun j hj => ?_
        have hj' : j < C := by omega
        unfold residL
        rw [hout j, range_getD _ _ _ _ hj', show i = k by omega]
        rfl
      subst e
      exact ⟨_, rfl, hbs, hnew, hbel⟩
end Go.Proofs.Ytiibdoibcbokcaa
