/- Contracts: matrices of steps: image and square. -/
import Derived.Test.YtbdabpijhacpdaaHs
import Derived.Deep.MidRow
import Derived.BigQuiet
import Derived.Lib.SliceRun
namespace Go.Proofs.Ytbdabpijhacpdaa
open Go Go.RowKit
set_option linter.unusedVariables false
set_option linter.unusedSimpArgs false
/-! ### Rows of an array -/
theorem mx_new (w : World) (cs : Array Value) (t : TypeId) {g : Nat} (h : w.heap.size = g) : Row (w.alloc (.cells cs t)) g t cs := h ▸ heap_alloc_new w _
theorem mx_to {w w' : World} {g B : Nat} {t : TypeId} {cs : Array Value} (h : Row w g t cs) (hb : Below B w w') (hg : g < B) : Row w' g t cs := h.below hb hg
theorem mx_other {w : World} {g : Nat} {t : TypeId} {cs : Array Value} (h : Row w g t cs) {k : Nat} (hk : g ≠ k) (i : Nat) (u : Value) : Row (w.setCell ⟨k, i, none⟩ u) g t cs := (Below.heap_setCell w ⟨k, i, none⟩ u g hk).trans h
theorem mx_others {g : Nat} {t : TypeId} {cs : Array Value} {k : Nat} (hk : g ≠ k) : ∀ (vs : List Value) (o : Nat) {w : World}, Row w g t cs → Row (w.setCells k o vs) g t cs
  | [], _, _, h => h
  | v :: r, o, _, h => mx_others hk r (o + 1) (mx_other h hk o v)
theorem mx_there {w : World} {g : Nat} {t : TypeId} {cs : Array Value} (h : Row w g t cs) {n : Nat} (hs : n ≤ cs.size) : w.there g 0 n := fun j hj =>
  ⟨by rw [Nat.zero_add, h.cell, Array.getElem?_eq_getElem (by omega)]; rfl, h.frozen _⟩
theorem mx_puts {w : World} {g : Nat} {t : TypeId} : ∀ {vs : List Value} {cs : Array Value} {o : Nat}, Row w g t cs → ∃ cs', Row (w.setCells g o vs) g t cs' ∧ cs'.size = cs.size ∧ ∀ i, i < cs.size → cs'[i]? = if o ≤ i ∧ i < o + vs.length then vs[i - o]? else cs[i]? := by
  intro vs
  induction vs generalizing w with
  | nil => exact fun {cs o} h => ⟨cs, h, rfl, fun i _ => by rw [if_neg (by simp only [List.length_nil]; omega)]⟩
  | cons v r ih =>
    intro cs o h
    obtain ⟨cs', h1, h2, h3⟩ := ih (o := o + 1) (h.store o v)
    refine ⟨cs', h1, by rw [h2]; simp, fun i hi => ?_⟩
    rw [h3 i (by simpa using hi)]
    by_cases e : i = o
    · subst e
      rw [if_neg (by omega), if_pos (by simp)]
      simp [Array.getElem?_setIfInBounds_self_of_lt hi]
    · by_cases e2 : o + 1 ≤ i ∧ i < o + 1 + r.length
      · rw [if_pos e2, if_pos (by simp; omega)]
        obtain ⟨d, hd⟩ : ∃ d, i - o = d + 1 := ⟨i - o - 1, by omega⟩
        rw [hd, List.getElem?_cons_succ]; congr 1; omega
      · rw [if_neg e2, if_neg (by simp; omega), Array.getElem?_setIfInBounds_ne (by omega)]
/-- A whole array over another one. -/
theorem mx_put {w : World} {g : Nat} {t : TypeId} {cs ds : Array Value} (h : Row w g t cs) (hs : cs.size = ds.size) : Row (w.setCells g 0 ds.toList) g t ds := by
  obtain ⟨cs', h1, h2, h3⟩ := mx_puts (vs := ds.toList) (o := 0) h
  have : cs' = ds := by
    refine Array.ext_getElem? fun i => ?_
    rcases Nat.lt_or_ge i ds.size with hi | hi
    · rw [h3 i (by omega), if_pos (by simp; omega), Nat.sub_zero, Array.getElem?_toList]
    · rw [Array.getElem?_eq_none (by omega), Array.getElem?_eq_none (by omega)]
  subst this; exact h1
theorem mx_below {B : Nat} {w w' : World} (h : Below B w w') : ∀ (vs : List Value) (g o : Nat), B ≤ g → Below B w (w'.setCells g o vs) := by
  intro vs
  induction vs generalizing w' with
  | nil => exact fun g o _ => h
  | cons v r ih => exact fun g o hg => ih (h.setCell (p := ⟨g, o, none⟩) hg v) g (o + 1) hg
/-! ### Matrices -/
/-- The cells of the matrix of k steps. -/
def MC (cs : Array Value) (k : Nat) : Prop := cs.size = 64 ∧ ∀ i, i < 64 → cs[i]? = some (.int .u64 ((Crc.sts k (2 ^ i) : Nat) : Int))
theorem MC.one {cs : Array Value} {k : Nat} (h : MC cs k) : cs.all (·.oneCell') = true := by
  rw [Array.all_eq_true]
  intro i hi
  have := h.2 i (by have := h.1; omega)
  rw [Array.getElem?_eq_getElem hi] at this
  have e := Option.some.inj this
  rw [e]; rfl
theorem MC.info {cs : Array Value} {k : Nat} (h : MC cs k) : (Try.prog.info? 41).map (·.size) = some cs.size := by rw [h.1]; kernel_rfl
def Mt (w : World) (g k : Nat) : Prop := ∃ cs, Row w g 41 cs ∧ MC cs k
theorem Mt.to {w w' : World} {g B k : Nat} (h : Mt w g k) (hb : Below B w w') (hg : g < B) : Mt w' g k := by
  obtain ⟨cs, h1, h2⟩ := h; exact ⟨cs, mx_to h1 hb hg, h2⟩
theorem Mt.lt {w : World} {g k : Nat} (h : Mt w g k) : g < w.heap.size := by obtain ⟨cs, h1, h2⟩ := h; exact h1.lt
theorem Mt.cell {w : World} {g k : Nat} (h : Mt w g k) {i : Nat} (hi : i < 64) : w.cell? ⟨g, i, none⟩ = some (.int .u64 ((Crc.sts k (2 ^ i) : Nat) : Int)) := by
  obtain ⟨cs, h1, h2⟩ := h; rw [h1.cell]; exact h2.2 i hi
theorem two_lt {i : Nat} (hi : i < 64) : 2 ^ i < 2 ^ 64 := Nat.pow_lt_pow_right (by decide) hi
/-- One column of a product. -/
theorem col_bits {n x k y q : Nat} (hx : x < 2 ^ 64) (hk : k < 64) (hy : y = Crc.sts n (x % 2 ^ k)) (hq : q = x / 2 ^ k) :
    bits BinOp.xor IntKind.u64 (y : Int) (bits BinOp.and IntKind.u64 ((Crc.sts n (2 ^ k) : Nat) : Int) (IntKind.u64.wrap (-(bits BinOp.and IntKind.u64 (q : Int) 1)))) = ((Crc.sts n (x % 2 ^ (k + 1)) : Nat) : Int) := by
  have c64 := Crc.sts_lt n (two_lt hk)
  have xk : x % 2 ^ k < 2 ^ 64 := Nat.lt_of_le_of_lt (Nat.mod_le _ _) hx
  have y64 : y < 2 ^ 64 := by rw [hy]; exact Crc.sts_lt n xk
  have q64 : q < 2 ^ 64 := by rw [hq]; exact Nat.lt_of_le_of_lt (Nat.div_le_self _ _) hx
  rw [and1_u64 q64, Crc.low_succ x k, ← hq]
  rcases (by omega : q % 2 = 1 ∨ q % 2 = 0) with h | h
  · rw [h, show IntKind.u64.wrap (-(((1 : Nat)) : Int)) = 18446744073709551615 by decide, and_all_u64 c64, xor_u64 y64 c64, Nat.mul_one, Crc.sts_xor, hy]
  · rw [h, show IntKind.u64.wrap (-(((0 : Nat)) : Int)) = 0 by decide, and_none_u64 c64, xor_0_u64 y64, Nat.mul_zero, Nat.xor_zero, hy]
set_option maxHeartbeats 400000 in
set_option maxRecDepth 100000 in
theorem image_any (g n x : Nat) (w : World) (hm : Mt w g n) (hx : x < 2 ^ 64) :
    Calls Try.prog 22 #[.pointer (some ⟨g, 0, none⟩), .int .u64 (x : Int)] w fun e w' => e = .returned (.int .u64 ((Crc.sts n x : Nat) : Int)) ∧ w = w' := by
  have M := Lib.hid hm
  have X := Lib.hid hx
  clear hm hx
  go_enter Try.func22, Try.ntmps22
  go_wp2_with fail
  go_loop [1, 5, 9] (fun v y i => ∃ k z q : Nat, k ≤ 64 ∧ i = .int .i64 (k : Int) ∧ v = .int .u64 (q : Int) ∧ y = .int .u64 (z : Int) ∧ Hid (z = Crc.sts n (x % 2 ^ k) ∧ q = x / 2 ^ k)) (fun _ _ i => 64 - (intOf i).toNat)
  case atStart => exact ⟨0, 0, x, by omega, rfl, rfl, rfl, Lib.hid ⟨by rw [Nat.pow_zero, Nat.mod_one, Crc.sts_0], by rw [Nat.pow_zero, Nat.div_one]⟩⟩
  case round =>
    obtain ⟨k, z, q, hk, rfl, rfl, rfl, H⟩ := hrel
    by_cases hlt : k < 64
    · have kI : (k : Int) < 64 := by omega
      have hc := M.out.cell hlt
      have CB := Lib.hid (col_bits X.out hlt H.out.1 H.out.2)
      have Q2 := Lib.hid (show q / 2 = x / 2 ^ (k + 1) by rw [H.out.2, Nat.div_div_eq_div_mul, ← Nat.pow_succ])
      generalize Crc.sts n (2 ^ k) = c at hc CB
      obtain ⟨t, ht⟩ : ∃ t, Crc.sts n (x % 2 ^ (k + 1)) = t := ⟨_, rfl⟩
      rw [ht] at CB
      have T := Lib.hid ht
      clear ht H
      go_wp2_with fail
      rw [CB.out]
      go_round
      case rel => exact ⟨k + 1, t, q / 2, by omega, by go_num, rfl, rfl, Lib.hid ⟨T.out.symm, Q2.out⟩⟩
      case measure => simp [intOf]; omega
    · obtain rfl : k = 64 := by omega
      have E := Lib.hid (show z = Crc.sts n x by rw [H.out.1, Nat.mod_eq_of_lt X.out])
      clear H
      go_wp2_with fail
      go_ret
      exact ⟨ret_u64 (by rw [E.out]), rfl⟩
/-- The state of a square's loop: the first columns are there. -/
def SqSt (w wr : World) (B n k : Nat) : Prop := Below B w wr ∧ ∃ cs, Row wr B 41 cs ∧ cs.size = 64 ∧ ∀ i, i < k → cs[i]? = some (.int .u64 ((Crc.sts (2 * n) (2 ^ i) : Nat) : Int))
theorem SqSt.next {w wr : World} {B n k : Nat} (h : SqSt w wr B n k) (hk : k < 64) {c : Nat} (hc : c = Crc.sts (2 * n) (2 ^ k)) : SqSt w (wr.setCell ⟨B, k, none⟩ (.int .u64 (c : Int))) B n (k + 1) := by
  obtain ⟨h1, cs, h2, h3, h4⟩ := h
  refine ⟨h1.setCell (p := ⟨B, k, none⟩) (Nat.le_refl _) _, cs.setIfInBounds k (.int .u64 (c : Int)), h2.store k _, by rw [Array.size_setIfInBounds]; exact h3, fun i hi => ?_⟩
  by_cases e : i = k
  · subst e; rw [Array.getElem?_setIfInBounds_self_of_lt (by omega), hc]
  · rw [Array.getElem?_setIfInBounds_ne (fun h => e h.symm)]; exact h4 i (by omega)
theorem SqSt.drew {w wr : World} {B n k : Nat} (h : SqSt w wr B n k) {m : Nat} : SqSt w (wr.drewN m) B n k := by
  obtain ⟨h1, cs, h2, h3, h4⟩ := h
  exact ⟨below_drewN h1 m, cs, h2, h3, h4⟩
def sqPost (w : World) (g n : Nat) (e : Ending) (w' : World) : Prop := e = .returned (.tuple #[]) ∧ Below g w w' ∧ Mt w' g (2 * n)
set_option maxHeartbeats 1000000 in
set_option maxRecDepth 100000 in
theorem square_any (g n : Nat) (w : World) (hm : Mt w g n) :
    Calls Try.prog 23 #[.pointer (some ⟨g, 0, none⟩)] w (sqPost w g n) := by
  have M := Lib.hid hm
  obtain ⟨B, hB⟩ : ∃ B, w.heap.size = B := ⟨_, rfl⟩
  have HB := Lib.hid hB
  have GB := Lib.hid (show g < B by rw [← hB]; exact hm.lt)
  clear hm
  go_enter Try.func23, Try.ntmps23
  go_wp2_with fail
  go_loopw [6] (fun i wr => ∃ k : Nat, k ≤ 64 ∧ i = .int .i64 (k : Int) ∧ Hid (SqSt w wr B n k)) (fun i _ => 64 - (intOf i).toNat)
  case atStart => exact ⟨0, by omega, rfl, Lib.hid ⟨(Below.refl w.heap.size w).alloc (Nat.le_refl _) _ |> fun h => HB.out ▸ h, _, mx_new _ _ _ HB.out, rfl, fun i hi => absurd hi (Nat.not_lt_zero _)⟩⟩
  case round =>
    obtain ⟨k, hk, rfl, H⟩ := hrel
    by_cases hlt : k < 64
    · have kI : (k : Int) < 64 := by omega
      have MR := Lib.hid (M.out.to H.out.1 GB.out)
      have hc := MR.out.cell hlt
      have SL := Lib.hid (Crc.sts_lt n (two_lt hlt))
      have AD := Lib.hid (show Crc.sts n (Crc.sts n (2 ^ k)) = Crc.sts (2 * n) (2 ^ k) by rw [← Crc.sts_add, Nat.two_mul])
      generalize Crc.sts n (2 ^ k) = c at hc SL AD
      obtain ⟨d, hd⟩ : ∃ d, Crc.sts n c = d := ⟨_, rfl⟩
      rw [hd] at AD
      have HD := Lib.hid hd
      clear hd
      go_wp2_with fail
      go_quiet (fail)
      have MZ := Lib.hid (show Mt (wr.drewN nq) g n from MR.out.to (below_drewN (Below.refl _ _) nq) MR.out.lt)
      have HZ := Lib.hid (H.out.drew (m := nq))
      clear hc MR H
      generalize wr.drewN nq = wz at MZ HZ ⊢
      have cell : ∃ v, wz.cell? ⟨B, k, none⟩ = some v := by obtain ⟨-, cs, h1, h2, -⟩ := HZ.out; exact ⟨_, by rw [h1.cell, Array.getElem?_eq_getElem (by omega)]⟩
      obtain ⟨v0, cell⟩ := cell
      have fz : wz.frozen? ⟨B, k, none⟩ = false := by obtain ⟨-, cs, h1, h2, -⟩ := HZ.out; exact h1.frozen k
      have IM := Lib.hid (image_any g n c wz MZ.out SL.out)
      rw [HD.out] at IM
      have NX := Lib.hid (HZ.out.next hlt AD.out)
      go_wp2_with (go_at_call 22; refine IM.out.mono ?_; rintro e w' ⟨rfl, rfl⟩)
      go_roundw
      case rel => exact ⟨k + 1, by omega, by go_num, NX⟩
      case measure => simp [intOf]; omega
    · obtain rfl : k = 64 := by omega
      obtain ⟨hb, cs, hr, h64, hcs⟩ := H.out
      have R1 := Lib.hid hr
      have MCs := Lib.hid (show MC cs (2 * n) from ⟨h64, hcs⟩)
      obtain ⟨ds, hs, hd⟩ := M.out.to hb GB.out
      have TH := Lib.hid (mx_there hs (n := cs.size) (by rw [h64, hd.1]; exact Nat.le_refl _))
      have PB := Lib.hid (mx_below (Below.refl g wr) cs.toList g 0 (Nat.le_refl _))
      have PB2 := Lib.hid ((hb.mono (Nat.le_of_lt GB.out)).trans PB.out)
      have PR := Lib.hid (show Mt (wr.setCells g 0 cs.toList) g (2 * n) from ⟨cs, mx_put hs (by rw [hd.1, h64]), h64, hcs⟩)
      clear H hb hr h64 hcs hs hd PB
      go_wp2_with (first | (refine wpList_load_row rfl _ _ rfl _ rfl _ _ (0, 0) _ R1.out Try.underlying41 rfl MCs.out.info ?_) | (refine wpList_store_mid rfl _ _ _ rfl _ 0 _ rfl rfl TH.out MCs.out.info MCs.out.one ?_))
      refine bodyPost_ret (results_none rfl _ _ _) rfl ?_
      exact ⟨rfl, PB2.out, PR.out⟩
end Go.Proofs.Ytbdabpijhacpdaa
