/- The examples of the document hold: 'awake' answers true. -/
import Derived.Test.YtlggemhgoipjmabGff
namespace Go.Proofs.Ytlggemhgoipjmab
open Go Go.RowKit

theorem mul_c (a b c : Nat) (ha : a < 256) (hb : b < 256) (h : Gf.mul a b = c) (w : World) :
    Calls Try.prog 12 #[.int .u8 (a : Int), .int .u8 (b : Int)] w fun e w' => e = .returned (.int .u8 (c : Int)) ∧ w = w' :=
  (mul_any a b ha hb w).mono fun _ _ ⟨h1, h2⟩ => ⟨by rw [h1, h], h2⟩
theorem mul_c1 (w : World) : Calls Try.prog 12 #[.int .u8 2, .int .u8 128] w fun e w' => e = .returned (.int .u8 29) ∧ w = w' := mul_c 2 128 29 (by decide) (by decide) (by decide) w
theorem mul_c2 (w : World) : Calls Try.prog 12 #[.int .u8 3, .int .u8 7] w fun e w' => e = .returned (.int .u8 9) ∧ w = w' := mul_c 3 7 9 (by decide) (by decide) (by decide) w
theorem inv_c (w : World) : Calls Try.prog 10 #[.int .u8 2] w fun e w' => e = .returned (.tuple #[.int .u8 142, .int .i64 0]) ∧ w = w' :=
  (inv_nz 2 (by decide) (by decide) w).mono fun _ _ ⟨h1, h2⟩ => ⟨by rw [h1, show Gf.inv 2 = 142 by decide +kernel]; rfl, h2⟩
theorem gpow_8 : Gf.gpow 2 (red 8) = 29 := by decide +kernel
theorem gpow_m : Gf.gpow 2 (red (-1)) = 142 := by decide +kernel
theorem exp_c1 (w : World) : Calls Try.prog 13 #[.int .i64 8] w fun e w' => e = .returned (.int .u8 29) ∧ w = w' :=
  (exp_any 8 w).mono fun _ _ ⟨h1, h2⟩ => ⟨by rw [h1, gpow_8]; rfl, h2⟩
theorem exp_c2 (w : World) : Calls Try.prog 13 #[.int .i64 (-1)] w fun e w' => e = .returned (.int .u8 142) ∧ w = w' :=
  (exp_any (-1) w).mono fun _ _ ⟨h1, h2⟩ => ⟨by rw [h1, gpow_m]; rfl, h2⟩
theorem log_142 (k : Nat) (hk : k < 255) (h : Gf.gpow 2 k = 142) : k = 254 :=
  Gf.log_inj k 254 hk (by decide) (by rw [h]; decide +kernel)
theorem log_c (w : World) : Calls Try.prog 11 #[.int .u8 142] w fun e w' => e = .returned (.tuple #[.int .i64 254, .int .i64 0]) ∧ w = w' :=
  (log_any 142 (by decide) w).mono fun _ _ h => by
    obtain ⟨k, hk, hg, he⟩ := h.1 (by decide)
    obtain rfl := log_142 k hk hg
    exact ⟨he, h.2.2⟩

theorem same_c (v1 v2 : Value) (d : List Nat) (w : World) (h1 : Bs w v1 d) (h2 : Bs w v2 d) :
    Calls Try.prog 7 #[v1, v2] w fun e w' => e = .returned (.bool true) ∧ w = w' :=
  (same_any v1 v2 d d w h1 h2).mono fun _ _ ⟨h, hw⟩ => ⟨by rw [h]; simp, hw⟩
theorem bs_new (w : World) (l : List Nat) (cs : Array Value) (t : TypeId) (n : Nat) (hn : l.length = n) (hm : n ≤ maxLen) (hb : ∀ x ∈ l, x < 256) (hc : ∀ k, k < n → cs[k]? = some (.int .u8 ((l.getD k 0 : Nat) : Int))) :
    Bs (w.alloc (.cells cs t)) (.slice (some ⟨w.heap.size, 0, none⟩) n n) l := Bs.of_row (w := w.alloc (.cells cs t)) (heap_alloc_new w _) hn hm hb hc
theorem two_at (x y : Nat) (k : Nat) (hk : k < 2) : (#[Value.int .u8 (x : Int), .int .u8 (y : Int)] : Array Value)[k]? = some (.int .u8 (([x, y].getD k 0 : Nat) : Int)) := by
  match k, hk with
  | 0, _ => rfl
  | 1, _ => rfl
theorem bs_two (w : World) (x y : Nat) (hx : x < 256) (hy : y < 256) (t : TypeId) : Bs (w.alloc (.cells #[.int .u8 (x : Int), .int .u8 (y : Int)] t)) (.slice (some ⟨w.heap.size, 0, none⟩) 2 2) [x, y] :=
  bs_new w [x, y] _ t 2 rfl (by decide) (by intro z hz; simp at hz; omega) (two_at x y)
theorem fused_ex : fused [1, 2] [3, 4] 2 = [7, 10] := by decide

def awakePost (w : World) (e : Ending) (w' : World) : Prop := e = .returned (.bool true) ∧ Below w.heap.size w w'
def fusedC (w : World) (e : Ending) (w' : World) : Prop := ∃ v, e = .returned (.tuple #[v, .int .i64 0]) ∧ Bs w' v [7, 10] ∧ Below w.heap.size w w'
theorem fused_c (w : World) : Calls Try.prog 6 #[.slice (some ⟨w.heap.size, 0, none⟩) 2 2, .slice (some ⟨w.heap.size + 1, 0, none⟩) 2 2, .int .u8 2]
    ((w.alloc (.cells #[.int .u8 1, .int .u8 2] 5)).alloc (.cells #[.int .u8 3, .int .u8 4] 5)) (fusedC w) := by
  have h1 := (bs_two w 1 2 (by decide) (by decide) 5).alloc (.cells #[.int .u8 3, .int .u8 4] 5)
  have h2 := bs_two (w.alloc (.cells #[.int .u8 1, .int .u8 2] 5)) 3 4 (by decide) (by decide) 5
  have hs : (w.alloc (.cells #[.int .u8 1, .int .u8 2] 5)).heap.size = w.heap.size + 1 := by simp
  rw [hs] at h2
  refine (fused_any _ _ [1, 2] [3, 4] 2 _ h1 h2 rfl (by decide) (by decide)).mono ?_
  rintro e w' ⟨v, he, hv, hb⟩
  rw [fused_ex] at hv
  exact ⟨v, he, hv, (((Below.refl _ _).alloc (Nat.le_refl _) _).alloc (by simp) _).trans (hb.mono (by simp; omega))⟩
theorem same_ex (w : World) (v : Value) (h : Bs w v [7, 10]) : Calls Try.prog 7 #[v, .slice (some ⟨w.heap.size, 0, none⟩) 2 2] (w.alloc (.cells #[.int .u8 7, .int .u8 10] 5))
    fun e w' => e = .returned (.bool true) ∧ w.alloc (.cells #[.int .u8 7, .int .u8 10] 5) = w' := same_c _ _ [7, 10] _ (h.alloc _) (bs_two w 7 10 (by decide) (by decide) _)
set_option maxHeartbeats 400000 in
set_option maxRecDepth 100000 in
theorem awake_any (w : World) : Calls Try.prog 5 #[] w (awakePost w) := by
  go_enter Try.func5, Try.ntmps5
  go_wp2_with (first | (go_at_call 10; refine (inv_c _).mono ?_; rintro e w' ⟨rfl, rfl⟩) | (go_at_call 11; refine (log_c _).mono ?_; rintro e w' ⟨rfl, rfl⟩))
  refine (fused_c w).mono ?_
  rintro e w1 ⟨v, rfl, hv, hb⟩
  have HV := Lib.hid hv
  have HB := Lib.hid hb
  clear hv hb
  go_wp2_with (first | (go_at_call 13; ((with_reducible (first | refine (exp_c1 _).mono ?_ | refine (exp_c2 _).mono ?_)); rintro e w' ⟨rfl, rfl⟩)) | (go_at_call 12; ((with_reducible (first | refine (mul_c1 _).mono ?_ | refine (mul_c2 _).mono ?_)); rintro e w' ⟨rfl, rfl⟩)) | (go_at_call 7; ((with_reducible refine (same_ex _ _ HV.out).mono ?_); rintro e w' ⟨rfl, rfl⟩)))
  go_ret
  exact ⟨rfl, HB.out.alloc HB.out.size _⟩
end Go.Proofs.Ytlggemhgoipjmab
