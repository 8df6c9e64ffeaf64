/- Layer 8: the examples of the document hold; the walks of the laws on sums. -/
import Derived.Test.YtbdabpijhacpdaaHp
import Derived.Lib.SlBytesConst
namespace Go.Proofs.Ytbdabpijhacpdaa
open Go Go.RowKit
set_option linter.unusedVariables false
set_option linter.unusedSimpArgs false
theorem nine_at (k : Nat) (hk : k < 9) : (#[Value.int .u8 49, .int .u8 50, .int .u8 51, .int .u8 52, .int .u8 53, .int .u8 54, .int .u8 55, .int .u8 56, .int .u8 57] : Array Value)[k]? = some (.int .u8 (([49, 50, 51, 52, 53, 54, 55, 56, 57].getD k 0 : Nat) : Int)) := by
  match k, hk with
  | 0, _ => rfl
  | 1, _ => rfl
  | 2, _ => rfl
  | 3, _ => rfl
  | 4, _ => rfl
  | 5, _ => rfl
  | 6, _ => rfl
  | 7, _ => rfl
  | 8, _ => rfl
theorem bs_nine (w : World) (t : TypeId) (fr : Nat × Nat) : Bs (w.alloc (.cells #[.int .u8 49, .int .u8 50, .int .u8 51, .int .u8 52, .int .u8 53, .int .u8 54, .int .u8 55, .int .u8 56, .int .u8 57] t fr)) (.slice (some ⟨w.heap.size, 0, none⟩) 9 9) [49, 50, 51, 52, 53, 54, 55, 56, 57] :=
  ⟨_, 9, rfl, ⟨by decide, by decide⟩, by decide, fun h => (by cases h), fun _ => ⟨w.heap.size, 0, rfl, fun k hk => by rw [Nat.zero_add, cell_of_row _ _ _ _ _ _ (heap_alloc_new w _)]; exact nine_at k hk⟩⟩
theorem sum_nine (w : World) (t : TypeId) (fr : Nat × Nat) : Calls Try.prog 12 #[.slice (some ⟨w.heap.size, 0, none⟩) 9 9] (w.alloc (.cells #[.int .u8 49, .int .u8 50, .int .u8 51, .int .u8 52, .int .u8 53, .int .u8 54, .int .u8 55, .int .u8 56, .int .u8 57] t fr)) (u64Post 11051210869376104954 w) :=
  (pcrcsum_any _ _ _ (bs_nine w t fr)).mono fun _ _ ⟨h1, h2⟩ => ⟨by rw [h1, Crc.ex1], (((Below.refl w.heap.size w).alloc (Nat.le_refl _) _)).trans (h2.mono (by simp))⟩
theorem sum_nil (w : World) : Calls Try.prog 12 #[.slice none 0 0] w (u64Post 0 w) :=
  (pcrcsum_any _ [] _ (Bs.nil_ w)).mono fun _ _ ⟨h1, h2⟩ => ⟨by rw [h1, Crc.ex2], h2⟩
theorem comb_five (w : World) : Calls Try.prog 17 #[.int .u64 5, .int .u64 0, .int .i64 0] w (u64Post 5 w) :=
  (pcomb_any 5 0 0 w (by decide) (by decide) (by decide) (by decide)).mono fun _ _ ⟨h1, h2⟩ => ⟨h1, h2⟩
def awakePost (w : World) (e : Ending) (w' : World) : Prop := e = .returned (.bool true) ∧ Below w.heap.size w w'
set_option maxHeartbeats 1000000 in
set_option maxRecDepth 100000 in
theorem awake_any (w : World) : Calls Try.prog 11 #[] w (awakePost w) := by
  have kc := fun (w : World) (C : Array Value) (n c : Nat) => Lib.run_convert_bytes_const (P := Try.prog) w 22 5 C n c Try.underlying22 Try.underlying5
  go_enter Try.func11, Try.ntmps11
  go_wp2_with fail
  refine (sum_nine w _ _).mono ?_
  rintro e w1 ⟨rfl, hb⟩
  have B1 := Lib.hid hb
  clear hb kc
  go_wp2_with fail
  refine (sum_nil _).mono ?_
  rintro e w2 ⟨rfl, hb⟩
  have B2 := Lib.hid (B1.out.trans (hb.mono B1.out.size))
  clear hb
  go_wp2_with fail
  refine (comb_five _).mono ?_
  rintro e w3 ⟨rfl, hb⟩
  have B3 := Lib.hid (B2.out.trans (hb.mono B2.out.size))
  clear hb
  go_wp2_with fail
  go_ret
  exact ⟨rfl, B3.out⟩
end Go.Proofs.Ytbdabpijhacpdaa
