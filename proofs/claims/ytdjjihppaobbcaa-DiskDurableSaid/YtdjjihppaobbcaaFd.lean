/- Layer 13: contracts of the reference: Number. WRITTEN BY gen_Fd.py. -/
import Derived.Test.YtdjjihppaobbcaaFc
import Derived.Test.YtdjjihppaobbcaaRu
namespace Go.Proofs.Ytdjjihppaobbcaa
open Go Go.RowKit Flt
set_option linter.unusedVariables false
set_option linter.unusedSimpArgs false
/-- A value is returned; what stood stands. -/
def mPost (v : Value) (w : World) (e : Ending) (w' : World) : Prop := e = .returned v ∧ Below w.heap.size w w'
theorem bs_byte (w : World) (t : TypeId) (x : Nat) (hx : x < 256) : Bs (w.alloc (.cells #[.int .u8 (x : Int)] t)) (.slice (some ⟨w.heap.size, 0, none⟩) 1 1) [x] := by
  refine Bs.of_row (n := 1) (c := 1) (heap_alloc_new w _) rfl ⟨by decide, by decide⟩ (fun y hy => by simp at hy; omega) fun k hk => ?_
  obtain rfl : k = 0 := by omega
  rfl
theorem cvs {w : World} (A : Option Addr) (n c : Nat) (l : List Nat) (h : Bs w (.slice A n c) l) : (convert 60 9 (.slice A n c)).run Try.prog w = .ok (.string (strOf l)) w :=
  conv_bs (P := Try.prog) 60 5 9 Try.underlying60 Try.underlying5 Try.underlying9 h
end Go.Proofs.Ytdjjihppaobbcaa
