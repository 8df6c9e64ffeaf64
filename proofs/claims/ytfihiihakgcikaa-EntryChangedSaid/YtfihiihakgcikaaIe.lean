/- Readers: what a call changes; the reference's reader; fail, Left, Done. -/
import Derived.Test.YtfihiihakgcikaaId
import Derived.Test.YtfihiihakgcikaaChg
namespace Go.Proofs.Ytfihiihakgcikaa
open Go Go.RowKit
set_option linter.unusedVariables false
set_option linter.unusedSimpArgs false
theorem nil_own (g : Nat) {P : Prop} (h : (Value.slice none 0 0).ownBlock = some g) : P := by cases h
namespace Cod
/-- What a method's call returns: the value, the error, what is left, whether there was an error. -/
def rU (l : List Nat) (bad : Bool) : Nat × Nat × List Nat × Bool := match dec 0 l with
  | some (n, r) => (n, 0, r, bad)
  | none => (0, 5, [], true)
def rI (l : List Nat) (bad : Bool) : Int × Nat × List Nat × Bool := match dec 0 l with
  | some (n, r) => (zag n, 0, r, bad)
  | none => (0, 5, [], true)
def rC (most : Int) (l : List Nat) (bad : Bool) : Nat × Nat × List Nat × Bool := match dec 0 l with
  | some (n, r) => if most < n then (0, 5, [], true) else (n, 0, r, bad)
  | none => (0, 5, [], true)
def rB (l : List Nat) (bad : Bool) : List Nat × Nat × List Nat × Bool := match dec 0 l with
  | some (n, r) => if r.length < n then ([], 5, [], true) else (r.take n, 0, r.drop n, bad)
  | none => ([], 5, [], true)
def rK (l : List Nat) (bad : Bool) : List Nat × Nat × List Nat × Bool := if l.length < 8 then ([0, 0, 0, 0, 0, 0, 0, 0], 5, [], true) else (l.take 8, 0, l.drop 8, bad)
def rD (l : List Nat) (bad : Bool) : Nat := if bad = true ∨ 0 < l.length then 5 else 0
end Cod
end Go.Proofs.Ytfihiihakgcikaa
