/- Layer 13: contracts of the reference: begins, word, number. -/
import Derived.Test.YtdjjihppaobbcaaFb
import Derived.Test.YtdjjihppaobbcaaProg
namespace Go.Proofs.Ytdjjihppaobbcaa
open Go Go.RowKit Flt
set_option linter.unusedVariables false
set_option linter.unusedSimpArgs false
/-- A value is returned, and nothing changes. -/
def kPost (v : Value) (w : World) (e : Ending) (w' : World) : Prop := e = .returned v ∧ w = w'
theorem word_str {l : List Nat} {a : ByteArray} (h : a.data.toList = l.map UInt8.ofNat) : strOf l = a := str_eq ((strOf_dat _).trans h.symm)
/-- A number and a text are returned, and nothing changes. -/
def nuPost (n : Int) (s : List Nat) (w : World) (e : Ending) (w' : World) : Prop := e = .returned (.tuple #[.int .i64 n, .string (strOf s)]) ∧ w = w'
theorem results_two {fn : Func} {t u : Tmp} (h : fn.results = #[.tmp t, .tmp u]) (tmps : Array Value) (P : Program) (w : World) :
    (results fn tmps).run P w = .ok (.tuple #[tmps.getD t undef, tmps.getD u undef]) w := by
  simp [results, h]
end Go.Proofs.Ytdjjihppaobbcaa
