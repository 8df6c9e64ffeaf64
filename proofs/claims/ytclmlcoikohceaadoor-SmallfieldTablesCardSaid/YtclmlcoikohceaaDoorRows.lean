/-
  NARROWER THAN 'FOR EVERY INPUT', by the rows' own cells (each row's printed sentence says how): SmallfieldSizes: laid · SmallfieldTables: laid · SmallfieldNil: laid · SmallfieldAxioms: laid · SmallfieldInverses: laid · SmallfieldPrime: laid · SmallfieldCyclic: laid.
  DERIVED. THE GIVEN ROWS OF THIS SEAT. 7 by the template 'for every input the law returns true; each argument reads behind the call as it read before'; 0 by the template 'total and deterministic' (their statements: YtclmlcoikohceaaDoorTotals.lean).
  GIVEN WITH THE SEED: the statements are not yours to turn. If you find one false, say at which input.
  Laid BY PROGRAM, IN A SANDBOX (cutbox-rows.mjs): the forced cells as the released guide's own fill.sh prints them over the translation e8756568ff90074c… (all of the seat's roots in one cut). By AI agents, Wed Nov 11 2026. No macro, syntax, notation, axiom, sorry.
-/
import Derived.Test.YtclmlcoikohceaaDoorChecked
import GoSem.Claim
import GoSem.ClaimJoined
import GoSem.ClaimMapViews
import Derived.JoinedTies
import Derived.KernelRfl
namespace Go.Proofs.YtclmlcoikohceaaDoor
/- THE CELL 'sum', in the pinned program and in every row, IS THE sha256 OF THE DUMP (.gsa) THAT YtclmlcoikohceaaDoorProg.lean LOADS. Nothing in Lean hashes anything: it is a label: what it is worth is what the hold of that sum in a sandbox is worth. -/
noncomputable def Tryd.pinned : Pinned := { name := "ytclmlcoikohceaadoor", sum := "e8756568ff90074c0381228722d31a85f2967401f45f22f1a46a2b356bd0aa5d", checked := Tryd.checked }
namespace Rows
def none {H : Type} : Left H := { results := [], args := [] }

/- WHAT THE LISTED PACKAGE-LEVEL VARIABLES READ AS WHEN THE CALL BEGINS. Each datum BY PROGRAM (the guide's laid-datum.mjs) off the statement by which the dump's own 'gosem.cut.vars' lays the variable. In a bare row this is a premise. The card (YtclmlcoikohceaaDoorCards.lean) ties it to the program's text. -/
def laid_tegula_smallfield_kinds {H : Type} : DataW H := .agg [.agg [.lit (.int .i64 2), .lit (.int .i64 2), .lit (.int .i64 0)], .agg [.lit (.int .i64 3), .lit (.int .i64 3), .lit (.int .i64 0)], .agg [.lit (.int .i64 4), .lit (.int .i64 2), .lit (.int .i64 3)], .agg [.lit (.int .i64 5), .lit (.int .i64 5), .lit (.int .i64 0)], .agg [.lit (.int .i64 7), .lit (.int .i64 7), .lit (.int .i64 0)], .agg [.lit (.int .i64 8), .lit (.int .i64 2), .lit (.int .i64 3)], .agg [.lit (.int .i64 9), .lit (.int .i64 3), .lit (.int .i64 2)]]

/-- 'tegulalaw05.SmallfieldSizes': WHATEVER THE INPUT: true; the input reads as it did. -/
def smallfieldSizesSpec : ChangeSpec := { name := "smallfieldSizes", fn := fun _ => fun
  | [d] => { results := [.lit (.bool true)], args := [d] }
  | _ => none }
def smallfieldSizesRow : OpenClaim := { program := "ytclmlcoikohceaadoor", sum := "e8756568ff90074c0381228722d31a85f2967401f45f22f1a46a2b356bd0aa5d", func := "tegula/tegulalaw05.SmallfieldSizes", spec := "smallfieldSizes", unfollowed := true, recurses := true, named := ["tegula/smallfield.kinds"], apart := false, laid := [("tegula/smallfield.kinds", laid_tegula_smallfield_kinds)] }
def SmallfieldSizesSaid : Prop := smallfieldSizesRow.holds Tryd.pinned (OpenSpec.ofChange smallfieldSizesSpec)

/-- ITS FALSE NEIGHBOUR: 'it returns false'. Refute it at one input. -/
def smallfieldSizesWrong : ChangeSpec := { name := "smallfieldSizes", fn := fun _ => fun
  | [d] => { results := [.lit (.bool false)], args := [d] }
  | _ => none }
def SmallfieldSizesWrongFalsely : Prop := smallfieldSizesRow.holds Tryd.pinned (OpenSpec.ofChange smallfieldSizesWrong)

/-- 'tegulalaw05.SmallfieldTables': WHATEVER THE INPUT: true; the input reads as it did. -/
def smallfieldTablesSpec : ChangeSpec := { name := "smallfieldTables", fn := fun _ => fun
  | [d1, d2, d3] => { results := [.lit (.bool true)], args := [d1, d2, d3] }
  | _ => none }
def smallfieldTablesRow : OpenClaim := { program := "ytclmlcoikohceaadoor", sum := "e8756568ff90074c0381228722d31a85f2967401f45f22f1a46a2b356bd0aa5d", func := "tegula/tegulalaw05.SmallfieldTables", spec := "smallfieldTables", unfollowed := true, recurses := true, named := ["tegula/smallfield.kinds"], apart := false, laid := [("tegula/smallfield.kinds", laid_tegula_smallfield_kinds)] }
def SmallfieldTablesSaid : Prop := smallfieldTablesRow.holds Tryd.pinned (OpenSpec.ofChange smallfieldTablesSpec)

/-- ITS FALSE NEIGHBOUR: 'it returns false'. Refute it at one input. -/
def smallfieldTablesWrong : ChangeSpec := { name := "smallfieldTables", fn := fun _ => fun
  | [d1, d2, d3] => { results := [.lit (.bool false)], args := [d1, d2, d3] }
  | _ => none }
def SmallfieldTablesWrongFalsely : Prop := smallfieldTablesRow.holds Tryd.pinned (OpenSpec.ofChange smallfieldTablesWrong)

/-- 'tegulalaw05.SmallfieldNil': WHATEVER THE INPUT: true; the input reads as it did. -/
def smallfieldNilSpec : ChangeSpec := { name := "smallfieldNil", fn := fun _ => fun
  | [d1, d2] => { results := [.lit (.bool true)], args := [d1, d2] }
  | _ => none }
def smallfieldNilRow : OpenClaim := { program := "ytclmlcoikohceaadoor", sum := "e8756568ff90074c0381228722d31a85f2967401f45f22f1a46a2b356bd0aa5d", func := "tegula/tegulalaw05.SmallfieldNil", spec := "smallfieldNil", unfollowed := true, recurses := true, named := ["tegula/smallfield.kinds"], apart := false, laid := [("tegula/smallfield.kinds", laid_tegula_smallfield_kinds)] }
def SmallfieldNilSaid : Prop := smallfieldNilRow.holds Tryd.pinned (OpenSpec.ofChange smallfieldNilSpec)

/-- ITS FALSE NEIGHBOUR: 'it returns false'. Refute it at one input. -/
def smallfieldNilWrong : ChangeSpec := { name := "smallfieldNil", fn := fun _ => fun
  | [d1, d2] => { results := [.lit (.bool false)], args := [d1, d2] }
  | _ => none }
def SmallfieldNilWrongFalsely : Prop := smallfieldNilRow.holds Tryd.pinned (OpenSpec.ofChange smallfieldNilWrong)

/-- 'tegulalaw05.SmallfieldAxioms': WHATEVER THE INPUT: true; the input reads as it did. -/
def smallfieldAxiomsSpec : ChangeSpec := { name := "smallfieldAxioms", fn := fun _ => fun
  | [d1, d2] => { results := [.lit (.bool true)], args := [d1, d2] }
  | _ => none }
def smallfieldAxiomsRow : OpenClaim := { program := "ytclmlcoikohceaadoor", sum := "e8756568ff90074c0381228722d31a85f2967401f45f22f1a46a2b356bd0aa5d", func := "tegula/tegulalaw05.SmallfieldAxioms", spec := "smallfieldAxioms", unfollowed := true, recurses := true, named := ["tegula/smallfield.kinds"], apart := false, laid := [("tegula/smallfield.kinds", laid_tegula_smallfield_kinds)] }
def SmallfieldAxiomsSaid : Prop := smallfieldAxiomsRow.holds Tryd.pinned (OpenSpec.ofChange smallfieldAxiomsSpec)

/-- ITS FALSE NEIGHBOUR: 'it returns false'. Refute it at one input. -/
def smallfieldAxiomsWrong : ChangeSpec := { name := "smallfieldAxioms", fn := fun _ => fun
  | [d1, d2] => { results := [.lit (.bool false)], args := [d1, d2] }
  | _ => none }
def SmallfieldAxiomsWrongFalsely : Prop := smallfieldAxiomsRow.holds Tryd.pinned (OpenSpec.ofChange smallfieldAxiomsWrong)

/-- 'tegulalaw05.SmallfieldInverses': WHATEVER THE INPUT: true; the input reads as it did. -/
def smallfieldInversesSpec : ChangeSpec := { name := "smallfieldInverses", fn := fun _ => fun
  | [d1, d2] => { results := [.lit (.bool true)], args := [d1, d2] }
  | _ => none }
def smallfieldInversesRow : OpenClaim := { program := "ytclmlcoikohceaadoor", sum := "e8756568ff90074c0381228722d31a85f2967401f45f22f1a46a2b356bd0aa5d", func := "tegula/tegulalaw05.SmallfieldInverses", spec := "smallfieldInverses", unfollowed := true, recurses := true, named := ["tegula/smallfield.kinds"], apart := false, laid := [("tegula/smallfield.kinds", laid_tegula_smallfield_kinds)] }
def SmallfieldInversesSaid : Prop := smallfieldInversesRow.holds Tryd.pinned (OpenSpec.ofChange smallfieldInversesSpec)

/-- ITS FALSE NEIGHBOUR: 'it returns false'. Refute it at one input. -/
def smallfieldInversesWrong : ChangeSpec := { name := "smallfieldInverses", fn := fun _ => fun
  | [d1, d2] => { results := [.lit (.bool false)], args := [d1, d2] }
  | _ => none }
def SmallfieldInversesWrongFalsely : Prop := smallfieldInversesRow.holds Tryd.pinned (OpenSpec.ofChange smallfieldInversesWrong)

/-- 'tegulalaw05.SmallfieldPrime': WHATEVER THE INPUT: true; the input reads as it did. -/
def smallfieldPrimeSpec : ChangeSpec := { name := "smallfieldPrime", fn := fun _ => fun
  | [d1, d2] => { results := [.lit (.bool true)], args := [d1, d2] }
  | _ => none }
def smallfieldPrimeRow : OpenClaim := { program := "ytclmlcoikohceaadoor", sum := "e8756568ff90074c0381228722d31a85f2967401f45f22f1a46a2b356bd0aa5d", func := "tegula/tegulalaw05.SmallfieldPrime", spec := "smallfieldPrime", unfollowed := true, recurses := true, named := ["tegula/smallfield.kinds"], apart := false, laid := [("tegula/smallfield.kinds", laid_tegula_smallfield_kinds)] }
def SmallfieldPrimeSaid : Prop := smallfieldPrimeRow.holds Tryd.pinned (OpenSpec.ofChange smallfieldPrimeSpec)

/-- ITS FALSE NEIGHBOUR: 'it returns false'. Refute it at one input. -/
def smallfieldPrimeWrong : ChangeSpec := { name := "smallfieldPrime", fn := fun _ => fun
  | [d1, d2] => { results := [.lit (.bool false)], args := [d1, d2] }
  | _ => none }
def SmallfieldPrimeWrongFalsely : Prop := smallfieldPrimeRow.holds Tryd.pinned (OpenSpec.ofChange smallfieldPrimeWrong)

/-- 'tegulalaw05.SmallfieldCyclic': WHATEVER THE INPUT: true; the input reads as it did. -/
def smallfieldCyclicSpec : ChangeSpec := { name := "smallfieldCyclic", fn := fun _ => fun
  | [d] => { results := [.lit (.bool true)], args := [d] }
  | _ => none }
def smallfieldCyclicRow : OpenClaim := { program := "ytclmlcoikohceaadoor", sum := "e8756568ff90074c0381228722d31a85f2967401f45f22f1a46a2b356bd0aa5d", func := "tegula/tegulalaw05.SmallfieldCyclic", spec := "smallfieldCyclic", unfollowed := true, recurses := true, named := ["tegula/smallfield.kinds"], apart := false, laid := [("tegula/smallfield.kinds", laid_tegula_smallfield_kinds)] }
def SmallfieldCyclicSaid : Prop := smallfieldCyclicRow.holds Tryd.pinned (OpenSpec.ofChange smallfieldCyclicSpec)

/-- ITS FALSE NEIGHBOUR: 'it returns false'. Refute it at one input. -/
def smallfieldCyclicWrong : ChangeSpec := { name := "smallfieldCyclic", fn := fun _ => fun
  | [d] => { results := [.lit (.bool false)], args := [d] }
  | _ => none }
def SmallfieldCyclicWrongFalsely : Prop := smallfieldCyclicRow.holds Tryd.pinned (OpenSpec.ofChange smallfieldCyclicWrong)

/- THE SECOND FORM. 'bulk': how many values and letters a reading holds, each counted each time it is reached (what is shared counts as often as it is met; a slice's spare places count too). A statement '..UptoSaid' is the law's where the arguments, and the package variables that the reading takes, are together of bulk at most 1048576: NARROWER than '..Said'. Prove '..Said' where nothing that the law and all that it calls make is longer than what came in: it says more and counts as full. Else prove '..UptoSaid'. A law counts once. -/
mutual
def uptoBulk {H : Type} : DataW H → Nat
  | .lit (.string bytes) => bytes.length + 1
  | .lit _ => 1
  | .nil => 1
  | .ptr d => uptoBulk d + 1
  | .slice elems spare => uptoBulkAll elems + uptoBulkAll spare + 1
  | .agg parts => uptoBulkAll parts + 1
  | .iface _ d => uptoBulk d + 1
  | .map entries => uptoBulkEntries entries + 1
  | .held _ => 1
def uptoBulkAll {H : Type} : List (DataW H) → Nat
  | [] => 0
  | d :: r => uptoBulk d + uptoBulkAll r
def uptoBulkEntries {H : Type} : List (Lit × DataW H) → Nat
  | [] => 0
  | x :: r => uptoBulkEntry x + uptoBulkEntries r
def uptoBulkEntry {H : Type} : Lit × DataW H → Nat
  | (.string bytes, d) => bytes.length + uptoBulk d + 1
  | (_, d) => uptoBulk d + 1
 end
def uptoSmall : (H : Type) → List (DataW H) → Bool := fun _ ds => decide (uptoBulkAll ds ≤ 1048576)
def OpenSpec.upto (s : _root_.Go.ChangeSpec) : _root_.Go.OpenSpec := { _root_.Go.OpenSpec.ofChange s with cond := some uptoSmall }

/-- 'tegulalaw05.SmallfieldSizes', WHERE WHAT IT READS IS OF BULK AT MOST 1048576: true; the input reads as it did. -/
def smallfieldSizesUptoRow : OpenClaim := { program := "ytclmlcoikohceaadoor", sum := "e8756568ff90074c0381228722d31a85f2967401f45f22f1a46a2b356bd0aa5d", func := "tegula/tegulalaw05.SmallfieldSizes", spec := "smallfieldSizes", unfollowed := true, recurses := true, named := ["tegula/smallfield.kinds"], apart := false, laid := [("tegula/smallfield.kinds", laid_tegula_smallfield_kinds)], narrowed := true }
def SmallfieldSizesUptoSaid : Prop := smallfieldSizesUptoRow.holds Tryd.pinned (OpenSpec.upto smallfieldSizesSpec)

/-- 'tegulalaw05.SmallfieldTables', WHERE WHAT IT READS IS OF BULK AT MOST 1048576: true; the input reads as it did. -/
def smallfieldTablesUptoRow : OpenClaim := { program := "ytclmlcoikohceaadoor", sum := "e8756568ff90074c0381228722d31a85f2967401f45f22f1a46a2b356bd0aa5d", func := "tegula/tegulalaw05.SmallfieldTables", spec := "smallfieldTables", unfollowed := true, recurses := true, named := ["tegula/smallfield.kinds"], apart := false, laid := [("tegula/smallfield.kinds", laid_tegula_smallfield_kinds)], narrowed := true }
def SmallfieldTablesUptoSaid : Prop := smallfieldTablesUptoRow.holds Tryd.pinned (OpenSpec.upto smallfieldTablesSpec)

/-- 'tegulalaw05.SmallfieldNil', WHERE WHAT IT READS IS OF BULK AT MOST 1048576: true; the input reads as it did. -/
def smallfieldNilUptoRow : OpenClaim := { program := "ytclmlcoikohceaadoor", sum := "e8756568ff90074c0381228722d31a85f2967401f45f22f1a46a2b356bd0aa5d", func := "tegula/tegulalaw05.SmallfieldNil", spec := "smallfieldNil", unfollowed := true, recurses := true, named := ["tegula/smallfield.kinds"], apart := false, laid := [("tegula/smallfield.kinds", laid_tegula_smallfield_kinds)], narrowed := true }
def SmallfieldNilUptoSaid : Prop := smallfieldNilUptoRow.holds Tryd.pinned (OpenSpec.upto smallfieldNilSpec)

/-- 'tegulalaw05.SmallfieldAxioms', WHERE WHAT IT READS IS OF BULK AT MOST 1048576: true; the input reads as it did. -/
def smallfieldAxiomsUptoRow : OpenClaim := { program := "ytclmlcoikohceaadoor", sum := "e8756568ff90074c0381228722d31a85f2967401f45f22f1a46a2b356bd0aa5d", func := "tegula/tegulalaw05.SmallfieldAxioms", spec := "smallfieldAxioms", unfollowed := true, recurses := true, named := ["tegula/smallfield.kinds"], apart := false, laid := [("tegula/smallfield.kinds", laid_tegula_smallfield_kinds)], narrowed := true }
def SmallfieldAxiomsUptoSaid : Prop := smallfieldAxiomsUptoRow.holds Tryd.pinned (OpenSpec.upto smallfieldAxiomsSpec)

/-- 'tegulalaw05.SmallfieldInverses', WHERE WHAT IT READS IS OF BULK AT MOST 1048576: true; the input reads as it did. -/
def smallfieldInversesUptoRow : OpenClaim := { program := "ytclmlcoikohceaadoor", sum := "e8756568ff90074c0381228722d31a85f2967401f45f22f1a46a2b356bd0aa5d", func := "tegula/tegulalaw05.SmallfieldInverses", spec := "smallfieldInverses", unfollowed := true, recurses := true, named := ["tegula/smallfield.kinds"], apart := false, laid := [("tegula/smallfield.kinds", laid_tegula_smallfield_kinds)], narrowed := true }
def SmallfieldInversesUptoSaid : Prop := smallfieldInversesUptoRow.holds Tryd.pinned (OpenSpec.upto smallfieldInversesSpec)

/-- 'tegulalaw05.SmallfieldPrime', WHERE WHAT IT READS IS OF BULK AT MOST 1048576: true; the input reads as it did. -/
def smallfieldPrimeUptoRow : OpenClaim := { program := "ytclmlcoikohceaadoor", sum := "e8756568ff90074c0381228722d31a85f2967401f45f22f1a46a2b356bd0aa5d", func := "tegula/tegulalaw05.SmallfieldPrime", spec := "smallfieldPrime", unfollowed := true, recurses := true, named := ["tegula/smallfield.kinds"], apart := false, laid := [("tegula/smallfield.kinds", laid_tegula_smallfield_kinds)], narrowed := true }
def SmallfieldPrimeUptoSaid : Prop := smallfieldPrimeUptoRow.holds Tryd.pinned (OpenSpec.upto smallfieldPrimeSpec)

/-- 'tegulalaw05.SmallfieldCyclic', WHERE WHAT IT READS IS OF BULK AT MOST 1048576: true; the input reads as it did. -/
def smallfieldCyclicUptoRow : OpenClaim := { program := "ytclmlcoikohceaadoor", sum := "e8756568ff90074c0381228722d31a85f2967401f45f22f1a46a2b356bd0aa5d", func := "tegula/tegulalaw05.SmallfieldCyclic", spec := "smallfieldCyclic", unfollowed := true, recurses := true, named := ["tegula/smallfield.kinds"], apart := false, laid := [("tegula/smallfield.kinds", laid_tegula_smallfield_kinds)], narrowed := true }
def SmallfieldCyclicUptoSaid : Prop := smallfieldCyclicUptoRow.holds Tryd.pinned (OpenSpec.upto smallfieldCyclicSpec)

end Rows
end Go.Proofs.YtclmlcoikohceaaDoor
