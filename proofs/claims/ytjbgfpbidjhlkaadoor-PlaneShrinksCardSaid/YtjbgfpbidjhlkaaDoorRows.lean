/-
  NARROWER THAN 'FOR EVERY INPUT', by the rows' own cells (each row's printed sentence says how): PlaneProjective: laid · PlaneAffine: laid · PlaneErrors: laid · PlaneMeet: laid · PlaneJoin: laid · PlaneDual: laid · PlaneParallel: laid · PlaneShrinks: laid.
  DERIVED. THE GIVEN ROWS OF THIS SEAT. 8 by the template 'for every input the law returns true; each argument reads behind the call as it read before'; 0 by the template 'total and deterministic' (their statements: YtjbgfpbidjhlkaaDoorTotals.lean).
  GIVEN WITH THE SEED: the statements are not yours to turn. If you find one false, say at which input.
  Laid BY PROGRAM, IN A SANDBOX (cutbox-rows.mjs): the forced cells as the released guide's own fill.sh prints them over the translation c7a5b526a87c1064… (all of the seat's roots in one cut). By AI agents, Wed Nov 11 2026. No macro, syntax, notation, axiom, sorry.
-/
import Derived.Test.YtjbgfpbidjhlkaaDoorChecked
import GoSem.Claim
import GoSem.ClaimJoined
import GoSem.ClaimMapViews
import Derived.JoinedTies
import Derived.KernelRfl
namespace Go.Proofs.YtjbgfpbidjhlkaaDoor
/- THE CELL 'sum', in the pinned program and in every row, IS THE sha256 OF THE DUMP (.gsa) THAT YtjbgfpbidjhlkaaDoorProg.lean LOADS. Nothing in Lean hashes anything: it is a label: what it is worth is what the hold of that sum in a sandbox is worth. -/
noncomputable def Tryd.pinned : Pinned := { name := "ytjbgfpbidjhlkaadoor", sum := "c7a5b526a87c1064573064061cb72ed7d1b5d4293da7878502469bda5b1f415e", checked := Tryd.checked }
namespace Rows
def none {H : Type} : Left H := { results := [], args := [] }

/- WHAT THE LISTED PACKAGE-LEVEL VARIABLES READ AS WHEN THE CALL BEGINS. Each datum BY PROGRAM (the guide's laid-datum.mjs) off the statement by which the dump's own 'gosem.cut.vars' lays the variable. In a bare row this is a premise. The card (YtjbgfpbidjhlkaaDoorCards.lean) ties it to the program's text. -/
def laid_tegula_smallfield_kinds {H : Type} : DataW H := .agg [.agg [.lit (.int .i64 2), .lit (.int .i64 2), .lit (.int .i64 0)], .agg [.lit (.int .i64 3), .lit (.int .i64 3), .lit (.int .i64 0)], .agg [.lit (.int .i64 4), .lit (.int .i64 2), .lit (.int .i64 3)], .agg [.lit (.int .i64 5), .lit (.int .i64 5), .lit (.int .i64 0)], .agg [.lit (.int .i64 7), .lit (.int .i64 7), .lit (.int .i64 0)], .agg [.lit (.int .i64 8), .lit (.int .i64 2), .lit (.int .i64 3)], .agg [.lit (.int .i64 9), .lit (.int .i64 3), .lit (.int .i64 2)]]

/-- 'tegulalaw06.PlaneProjective': WHATEVER THE INPUT: true; the input reads as it did. -/
def planeProjectiveSpec : ChangeSpec := { name := "planeProjective", fn := fun _ => fun
  | [d] => { results := [.lit (.bool true)], args := [d] }
  | _ => none }
def planeProjectiveRow : OpenClaim := { program := "ytjbgfpbidjhlkaadoor", sum := "c7a5b526a87c1064573064061cb72ed7d1b5d4293da7878502469bda5b1f415e", func := "tegula/tegulalaw06.PlaneProjective", spec := "planeProjective", unfollowed := true, recurses := true, named := ["tegula/smallfield.kinds"], plainKeys := false, apart := false, laid := [("tegula/smallfield.kinds", laid_tegula_smallfield_kinds)] }
def PlaneProjectiveSaid : Prop := planeProjectiveRow.holds Tryd.pinned (OpenSpec.ofChange planeProjectiveSpec)

/-- ITS FALSE NEIGHBOUR: 'it returns false'. Refute it at one input. -/
def planeProjectiveWrong : ChangeSpec := { name := "planeProjective", fn := fun _ => fun
  | [d] => { results := [.lit (.bool false)], args := [d] }
  | _ => none }
def PlaneProjectiveWrongFalsely : Prop := planeProjectiveRow.holds Tryd.pinned (OpenSpec.ofChange planeProjectiveWrong)

/-- 'tegulalaw06.PlaneAffine': WHATEVER THE INPUT: true; the input reads as it did. -/
def planeAffineSpec : ChangeSpec := { name := "planeAffine", fn := fun _ => fun
  | [d] => { results := [.lit (.bool true)], args := [d] }
  | _ => none }
def planeAffineRow : OpenClaim := { program := "ytjbgfpbidjhlkaadoor", sum := "c7a5b526a87c1064573064061cb72ed7d1b5d4293da7878502469bda5b1f415e", func := "tegula/tegulalaw06.PlaneAffine", spec := "planeAffine", unfollowed := true, recurses := true, named := ["tegula/smallfield.kinds"], plainKeys := false, apart := false, laid := [("tegula/smallfield.kinds", laid_tegula_smallfield_kinds)] }
def PlaneAffineSaid : Prop := planeAffineRow.holds Tryd.pinned (OpenSpec.ofChange planeAffineSpec)

/-- ITS FALSE NEIGHBOUR: 'it returns false'. Refute it at one input. -/
def planeAffineWrong : ChangeSpec := { name := "planeAffine", fn := fun _ => fun
  | [d] => { results := [.lit (.bool false)], args := [d] }
  | _ => none }
def PlaneAffineWrongFalsely : Prop := planeAffineRow.holds Tryd.pinned (OpenSpec.ofChange planeAffineWrong)

/-- 'tegulalaw06.PlaneErrors': WHATEVER THE INPUT: true; the input reads as it did. -/
def planeErrorsSpec : ChangeSpec := { name := "planeErrors", fn := fun _ => fun
  | [d1, d2, d3] => { results := [.lit (.bool true)], args := [d1, d2, d3] }
  | _ => none }
def planeErrorsRow : OpenClaim := { program := "ytjbgfpbidjhlkaadoor", sum := "c7a5b526a87c1064573064061cb72ed7d1b5d4293da7878502469bda5b1f415e", func := "tegula/tegulalaw06.PlaneErrors", spec := "planeErrors", unfollowed := true, recurses := true, named := ["tegula/smallfield.kinds"], plainKeys := false, apart := false, laid := [("tegula/smallfield.kinds", laid_tegula_smallfield_kinds)] }
def PlaneErrorsSaid : Prop := planeErrorsRow.holds Tryd.pinned (OpenSpec.ofChange planeErrorsSpec)

/-- ITS FALSE NEIGHBOUR: 'it returns false'. Refute it at one input. -/
def planeErrorsWrong : ChangeSpec := { name := "planeErrors", fn := fun _ => fun
  | [d1, d2, d3] => { results := [.lit (.bool false)], args := [d1, d2, d3] }
  | _ => none }
def PlaneErrorsWrongFalsely : Prop := planeErrorsRow.holds Tryd.pinned (OpenSpec.ofChange planeErrorsWrong)

/-- 'tegulalaw06.PlaneMeet': WHATEVER THE INPUT: true; the input reads as it did. -/
def planeMeetSpec : ChangeSpec := { name := "planeMeet", fn := fun _ => fun
  | [d1, d2, d3] => { results := [.lit (.bool true)], args := [d1, d2, d3] }
  | _ => none }
def planeMeetRow : OpenClaim := { program := "ytjbgfpbidjhlkaadoor", sum := "c7a5b526a87c1064573064061cb72ed7d1b5d4293da7878502469bda5b1f415e", func := "tegula/tegulalaw06.PlaneMeet", spec := "planeMeet", unfollowed := true, recurses := true, named := ["tegula/smallfield.kinds"], plainKeys := false, apart := false, laid := [("tegula/smallfield.kinds", laid_tegula_smallfield_kinds)] }
def PlaneMeetSaid : Prop := planeMeetRow.holds Tryd.pinned (OpenSpec.ofChange planeMeetSpec)

/-- ITS FALSE NEIGHBOUR: 'it returns false'. Refute it at one input. -/
def planeMeetWrong : ChangeSpec := { name := "planeMeet", fn := fun _ => fun
  | [d1, d2, d3] => { results := [.lit (.bool false)], args := [d1, d2, d3] }
  | _ => none }
def PlaneMeetWrongFalsely : Prop := planeMeetRow.holds Tryd.pinned (OpenSpec.ofChange planeMeetWrong)

/-- 'tegulalaw06.PlaneJoin': WHATEVER THE INPUT: true; the input reads as it did. -/
def planeJoinSpec : ChangeSpec := { name := "planeJoin", fn := fun _ => fun
  | [d1, d2, d3] => { results := [.lit (.bool true)], args := [d1, d2, d3] }
  | _ => none }
def planeJoinRow : OpenClaim := { program := "ytjbgfpbidjhlkaadoor", sum := "c7a5b526a87c1064573064061cb72ed7d1b5d4293da7878502469bda5b1f415e", func := "tegula/tegulalaw06.PlaneJoin", spec := "planeJoin", unfollowed := true, recurses := true, named := ["tegula/smallfield.kinds"], plainKeys := false, apart := false, laid := [("tegula/smallfield.kinds", laid_tegula_smallfield_kinds)] }
def PlaneJoinSaid : Prop := planeJoinRow.holds Tryd.pinned (OpenSpec.ofChange planeJoinSpec)

/-- ITS FALSE NEIGHBOUR: 'it returns false'. Refute it at one input. -/
def planeJoinWrong : ChangeSpec := { name := "planeJoin", fn := fun _ => fun
  | [d1, d2, d3] => { results := [.lit (.bool false)], args := [d1, d2, d3] }
  | _ => none }
def PlaneJoinWrongFalsely : Prop := planeJoinRow.holds Tryd.pinned (OpenSpec.ofChange planeJoinWrong)

/-- 'tegulalaw06.PlaneDual': WHATEVER THE INPUT: true; the input reads as it did. -/
def planeDualSpec : ChangeSpec := { name := "planeDual", fn := fun _ => fun
  | [d1, d2, d3] => { results := [.lit (.bool true)], args := [d1, d2, d3] }
  | _ => none }
def planeDualRow : OpenClaim := { program := "ytjbgfpbidjhlkaadoor", sum := "c7a5b526a87c1064573064061cb72ed7d1b5d4293da7878502469bda5b1f415e", func := "tegula/tegulalaw06.PlaneDual", spec := "planeDual", unfollowed := true, recurses := true, named := ["tegula/smallfield.kinds"], plainKeys := false, apart := false, laid := [("tegula/smallfield.kinds", laid_tegula_smallfield_kinds)] }
def PlaneDualSaid : Prop := planeDualRow.holds Tryd.pinned (OpenSpec.ofChange planeDualSpec)

/-- ITS FALSE NEIGHBOUR: 'it returns false'. Refute it at one input. -/
def planeDualWrong : ChangeSpec := { name := "planeDual", fn := fun _ => fun
  | [d1, d2, d3] => { results := [.lit (.bool false)], args := [d1, d2, d3] }
  | _ => none }
def PlaneDualWrongFalsely : Prop := planeDualRow.holds Tryd.pinned (OpenSpec.ofChange planeDualWrong)

/-- 'tegulalaw06.PlaneParallel': WHATEVER THE INPUT: true; the input reads as it did. -/
def planeParallelSpec : ChangeSpec := { name := "planeParallel", fn := fun _ => fun
  | [d1, d2] => { results := [.lit (.bool true)], args := [d1, d2] }
  | _ => none }
def planeParallelRow : OpenClaim := { program := "ytjbgfpbidjhlkaadoor", sum := "c7a5b526a87c1064573064061cb72ed7d1b5d4293da7878502469bda5b1f415e", func := "tegula/tegulalaw06.PlaneParallel", spec := "planeParallel", unfollowed := true, recurses := true, named := ["tegula/smallfield.kinds"], plainKeys := false, apart := false, laid := [("tegula/smallfield.kinds", laid_tegula_smallfield_kinds)] }
def PlaneParallelSaid : Prop := planeParallelRow.holds Tryd.pinned (OpenSpec.ofChange planeParallelSpec)

/-- ITS FALSE NEIGHBOUR: 'it returns false'. Refute it at one input. -/
def planeParallelWrong : ChangeSpec := { name := "planeParallel", fn := fun _ => fun
  | [d1, d2] => { results := [.lit (.bool false)], args := [d1, d2] }
  | _ => none }
def PlaneParallelWrongFalsely : Prop := planeParallelRow.holds Tryd.pinned (OpenSpec.ofChange planeParallelWrong)

/-- 'tegulalaw06.PlaneShrinks': WHATEVER THE INPUT: true; the input reads as it did. -/
def planeShrinksSpec : ChangeSpec := { name := "planeShrinks", fn := fun _ => fun
  | [d1, d2] => { results := [.lit (.bool true)], args := [d1, d2] }
  | _ => none }
def planeShrinksRow : OpenClaim := { program := "ytjbgfpbidjhlkaadoor", sum := "c7a5b526a87c1064573064061cb72ed7d1b5d4293da7878502469bda5b1f415e", func := "tegula/tegulalaw06.PlaneShrinks", spec := "planeShrinks", unfollowed := true, recurses := true, named := ["tegula/smallfield.kinds"], plainKeys := false, apart := false, laid := [("tegula/smallfield.kinds", laid_tegula_smallfield_kinds)] }
def PlaneShrinksSaid : Prop := planeShrinksRow.holds Tryd.pinned (OpenSpec.ofChange planeShrinksSpec)

/-- ITS FALSE NEIGHBOUR: 'it returns false'. Refute it at one input. -/
def planeShrinksWrong : ChangeSpec := { name := "planeShrinks", fn := fun _ => fun
  | [d1, d2] => { results := [.lit (.bool false)], args := [d1, d2] }
  | _ => none }
def PlaneShrinksWrongFalsely : Prop := planeShrinksRow.holds Tryd.pinned (OpenSpec.ofChange planeShrinksWrong)

/- THE SECOND FORM. 'bulk': how many values and letters a reading holds, each counted each time it is reached (what is shared counts as often as it is met; a slice's spare places count too). A statement '..UptoSaid' is the law's where the arguments, and the package variables that the reading takes, are together of bulk at most 1048576: NARROWER than '..Said'. Prove '..Said' where nothing that the law and all that it calls make is longer than what came in: it says more and counts as full. Else prove '..UptoSaid'. A law counts once. -/
mutual
def uptoBulk {H : Type} : DataW H → Nat
  | .lit (.string bytes) => bytes.length + 1
  | .lit _ => 1
  | .nil => 1
  | .ptr d => uptoBulk d + 1
  | .slice elems spare => uptoBulkAll elems + uptoBulkAll spare + 1
  | .agg parts => uptoBulkAll parts + 1
  | .iface _ d => uptoBulk d + 1
  | .map entries => uptoBulkEntries entries + 1
  | .held _ => 1
def uptoBulkAll {H : Type} : List (DataW H) → Nat
  | [] => 0
  | d :: r => uptoBulk d + uptoBulkAll r
def uptoBulkEntries {H : Type} : List (Lit × DataW H) → Nat
  | [] => 0
  | x :: r => uptoBulkEntry x + uptoBulkEntries r
def uptoBulkEntry {H : Type} : Lit × DataW H → Nat
  | (.string bytes, d) => bytes.length + uptoBulk d + 1
  | (_, d) => uptoBulk d + 1
 end
def uptoSmall : (H : Type) → List (DataW H) → Bool := fun _ ds => decide (uptoBulkAll ds ≤ 1048576)
def OpenSpec.upto (s : _root_.Go.ChangeSpec) : _root_.Go.OpenSpec := { _root_.Go.OpenSpec.ofChange s with cond := some uptoSmall }

/-- 'tegulalaw06.PlaneProjective', WHERE WHAT IT READS IS OF BULK AT MOST 1048576: true; the input reads as it did. -/
def planeProjectiveUptoRow : OpenClaim := { program := "ytjbgfpbidjhlkaadoor", sum := "c7a5b526a87c1064573064061cb72ed7d1b5d4293da7878502469bda5b1f415e", func := "tegula/tegulalaw06.PlaneProjective", spec := "planeProjective", unfollowed := true, recurses := true, named := ["tegula/smallfield.kinds"], plainKeys := false, apart := false, laid := [("tegula/smallfield.kinds", laid_tegula_smallfield_kinds)], narrowed := true }
def PlaneProjectiveUptoSaid : Prop := planeProjectiveUptoRow.holds Tryd.pinned (OpenSpec.upto planeProjectiveSpec)

/-- 'tegulalaw06.PlaneAffine', WHERE WHAT IT READS IS OF BULK AT MOST 1048576: true; the input reads as it did. -/
def planeAffineUptoRow : OpenClaim := { program := "ytjbgfpbidjhlkaadoor", sum := "c7a5b526a87c1064573064061cb72ed7d1b5d4293da7878502469bda5b1f415e", func := "tegula/tegulalaw06.PlaneAffine", spec := "planeAffine", unfollowed := true, recurses := true, named := ["tegula/smallfield.kinds"], plainKeys := false, apart := false, laid := [("tegula/smallfield.kinds", laid_tegula_smallfield_kinds)], narrowed := true }
def PlaneAffineUptoSaid : Prop := planeAffineUptoRow.holds Tryd.pinned (OpenSpec.upto planeAffineSpec)

/-- 'tegulalaw06.PlaneErrors', WHERE WHAT IT READS IS OF BULK AT MOST 1048576: true; the input reads as it did. -/
def planeErrorsUptoRow : OpenClaim := { program := "ytjbgfpbidjhlkaadoor", sum := "c7a5b526a87c1064573064061cb72ed7d1b5d4293da7878502469bda5b1f415e", func := "tegula/tegulalaw06.PlaneErrors", spec := "planeErrors", unfollowed := true, recurses := true, named := ["tegula/smallfield.kinds"], plainKeys := false, apart := false, laid := [("tegula/smallfield.kinds", laid_tegula_smallfield_kinds)], narrowed := true }
def PlaneErrorsUptoSaid : Prop := planeErrorsUptoRow.holds Tryd.pinned (OpenSpec.upto planeErrorsSpec)

/-- 'tegulalaw06.PlaneMeet', WHERE WHAT IT READS IS OF BULK AT MOST 1048576: true; the input reads as it did. -/
def planeMeetUptoRow : OpenClaim := { program := "ytjbgfpbidjhlkaadoor", sum := "c7a5b526a87c1064573064061cb72ed7d1b5d4293da7878502469bda5b1f415e", func := "tegula/tegulalaw06.PlaneMeet", spec := "planeMeet", unfollowed := true, recurses := true, named := ["tegula/smallfield.kinds"], plainKeys := false, apart := false, laid := [("tegula/smallfield.kinds", laid_tegula_smallfield_kinds)], narrowed := true }
def PlaneMeetUptoSaid : Prop := planeMeetUptoRow.holds Tryd.pinned (OpenSpec.upto planeMeetSpec)

/-- 'tegulalaw06.PlaneJoin', WHERE WHAT IT READS IS OF BULK AT MOST 1048576: true; the input reads as it did. -/
def planeJoinUptoRow : OpenClaim := { program := "ytjbgfpbidjhlkaadoor", sum := "c7a5b526a87c1064573064061cb72ed7d1b5d4293da7878502469bda5b1f415e", func := "tegula/tegulalaw06.PlaneJoin", spec := "planeJoin", unfollowed := true, recurses := true, named := ["tegula/smallfield.kinds"], plainKeys := false, apart := false, laid := [("tegula/smallfield.kinds", laid_tegula_smallfield_kinds)], narrowed := true }
def PlaneJoinUptoSaid : Prop := planeJoinUptoRow.holds Tryd.pinned (OpenSpec.upto planeJoinSpec)

/-- 'tegulalaw06.PlaneDual', WHERE WHAT IT READS IS OF BULK AT MOST 1048576: true; the input reads as it did. -/
def planeDualUptoRow : OpenClaim := { program := "ytjbgfpbidjhlkaadoor", sum := "c7a5b526a87c1064573064061cb72ed7d1b5d4293da7878502469bda5b1f415e", func := "tegula/tegulalaw06.PlaneDual", spec := "planeDual", unfollowed := true, recurses := true, named := ["tegula/smallfield.kinds"], plainKeys := false, apart := false, laid := [("tegula/smallfield.kinds", laid_tegula_smallfield_kinds)], narrowed := true }
def PlaneDualUptoSaid : Prop := planeDualUptoRow.holds Tryd.pinned (OpenSpec.upto planeDualSpec)

/-- 'tegulalaw06.PlaneParallel', WHERE WHAT IT READS IS OF BULK AT MOST 1048576: true; the input reads as it did. -/
def planeParallelUptoRow : OpenClaim := { program := "ytjbgfpbidjhlkaadoor", sum := "c7a5b526a87c1064573064061cb72ed7d1b5d4293da7878502469bda5b1f415e", func := "tegula/tegulalaw06.PlaneParallel", spec := "planeParallel", unfollowed := true, recurses := true, named := ["tegula/smallfield.kinds"], plainKeys := false, apart := false, laid := [("tegula/smallfield.kinds", laid_tegula_smallfield_kinds)], narrowed := true }
def PlaneParallelUptoSaid : Prop := planeParallelUptoRow.holds Tryd.pinned (OpenSpec.upto planeParallelSpec)

/-- 'tegulalaw06.PlaneShrinks', WHERE WHAT IT READS IS OF BULK AT MOST 1048576: true; the input reads as it did. -/
def planeShrinksUptoRow : OpenClaim := { program := "ytjbgfpbidjhlkaadoor", sum := "c7a5b526a87c1064573064061cb72ed7d1b5d4293da7878502469bda5b1f415e", func := "tegula/tegulalaw06.PlaneShrinks", spec := "planeShrinks", unfollowed := true, recurses := true, named := ["tegula/smallfield.kinds"], plainKeys := false, apart := false, laid := [("tegula/smallfield.kinds", laid_tegula_smallfield_kinds)], narrowed := true }
def PlaneShrinksUptoSaid : Prop := planeShrinksUptoRow.holds Tryd.pinned (OpenSpec.upto planeShrinksSpec)

end Rows
end Go.Proofs.YtjbgfpbidjhlkaaDoor
