/-
  NARROWER THAN 'FOR EVERY INPUT', by the rows' own cells (each row's printed sentence says how): DesignComplete: laid · DesignCheck: laid · DesignChoose: laid · DesignBalanced: laid · DesignShared: laid · DesignPairs: laid · DesignTwice: laid.
  DERIVED. THE GIVEN ROWS OF THIS SEAT. 7 by the template 'for every input the law returns true; each argument reads behind the call as it read before'; 0 by the template 'total and deterministic' (their statements: YtnnacofjogfkeaaDoorTotals.lean).
  GIVEN WITH THE SEED: the statements are not yours to turn. If you find one false, say at which input.
  Laid BY PROGRAM, IN A SANDBOX (cutbox-rows.mjs): the forced cells as the released guide's own fill.sh prints them over the translation 3e353b56d9568a0c… (all of the seat's roots in one cut). By AI agents, Wed Nov 11 2026. No macro, syntax, notation, axiom, sorry.
-/
import Derived.Test.YtnnacofjogfkeaaDoorChecked
import GoSem.Claim
import GoSem.ClaimJoined
import GoSem.ClaimMapViews
import Derived.JoinedTies
import Derived.KernelRfl
namespace Go.Proofs.YtnnacofjogfkeaaDoor
/- THE CELL 'sum', in the pinned program and in every row, IS THE sha256 OF THE DUMP (.gsa) THAT YtnnacofjogfkeaaDoorProg.lean LOADS. Nothing in Lean hashes anything: it is a label: what it is worth is what the hold of that sum in a sandbox is worth. -/
noncomputable def Tryd.pinned : Pinned := { name := "ytnnacofjogfkeaadoor", sum := "3e353b56d9568a0c4842540b6b513d5f423046f912ae90fb97853accec8834d4", checked := Tryd.checked }
namespace Rows
def none {H : Type} : Left H := { results := [], args := [] }

/- WHAT THE LISTED PACKAGE-LEVEL VARIABLES READ AS WHEN THE CALL BEGINS. Each datum BY PROGRAM (the guide's laid-datum.mjs) off the statement by which the dump's own 'gosem.cut.vars' lays the variable. In a bare row this is a premise. The card (YtnnacofjogfkeaaDoorCards.lean) ties it to the program's text. -/
def laid_tegula_smallfield_kinds {H : Type} : DataW H := .agg [.agg [.lit (.int .i64 2), .lit (.int .i64 2), .lit (.int .i64 0)], .agg [.lit (.int .i64 3), .lit (.int .i64 3), .lit (.int .i64 0)], .agg [.lit (.int .i64 4), .lit (.int .i64 2), .lit (.int .i64 3)], .agg [.lit (.int .i64 5), .lit (.int .i64 5), .lit (.int .i64 0)], .agg [.lit (.int .i64 7), .lit (.int .i64 7), .lit (.int .i64 0)], .agg [.lit (.int .i64 8), .lit (.int .i64 2), .lit (.int .i64 3)], .agg [.lit (.int .i64 9), .lit (.int .i64 3), .lit (.int .i64 2)]]
def laid_tegula_design_planes {H : Type} : DataW H := .agg [.agg [.lit (.int .i64 13), .lit (.int .i64 4), .lit (.int .i64 3), .lit (.bool false)], .agg [.lit (.int .i64 21), .lit (.int .i64 5), .lit (.int .i64 4), .lit (.bool false)], .agg [.lit (.int .i64 31), .lit (.int .i64 6), .lit (.int .i64 5), .lit (.bool false)], .agg [.lit (.int .i64 57), .lit (.int .i64 8), .lit (.int .i64 7), .lit (.bool false)], .agg [.lit (.int .i64 16), .lit (.int .i64 4), .lit (.int .i64 4), .lit (.bool true)], .agg [.lit (.int .i64 25), .lit (.int .i64 5), .lit (.int .i64 5), .lit (.bool true)], .agg [.lit (.int .i64 49), .lit (.int .i64 7), .lit (.int .i64 7), .lit (.bool true)]]

/-- 'tegulalaw07.DesignComplete': WHATEVER THE INPUT: true; the input reads as it did. -/
def designCompleteSpec : ChangeSpec := { name := "designComplete", fn := fun _ => fun
  | [d1, d2] => { results := [.lit (.bool true)], args := [d1, d2] }
  | _ => none }
def designCompleteRow : OpenClaim := { program := "ytnnacofjogfkeaadoor", sum := "3e353b56d9568a0c4842540b6b513d5f423046f912ae90fb97853accec8834d4", func := "tegula/tegulalaw07.DesignComplete", spec := "designComplete", unfollowed := true, recurses := true, named := ["tegula/design.planes", "tegula/smallfield.kinds"], plainKeys := false, apart := false, laid := [("tegula/smallfield.kinds", laid_tegula_smallfield_kinds), ("tegula/design.planes", laid_tegula_design_planes)] }
def DesignCompleteSaid : Prop := designCompleteRow.holds Tryd.pinned (OpenSpec.ofChange designCompleteSpec)

/-- ITS FALSE NEIGHBOUR: 'it returns false'. Refute it at one input. -/
def designCompleteWrong : ChangeSpec := { name := "designComplete", fn := fun _ => fun
  | [d1, d2] => { results := [.lit (.bool false)], args := [d1, d2] }
  | _ => none }
def DesignCompleteWrongFalsely : Prop := designCompleteRow.holds Tryd.pinned (OpenSpec.ofChange designCompleteWrong)

/-- 'tegulalaw07.DesignCheck': WHATEVER THE INPUT: true; the input reads as it did. -/
def designCheckSpec : ChangeSpec := { name := "designCheck", fn := fun _ => fun
  | [d] => { results := [.lit (.bool true)], args := [d] }
  | _ => none }
def designCheckRow : OpenClaim := { program := "ytnnacofjogfkeaadoor", sum := "3e353b56d9568a0c4842540b6b513d5f423046f912ae90fb97853accec8834d4", func := "tegula/tegulalaw07.DesignCheck", spec := "designCheck", unfollowed := true, recurses := true, named := ["tegula/design.planes", "tegula/smallfield.kinds"], plainKeys := false, apart := false, laid := [("tegula/smallfield.kinds", laid_tegula_smallfield_kinds), ("tegula/design.planes", laid_tegula_design_planes)] }
def DesignCheckSaid : Prop := designCheckRow.holds Tryd.pinned (OpenSpec.ofChange designCheckSpec)

/-- ITS FALSE NEIGHBOUR: 'it returns false'. Refute it at one input. -/
def designCheckWrong : ChangeSpec := { name := "designCheck", fn := fun _ => fun
  | [d] => { results := [.lit (.bool false)], args := [d] }
  | _ => none }
def DesignCheckWrongFalsely : Prop := designCheckRow.holds Tryd.pinned (OpenSpec.ofChange designCheckWrong)

/-- 'tegulalaw07.DesignChoose': WHATEVER THE INPUT: true; the input reads as it did. -/
def designChooseSpec : ChangeSpec := { name := "designChoose", fn := fun _ => fun
  | [d1, d2] => { results := [.lit (.bool true)], args := [d1, d2] }
  | _ => none }
def designChooseRow : OpenClaim := { program := "ytnnacofjogfkeaadoor", sum := "3e353b56d9568a0c4842540b6b513d5f423046f912ae90fb97853accec8834d4", func := "tegula/tegulalaw07.DesignChoose", spec := "designChoose", unfollowed := true, recurses := true, named := ["tegula/design.planes", "tegula/smallfield.kinds"], plainKeys := false, apart := false, laid := [("tegula/smallfield.kinds", laid_tegula_smallfield_kinds), ("tegula/design.planes", laid_tegula_design_planes)] }
def DesignChooseSaid : Prop := designChooseRow.holds Tryd.pinned (OpenSpec.ofChange designChooseSpec)

/-- ITS FALSE NEIGHBOUR: 'it returns false'. Refute it at one input. -/
def designChooseWrong : ChangeSpec := { name := "designChoose", fn := fun _ => fun
  | [d1, d2] => { results := [.lit (.bool false)], args := [d1, d2] }
  | _ => none }
def DesignChooseWrongFalsely : Prop := designChooseRow.holds Tryd.pinned (OpenSpec.ofChange designChooseWrong)

/-- 'tegulalaw07.DesignBalanced': WHATEVER THE INPUT: true; the input reads as it did. -/
def designBalancedSpec : ChangeSpec := { name := "designBalanced", fn := fun _ => fun
  | [d1, d2] => { results := [.lit (.bool true)], args := [d1, d2] }
  | _ => none }
def designBalancedRow : OpenClaim := { program := "ytnnacofjogfkeaadoor", sum := "3e353b56d9568a0c4842540b6b513d5f423046f912ae90fb97853accec8834d4", func := "tegula/tegulalaw07.DesignBalanced", spec := "designBalanced", unfollowed := true, recurses := true, named := ["tegula/design.planes", "tegula/smallfield.kinds"], plainKeys := false, apart := false, laid := [("tegula/smallfield.kinds", laid_tegula_smallfield_kinds), ("tegula/design.planes", laid_tegula_design_planes)] }
def DesignBalancedSaid : Prop := designBalancedRow.holds Tryd.pinned (OpenSpec.ofChange designBalancedSpec)

/-- ITS FALSE NEIGHBOUR: 'it returns false'. Refute it at one input. -/
def designBalancedWrong : ChangeSpec := { name := "designBalanced", fn := fun _ => fun
  | [d1, d2] => { results := [.lit (.bool false)], args := [d1, d2] }
  | _ => none }
def DesignBalancedWrongFalsely : Prop := designBalancedRow.holds Tryd.pinned (OpenSpec.ofChange designBalancedWrong)

/-- 'tegulalaw07.DesignShared': WHATEVER THE INPUT: true; the input reads as it did. -/
def designSharedSpec : ChangeSpec := { name := "designShared", fn := fun _ => fun
  | [d1, d2, d3] => { results := [.lit (.bool true)], args := [d1, d2, d3] }
  | _ => none }
def designSharedRow : OpenClaim := { program := "ytnnacofjogfkeaadoor", sum := "3e353b56d9568a0c4842540b6b513d5f423046f912ae90fb97853accec8834d4", func := "tegula/tegulalaw07.DesignShared", spec := "designShared", unfollowed := true, recurses := true, named := ["tegula/design.planes", "tegula/smallfield.kinds"], plainKeys := false, apart := false, laid := [("tegula/smallfield.kinds", laid_tegula_smallfield_kinds), ("tegula/design.planes", laid_tegula_design_planes)] }
def DesignSharedSaid : Prop := designSharedRow.holds Tryd.pinned (OpenSpec.ofChange designSharedSpec)

/-- ITS FALSE NEIGHBOUR: 'it returns false'. Refute it at one input. -/
def designSharedWrong : ChangeSpec := { name := "designShared", fn := fun _ => fun
  | [d1, d2, d3] => { results := [.lit (.bool false)], args := [d1, d2, d3] }
  | _ => none }
def DesignSharedWrongFalsely : Prop := designSharedRow.holds Tryd.pinned (OpenSpec.ofChange designSharedWrong)

/-- 'tegulalaw07.DesignPairs': WHATEVER THE INPUT: true; the input reads as it did. -/
def designPairsSpec : ChangeSpec := { name := "designPairs", fn := fun _ => fun
  | [d] => { results := [.lit (.bool true)], args := [d] }
  | _ => none }
def designPairsRow : OpenClaim := { program := "ytnnacofjogfkeaadoor", sum := "3e353b56d9568a0c4842540b6b513d5f423046f912ae90fb97853accec8834d4", func := "tegula/tegulalaw07.DesignPairs", spec := "designPairs", unfollowed := true, recurses := true, named := ["tegula/design.planes", "tegula/smallfield.kinds"], plainKeys := false, apart := false, laid := [("tegula/smallfield.kinds", laid_tegula_smallfield_kinds), ("tegula/design.planes", laid_tegula_design_planes)] }
def DesignPairsSaid : Prop := designPairsRow.holds Tryd.pinned (OpenSpec.ofChange designPairsSpec)

/-- ITS FALSE NEIGHBOUR: 'it returns false'. Refute it at one input. -/
def designPairsWrong : ChangeSpec := { name := "designPairs", fn := fun _ => fun
  | [d] => { results := [.lit (.bool false)], args := [d] }
  | _ => none }
def DesignPairsWrongFalsely : Prop := designPairsRow.holds Tryd.pinned (OpenSpec.ofChange designPairsWrong)

/-- 'tegulalaw07.DesignTwice': WHATEVER THE INPUT: true; the input reads as it did. -/
def designTwiceSpec : ChangeSpec := { name := "designTwice", fn := fun _ => fun
  | [d1, d2] => { results := [.lit (.bool true)], args := [d1, d2] }
  | _ => none }
def designTwiceRow : OpenClaim := { program := "ytnnacofjogfkeaadoor", sum := "3e353b56d9568a0c4842540b6b513d5f423046f912ae90fb97853accec8834d4", func := "tegula/tegulalaw07.DesignTwice", spec := "designTwice", unfollowed := true, recurses := true, named := ["tegula/design.planes", "tegula/smallfield.kinds"], plainKeys := false, apart := false, laid := [("tegula/smallfield.kinds", laid_tegula_smallfield_kinds), ("tegula/design.planes", laid_tegula_design_planes)] }
def DesignTwiceSaid : Prop := designTwiceRow.holds Tryd.pinned (OpenSpec.ofChange designTwiceSpec)

/-- ITS FALSE NEIGHBOUR: 'it returns false'. Refute it at one input. -/
def designTwiceWrong : ChangeSpec := { name := "designTwice", fn := fun _ => fun
  | [d1, d2] => { results := [.lit (.bool false)], args := [d1, d2] }
  | _ => none }
def DesignTwiceWrongFalsely : Prop := designTwiceRow.holds Tryd.pinned (OpenSpec.ofChange designTwiceWrong)

/- THE SECOND FORM. 'bulk': how many values and letters a reading holds, each counted each time it is reached (what is shared counts as often as it is met; a slice's spare places count too). A statement '..UptoSaid' is the law's where the arguments, and the package variables that the reading takes, are together of bulk at most 1048576: NARROWER than '..Said'. Prove '..Said' where nothing that the law and all that it calls make is longer than what came in: it says more and counts as full. Else prove '..UptoSaid'. A law counts once. -/
mutual
def uptoBulk {H : Type} : DataW H → Nat
  | .lit (.string bytes) => bytes.length + 1
  | .lit _ => 1
  | .nil => 1
  | .ptr d => uptoBulk d + 1
  | .slice elems spare => uptoBulkAll elems + uptoBulkAll spare + 1
  | .agg parts => uptoBulkAll parts + 1
  | .iface _ d => uptoBulk d + 1
  | .map entries => uptoBulkEntries entries + 1
  | .held _ => 1
def uptoBulkAll {H : Type} : List (DataW H) → Nat
  | [] => 0
  | d :: r => uptoBulk d + uptoBulkAll r
def uptoBulkEntries {H : Type} : List (Lit × DataW H) → Nat
  | [] => 0
  | x :: r => uptoBulkEntry x + uptoBulkEntries r
def uptoBulkEntry {H : Type} : Lit × DataW H → Nat
  | (.string bytes, d) => bytes.length + uptoBulk d + 1
  | (_, d) => uptoBulk d + 1
 end
def uptoSmall : (H : Type) → List (DataW H) → Bool := fun _ ds => decide (uptoBulkAll ds ≤ 1048576)
def OpenSpec.upto (s : _root_.Go.ChangeSpec) : _root_.Go.OpenSpec := { _root_.Go.OpenSpec.ofChange s with cond := some uptoSmall }

/-- 'tegulalaw07.DesignComplete', WHERE WHAT IT READS IS OF BULK AT MOST 1048576: true; the input reads as it did. -/
def designCompleteUptoRow : OpenClaim := { program := "ytnnacofjogfkeaadoor", sum := "3e353b56d9568a0c4842540b6b513d5f423046f912ae90fb97853accec8834d4", func := "tegula/tegulalaw07.DesignComplete", spec := "designComplete", unfollowed := true, recurses := true, named := ["tegula/design.planes", "tegula/smallfield.kinds"], plainKeys := false, apart := false, laid := [("tegula/smallfield.kinds", laid_tegula_smallfield_kinds), ("tegula/design.planes", laid_tegula_design_planes)], narrowed := true }
def DesignCompleteUptoSaid : Prop := designCompleteUptoRow.holds Tryd.pinned (OpenSpec.upto designCompleteSpec)

/-- 'tegulalaw07.DesignCheck', WHERE WHAT IT READS IS OF BULK AT MOST 1048576: true; the input reads as it did. -/
def designCheckUptoRow : OpenClaim := { program := "ytnnacofjogfkeaadoor", sum := "3e353b56d9568a0c4842540b6b513d5f423046f912ae90fb97853accec8834d4", func := "tegula/tegulalaw07.DesignCheck", spec := "designCheck", unfollowed := true, recurses := true, named := ["tegula/design.planes", "tegula/smallfield.kinds"], plainKeys := false, apart := false, laid := [("tegula/smallfield.kinds", laid_tegula_smallfield_kinds), ("tegula/design.planes", laid_tegula_design_planes)], narrowed := true }
def DesignCheckUptoSaid : Prop := designCheckUptoRow.holds Tryd.pinned (OpenSpec.upto designCheckSpec)

/-- 'tegulalaw07.DesignChoose', WHERE WHAT IT READS IS OF BULK AT MOST 1048576: true; the input reads as it did. -/
def designChooseUptoRow : OpenClaim := { program := "ytnnacofjogfkeaadoor", sum := "3e353b56d9568a0c4842540b6b513d5f423046f912ae90fb97853accec8834d4", func := "tegula/tegulalaw07.DesignChoose", spec := "designChoose", unfollowed := true, recurses := true, named := ["tegula/design.planes", "tegula/smallfield.kinds"], plainKeys := false, apart := false, laid := [("tegula/smallfield.kinds", laid_tegula_smallfield_kinds), ("tegula/design.planes", laid_tegula_design_planes)], narrowed := true }
def DesignChooseUptoSaid : Prop := designChooseUptoRow.holds Tryd.pinned (OpenSpec.upto designChooseSpec)

/-- 'tegulalaw07.DesignBalanced', WHERE WHAT IT READS IS OF BULK AT MOST 1048576: true; the input reads as it did. -/
def designBalancedUptoRow : OpenClaim := { program := "ytnnacofjogfkeaadoor", sum := "3e353b56d9568a0c4842540b6b513d5f423046f912ae90fb97853accec8834d4", func := "tegula/tegulalaw07.DesignBalanced", spec := "designBalanced", unfollowed := true, recurses := true, named := ["tegula/design.planes", "tegula/smallfield.kinds"], plainKeys := false, apart := false, laid := [("tegula/smallfield.kinds", laid_tegula_smallfield_kinds), ("tegula/design.planes", laid_tegula_design_planes)], narrowed := true }
def DesignBalancedUptoSaid : Prop := designBalancedUptoRow.holds Tryd.pinned (OpenSpec.upto designBalancedSpec)

/-- 'tegulalaw07.DesignShared', WHERE WHAT IT READS IS OF BULK AT MOST 1048576: true; the input reads as it did. -/
def designSharedUptoRow : OpenClaim := { program := "ytnnacofjogfkeaadoor", sum := "3e353b56d9568a0c4842540b6b513d5f423046f912ae90fb97853accec8834d4", func := "tegula/tegulalaw07.DesignShared", spec := "designShared", unfollowed := true, recurses := true, named := ["tegula/design.planes", "tegula/smallfield.kinds"], plainKeys := false, apart := false, laid := [("tegula/smallfield.kinds", laid_tegula_smallfield_kinds), ("tegula/design.planes", laid_tegula_design_planes)], narrowed := true }
def DesignSharedUptoSaid : Prop := designSharedUptoRow.holds Tryd.pinned (OpenSpec.upto designSharedSpec)

/-- 'tegulalaw07.DesignPairs', WHERE WHAT IT READS IS OF BULK AT MOST 1048576: true; the input reads as it did. -/
def designPairsUptoRow : OpenClaim := { program := "ytnnacofjogfkeaadoor", sum := "3e353b56d9568a0c4842540b6b513d5f423046f912ae90fb97853accec8834d4", func := "tegula/tegulalaw07.DesignPairs", spec := "designPairs", unfollowed := true, recurses := true, named := ["tegula/design.planes", "tegula/smallfield.kinds"], plainKeys := false, apart := false, laid := [("tegula/smallfield.kinds", laid_tegula_smallfield_kinds), ("tegula/design.planes", laid_tegula_design_planes)], narrowed := true }
def DesignPairsUptoSaid : Prop := designPairsUptoRow.holds Tryd.pinned (OpenSpec.upto designPairsSpec)

/-- 'tegulalaw07.DesignTwice', WHERE WHAT IT READS IS OF BULK AT MOST 1048576: true; the input reads as it did. -/
def designTwiceUptoRow : OpenClaim := { program := "ytnnacofjogfkeaadoor", sum := "3e353b56d9568a0c4842540b6b513d5f423046f912ae90fb97853accec8834d4", func := "tegula/tegulalaw07.DesignTwice", spec := "designTwice", unfollowed := true, recurses := true, named := ["tegula/design.planes", "tegula/smallfield.kinds"], plainKeys := false, apart := false, laid := [("tegula/smallfield.kinds", laid_tegula_smallfield_kinds), ("tegula/design.planes", laid_tegula_design_planes)], narrowed := true }
def DesignTwiceUptoSaid : Prop := designTwiceUptoRow.holds Tryd.pinned (OpenSpec.upto designTwiceSpec)

end Rows
end Go.Proofs.YtnnacofjogfkeaaDoor
