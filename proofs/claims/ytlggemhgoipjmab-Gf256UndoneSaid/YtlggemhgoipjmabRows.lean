/-
  No cell of these rows narrows 'for every input' (looked for: loops, veiled, ifaces, maps, wideKeys, modest, calm, conditions, laid).
  DERIVED. THE GIVEN ROWS OF THIS SEAT. 2 by the template 'for every input the law returns true; each argument reads behind the call as it read before'; 0 by the template 'total and deterministic' (their statements: YtlggemhgoipjmabTotals.lean).
  GIVEN WITH THE SEED: the statements are not yours to turn. If you find one false, say at which input.
  Laid BY PROGRAM, IN A SANDBOX (cutbox-rows.mjs): the forced cells as the released guide's own fill.sh prints them over the translation f16e8613ff2570a8… (all of the seat's roots in one cut). By AI agents, Wed Nov 11 2026. No macro, syntax, notation, axiom, sorry.
-/
import Derived.Test.YtlggemhgoipjmabChecked
import GoSem.Claim
import GoSem.ClaimJoined
import GoSem.ClaimMapViews
import Derived.JoinedTies
import Derived.KernelRfl
namespace Go.Proofs.Ytlggemhgoipjmab
/- THE CELL 'sum', in the pinned program and in every row, IS THE sha256 OF THE DUMP (.gsa) THAT YtlggemhgoipjmabProg.lean LOADS. Nothing in Lean hashes anything: it is a label: what it is worth is what the hold of that sum in a sandbox is worth. -/
noncomputable def Try.pinned : Pinned := { name := "ytlggemhgoipjmab", sum := "f16e8613ff2570a8100c875acdd4e62c2c82913db6041a1a2465e31fab54a7a3", checked := Try.checked }
namespace Rows
def none {H : Type} : Left H := { results := [], args := [] }

/-- 'tegulalaw01.Gf256Fused': WHATEVER THE INPUT: true; the input reads as it did. -/
def gf256FusedSpec : ChangeSpec := { name := "gf256Fused", fn := fun _ => fun
  | [d1, d2, d3] => { results := [.lit (.bool true)], args := [d1, d2, d3] }
  | _ => none }
def gf256FusedRow : OpenClaim := { program := "ytlggemhgoipjmab", sum := "f16e8613ff2570a8100c875acdd4e62c2c82913db6041a1a2465e31fab54a7a3", func := "tegula/tegulalaw01.Gf256Fused", spec := "gf256Fused", apart := false }
def Gf256FusedSaid : Prop := gf256FusedRow.holds Try.pinned (OpenSpec.ofChange gf256FusedSpec)

/-- ITS FALSE NEIGHBOUR: 'it returns false'. Refute it at one input. -/
def gf256FusedWrong : ChangeSpec := { name := "gf256Fused", fn := fun _ => fun
  | [d1, d2, d3] => { results := [.lit (.bool false)], args := [d1, d2, d3] }
  | _ => none }
def Gf256FusedWrongFalsely : Prop := gf256FusedRow.holds Try.pinned (OpenSpec.ofChange gf256FusedWrong)

/-- 'tegulalaw01.Gf256Undone': WHATEVER THE INPUT: true; the input reads as it did. -/
def gf256UndoneSpec : ChangeSpec := { name := "gf256Undone", fn := fun _ => fun
  | [d1, d2, d3] => { results := [.lit (.bool true)], args := [d1, d2, d3] }
  | _ => none }
def gf256UndoneRow : OpenClaim := { program := "ytlggemhgoipjmab", sum := "f16e8613ff2570a8100c875acdd4e62c2c82913db6041a1a2465e31fab54a7a3", func := "tegula/tegulalaw01.Gf256Undone", spec := "gf256Undone", apart := false }
def Gf256UndoneSaid : Prop := gf256UndoneRow.holds Try.pinned (OpenSpec.ofChange gf256UndoneSpec)

/-- ITS FALSE NEIGHBOUR: 'it returns false'. Refute it at one input. -/
def gf256UndoneWrong : ChangeSpec := { name := "gf256Undone", fn := fun _ => fun
  | [d1, d2, d3] => { results := [.lit (.bool false)], args := [d1, d2, d3] }
  | _ => none }
def Gf256UndoneWrongFalsely : Prop := gf256UndoneRow.holds Try.pinned (OpenSpec.ofChange gf256UndoneWrong)

/- THE SECOND FORM. 'bulk': how many values and letters a reading holds, each counted each time it is reached (what is shared counts as often as it is met; a slice's spare places count too). A statement '..UptoSaid' is the law's where the arguments, and the package variables that the reading takes, are together of bulk at most 1048576: NARROWER than '..Said'. Prove '..Said' where nothing that the law and all that it calls make is longer than what came in: it says more and counts as full. Else prove '..UptoSaid'. A law counts once. -/
mutual
def uptoBulk {H : Type} : DataW H → Nat
  | .lit (.string bytes) => bytes.length + 1
  | .lit _ => 1
  | .nil => 1
  | .ptr d => uptoBulk d + 1
  | .slice elems spare => uptoBulkAll elems + uptoBulkAll spare + 1
  | .agg parts => uptoBulkAll parts + 1
  | .iface _ d => uptoBulk d + 1
  | .map entries => uptoBulkEntries entries + 1
  | .held _ => 1
def uptoBulkAll {H : Type} : List (DataW H) → Nat
  | [] => 0
  | d :: r => uptoBulk d + uptoBulkAll r
def uptoBulkEntries {H : Type} : List (Lit × DataW H) → Nat
  | [] => 0
  | x :: r => uptoBulkEntry x + uptoBulkEntries r
def uptoBulkEntry {H : Type} : Lit × DataW H → Nat
  | (.string bytes, d) => bytes.length + uptoBulk d + 1
  | (_, d) => uptoBulk d + 1
 end
def uptoSmall : (H : Type) → List (DataW H) → Bool := fun _ ds => decide (uptoBulkAll ds ≤ 1048576)
def OpenSpec.upto (s : _root_.Go.ChangeSpec) : _root_.Go.OpenSpec := { _root_.Go.OpenSpec.ofChange s with cond := some uptoSmall }

/-- 'tegulalaw01.Gf256Fused', WHERE WHAT IT READS IS OF BULK AT MOST 1048576: true; the input reads as it did. -/
def gf256FusedUptoRow : OpenClaim := { program := "ytlggemhgoipjmab", sum := "f16e8613ff2570a8100c875acdd4e62c2c82913db6041a1a2465e31fab54a7a3", func := "tegula/tegulalaw01.Gf256Fused", spec := "gf256Fused", apart := false, narrowed := true }
def Gf256FusedUptoSaid : Prop := gf256FusedUptoRow.holds Try.pinned (OpenSpec.upto gf256FusedSpec)

/-- 'tegulalaw01.Gf256Undone', WHERE WHAT IT READS IS OF BULK AT MOST 1048576: true; the input reads as it did. -/
def gf256UndoneUptoRow : OpenClaim := { program := "ytlggemhgoipjmab", sum := "f16e8613ff2570a8100c875acdd4e62c2c82913db6041a1a2465e31fab54a7a3", func := "tegula/tegulalaw01.Gf256Undone", spec := "gf256Undone", apart := false, narrowed := true }
def Gf256UndoneUptoSaid : Prop := gf256UndoneUptoRow.holds Try.pinned (OpenSpec.upto gf256UndoneSpec)

end Rows
end Go.Proofs.Ytlggemhgoipjmab
