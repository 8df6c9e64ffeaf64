/-
  DERIVED. GIVEN WITH THE SEED: THE CARDS: each row of YtnnacofjogfkeaaDoorRows.lean that lists a variable, with what it lists TIED to the program's text (the seventh form; the later family's looks); each row that meets fmt, with fmt's text TOLD by the authors' own Lean function (tested against real Go, not proved from fmt's source: count such statements apart). THE CARD IS WHAT COUNTS. Prove the row's statement (the work); the ties are given (YtnnacofjogfkeaaDoorTie.lean); close each card by the builder's one call (the guide's Derived/Test/ToyasCard.lean, 'card_holds'). Laid BY PROGRAM, IN A SANDBOX (cutbox-door.mjs). By AI agents, Wed Nov 11 2026. No macro, syntax, notation, axiom, sorry.
-/
import Derived.Test.YtnnacofjogfkeaaDoorRows
import GoSem.ClaimSeven
namespace Go.Proofs.YtnnacofjogfkeaaDoor
namespace Rows

/-- THE TIED CARD OF 'tegulalaw07.DesignComplete'. -/
def designCompleteCard : Claim7 := { stood := { row := designCompleteRow, standIns := [], harness := (true, "b64832b119bae02f03bcbaeb854874b5054554868b719e539a923bb85600f87f"), looks := false }, kinds := [], alts := [], laidByText := true, laidKinds := [.data, .data], laidTests := true, laidLooks := .later }
def DesignCompleteCardSaid : Prop := Claim7.holds Tryd.pinned (.plain (OpenSpec.ofChange designCompleteSpec)) designCompleteCard

/-- THE TIED CARD OF 'tegulalaw07.DesignCheck'. -/
def designCheckCard : Claim7 := { stood := { row := designCheckRow, standIns := [], harness := (true, "b64832b119bae02f03bcbaeb854874b5054554868b719e539a923bb85600f87f"), looks := false }, kinds := [], alts := [], laidByText := true, laidKinds := [.data, .data], laidTests := true, laidLooks := .later }
def DesignCheckCardSaid : Prop := Claim7.holds Tryd.pinned (.plain (OpenSpec.ofChange designCheckSpec)) designCheckCard

/-- THE TIED CARD OF 'tegulalaw07.DesignChoose'. -/
def designChooseCard : Claim7 := { stood := { row := designChooseRow, standIns := [], harness := (true, "b64832b119bae02f03bcbaeb854874b5054554868b719e539a923bb85600f87f"), looks := false }, kinds := [], alts := [], laidByText := true, laidKinds := [.data, .data], laidTests := true, laidLooks := .later }
def DesignChooseCardSaid : Prop := Claim7.holds Tryd.pinned (.plain (OpenSpec.ofChange designChooseSpec)) designChooseCard

/-- THE TIED CARD OF 'tegulalaw07.DesignBalanced'. -/
def designBalancedCard : Claim7 := { stood := { row := designBalancedRow, standIns := [], harness := (true, "b64832b119bae02f03bcbaeb854874b5054554868b719e539a923bb85600f87f"), looks := false }, kinds := [], alts := [], laidByText := true, laidKinds := [.data, .data], laidTests := true, laidLooks := .later }
def DesignBalancedCardSaid : Prop := Claim7.holds Tryd.pinned (.plain (OpenSpec.ofChange designBalancedSpec)) designBalancedCard

/-- THE TIED CARD OF 'tegulalaw07.DesignShared'. -/
def designSharedCard : Claim7 := { stood := { row := designSharedRow, standIns := [], harness := (true, "b64832b119bae02f03bcbaeb854874b5054554868b719e539a923bb85600f87f"), looks := false }, kinds := [], alts := [], laidByText := true, laidKinds := [.data, .data], laidTests := true, laidLooks := .later }
def DesignSharedCardSaid : Prop := Claim7.holds Tryd.pinned (.plain (OpenSpec.ofChange designSharedSpec)) designSharedCard

/-- THE TIED CARD OF 'tegulalaw07.DesignPairs'. -/
def designPairsCard : Claim7 := { stood := { row := designPairsRow, standIns := [], harness := (true, "b64832b119bae02f03bcbaeb854874b5054554868b719e539a923bb85600f87f"), looks := false }, kinds := [], alts := [], laidByText := true, laidKinds := [.data, .data], laidTests := true, laidLooks := .later }
def DesignPairsCardSaid : Prop := Claim7.holds Tryd.pinned (.plain (OpenSpec.ofChange designPairsSpec)) designPairsCard

/-- THE TIED CARD OF 'tegulalaw07.DesignTwice'. -/
def designTwiceCard : Claim7 := { stood := { row := designTwiceRow, standIns := [], harness := (true, "b64832b119bae02f03bcbaeb854874b5054554868b719e539a923bb85600f87f"), looks := false }, kinds := [], alts := [], laidByText := true, laidKinds := [.data, .data], laidTests := true, laidLooks := .later }
def DesignTwiceCardSaid : Prop := Claim7.holds Tryd.pinned (.plain (OpenSpec.ofChange designTwiceSpec)) designTwiceCard

/-- THE SECOND FORM's CARD OF 'tegulalaw07.DesignComplete'. -/
def designCompleteUptoCard : Claim7 := { stood := { row := designCompleteUptoRow, standIns := [], harness := (true, "b64832b119bae02f03bcbaeb854874b5054554868b719e539a923bb85600f87f"), looks := false }, kinds := [], alts := [], laidByText := true, laidKinds := [.data, .data], laidTests := true, laidLooks := .later }
def DesignCompleteUptoCardSaid : Prop := Claim7.holds Tryd.pinned (.plain (OpenSpec.upto designCompleteSpec)) designCompleteUptoCard

/-- THE SECOND FORM's CARD OF 'tegulalaw07.DesignCheck'. -/
def designCheckUptoCard : Claim7 := { stood := { row := designCheckUptoRow, standIns := [], harness := (true, "b64832b119bae02f03bcbaeb854874b5054554868b719e539a923bb85600f87f"), looks := false }, kinds := [], alts := [], laidByText := true, laidKinds := [.data, .data], laidTests := true, laidLooks := .later }
def DesignCheckUptoCardSaid : Prop := Claim7.holds Tryd.pinned (.plain (OpenSpec.upto designCheckSpec)) designCheckUptoCard

/-- THE SECOND FORM's CARD OF 'tegulalaw07.DesignChoose'. -/
def designChooseUptoCard : Claim7 := { stood := { row := designChooseUptoRow, standIns := [], harness := (true, "b64832b119bae02f03bcbaeb854874b5054554868b719e539a923bb85600f87f"), looks := false }, kinds := [], alts := [], laidByText := true, laidKinds := [.data, .data], laidTests := true, laidLooks := .later }
def DesignChooseUptoCardSaid : Prop := Claim7.holds Tryd.pinned (.plain (OpenSpec.upto designChooseSpec)) designChooseUptoCard

/-- THE SECOND FORM's CARD OF 'tegulalaw07.DesignBalanced'. -/
def designBalancedUptoCard : Claim7 := { stood := { row := designBalancedUptoRow, standIns := [], harness := (true, "b64832b119bae02f03bcbaeb854874b5054554868b719e539a923bb85600f87f"), looks := false }, kinds := [], alts := [], laidByText := true, laidKinds := [.data, .data], laidTests := true, laidLooks := .later }
def DesignBalancedUptoCardSaid : Prop := Claim7.holds Tryd.pinned (.plain (OpenSpec.upto designBalancedSpec)) designBalancedUptoCard

/-- THE SECOND FORM's CARD OF 'tegulalaw07.DesignShared'. -/
def designSharedUptoCard : Claim7 := { stood := { row := designSharedUptoRow, standIns := [], harness := (true, "b64832b119bae02f03bcbaeb854874b5054554868b719e539a923bb85600f87f"), looks := false }, kinds := [], alts := [], laidByText := true, laidKinds := [.data, .data], laidTests := true, laidLooks := .later }
def DesignSharedUptoCardSaid : Prop := Claim7.holds Tryd.pinned (.plain (OpenSpec.upto designSharedSpec)) designSharedUptoCard

/-- THE SECOND FORM's CARD OF 'tegulalaw07.DesignPairs'. -/
def designPairsUptoCard : Claim7 := { stood := { row := designPairsUptoRow, standIns := [], harness := (true, "b64832b119bae02f03bcbaeb854874b5054554868b719e539a923bb85600f87f"), looks := false }, kinds := [], alts := [], laidByText := true, laidKinds := [.data, .data], laidTests := true, laidLooks := .later }
def DesignPairsUptoCardSaid : Prop := Claim7.holds Tryd.pinned (.plain (OpenSpec.upto designPairsSpec)) designPairsUptoCard

/-- THE SECOND FORM's CARD OF 'tegulalaw07.DesignTwice'. -/
def designTwiceUptoCard : Claim7 := { stood := { row := designTwiceUptoRow, standIns := [], harness := (true, "b64832b119bae02f03bcbaeb854874b5054554868b719e539a923bb85600f87f"), looks := false }, kinds := [], alts := [], laidByText := true, laidKinds := [.data, .data], laidTests := true, laidLooks := .later }
def DesignTwiceUptoCardSaid : Prop := Claim7.holds Tryd.pinned (.plain (OpenSpec.upto designTwiceSpec)) designTwiceUptoCard
end Rows
end Go.Proofs.YtnnacofjogfkeaaDoor
