/-
  DERIVED. GIVEN WITH THE SEED: THE CARDS: each row of YtclmlcoikohceaaDoorRows.lean that lists a variable, with what it lists TIED to the program's text (the seventh form; the later family's looks); each row that meets fmt, with fmt's text TOLD by the authors' own Lean function (tested against real Go, not proved from fmt's source: count such statements apart). THE CARD IS WHAT COUNTS. Prove the row's statement (the work); the ties are given (YtclmlcoikohceaaDoorTie.lean); close each card by the builder's one call (the guide's Derived/Test/ToyasCard.lean, 'card_holds'). Laid BY PROGRAM, IN A SANDBOX (cutbox-door.mjs). By AI agents, Wed Nov 11 2026. No macro, syntax, notation, axiom, sorry.
-/
import Derived.Test.YtclmlcoikohceaaDoorRows
import GoSem.ClaimSeven
namespace Go.Proofs.YtclmlcoikohceaaDoor
namespace Rows

/-- THE TIED CARD OF 'tegulalaw05.SmallfieldSizes'. -/
def smallfieldSizesCard : Claim7 := { stood := { row := smallfieldSizesRow, standIns := [], harness := (true, "128e74fdbe5c7bf6f777372a62571db85c8de6aa2d8f18e1f28d93d736e95f10"), looks := false }, kinds := [], alts := [], laidByText := true, laidKinds := [.data], laidTests := true, laidLooks := .later }
def SmallfieldSizesCardSaid : Prop := Claim7.holds Tryd.pinned (.plain (OpenSpec.ofChange smallfieldSizesSpec)) smallfieldSizesCard

/-- THE TIED CARD OF 'tegulalaw05.SmallfieldTables'. -/
def smallfieldTablesCard : Claim7 := { stood := { row := smallfieldTablesRow, standIns := [], harness := (true, "128e74fdbe5c7bf6f777372a62571db85c8de6aa2d8f18e1f28d93d736e95f10"), looks := false }, kinds := [], alts := [], laidByText := true, laidKinds := [.data], laidTests := true, laidLooks := .later }
def SmallfieldTablesCardSaid : Prop := Claim7.holds Tryd.pinned (.plain (OpenSpec.ofChange smallfieldTablesSpec)) smallfieldTablesCard

/-- THE TIED CARD OF 'tegulalaw05.SmallfieldNil'. -/
def smallfieldNilCard : Claim7 := { stood := { row := smallfieldNilRow, standIns := [], harness := (true, "128e74fdbe5c7bf6f777372a62571db85c8de6aa2d8f18e1f28d93d736e95f10"), looks := false }, kinds := [], alts := [], laidByText := true, laidKinds := [.data], laidTests := true, laidLooks := .later }
def SmallfieldNilCardSaid : Prop := Claim7.holds Tryd.pinned (.plain (OpenSpec.ofChange smallfieldNilSpec)) smallfieldNilCard

/-- THE TIED CARD OF 'tegulalaw05.SmallfieldAxioms'. -/
def smallfieldAxiomsCard : Claim7 := { stood := { row := smallfieldAxiomsRow, standIns := [], harness := (true, "128e74fdbe5c7bf6f777372a62571db85c8de6aa2d8f18e1f28d93d736e95f10"), looks := false }, kinds := [], alts := [], laidByText := true, laidKinds := [.data], laidTests := true, laidLooks := .later }
def SmallfieldAxiomsCardSaid : Prop := Claim7.holds Tryd.pinned (.plain (OpenSpec.ofChange smallfieldAxiomsSpec)) smallfieldAxiomsCard

/-- THE TIED CARD OF 'tegulalaw05.SmallfieldInverses'. -/
def smallfieldInversesCard : Claim7 := { stood := { row := smallfieldInversesRow, standIns := [], harness := (true, "128e74fdbe5c7bf6f777372a62571db85c8de6aa2d8f18e1f28d93d736e95f10"), looks := false }, kinds := [], alts := [], laidByText := true, laidKinds := [.data], laidTests := true, laidLooks := .later }
def SmallfieldInversesCardSaid : Prop := Claim7.holds Tryd.pinned (.plain (OpenSpec.ofChange smallfieldInversesSpec)) smallfieldInversesCard

/-- THE TIED CARD OF 'tegulalaw05.SmallfieldPrime'. -/
def smallfieldPrimeCard : Claim7 := { stood := { row := smallfieldPrimeRow, standIns := [], harness := (true, "128e74fdbe5c7bf6f777372a62571db85c8de6aa2d8f18e1f28d93d736e95f10"), looks := false }, kinds := [], alts := [], laidByText := true, laidKinds := [.data], laidTests := true, laidLooks := .later }
def SmallfieldPrimeCardSaid : Prop := Claim7.holds Tryd.pinned (.plain (OpenSpec.ofChange smallfieldPrimeSpec)) smallfieldPrimeCard

/-- THE TIED CARD OF 'tegulalaw05.SmallfieldCyclic'. -/
def smallfieldCyclicCard : Claim7 := { stood := { row := smallfieldCyclicRow, standIns := [], harness := (true, "128e74fdbe5c7bf6f777372a62571db85c8de6aa2d8f18e1f28d93d736e95f10"), looks := false }, kinds := [], alts := [], laidByText := true, laidKinds := [.data], laidTests := true, laidLooks := .later }
def SmallfieldCyclicCardSaid : Prop := Claim7.holds Tryd.pinned (.plain (OpenSpec.ofChange smallfieldCyclicSpec)) smallfieldCyclicCard

/-- THE SECOND FORM's CARD OF 'tegulalaw05.SmallfieldSizes'. -/
def smallfieldSizesUptoCard : Claim7 := { stood := { row := smallfieldSizesUptoRow, standIns := [], harness := (true, "128e74fdbe5c7bf6f777372a62571db85c8de6aa2d8f18e1f28d93d736e95f10"), looks := false }, kinds := [], alts := [], laidByText := true, laidKinds := [.data], laidTests := true, laidLooks := .later }
def SmallfieldSizesUptoCardSaid : Prop := Claim7.holds Tryd.pinned (.plain (OpenSpec.upto smallfieldSizesSpec)) smallfieldSizesUptoCard

/-- THE SECOND FORM's CARD OF 'tegulalaw05.SmallfieldTables'. -/
def smallfieldTablesUptoCard : Claim7 := { stood := { row := smallfieldTablesUptoRow, standIns := [], harness := (true, "128e74fdbe5c7bf6f777372a62571db85c8de6aa2d8f18e1f28d93d736e95f10"), looks := false }, kinds := [], alts := [], laidByText := true, laidKinds := [.data], laidTests := true, laidLooks := .later }
def SmallfieldTablesUptoCardSaid : Prop := Claim7.holds Tryd.pinned (.plain (OpenSpec.upto smallfieldTablesSpec)) smallfieldTablesUptoCard

/-- THE SECOND FORM's CARD OF 'tegulalaw05.SmallfieldNil'. -/
def smallfieldNilUptoCard : Claim7 := { stood := { row := smallfieldNilUptoRow, standIns := [], harness := (true, "128e74fdbe5c7bf6f777372a62571db85c8de6aa2d8f18e1f28d93d736e95f10"), looks := false }, kinds := [], alts := [], laidByText := true, laidKinds := [.data], laidTests := true, laidLooks := .later }
def SmallfieldNilUptoCardSaid : Prop := Claim7.holds Tryd.pinned (.plain (OpenSpec.upto smallfieldNilSpec)) smallfieldNilUptoCard

/-- THE SECOND FORM's CARD OF 'tegulalaw05.SmallfieldAxioms'. -/
def smallfieldAxiomsUptoCard : Claim7 := { stood := { row := smallfieldAxiomsUptoRow, standIns := [], harness := (true, "128e74fdbe5c7bf6f777372a62571db85c8de6aa2d8f18e1f28d93d736e95f10"), looks := false }, kinds := [], alts := [], laidByText := true, laidKinds := [.data], laidTests := true, laidLooks := .later }
def SmallfieldAxiomsUptoCardSaid : Prop := Claim7.holds Tryd.pinned (.plain (OpenSpec.upto smallfieldAxiomsSpec)) smallfieldAxiomsUptoCard

/-- THE SECOND FORM's CARD OF 'tegulalaw05.SmallfieldInverses'. -/
def smallfieldInversesUptoCard : Claim7 := { stood := { row := smallfieldInversesUptoRow, standIns := [], harness := (true, "128e74fdbe5c7bf6f777372a62571db85c8de6aa2d8f18e1f28d93d736e95f10"), looks := false }, kinds := [], alts := [], laidByText := true, laidKinds := [.data], laidTests := true, laidLooks := .later }
def SmallfieldInversesUptoCardSaid : Prop := Claim7.holds Tryd.pinned (.plain (OpenSpec.upto smallfieldInversesSpec)) smallfieldInversesUptoCard

/-- THE SECOND FORM's CARD OF 'tegulalaw05.SmallfieldPrime'. -/
def smallfieldPrimeUptoCard : Claim7 := { stood := { row := smallfieldPrimeUptoRow, standIns := [], harness := (true, "128e74fdbe5c7bf6f777372a62571db85c8de6aa2d8f18e1f28d93d736e95f10"), looks := false }, kinds := [], alts := [], laidByText := true, laidKinds := [.data], laidTests := true, laidLooks := .later }
def SmallfieldPrimeUptoCardSaid : Prop := Claim7.holds Tryd.pinned (.plain (OpenSpec.upto smallfieldPrimeSpec)) smallfieldPrimeUptoCard

/-- THE SECOND FORM's CARD OF 'tegulalaw05.SmallfieldCyclic'. -/
def smallfieldCyclicUptoCard : Claim7 := { stood := { row := smallfieldCyclicUptoRow, standIns := [], harness := (true, "128e74fdbe5c7bf6f777372a62571db85c8de6aa2d8f18e1f28d93d736e95f10"), looks := false }, kinds := [], alts := [], laidByText := true, laidKinds := [.data], laidTests := true, laidLooks := .later }
def SmallfieldCyclicUptoCardSaid : Prop := Claim7.holds Tryd.pinned (.plain (OpenSpec.upto smallfieldCyclicSpec)) smallfieldCyclicUptoCard
end Rows
end Go.Proofs.YtclmlcoikohceaaDoor
