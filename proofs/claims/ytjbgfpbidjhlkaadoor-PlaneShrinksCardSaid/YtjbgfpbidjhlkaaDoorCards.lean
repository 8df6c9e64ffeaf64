/-
  DERIVED. GIVEN WITH THE SEED: THE CARDS: each row of YtjbgfpbidjhlkaaDoorRows.lean that lists a variable, with what it lists TIED to the program's text (the seventh form; the later family's looks); each row that meets fmt, with fmt's text TOLD by the authors' own Lean function (tested against real Go, not proved from fmt's source: count such statements apart). THE CARD IS WHAT COUNTS. Prove the row's statement (the work); the ties are given (YtjbgfpbidjhlkaaDoorTie.lean); close each card by the builder's one call (the guide's Derived/Test/ToyasCard.lean, 'card_holds'). Laid BY PROGRAM, IN A SANDBOX (cutbox-door.mjs). By AI agents, Wed Nov 11 2026. No macro, syntax, notation, axiom, sorry.
-/
import Derived.Test.YtjbgfpbidjhlkaaDoorRows
import GoSem.ClaimSeven
namespace Go.Proofs.YtjbgfpbidjhlkaaDoor
namespace Rows

/-- THE TIED CARD OF 'tegulalaw06.PlaneProjective'. -/
def planeProjectiveCard : Claim7 := { stood := { row := planeProjectiveRow, standIns := [], harness := (true, "cebe2905754471878c778a1470b821e12d12d87adb64fa0d51f805e4f08eb5ac"), looks := false }, kinds := [], alts := [], laidByText := true, laidKinds := [.data], laidTests := true, laidLooks := .later }
def PlaneProjectiveCardSaid : Prop := Claim7.holds Tryd.pinned (.plain (OpenSpec.ofChange planeProjectiveSpec)) planeProjectiveCard

/-- THE TIED CARD OF 'tegulalaw06.PlaneAffine'. -/
def planeAffineCard : Claim7 := { stood := { row := planeAffineRow, standIns := [], harness := (true, "cebe2905754471878c778a1470b821e12d12d87adb64fa0d51f805e4f08eb5ac"), looks := false }, kinds := [], alts := [], laidByText := true, laidKinds := [.data], laidTests := true, laidLooks := .later }
def PlaneAffineCardSaid : Prop := Claim7.holds Tryd.pinned (.plain (OpenSpec.ofChange planeAffineSpec)) planeAffineCard

/-- THE TIED CARD OF 'tegulalaw06.PlaneErrors'. -/
def planeErrorsCard : Claim7 := { stood := { row := planeErrorsRow, standIns := [], harness := (true, "cebe2905754471878c778a1470b821e12d12d87adb64fa0d51f805e4f08eb5ac"), looks := false }, kinds := [], alts := [], laidByText := true, laidKinds := [.data], laidTests := true, laidLooks := .later }
def PlaneErrorsCardSaid : Prop := Claim7.holds Tryd.pinned (.plain (OpenSpec.ofChange planeErrorsSpec)) planeErrorsCard

/-- THE TIED CARD OF 'tegulalaw06.PlaneMeet'. -/
def planeMeetCard : Claim7 := { stood := { row := planeMeetRow, standIns := [], harness := (true, "cebe2905754471878c778a1470b821e12d12d87adb64fa0d51f805e4f08eb5ac"), looks := false }, kinds := [], alts := [], laidByText := true, laidKinds := [.data], laidTests := true, laidLooks := .later }
def PlaneMeetCardSaid : Prop := Claim7.holds Tryd.pinned (.plain (OpenSpec.ofChange planeMeetSpec)) planeMeetCard

/-- THE TIED CARD OF 'tegulalaw06.PlaneJoin'. -/
def planeJoinCard : Claim7 := { stood := { row := planeJoinRow, standIns := [], harness := (true, "cebe2905754471878c778a1470b821e12d12d87adb64fa0d51f805e4f08eb5ac"), looks := false }, kinds := [], alts := [], laidByText := true, laidKinds := [.data], laidTests := true, laidLooks := .later }
def PlaneJoinCardSaid : Prop := Claim7.holds Tryd.pinned (.plain (OpenSpec.ofChange planeJoinSpec)) planeJoinCard

/-- THE TIED CARD OF 'tegulalaw06.PlaneDual'. -/
def planeDualCard : Claim7 := { stood := { row := planeDualRow, standIns := [], harness := (true, "cebe2905754471878c778a1470b821e12d12d87adb64fa0d51f805e4f08eb5ac"), looks := false }, kinds := [], alts := [], laidByText := true, laidKinds := [.data], laidTests := true, laidLooks := .later }
def PlaneDualCardSaid : Prop := Claim7.holds Tryd.pinned (.plain (OpenSpec.ofChange planeDualSpec)) planeDualCard

/-- THE TIED CARD OF 'tegulalaw06.PlaneParallel'. -/
def planeParallelCard : Claim7 := { stood := { row := planeParallelRow, standIns := [], harness := (true, "cebe2905754471878c778a1470b821e12d12d87adb64fa0d51f805e4f08eb5ac"), looks := false }, kinds := [], alts := [], laidByText := true, laidKinds := [.data], laidTests := true, laidLooks := .later }
def PlaneParallelCardSaid : Prop := Claim7.holds Tryd.pinned (.plain (OpenSpec.ofChange planeParallelSpec)) planeParallelCard

/-- THE TIED CARD OF 'tegulalaw06.PlaneShrinks'. -/
def planeShrinksCard : Claim7 := { stood := { row := planeShrinksRow, standIns := [], harness := (true, "cebe2905754471878c778a1470b821e12d12d87adb64fa0d51f805e4f08eb5ac"), looks := false }, kinds := [], alts := [], laidByText := true, laidKinds := [.data], laidTests := true, laidLooks := .later }
def PlaneShrinksCardSaid : Prop := Claim7.holds Tryd.pinned (.plain (OpenSpec.ofChange planeShrinksSpec)) planeShrinksCard

/-- THE SECOND FORM's CARD OF 'tegulalaw06.PlaneProjective'. -/
def planeProjectiveUptoCard : Claim7 := { stood := { row := planeProjectiveUptoRow, standIns := [], harness := (true, "cebe2905754471878c778a1470b821e12d12d87adb64fa0d51f805e4f08eb5ac"), looks := false }, kinds := [], alts := [], laidByText := true, laidKinds := [.data], laidTests := true, laidLooks := .later }
def PlaneProjectiveUptoCardSaid : Prop := Claim7.holds Tryd.pinned (.plain (OpenSpec.upto planeProjectiveSpec)) planeProjectiveUptoCard

/-- THE SECOND FORM's CARD OF 'tegulalaw06.PlaneAffine'. -/
def planeAffineUptoCard : Claim7 := { stood := { row := planeAffineUptoRow, standIns := [], harness := (true, "cebe2905754471878c778a1470b821e12d12d87adb64fa0d51f805e4f08eb5ac"), looks := false }, kinds := [], alts := [], laidByText := true, laidKinds := [.data], laidTests := true, laidLooks := .later }
def PlaneAffineUptoCardSaid : Prop := Claim7.holds Tryd.pinned (.plain (OpenSpec.upto planeAffineSpec)) planeAffineUptoCard

/-- THE SECOND FORM's CARD OF 'tegulalaw06.PlaneErrors'. -/
def planeErrorsUptoCard : Claim7 := { stood := { row := planeErrorsUptoRow, standIns := [], harness := (true, "cebe2905754471878c778a1470b821e12d12d87adb64fa0d51f805e4f08eb5ac"), looks := false }, kinds := [], alts := [], laidByText := true, laidKinds := [.data], laidTests := true, laidLooks := .later }
def PlaneErrorsUptoCardSaid : Prop := Claim7.holds Tryd.pinned (.plain (OpenSpec.upto planeErrorsSpec)) planeErrorsUptoCard

/-- THE SECOND FORM's CARD OF 'tegulalaw06.PlaneMeet'. -/
def planeMeetUptoCard : Claim7 := { stood := { row := planeMeetUptoRow, standIns := [], harness := (true, "cebe2905754471878c778a1470b821e12d12d87adb64fa0d51f805e4f08eb5ac"), looks := false }, kinds := [], alts := [], laidByText := true, laidKinds := [.data], laidTests := true, laidLooks := .later }
def PlaneMeetUptoCardSaid : Prop := Claim7.holds Tryd.pinned (.plain (OpenSpec.upto planeMeetSpec)) planeMeetUptoCard

/-- THE SECOND FORM's CARD OF 'tegulalaw06.PlaneJoin'. -/
def planeJoinUptoCard : Claim7 := { stood := { row := planeJoinUptoRow, standIns := [], harness := (true, "cebe2905754471878c778a1470b821e12d12d87adb64fa0d51f805e4f08eb5ac"), looks := false }, kinds := [], alts := [], laidByText := true, laidKinds := [.data], laidTests := true, laidLooks := .later }
def PlaneJoinUptoCardSaid : Prop := Claim7.holds Tryd.pinned (.plain (OpenSpec.upto planeJoinSpec)) planeJoinUptoCard

/-- THE SECOND FORM's CARD OF 'tegulalaw06.PlaneDual'. -/
def planeDualUptoCard : Claim7 := { stood := { row := planeDualUptoRow, standIns := [], harness := (true, "cebe2905754471878c778a1470b821e12d12d87adb64fa0d51f805e4f08eb5ac"), looks := false }, kinds := [], alts := [], laidByText := true, laidKinds := [.data], laidTests := true, laidLooks := .later }
def PlaneDualUptoCardSaid : Prop := Claim7.holds Tryd.pinned (.plain (OpenSpec.upto planeDualSpec)) planeDualUptoCard

/-- THE SECOND FORM's CARD OF 'tegulalaw06.PlaneParallel'. -/
def planeParallelUptoCard : Claim7 := { stood := { row := planeParallelUptoRow, standIns := [], harness := (true, "cebe2905754471878c778a1470b821e12d12d87adb64fa0d51f805e4f08eb5ac"), looks := false }, kinds := [], alts := [], laidByText := true, laidKinds := [.data], laidTests := true, laidLooks := .later }
def PlaneParallelUptoCardSaid : Prop := Claim7.holds Tryd.pinned (.plain (OpenSpec.upto planeParallelSpec)) planeParallelUptoCard

/-- THE SECOND FORM's CARD OF 'tegulalaw06.PlaneShrinks'. -/
def planeShrinksUptoCard : Claim7 := { stood := { row := planeShrinksUptoRow, standIns := [], harness := (true, "cebe2905754471878c778a1470b821e12d12d87adb64fa0d51f805e4f08eb5ac"), looks := false }, kinds := [], alts := [], laidByText := true, laidKinds := [.data], laidTests := true, laidLooks := .later }
def PlaneShrinksUptoCardSaid : Prop := Claim7.holds Tryd.pinned (.plain (OpenSpec.upto planeShrinksSpec)) planeShrinksUptoCard
end Rows
end Go.Proofs.YtjbgfpbidjhlkaaDoor
