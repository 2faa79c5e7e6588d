/-
  DERIVED. GIVEN WITH THE SEED: THE CARDS: each row of YtocodcceimeiiaaDoorRows.lean that lists a variable, with what it lists TIED to the program's text (the seventh form; the later family's looks); each row that meets fmt, with fmt's text TOLD by the authors' own Lean function (tested against real Go, not proved from fmt's source: count such statements apart). THE CARD IS WHAT COUNTS. Prove the row's statement (the work); the ties are given (YtocodcceimeiiaaDoorTie.lean); close each card by the builder's one call (the guide's Derived/Test/ToyasCard.lean, 'card_holds'). Laid BY PROGRAM, IN A SANDBOX (cutbox-door.mjs). By AI agents, Wed Nov 11 2026. No macro, syntax, notation, axiom, sorry.
-/
import Derived.Test.YtocodcceimeiiaaDoorRows
import GoSem.ClaimSeven
namespace Go.Proofs.YtocodcceimeiiaaDoor
namespace Rows

/-- THE TIED CARD OF 'pilasterlaw19.WireTakes'. -/
def wireTakesCard : Claim7 := { stood := { row := wireTakesRow, standIns := [], harness := (true, "fddd872c3e40b80a1509be0139cf008b75abe4e5dad9a37fd16807b01823a8c6"), looks := false }, kinds := [], alts := [], laidByText := true, laidKinds := [.data, .pinned], laidTests := true, laidLooks := .later }
def WireTakesCardSaid : Prop := Claim7.holds Tryd.pinned (.plain (OpenSpec.ofChange wireTakesSpec)) wireTakesCard

/-- THE TIED CARD OF 'pilasterlaw19.WireValues'. -/
def wireValuesCard : Claim7 := { stood := { row := wireValuesRow, standIns := [], harness := (true, "fddd872c3e40b80a1509be0139cf008b75abe4e5dad9a37fd16807b01823a8c6"), looks := false }, kinds := [], alts := [], laidByText := true, laidKinds := [.data, .pinned], laidTests := true, laidLooks := .later }
def WireValuesCardSaid : Prop := Claim7.holds Tryd.pinned (.plain (OpenSpec.ofChange wireValuesSpec)) wireValuesCard

/-- THE SECOND FORM's CARD OF 'pilasterlaw19.WireTakes'. -/
def wireTakesUptoCard : Claim7 := { stood := { row := wireTakesUptoRow, standIns := [], harness := (true, "fddd872c3e40b80a1509be0139cf008b75abe4e5dad9a37fd16807b01823a8c6"), looks := false }, kinds := [], alts := [], laidByText := true, laidKinds := [.data, .pinned], laidTests := true, laidLooks := .later }
def WireTakesUptoCardSaid : Prop := Claim7.holds Tryd.pinned (.plain (OpenSpec.upto wireTakesSpec)) wireTakesUptoCard

/-- THE SECOND FORM's CARD OF 'pilasterlaw19.WireValues'. -/
def wireValuesUptoCard : Claim7 := { stood := { row := wireValuesUptoRow, standIns := [], harness := (true, "fddd872c3e40b80a1509be0139cf008b75abe4e5dad9a37fd16807b01823a8c6"), looks := false }, kinds := [], alts := [], laidByText := true, laidKinds := [.data, .pinned], laidTests := true, laidLooks := .later }
def WireValuesUptoCardSaid : Prop := Claim7.holds Tryd.pinned (.plain (OpenSpec.upto wireValuesSpec)) wireValuesUptoCard
end Rows
end Go.Proofs.YtocodcceimeiiaaDoor
