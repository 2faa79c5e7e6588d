/-
  DERIVED. GIVEN WITH THE SEED: THE CARDS: each row of YtiapopaggpnceaaDoorRows.lean that lists a variable, with what it lists TIED to the program's text (the seventh form; the later family's looks); each row that meets fmt, with fmt's text TOLD by the authors' own Lean function (tested against real Go, not proved from fmt's source: count such statements apart). THE CARD IS WHAT COUNTS. Prove the row's statement (the work); the ties are given (YtiapopaggpnceaaDoorTie.lean); close each card by the builder's one call (the guide's Derived/Test/ToyasCard.lean, 'card_holds'). Laid BY PROGRAM, IN A SANDBOX (cutbox-door.mjs). By AI agents, Wed Nov 11 2026. No macro, syntax, notation, axiom, sorry.
-/
import Derived.Test.YtiapopaggpnceaaDoorRows
import GoSem.ClaimSeven
namespace Go.Proofs.YtiapopaggpnceaaDoor
namespace Rows

/-- THE TIED CARD OF 'pilasterlaw08.DirectHeads'. -/
def directHeadsCard : Claim7 := { stood := { row := directHeadsRow, standIns := [], harness := (true, "dc52f673ee9587fecf9d093ce401e89f84996a101fecbece8508b581064c45d0"), looks := false }, kinds := [], alts := [], laidByText := true, laidKinds := [.data], laidTests := true, laidLooks := .later }
def DirectHeadsCardSaid : Prop := Claim7.holds Tryd.pinned (.plain (OpenSpec.ofChange directHeadsSpec)) directHeadsCard

/-- THE TIED CARD OF 'pilasterlaw08.DirectPlain'. -/
def directPlainCard : Claim7 := { stood := { row := directPlainRow, standIns := [], harness := (true, "dc52f673ee9587fecf9d093ce401e89f84996a101fecbece8508b581064c45d0"), looks := false }, kinds := [], alts := [], laidByText := true, laidKinds := [.data], laidTests := true, laidLooks := .later }
def DirectPlainCardSaid : Prop := Claim7.holds Tryd.pinned (.plain (OpenSpec.ofChange directPlainSpec)) directPlainCard

/-- THE TIED CARD OF 'pilasterlaw08.DirectPuts'. -/
def directPutsCard : Claim7 := { stood := { row := directPutsRow, standIns := [], harness := (true, "dc52f673ee9587fecf9d093ce401e89f84996a101fecbece8508b581064c45d0"), looks := false }, kinds := [], alts := [], laidByText := true, laidKinds := [.data], laidTests := true, laidLooks := .later }
def DirectPutsCardSaid : Prop := Claim7.holds Tryd.pinned (.plain (OpenSpec.ofChange directPutsSpec)) directPutsCard

/-- THE TIED CARD OF 'pilasterlaw08.DirectTakes'. -/
def directTakesCard : Claim7 := { stood := { row := directTakesRow, standIns := [], harness := (true, "dc52f673ee9587fecf9d093ce401e89f84996a101fecbece8508b581064c45d0"), looks := false }, kinds := [], alts := [], laidByText := true, laidKinds := [.data], laidTests := true, laidLooks := .later }
def DirectTakesCardSaid : Prop := Claim7.holds Tryd.pinned (.plain (OpenSpec.ofChange directTakesSpec)) directTakesCard

/-- THE TIED CARD OF 'pilasterlaw08.DirectBack'. -/
def directBackCard : Claim7 := { stood := { row := directBackRow, standIns := [], harness := (true, "dc52f673ee9587fecf9d093ce401e89f84996a101fecbece8508b581064c45d0"), looks := false }, kinds := [], alts := [], laidByText := true, laidKinds := [.data], laidTests := true, laidLooks := .later }
def DirectBackCardSaid : Prop := Claim7.holds Tryd.pinned (.plain (OpenSpec.ofChange directBackSpec)) directBackCard

/-- THE SECOND FORM's CARD OF 'pilasterlaw08.DirectHeads'. -/
def directHeadsUptoCard : Claim7 := { stood := { row := directHeadsUptoRow, standIns := [], harness := (true, "dc52f673ee9587fecf9d093ce401e89f84996a101fecbece8508b581064c45d0"), looks := false }, kinds := [], alts := [], laidByText := true, laidKinds := [.data], laidTests := true, laidLooks := .later }
def DirectHeadsUptoCardSaid : Prop := Claim7.holds Tryd.pinned (.plain (OpenSpec.upto directHeadsSpec)) directHeadsUptoCard

/-- THE SECOND FORM's CARD OF 'pilasterlaw08.DirectPlain'. -/
def directPlainUptoCard : Claim7 := { stood := { row := directPlainUptoRow, standIns := [], harness := (true, "dc52f673ee9587fecf9d093ce401e89f84996a101fecbece8508b581064c45d0"), looks := false }, kinds := [], alts := [], laidByText := true, laidKinds := [.data], laidTests := true, laidLooks := .later }
def DirectPlainUptoCardSaid : Prop := Claim7.holds Tryd.pinned (.plain (OpenSpec.upto directPlainSpec)) directPlainUptoCard

/-- THE SECOND FORM's CARD OF 'pilasterlaw08.DirectPuts'. -/
def directPutsUptoCard : Claim7 := { stood := { row := directPutsUptoRow, standIns := [], harness := (true, "dc52f673ee9587fecf9d093ce401e89f84996a101fecbece8508b581064c45d0"), looks := false }, kinds := [], alts := [], laidByText := true, laidKinds := [.data], laidTests := true, laidLooks := .later }
def DirectPutsUptoCardSaid : Prop := Claim7.holds Tryd.pinned (.plain (OpenSpec.upto directPutsSpec)) directPutsUptoCard

/-- THE SECOND FORM's CARD OF 'pilasterlaw08.DirectTakes'. -/
def directTakesUptoCard : Claim7 := { stood := { row := directTakesUptoRow, standIns := [], harness := (true, "dc52f673ee9587fecf9d093ce401e89f84996a101fecbece8508b581064c45d0"), looks := false }, kinds := [], alts := [], laidByText := true, laidKinds := [.data], laidTests := true, laidLooks := .later }
def DirectTakesUptoCardSaid : Prop := Claim7.holds Tryd.pinned (.plain (OpenSpec.upto directTakesSpec)) directTakesUptoCard

/-- THE SECOND FORM's CARD OF 'pilasterlaw08.DirectBack'. -/
def directBackUptoCard : Claim7 := { stood := { row := directBackUptoRow, standIns := [], harness := (true, "dc52f673ee9587fecf9d093ce401e89f84996a101fecbece8508b581064c45d0"), looks := false }, kinds := [], alts := [], laidByText := true, laidKinds := [.data], laidTests := true, laidLooks := .later }
def DirectBackUptoCardSaid : Prop := Claim7.holds Tryd.pinned (.plain (OpenSpec.upto directBackSpec)) directBackUptoCard
end Rows
end Go.Proofs.YtiapopaggpnceaaDoor
