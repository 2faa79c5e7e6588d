/-
  DERIVED. GIVEN WITH THE SEED: THE CARDS: each row of YtdcgkjcefbceeaaDoorRows.lean that lists a variable, with what it lists TIED to the program's text (the seventh form; the later family's looks); each row that meets fmt, with fmt's text TOLD by the authors' own Lean function (tested against real Go, not proved from fmt's source: count such statements apart). THE CARD IS WHAT COUNTS. Prove the row's statement (the work); the ties are given (YtdcgkjcefbceeaaDoorTie.lean); close each card by the builder's one call (the guide's Derived/Test/ToyasCard.lean, 'card_holds'). Laid BY PROGRAM, IN A SANDBOX (cutbox-door.mjs). By AI agents, Wed Nov 11 2026. No macro, syntax, notation, axiom, sorry.
-/
import Derived.Test.YtdcgkjcefbceeaaDoorRows
import GoSem.ClaimSeven
namespace Go.Proofs.YtdcgkjcefbceeaaDoor
namespace Rows

/-- THE TIED CARD OF 'pilasterlaw10.PatchedPuts'. -/
def patchedPutsCard : Claim7 := { stood := { row := patchedPutsRow, standIns := [], harness := (true, "52648e96132cfbd6f01f33d31ac3b48f4e562e7e8f06cbfd3d11f05652691adf"), looks := false }, kinds := [], alts := [], laidByText := true, laidKinds := [.data], laidTests := true, laidLooks := .later }
def PatchedPutsCardSaid : Prop := Claim7.holds Tryd.pinned (.plain (OpenSpec.ofChange patchedPutsSpec)) patchedPutsCard

/-- THE TIED CARD OF 'pilasterlaw10.PatchedTakes'. -/
def patchedTakesCard : Claim7 := { stood := { row := patchedTakesRow, standIns := [], harness := (true, "52648e96132cfbd6f01f33d31ac3b48f4e562e7e8f06cbfd3d11f05652691adf"), looks := false }, kinds := [], alts := [], laidByText := true, laidKinds := [.data], laidTests := true, laidLooks := .later }
def PatchedTakesCardSaid : Prop := Claim7.holds Tryd.pinned (.plain (OpenSpec.ofChange patchedTakesSpec)) patchedTakesCard

/-- THE TIED CARD OF 'pilasterlaw10.PatchedBack'. -/
def patchedBackCard : Claim7 := { stood := { row := patchedBackRow, standIns := [], harness := (true, "52648e96132cfbd6f01f33d31ac3b48f4e562e7e8f06cbfd3d11f05652691adf"), looks := false }, kinds := [], alts := [], laidByText := true, laidKinds := [.data], laidTests := true, laidLooks := .later }
def PatchedBackCardSaid : Prop := Claim7.holds Tryd.pinned (.plain (OpenSpec.ofChange patchedBackSpec)) patchedBackCard

/-- THE TIED CARD OF 'pilasterlaw10.PatchedFew'. -/
def patchedFewCard : Claim7 := { stood := { row := patchedFewRow, standIns := [], harness := (true, "52648e96132cfbd6f01f33d31ac3b48f4e562e7e8f06cbfd3d11f05652691adf"), looks := false }, kinds := [], alts := [], laidByText := true, laidKinds := [.data], laidTests := true, laidLooks := .later }
def PatchedFewCardSaid : Prop := Claim7.holds Tryd.pinned (.plain (OpenSpec.ofChange patchedFewSpec)) patchedFewCard

/-- THE SECOND FORM's CARD OF 'pilasterlaw10.PatchedPuts'. -/
def patchedPutsUptoCard : Claim7 := { stood := { row := patchedPutsUptoRow, standIns := [], harness := (true, "52648e96132cfbd6f01f33d31ac3b48f4e562e7e8f06cbfd3d11f05652691adf"), looks := false }, kinds := [], alts := [], laidByText := true, laidKinds := [.data], laidTests := true, laidLooks := .later }
def PatchedPutsUptoCardSaid : Prop := Claim7.holds Tryd.pinned (.plain (OpenSpec.upto patchedPutsSpec)) patchedPutsUptoCard

/-- THE SECOND FORM's CARD OF 'pilasterlaw10.PatchedTakes'. -/
def patchedTakesUptoCard : Claim7 := { stood := { row := patchedTakesUptoRow, standIns := [], harness := (true, "52648e96132cfbd6f01f33d31ac3b48f4e562e7e8f06cbfd3d11f05652691adf"), looks := false }, kinds := [], alts := [], laidByText := true, laidKinds := [.data], laidTests := true, laidLooks := .later }
def PatchedTakesUptoCardSaid : Prop := Claim7.holds Tryd.pinned (.plain (OpenSpec.upto patchedTakesSpec)) patchedTakesUptoCard

/-- THE SECOND FORM's CARD OF 'pilasterlaw10.PatchedBack'. -/
def patchedBackUptoCard : Claim7 := { stood := { row := patchedBackUptoRow, standIns := [], harness := (true, "52648e96132cfbd6f01f33d31ac3b48f4e562e7e8f06cbfd3d11f05652691adf"), looks := false }, kinds := [], alts := [], laidByText := true, laidKinds := [.data], laidTests := true, laidLooks := .later }
def PatchedBackUptoCardSaid : Prop := Claim7.holds Tryd.pinned (.plain (OpenSpec.upto patchedBackSpec)) patchedBackUptoCard

/-- THE SECOND FORM's CARD OF 'pilasterlaw10.PatchedFew'. -/
def patchedFewUptoCard : Claim7 := { stood := { row := patchedFewUptoRow, standIns := [], harness := (true, "52648e96132cfbd6f01f33d31ac3b48f4e562e7e8f06cbfd3d11f05652691adf"), looks := false }, kinds := [], alts := [], laidByText := true, laidKinds := [.data], laidTests := true, laidLooks := .later }
def PatchedFewUptoCardSaid : Prop := Claim7.holds Tryd.pinned (.plain (OpenSpec.upto patchedFewSpec)) patchedFewUptoCard
end Rows
end Go.Proofs.YtdcgkjcefbceeaaDoor
