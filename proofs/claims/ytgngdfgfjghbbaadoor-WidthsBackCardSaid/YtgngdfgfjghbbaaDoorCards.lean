/-
  DERIVED. GIVEN WITH THE SEED: THE CARDS: each row of YtgngdfgfjghbbaaDoorRows.lean that lists a variable, with what it lists TIED to the program's text (the seventh form; the later family's looks); each row that meets fmt, with fmt's text TOLD by the authors' own Lean function (tested against real Go, not proved from fmt's source: count such statements apart). THE CARD IS WHAT COUNTS. Prove the row's statement (the work); the ties are given (YtgngdfgfjghbbaaDoorTie.lean); close each card by the builder's one call (the guide's Derived/Test/ToyasCard.lean, 'card_holds'). Laid BY PROGRAM, IN A SANDBOX (cutbox-door.mjs). By AI agents, Wed Nov 11 2026. No macro, syntax, notation, axiom, sorry.
-/
import Derived.Test.YtgngdfgfjghbbaaDoorRows
import GoSem.ClaimSeven
namespace Go.Proofs.YtgngdfgfjghbbaaDoor
namespace Rows

/-- THE TIED CARD OF 'pilasterlaw02.WidthsCodes'. -/
def widthsCodesCard : Claim7 := { stood := { row := widthsCodesRow, standIns := [], harness := (true, "c4c6cf7aa4b55302d89e2f64a2465ed16d11734bd0403b9847ee6d4be9aa5d95"), looks := false }, kinds := [], alts := [], laidByText := true, laidKinds := [.data], laidTests := true, laidLooks := .later }
def WidthsCodesCardSaid : Prop := Claim7.holds Tryd.pinned (.plain (OpenSpec.ofChange widthsCodesSpec)) widthsCodesCard

/-- THE TIED CARD OF 'pilasterlaw02.WidthsBits'. -/
def widthsBitsCard : Claim7 := { stood := { row := widthsBitsRow, standIns := [], harness := (true, "c4c6cf7aa4b55302d89e2f64a2465ed16d11734bd0403b9847ee6d4be9aa5d95"), looks := false }, kinds := [], alts := [], laidByText := true, laidKinds := [.data], laidTests := true, laidLooks := .later }
def WidthsBitsCardSaid : Prop := Claim7.holds Tryd.pinned (.plain (OpenSpec.ofChange widthsBitsSpec)) widthsBitsCard

/-- THE TIED CARD OF 'pilasterlaw02.WidthsBack'. -/
def widthsBackCard : Claim7 := { stood := { row := widthsBackRow, standIns := [], harness := (true, "c4c6cf7aa4b55302d89e2f64a2465ed16d11734bd0403b9847ee6d4be9aa5d95"), looks := false }, kinds := [], alts := [], laidByText := true, laidKinds := [.data], laidTests := true, laidLooks := .later }
def WidthsBackCardSaid : Prop := Claim7.holds Tryd.pinned (.plain (OpenSpec.ofChange widthsBackSpec)) widthsBackCard

/-- THE TIED CARD OF 'pilasterlaw02.WidthsRoom'. -/
def widthsRoomCard : Claim7 := { stood := { row := widthsRoomRow, standIns := [], harness := (true, "c4c6cf7aa4b55302d89e2f64a2465ed16d11734bd0403b9847ee6d4be9aa5d95"), looks := false }, kinds := [], alts := [], laidByText := true, laidKinds := [.data], laidTests := true, laidLooks := .later }
def WidthsRoomCardSaid : Prop := Claim7.holds Tryd.pinned (.plain (OpenSpec.ofChange widthsRoomSpec)) widthsRoomCard

/-- THE TIED CARD OF 'pilasterlaw02.WidthsRise'. -/
def widthsRiseCard : Claim7 := { stood := { row := widthsRiseRow, standIns := [], harness := (true, "c4c6cf7aa4b55302d89e2f64a2465ed16d11734bd0403b9847ee6d4be9aa5d95"), looks := false }, kinds := [], alts := [], laidByText := true, laidKinds := [.data], laidTests := true, laidLooks := .later }
def WidthsRiseCardSaid : Prop := Claim7.holds Tryd.pinned (.plain (OpenSpec.ofChange widthsRiseSpec)) widthsRiseCard

/-- THE SECOND FORM's CARD OF 'pilasterlaw02.WidthsCodes'. -/
def widthsCodesUptoCard : Claim7 := { stood := { row := widthsCodesUptoRow, standIns := [], harness := (true, "c4c6cf7aa4b55302d89e2f64a2465ed16d11734bd0403b9847ee6d4be9aa5d95"), looks := false }, kinds := [], alts := [], laidByText := true, laidKinds := [.data], laidTests := true, laidLooks := .later }
def WidthsCodesUptoCardSaid : Prop := Claim7.holds Tryd.pinned (.plain (OpenSpec.upto widthsCodesSpec)) widthsCodesUptoCard

/-- THE SECOND FORM's CARD OF 'pilasterlaw02.WidthsBits'. -/
def widthsBitsUptoCard : Claim7 := { stood := { row := widthsBitsUptoRow, standIns := [], harness := (true, "c4c6cf7aa4b55302d89e2f64a2465ed16d11734bd0403b9847ee6d4be9aa5d95"), looks := false }, kinds := [], alts := [], laidByText := true, laidKinds := [.data], laidTests := true, laidLooks := .later }
def WidthsBitsUptoCardSaid : Prop := Claim7.holds Tryd.pinned (.plain (OpenSpec.upto widthsBitsSpec)) widthsBitsUptoCard

/-- THE SECOND FORM's CARD OF 'pilasterlaw02.WidthsBack'. -/
def widthsBackUptoCard : Claim7 := { stood := { row := widthsBackUptoRow, standIns := [], harness := (true, "c4c6cf7aa4b55302d89e2f64a2465ed16d11734bd0403b9847ee6d4be9aa5d95"), looks := false }, kinds := [], alts := [], laidByText := true, laidKinds := [.data], laidTests := true, laidLooks := .later }
def WidthsBackUptoCardSaid : Prop := Claim7.holds Tryd.pinned (.plain (OpenSpec.upto widthsBackSpec)) widthsBackUptoCard

/-- THE SECOND FORM's CARD OF 'pilasterlaw02.WidthsRoom'. -/
def widthsRoomUptoCard : Claim7 := { stood := { row := widthsRoomUptoRow, standIns := [], harness := (true, "c4c6cf7aa4b55302d89e2f64a2465ed16d11734bd0403b9847ee6d4be9aa5d95"), looks := false }, kinds := [], alts := [], laidByText := true, laidKinds := [.data], laidTests := true, laidLooks := .later }
def WidthsRoomUptoCardSaid : Prop := Claim7.holds Tryd.pinned (.plain (OpenSpec.upto widthsRoomSpec)) widthsRoomUptoCard

/-- THE SECOND FORM's CARD OF 'pilasterlaw02.WidthsRise'. -/
def widthsRiseUptoCard : Claim7 := { stood := { row := widthsRiseUptoRow, standIns := [], harness := (true, "c4c6cf7aa4b55302d89e2f64a2465ed16d11734bd0403b9847ee6d4be9aa5d95"), looks := false }, kinds := [], alts := [], laidByText := true, laidKinds := [.data], laidTests := true, laidLooks := .later }
def WidthsRiseUptoCardSaid : Prop := Claim7.holds Tryd.pinned (.plain (OpenSpec.upto widthsRiseSpec)) widthsRiseUptoCard
end Rows
end Go.Proofs.YtgngdfgfjghbbaaDoor
