/-
  DERIVED. GIVEN WITH THE SEED: THE CARDS: each row of YtlibofmpnlfelaaGreatDoorRows.lean that lists a variable, with what it lists TIED to the program's text (the seventh form; the later family's looks); each row that meets fmt, with fmt's text TOLD by the authors' own Lean function (tested against real Go, not proved from fmt's source: count such statements apart). THE CARD IS WHAT COUNTS. Prove the row's statement (the work); the ties are given (YtlibofmpnlfelaaGreatDoorTie.lean); close each card by the builder's one call (the guide's Derived/Test/ToyasCard.lean, 'card_holds'). Laid BY PROGRAM, IN A SANDBOX (cutbox-door.mjs). By AI agents, Wed Nov 11 2026. No macro, syntax, notation, axiom, sorry.
-/
import Derived.Test.YtlibofmpnlfelaaGreatDoorRows
import GoSem.ClaimSeven
namespace Go.Proofs.YtlibofmpnlfelaaGreatDoor
namespace Rows

/-- THE TIED CARD OF 'pilasterlaw14.IntsPuts'. -/
def intsPutsCard : Claim7 := { stood := { row := intsPutsRow, standIns := [], harness := (true, "2275c1bfc1009c3db580db323f8fd9cf3925cb17f6d93517ada7ccd727a87307"), looks := false }, kinds := [], alts := [], laidByText := true, laidKinds := [.data, .data, .pinned], laidTests := true, laidLooks := .later }
def IntsPutsCardSaid : Prop := Claim7.holds Tryz.pinned (.plain (OpenSpec.ofChange intsPutsSpec)) intsPutsCard

/-- THE TIED CARD OF 'pilasterlaw14.IntsTakes'. -/
def intsTakesCard : Claim7 := { stood := { row := intsTakesRow, standIns := [], harness := (true, "2275c1bfc1009c3db580db323f8fd9cf3925cb17f6d93517ada7ccd727a87307"), looks := false }, kinds := [], alts := [], laidByText := true, laidKinds := [.data], laidTests := true, laidLooks := .later }
def IntsTakesCardSaid : Prop := Claim7.holds Tryz.pinned (.plain (OpenSpec.ofChange intsTakesSpec)) intsTakesCard

/-- THE TIED CARD OF 'pilasterlaw14.IntsBack'. -/
def intsBackCard : Claim7 := { stood := { row := intsBackRow, standIns := [], harness := (true, "2275c1bfc1009c3db580db323f8fd9cf3925cb17f6d93517ada7ccd727a87307"), looks := false }, kinds := [], alts := [], laidByText := true, laidKinds := [.data], laidTests := true, laidLooks := .later }
def IntsBackCardSaid : Prop := Claim7.holds Tryz.pinned (.plain (OpenSpec.ofChange intsBackSpec)) intsBackCard

/-- THE SECOND FORM's CARD OF 'pilasterlaw14.IntsPuts'. -/
def intsPutsUptoCard : Claim7 := { stood := { row := intsPutsUptoRow, standIns := [], harness := (true, "2275c1bfc1009c3db580db323f8fd9cf3925cb17f6d93517ada7ccd727a87307"), looks := false }, kinds := [], alts := [], laidByText := true, laidKinds := [.data, .data, .pinned], laidTests := true, laidLooks := .later }
def IntsPutsUptoCardSaid : Prop := Claim7.holds Tryz.pinned (.plain (OpenSpec.upto intsPutsSpec)) intsPutsUptoCard

/-- THE SECOND FORM's CARD OF 'pilasterlaw14.IntsTakes'. -/
def intsTakesUptoCard : Claim7 := { stood := { row := intsTakesUptoRow, standIns := [], harness := (true, "2275c1bfc1009c3db580db323f8fd9cf3925cb17f6d93517ada7ccd727a87307"), looks := false }, kinds := [], alts := [], laidByText := true, laidKinds := [.data], laidTests := true, laidLooks := .later }
def IntsTakesUptoCardSaid : Prop := Claim7.holds Tryz.pinned (.plain (OpenSpec.upto intsTakesSpec)) intsTakesUptoCard

/-- THE SECOND FORM's CARD OF 'pilasterlaw14.IntsBack'. -/
def intsBackUptoCard : Claim7 := { stood := { row := intsBackUptoRow, standIns := [], harness := (true, "2275c1bfc1009c3db580db323f8fd9cf3925cb17f6d93517ada7ccd727a87307"), looks := false }, kinds := [], alts := [], laidByText := true, laidKinds := [.data], laidTests := true, laidLooks := .later }
def IntsBackUptoCardSaid : Prop := Claim7.holds Tryz.pinned (.plain (OpenSpec.upto intsBackSpec)) intsBackUptoCard
end Rows
end Go.Proofs.YtlibofmpnlfelaaGreatDoor
