/-
  DERIVED. GIVEN WITH THE SEED: THE CARDS: each row of YtnbiopihcbnkpaaDoorRows.lean that lists a variable, with what it lists TIED to the program's text (the seventh form; the later family's looks); each row that meets fmt, with fmt's text TOLD by the authors' own Lean function (tested against real Go, not proved from fmt's source: count such statements apart). THE CARD IS WHAT COUNTS. Prove the row's statement (the work); the ties are given (YtnbiopihcbnkpaaDoorTie.lean); close each card by the builder's one call (the guide's Derived/Test/ToyasCard.lean, 'card_holds'). Laid BY PROGRAM, IN A SANDBOX (cutbox-door.mjs). By AI agents, Wed Nov 11 2026. No macro, syntax, notation, axiom, sorry.
-/
import Derived.Test.YtnbiopihcbnkpaaDoorRows
import GoSem.ClaimSeven
namespace Go.Proofs.YtnbiopihcbnkpaaDoor
namespace Rows

/-- THE TIED CARD OF 'pilasterlaw11.RleShort'. -/
def rleShortCard : Claim7 := { stood := { row := rleShortRow, standIns := [], harness := (true, "0ef55ff237a8270fd6871660c86a1ea90feb36af67040203a73a217815a7eb2e"), looks := false }, kinds := [], alts := [], laidByText := true, laidKinds := [.data], laidTests := true, laidLooks := .later }
def RleShortCardSaid : Prop := Claim7.holds Tryd.pinned (.plain (OpenSpec.ofChange rleShortSpec)) rleShortCard

/-- THE TIED CARD OF 'pilasterlaw11.RleSame'. -/
def rleSameCard : Claim7 := { stood := { row := rleSameRow, standIns := [], harness := (true, "0ef55ff237a8270fd6871660c86a1ea90feb36af67040203a73a217815a7eb2e"), looks := false }, kinds := [], alts := [], laidByText := true, laidKinds := [.data], laidTests := true, laidLooks := .later }
def RleSameCardSaid : Prop := Claim7.holds Tryd.pinned (.plain (OpenSpec.ofChange rleSameSpec)) rleSameCard

/-- THE SECOND FORM's CARD OF 'pilasterlaw11.RleShort'. -/
def rleShortUptoCard : Claim7 := { stood := { row := rleShortUptoRow, standIns := [], harness := (true, "0ef55ff237a8270fd6871660c86a1ea90feb36af67040203a73a217815a7eb2e"), looks := false }, kinds := [], alts := [], laidByText := true, laidKinds := [.data], laidTests := true, laidLooks := .later }
def RleShortUptoCardSaid : Prop := Claim7.holds Tryd.pinned (.plain (OpenSpec.upto rleShortSpec)) rleShortUptoCard

/-- THE SECOND FORM's CARD OF 'pilasterlaw11.RleSame'. -/
def rleSameUptoCard : Claim7 := { stood := { row := rleSameUptoRow, standIns := [], harness := (true, "0ef55ff237a8270fd6871660c86a1ea90feb36af67040203a73a217815a7eb2e"), looks := false }, kinds := [], alts := [], laidByText := true, laidKinds := [.data], laidTests := true, laidLooks := .later }
def RleSameUptoCardSaid : Prop := Claim7.holds Tryd.pinned (.plain (OpenSpec.upto rleSameSpec)) rleSameUptoCard
end Rows
end Go.Proofs.YtnbiopihcbnkpaaDoor
