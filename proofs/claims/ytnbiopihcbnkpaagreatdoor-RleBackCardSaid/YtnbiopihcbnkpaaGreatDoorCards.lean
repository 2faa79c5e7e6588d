/-
  DERIVED. GIVEN WITH THE SEED: THE CARDS: each row of YtnbiopihcbnkpaaGreatDoorRows.lean that lists a variable, with what it lists TIED to the program's text (the seventh form; the later family's looks); each row that meets fmt, with fmt's text TOLD by the authors' own Lean function (tested against real Go, not proved from fmt's source: count such statements apart). THE CARD IS WHAT COUNTS. Prove the row's statement (the work); the ties are given (YtnbiopihcbnkpaaGreatDoorTie.lean); close each card by the builder's one call (the guide's Derived/Test/ToyasCard.lean, 'card_holds'). Laid BY PROGRAM, IN A SANDBOX (cutbox-door.mjs). By AI agents, Wed Nov 11 2026. No macro, syntax, notation, axiom, sorry.
-/
import Derived.Test.YtnbiopihcbnkpaaGreatDoorRows
import GoSem.ClaimSeven
namespace Go.Proofs.YtnbiopihcbnkpaaGreatDoor
namespace Rows

/-- THE TIED CARD OF 'pilasterlaw11.RleRuns'. -/
def rleRunsCard : Claim7 := { stood := { row := rleRunsRow, standIns := [], harness := (true, "5069ab97bc8fe54ede14da632790aef7fc40175eaf44bb5fcf8776d9fce5aa92"), looks := false }, kinds := [], alts := [], laidByText := true, laidKinds := [.data], laidTests := true, laidLooks := .later }
def RleRunsCardSaid : Prop := Claim7.holds Tryz.pinned (.plain (OpenSpec.ofChange rleRunsSpec)) rleRunsCard

/-- THE TIED CARD OF 'pilasterlaw11.RlePuts'. -/
def rlePutsCard : Claim7 := { stood := { row := rlePutsRow, standIns := [], harness := (true, "5069ab97bc8fe54ede14da632790aef7fc40175eaf44bb5fcf8776d9fce5aa92"), looks := false }, kinds := [], alts := [], laidByText := true, laidKinds := [.data], laidTests := true, laidLooks := .later }
def RlePutsCardSaid : Prop := Claim7.holds Tryz.pinned (.plain (OpenSpec.ofChange rlePutsSpec)) rlePutsCard

/-- THE TIED CARD OF 'pilasterlaw11.RleTakes'. -/
def rleTakesCard : Claim7 := { stood := { row := rleTakesRow, standIns := [], harness := (true, "5069ab97bc8fe54ede14da632790aef7fc40175eaf44bb5fcf8776d9fce5aa92"), looks := false }, kinds := [], alts := [], laidByText := true, laidKinds := [.data], laidTests := true, laidLooks := .later }
def RleTakesCardSaid : Prop := Claim7.holds Tryz.pinned (.plain (OpenSpec.ofChange rleTakesSpec)) rleTakesCard

/-- THE TIED CARD OF 'pilasterlaw11.RleBack'. -/
def rleBackCard : Claim7 := { stood := { row := rleBackRow, standIns := [], harness := (true, "5069ab97bc8fe54ede14da632790aef7fc40175eaf44bb5fcf8776d9fce5aa92"), looks := false }, kinds := [], alts := [], laidByText := true, laidKinds := [.data], laidTests := true, laidLooks := .later }
def RleBackCardSaid : Prop := Claim7.holds Tryz.pinned (.plain (OpenSpec.ofChange rleBackSpec)) rleBackCard

/-- THE SECOND FORM's CARD OF 'pilasterlaw11.RleRuns'. -/
def rleRunsUptoCard : Claim7 := { stood := { row := rleRunsUptoRow, standIns := [], harness := (true, "5069ab97bc8fe54ede14da632790aef7fc40175eaf44bb5fcf8776d9fce5aa92"), looks := false }, kinds := [], alts := [], laidByText := true, laidKinds := [.data], laidTests := true, laidLooks := .later }
def RleRunsUptoCardSaid : Prop := Claim7.holds Tryz.pinned (.plain (OpenSpec.upto rleRunsSpec)) rleRunsUptoCard

/-- THE SECOND FORM's CARD OF 'pilasterlaw11.RlePuts'. -/
def rlePutsUptoCard : Claim7 := { stood := { row := rlePutsUptoRow, standIns := [], harness := (true, "5069ab97bc8fe54ede14da632790aef7fc40175eaf44bb5fcf8776d9fce5aa92"), looks := false }, kinds := [], alts := [], laidByText := true, laidKinds := [.data], laidTests := true, laidLooks := .later }
def RlePutsUptoCardSaid : Prop := Claim7.holds Tryz.pinned (.plain (OpenSpec.upto rlePutsSpec)) rlePutsUptoCard

/-- THE SECOND FORM's CARD OF 'pilasterlaw11.RleTakes'. -/
def rleTakesUptoCard : Claim7 := { stood := { row := rleTakesUptoRow, standIns := [], harness := (true, "5069ab97bc8fe54ede14da632790aef7fc40175eaf44bb5fcf8776d9fce5aa92"), looks := false }, kinds := [], alts := [], laidByText := true, laidKinds := [.data], laidTests := true, laidLooks := .later }
def RleTakesUptoCardSaid : Prop := Claim7.holds Tryz.pinned (.plain (OpenSpec.upto rleTakesSpec)) rleTakesUptoCard

/-- THE SECOND FORM's CARD OF 'pilasterlaw11.RleBack'. -/
def rleBackUptoCard : Claim7 := { stood := { row := rleBackUptoRow, standIns := [], harness := (true, "5069ab97bc8fe54ede14da632790aef7fc40175eaf44bb5fcf8776d9fce5aa92"), looks := false }, kinds := [], alts := [], laidByText := true, laidKinds := [.data], laidTests := true, laidLooks := .later }
def RleBackUptoCardSaid : Prop := Claim7.holds Tryz.pinned (.plain (OpenSpec.upto rleBackSpec)) rleBackUptoCard
end Rows
end Go.Proofs.YtnbiopihcbnkpaaGreatDoor
