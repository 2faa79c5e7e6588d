/-
  DERIVED. GIVEN WITH THE SEED: THE CARDS: each row of YtchgpgnipmmflaaDoorRows.lean that lists a variable, with what it lists TIED to the program's text (the seventh form; the later family's looks); each row that meets fmt, with fmt's text TOLD by the authors' own Lean function (tested against real Go, not proved from fmt's source: count such statements apart). THE CARD IS WHAT COUNTS. Prove the row's statement (the work); the ties are given (YtchgpgnipmmflaaDoorTie.lean); close each card by the builder's one call (the guide's Derived/Test/ToyasCard.lean, 'card_holds'). Laid BY PROGRAM, IN A SANDBOX (cutbox-door.mjs). By AI agents, Wed Nov 11 2026. No macro, syntax, notation, axiom, sorry.
-/
import Derived.Test.YtchgpgnipmmflaaDoorRows
import GoSem.ClaimSeven
namespace Go.Proofs.YtchgpgnipmmflaaDoor
namespace Rows

/-- THE TIED CARD OF 'pilasterlaw09.DeltaDiffs'. -/
def deltaDiffsCard : Claim7 := { stood := { row := deltaDiffsRow, standIns := [], harness := (true, "5dc5fd928a94758d8b68ac413375bbccc7b1d239bda8e1ee44389d697fa83125"), looks := false }, kinds := [], alts := [], laidByText := true, laidKinds := [.data], laidTests := true, laidLooks := .later }
def DeltaDiffsCardSaid : Prop := Claim7.holds Tryd.pinned (.plain (OpenSpec.ofChange deltaDiffsSpec)) deltaDiffsCard

/-- THE TIED CARD OF 'pilasterlaw09.DeltaPuts'. -/
def deltaPutsCard : Claim7 := { stood := { row := deltaPutsRow, standIns := [], harness := (true, "5dc5fd928a94758d8b68ac413375bbccc7b1d239bda8e1ee44389d697fa83125"), looks := false }, kinds := [], alts := [], laidByText := true, laidKinds := [.data], laidTests := true, laidLooks := .later }
def DeltaPutsCardSaid : Prop := Claim7.holds Tryd.pinned (.plain (OpenSpec.ofChange deltaPutsSpec)) deltaPutsCard

/-- THE TIED CARD OF 'pilasterlaw09.DeltaTakes'. -/
def deltaTakesCard : Claim7 := { stood := { row := deltaTakesRow, standIns := [], harness := (true, "5dc5fd928a94758d8b68ac413375bbccc7b1d239bda8e1ee44389d697fa83125"), looks := false }, kinds := [], alts := [], laidByText := true, laidKinds := [.data], laidTests := true, laidLooks := .later }
def DeltaTakesCardSaid : Prop := Claim7.holds Tryd.pinned (.plain (OpenSpec.ofChange deltaTakesSpec)) deltaTakesCard

/-- THE TIED CARD OF 'pilasterlaw09.DeltaBack'. -/
def deltaBackCard : Claim7 := { stood := { row := deltaBackRow, standIns := [], harness := (true, "5dc5fd928a94758d8b68ac413375bbccc7b1d239bda8e1ee44389d697fa83125"), looks := false }, kinds := [], alts := [], laidByText := true, laidKinds := [.data], laidTests := true, laidLooks := .later }
def DeltaBackCardSaid : Prop := Claim7.holds Tryd.pinned (.plain (OpenSpec.ofChange deltaBackSpec)) deltaBackCard

/-- THE TIED CARD OF 'pilasterlaw09.DeltaSteps'. -/
def deltaStepsCard : Claim7 := { stood := { row := deltaStepsRow, standIns := [], harness := (true, "5dc5fd928a94758d8b68ac413375bbccc7b1d239bda8e1ee44389d697fa83125"), looks := false }, kinds := [], alts := [], laidByText := true, laidKinds := [.data], laidTests := true, laidLooks := .later }
def DeltaStepsCardSaid : Prop := Claim7.holds Tryd.pinned (.plain (OpenSpec.ofChange deltaStepsSpec)) deltaStepsCard

/-- THE SECOND FORM's CARD OF 'pilasterlaw09.DeltaDiffs'. -/
def deltaDiffsUptoCard : Claim7 := { stood := { row := deltaDiffsUptoRow, standIns := [], harness := (true, "5dc5fd928a94758d8b68ac413375bbccc7b1d239bda8e1ee44389d697fa83125"), looks := false }, kinds := [], alts := [], laidByText := true, laidKinds := [.data], laidTests := true, laidLooks := .later }
def DeltaDiffsUptoCardSaid : Prop := Claim7.holds Tryd.pinned (.plain (OpenSpec.upto deltaDiffsSpec)) deltaDiffsUptoCard

/-- THE SECOND FORM's CARD OF 'pilasterlaw09.DeltaPuts'. -/
def deltaPutsUptoCard : Claim7 := { stood := { row := deltaPutsUptoRow, standIns := [], harness := (true, "5dc5fd928a94758d8b68ac413375bbccc7b1d239bda8e1ee44389d697fa83125"), looks := false }, kinds := [], alts := [], laidByText := true, laidKinds := [.data], laidTests := true, laidLooks := .later }
def DeltaPutsUptoCardSaid : Prop := Claim7.holds Tryd.pinned (.plain (OpenSpec.upto deltaPutsSpec)) deltaPutsUptoCard

/-- THE SECOND FORM's CARD OF 'pilasterlaw09.DeltaTakes'. -/
def deltaTakesUptoCard : Claim7 := { stood := { row := deltaTakesUptoRow, standIns := [], harness := (true, "5dc5fd928a94758d8b68ac413375bbccc7b1d239bda8e1ee44389d697fa83125"), looks := false }, kinds := [], alts := [], laidByText := true, laidKinds := [.data], laidTests := true, laidLooks := .later }
def DeltaTakesUptoCardSaid : Prop := Claim7.holds Tryd.pinned (.plain (OpenSpec.upto deltaTakesSpec)) deltaTakesUptoCard

/-- THE SECOND FORM's CARD OF 'pilasterlaw09.DeltaBack'. -/
def deltaBackUptoCard : Claim7 := { stood := { row := deltaBackUptoRow, standIns := [], harness := (true, "5dc5fd928a94758d8b68ac413375bbccc7b1d239bda8e1ee44389d697fa83125"), looks := false }, kinds := [], alts := [], laidByText := true, laidKinds := [.data], laidTests := true, laidLooks := .later }
def DeltaBackUptoCardSaid : Prop := Claim7.holds Tryd.pinned (.plain (OpenSpec.upto deltaBackSpec)) deltaBackUptoCard

/-- THE SECOND FORM's CARD OF 'pilasterlaw09.DeltaSteps'. -/
def deltaStepsUptoCard : Claim7 := { stood := { row := deltaStepsUptoRow, standIns := [], harness := (true, "5dc5fd928a94758d8b68ac413375bbccc7b1d239bda8e1ee44389d697fa83125"), looks := false }, kinds := [], alts := [], laidByText := true, laidKinds := [.data], laidTests := true, laidLooks := .later }
def DeltaStepsUptoCardSaid : Prop := Claim7.holds Tryd.pinned (.plain (OpenSpec.upto deltaStepsSpec)) deltaStepsUptoCard
end Rows
end Go.Proofs.YtchgpgnipmmflaaDoor
