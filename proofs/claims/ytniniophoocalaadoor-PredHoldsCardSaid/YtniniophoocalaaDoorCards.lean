/-
  DERIVED. GIVEN WITH THE SEED: THE CARDS: each row of YtniniophoocalaaDoorRows.lean that lists a variable, with what it lists TIED to the program's text (the seventh form; the later family's looks); each row that meets fmt, with fmt's text TOLD by the authors' own Lean function (tested against real Go, not proved from fmt's source: count such statements apart). THE CARD IS WHAT COUNTS. Prove the row's statement (the work); the ties are given (YtniniophoocalaaDoorTie.lean); close each card by the builder's one call (the guide's Derived/Test/ToyasCard.lean, 'card_holds'). Laid BY PROGRAM, IN A SANDBOX (cutbox-door.mjs). By AI agents, Wed Nov 11 2026. No macro, syntax, notation, axiom, sorry.
-/
import Derived.Test.YtniniophoocalaaDoorRows
import GoSem.ClaimSeven
namespace Go.Proofs.YtniniophoocalaaDoor
namespace Rows

/-- THE TIED CARD OF 'pilasterlaw18.PredMay'. -/
def predMayCard : Claim7 := { stood := { row := predMayRow, standIns := [], harness := (true, "e2fd9e1fd3098538b37d985dc1adf5c98c60d1c8f7d277203a6e8982ac73ec95"), looks := false }, kinds := [], alts := [], laidByText := true, laidKinds := [.data, .pinned], laidTests := true, laidLooks := .later }
def PredMayCardSaid : Prop := Claim7.holds Tryd.pinned (.plain (OpenSpec.ofChange predMaySpec)) predMayCard

/-- THE TIED CARD OF 'pilasterlaw18.PredEvals'. -/
def predEvalsCard : Claim7 := { stood := { row := predEvalsRow, standIns := [], harness := (true, "e2fd9e1fd3098538b37d985dc1adf5c98c60d1c8f7d277203a6e8982ac73ec95"), looks := false }, kinds := [], alts := [], laidByText := true, laidKinds := [.data, .pinned], laidTests := true, laidLooks := .later }
def PredEvalsCardSaid : Prop := Claim7.holds Tryd.pinned (.plain (OpenSpec.ofChange predEvalsSpec)) predEvalsCard

/-- THE TIED CARD OF 'pilasterlaw18.PredKnows'. -/
def predKnowsCard : Claim7 := { stood := { row := predKnowsRow, standIns := [], harness := (true, "e2fd9e1fd3098538b37d985dc1adf5c98c60d1c8f7d277203a6e8982ac73ec95"), looks := false }, kinds := [], alts := [], laidByText := true, laidKinds := [.data, .pinned], laidTests := true, laidLooks := .later }
def PredKnowsCardSaid : Prop := Claim7.holds Tryd.pinned (.plain (OpenSpec.ofChange predKnowsSpec)) predKnowsCard

/-- THE TIED CARD OF 'pilasterlaw18.PredHolds'. -/
def predHoldsCard : Claim7 := { stood := { row := predHoldsRow, standIns := [], harness := (true, "e2fd9e1fd3098538b37d985dc1adf5c98c60d1c8f7d277203a6e8982ac73ec95"), looks := false }, kinds := [], alts := [], laidByText := true, laidKinds := [.data, .pinned], laidTests := true, laidLooks := .later }
def PredHoldsCardSaid : Prop := Claim7.holds Tryd.pinned (.plain (OpenSpec.ofChange predHoldsSpec)) predHoldsCard

/-- THE TIED CARD OF 'pilasterlaw18.PredTurned'. -/
def predTurnedCard : Claim7 := { stood := { row := predTurnedRow, standIns := [], harness := (true, "e2fd9e1fd3098538b37d985dc1adf5c98c60d1c8f7d277203a6e8982ac73ec95"), looks := false }, kinds := [], alts := [], laidByText := true, laidKinds := [.data, .pinned], laidTests := true, laidLooks := .later }
def PredTurnedCardSaid : Prop := Claim7.holds Tryd.pinned (.plain (OpenSpec.ofChange predTurnedSpec)) predTurnedCard

/-- THE SECOND FORM's CARD OF 'pilasterlaw18.PredMay'. -/
def predMayUptoCard : Claim7 := { stood := { row := predMayUptoRow, standIns := [], harness := (true, "e2fd9e1fd3098538b37d985dc1adf5c98c60d1c8f7d277203a6e8982ac73ec95"), looks := false }, kinds := [], alts := [], laidByText := true, laidKinds := [.data, .pinned], laidTests := true, laidLooks := .later }
def PredMayUptoCardSaid : Prop := Claim7.holds Tryd.pinned (.plain (OpenSpec.upto predMaySpec)) predMayUptoCard

/-- THE SECOND FORM's CARD OF 'pilasterlaw18.PredEvals'. -/
def predEvalsUptoCard : Claim7 := { stood := { row := predEvalsUptoRow, standIns := [], harness := (true, "e2fd9e1fd3098538b37d985dc1adf5c98c60d1c8f7d277203a6e8982ac73ec95"), looks := false }, kinds := [], alts := [], laidByText := true, laidKinds := [.data, .pinned], laidTests := true, laidLooks := .later }
def PredEvalsUptoCardSaid : Prop := Claim7.holds Tryd.pinned (.plain (OpenSpec.upto predEvalsSpec)) predEvalsUptoCard

/-- THE SECOND FORM's CARD OF 'pilasterlaw18.PredKnows'. -/
def predKnowsUptoCard : Claim7 := { stood := { row := predKnowsUptoRow, standIns := [], harness := (true, "e2fd9e1fd3098538b37d985dc1adf5c98c60d1c8f7d277203a6e8982ac73ec95"), looks := false }, kinds := [], alts := [], laidByText := true, laidKinds := [.data, .pinned], laidTests := true, laidLooks := .later }
def PredKnowsUptoCardSaid : Prop := Claim7.holds Tryd.pinned (.plain (OpenSpec.upto predKnowsSpec)) predKnowsUptoCard

/-- THE SECOND FORM's CARD OF 'pilasterlaw18.PredHolds'. -/
def predHoldsUptoCard : Claim7 := { stood := { row := predHoldsUptoRow, standIns := [], harness := (true, "e2fd9e1fd3098538b37d985dc1adf5c98c60d1c8f7d277203a6e8982ac73ec95"), looks := false }, kinds := [], alts := [], laidByText := true, laidKinds := [.data, .pinned], laidTests := true, laidLooks := .later }
def PredHoldsUptoCardSaid : Prop := Claim7.holds Tryd.pinned (.plain (OpenSpec.upto predHoldsSpec)) predHoldsUptoCard

/-- THE SECOND FORM's CARD OF 'pilasterlaw18.PredTurned'. -/
def predTurnedUptoCard : Claim7 := { stood := { row := predTurnedUptoRow, standIns := [], harness := (true, "e2fd9e1fd3098538b37d985dc1adf5c98c60d1c8f7d277203a6e8982ac73ec95"), looks := false }, kinds := [], alts := [], laidByText := true, laidKinds := [.data, .pinned], laidTests := true, laidLooks := .later }
def PredTurnedUptoCardSaid : Prop := Claim7.holds Tryd.pinned (.plain (OpenSpec.upto predTurnedSpec)) predTurnedUptoCard
end Rows
end Go.Proofs.YtniniophoocalaaDoor
