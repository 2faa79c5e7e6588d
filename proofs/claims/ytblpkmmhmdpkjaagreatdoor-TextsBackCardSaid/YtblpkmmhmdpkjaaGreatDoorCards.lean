/-
  DERIVED. GIVEN WITH THE SEED: THE CARDS: each row of YtblpkmmhmdpkjaaGreatDoorRows.lean that lists a variable, with what it lists TIED to the program's text (the seventh form; the later family's looks); each row that meets fmt, with fmt's text TOLD by the authors' own Lean function (tested against real Go, not proved from fmt's source: count such statements apart). THE CARD IS WHAT COUNTS. Prove the row's statement (the work); the ties are given (YtblpkmmhmdpkjaaGreatDoorTie.lean); close each card by the builder's one call (the guide's Derived/Test/ToyasCard.lean, 'card_holds'). Laid BY PROGRAM, IN A SANDBOX (cutbox-door.mjs). By AI agents, Wed Nov 11 2026. No macro, syntax, notation, axiom, sorry.
-/
import Derived.Test.YtblpkmmhmdpkjaaGreatDoorRows
import GoSem.ClaimSeven
namespace Go.Proofs.YtblpkmmhmdpkjaaGreatDoor
namespace Rows

/-- THE TIED CARD OF 'pilasterlaw15.TextsPuts'. -/
def textsPutsCard : Claim7 := { stood := { row := textsPutsRow, standIns := [], harness := (true, "0707c26914c89ef6f1ca8431afcfa2fb70e02edd147b890d33b3289947e5e7cb"), looks := false }, kinds := [], alts := [], laidByText := true, laidKinds := [.data], laidTests := true, laidLooks := .later }
def TextsPutsCardSaid : Prop := Claim7.holds Tryz.pinned (.plain (OpenSpec.ofChange textsPutsSpec)) textsPutsCard

/-- THE TIED CARD OF 'pilasterlaw15.TextsTakes'. -/
def textsTakesCard : Claim7 := { stood := { row := textsTakesRow, standIns := [], harness := (true, "0707c26914c89ef6f1ca8431afcfa2fb70e02edd147b890d33b3289947e5e7cb"), looks := false }, kinds := [], alts := [], laidByText := true, laidKinds := [.data], laidTests := true, laidLooks := .later }
def TextsTakesCardSaid : Prop := Claim7.holds Tryz.pinned (.plain (OpenSpec.ofChange textsTakesSpec)) textsTakesCard

/-- THE TIED CARD OF 'pilasterlaw15.TextsBack'. -/
def textsBackCard : Claim7 := { stood := { row := textsBackRow, standIns := [], harness := (true, "0707c26914c89ef6f1ca8431afcfa2fb70e02edd147b890d33b3289947e5e7cb"), looks := false }, kinds := [], alts := [], laidByText := true, laidKinds := [.data], laidTests := true, laidLooks := .later }
def TextsBackCardSaid : Prop := Claim7.holds Tryz.pinned (.plain (OpenSpec.ofChange textsBackSpec)) textsBackCard

/-- THE TIED CARD OF 'pilasterlaw15.TextsWords'. -/
def textsWordsCard : Claim7 := { stood := { row := textsWordsRow, standIns := [], harness := (true, "0707c26914c89ef6f1ca8431afcfa2fb70e02edd147b890d33b3289947e5e7cb"), looks := false }, kinds := [], alts := [], laidByText := true, laidKinds := [.data], laidTests := true, laidLooks := .later }
def TextsWordsCardSaid : Prop := Claim7.holds Tryz.pinned (.plain (OpenSpec.ofChange textsWordsSpec)) textsWordsCard

/-- THE TIED CARD OF 'pilasterlaw15.TextsKinds'. -/
def textsKindsCard : Claim7 := { stood := { row := textsKindsRow, standIns := [], harness := (true, "0707c26914c89ef6f1ca8431afcfa2fb70e02edd147b890d33b3289947e5e7cb"), looks := false }, kinds := [], alts := [], laidByText := true, laidKinds := [.data], laidTests := true, laidLooks := .later }
def TextsKindsCardSaid : Prop := Claim7.holds Tryz.pinned (.plain (OpenSpec.ofChange textsKindsSpec)) textsKindsCard

/-- THE SECOND FORM's CARD OF 'pilasterlaw15.TextsPuts'. -/
def textsPutsUptoCard : Claim7 := { stood := { row := textsPutsUptoRow, standIns := [], harness := (true, "0707c26914c89ef6f1ca8431afcfa2fb70e02edd147b890d33b3289947e5e7cb"), looks := false }, kinds := [], alts := [], laidByText := true, laidKinds := [.data], laidTests := true, laidLooks := .later }
def TextsPutsUptoCardSaid : Prop := Claim7.holds Tryz.pinned (.plain (OpenSpec.upto textsPutsSpec)) textsPutsUptoCard

/-- THE SECOND FORM's CARD OF 'pilasterlaw15.TextsTakes'. -/
def textsTakesUptoCard : Claim7 := { stood := { row := textsTakesUptoRow, standIns := [], harness := (true, "0707c26914c89ef6f1ca8431afcfa2fb70e02edd147b890d33b3289947e5e7cb"), looks := false }, kinds := [], alts := [], laidByText := true, laidKinds := [.data], laidTests := true, laidLooks := .later }
def TextsTakesUptoCardSaid : Prop := Claim7.holds Tryz.pinned (.plain (OpenSpec.upto textsTakesSpec)) textsTakesUptoCard

/-- THE SECOND FORM's CARD OF 'pilasterlaw15.TextsBack'. -/
def textsBackUptoCard : Claim7 := { stood := { row := textsBackUptoRow, standIns := [], harness := (true, "0707c26914c89ef6f1ca8431afcfa2fb70e02edd147b890d33b3289947e5e7cb"), looks := false }, kinds := [], alts := [], laidByText := true, laidKinds := [.data], laidTests := true, laidLooks := .later }
def TextsBackUptoCardSaid : Prop := Claim7.holds Tryz.pinned (.plain (OpenSpec.upto textsBackSpec)) textsBackUptoCard

/-- THE SECOND FORM's CARD OF 'pilasterlaw15.TextsWords'. -/
def textsWordsUptoCard : Claim7 := { stood := { row := textsWordsUptoRow, standIns := [], harness := (true, "0707c26914c89ef6f1ca8431afcfa2fb70e02edd147b890d33b3289947e5e7cb"), looks := false }, kinds := [], alts := [], laidByText := true, laidKinds := [.data], laidTests := true, laidLooks := .later }
def TextsWordsUptoCardSaid : Prop := Claim7.holds Tryz.pinned (.plain (OpenSpec.upto textsWordsSpec)) textsWordsUptoCard

/-- THE SECOND FORM's CARD OF 'pilasterlaw15.TextsKinds'. -/
def textsKindsUptoCard : Claim7 := { stood := { row := textsKindsUptoRow, standIns := [], harness := (true, "0707c26914c89ef6f1ca8431afcfa2fb70e02edd147b890d33b3289947e5e7cb"), looks := false }, kinds := [], alts := [], laidByText := true, laidKinds := [.data], laidTests := true, laidLooks := .later }
def TextsKindsUptoCardSaid : Prop := Claim7.holds Tryz.pinned (.plain (OpenSpec.upto textsKindsSpec)) textsKindsUptoCard
end Rows
end Go.Proofs.YtblpkmmhmdpkjaaGreatDoor
