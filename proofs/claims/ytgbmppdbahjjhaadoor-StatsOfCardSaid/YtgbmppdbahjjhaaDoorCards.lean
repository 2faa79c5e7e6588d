/-
  DERIVED. GIVEN WITH THE SEED: THE CARDS: each row of YtgbmppdbahjjhaaDoorRows.lean that lists a variable, with what it lists TIED to the program's text (the seventh form; the later family's looks); each row that meets fmt, with fmt's text TOLD by the authors' own Lean function (tested against real Go, not proved from fmt's source: count such statements apart). THE CARD IS WHAT COUNTS. Prove the row's statement (the work); the ties are given (YtgbmppdbahjjhaaDoorTie.lean); close each card by the builder's one call (the guide's Derived/Test/ToyasCard.lean, 'card_holds'). Laid BY PROGRAM, IN A SANDBOX (cutbox-door.mjs). By AI agents, Wed Nov 11 2026. No macro, syntax, notation, axiom, sorry.
-/
import Derived.Test.YtgbmppdbahjjhaaDoorRows
import GoSem.ClaimSeven
namespace Go.Proofs.YtgbmppdbahjjhaaDoor
namespace Rows

/-- THE TIED CARD OF 'pilasterlaw17.StatsOf'. -/
def statsOfCard : Claim7 := { stood := { row := statsOfRow, standIns := [], harness := (true, "e8dc00bb4c6de35e918ef0cfe25d1624cd46e9953041dfbe703eab21f03356ab"), looks := false }, kinds := [], alts := [], laidByText := true, laidKinds := [.data, .pinned], laidTests := true, laidLooks := .later }
def StatsOfCardSaid : Prop := Claim7.holds Tryd.pinned (.plain (OpenSpec.ofChange statsOfSpec)) statsOfCard

/-- THE TIED CARD OF 'pilasterlaw17.StatsMerges'. -/
def statsMergesCard : Claim7 := { stood := { row := statsMergesRow, standIns := [], harness := (true, "e8dc00bb4c6de35e918ef0cfe25d1624cd46e9953041dfbe703eab21f03356ab"), looks := false }, kinds := [], alts := [], laidByText := true, laidKinds := [.data, .pinned], laidTests := true, laidLooks := .later }
def StatsMergesCardSaid : Prop := Claim7.holds Tryd.pinned (.plain (OpenSpec.ofChange statsMergesSpec)) statsMergesCard

/-- THE TIED CARD OF 'pilasterlaw17.StatsBoth'. -/
def statsBothCard : Claim7 := { stood := { row := statsBothRow, standIns := [], harness := (true, "e8dc00bb4c6de35e918ef0cfe25d1624cd46e9953041dfbe703eab21f03356ab"), looks := false }, kinds := [], alts := [], laidByText := true, laidKinds := [.data, .pinned], laidTests := true, laidLooks := .later }
def StatsBothCardSaid : Prop := Claim7.holds Tryd.pinned (.plain (OpenSpec.ofChange statsBothSpec)) statsBothCard

/-- THE TIED CARD OF 'pilasterlaw17.StatsHold'. -/
def statsHoldCard : Claim7 := { stood := { row := statsHoldRow, standIns := [], harness := (true, "e8dc00bb4c6de35e918ef0cfe25d1624cd46e9953041dfbe703eab21f03356ab"), looks := false }, kinds := [], alts := [], laidByText := true, laidKinds := [.data, .pinned], laidTests := true, laidLooks := .later }
def StatsHoldCardSaid : Prop := Claim7.holds Tryd.pinned (.plain (OpenSpec.ofChange statsHoldSpec)) statsHoldCard

/-- THE SECOND FORM's CARD OF 'pilasterlaw17.StatsOf'. -/
def statsOfUptoCard : Claim7 := { stood := { row := statsOfUptoRow, standIns := [], harness := (true, "e8dc00bb4c6de35e918ef0cfe25d1624cd46e9953041dfbe703eab21f03356ab"), looks := false }, kinds := [], alts := [], laidByText := true, laidKinds := [.data, .pinned], laidTests := true, laidLooks := .later }
def StatsOfUptoCardSaid : Prop := Claim7.holds Tryd.pinned (.plain (OpenSpec.upto statsOfSpec)) statsOfUptoCard

/-- THE SECOND FORM's CARD OF 'pilasterlaw17.StatsMerges'. -/
def statsMergesUptoCard : Claim7 := { stood := { row := statsMergesUptoRow, standIns := [], harness := (true, "e8dc00bb4c6de35e918ef0cfe25d1624cd46e9953041dfbe703eab21f03356ab"), looks := false }, kinds := [], alts := [], laidByText := true, laidKinds := [.data, .pinned], laidTests := true, laidLooks := .later }
def StatsMergesUptoCardSaid : Prop := Claim7.holds Tryd.pinned (.plain (OpenSpec.upto statsMergesSpec)) statsMergesUptoCard

/-- THE SECOND FORM's CARD OF 'pilasterlaw17.StatsBoth'. -/
def statsBothUptoCard : Claim7 := { stood := { row := statsBothUptoRow, standIns := [], harness := (true, "e8dc00bb4c6de35e918ef0cfe25d1624cd46e9953041dfbe703eab21f03356ab"), looks := false }, kinds := [], alts := [], laidByText := true, laidKinds := [.data, .pinned], laidTests := true, laidLooks := .later }
def StatsBothUptoCardSaid : Prop := Claim7.holds Tryd.pinned (.plain (OpenSpec.upto statsBothSpec)) statsBothUptoCard

/-- THE SECOND FORM's CARD OF 'pilasterlaw17.StatsHold'. -/
def statsHoldUptoCard : Claim7 := { stood := { row := statsHoldUptoRow, standIns := [], harness := (true, "e8dc00bb4c6de35e918ef0cfe25d1624cd46e9953041dfbe703eab21f03356ab"), looks := false }, kinds := [], alts := [], laidByText := true, laidKinds := [.data, .pinned], laidTests := true, laidLooks := .later }
def StatsHoldUptoCardSaid : Prop := Claim7.holds Tryd.pinned (.plain (OpenSpec.upto statsHoldSpec)) statsHoldUptoCard
end Rows
end Go.Proofs.YtgbmppdbahjjhaaDoor
