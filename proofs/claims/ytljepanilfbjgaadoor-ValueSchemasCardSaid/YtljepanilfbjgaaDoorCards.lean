/-
  DERIVED. GIVEN WITH THE SEED: THE CARDS: each row of YtljepanilfbjgaaDoorRows.lean that lists a variable, with what it lists TIED to the program's text (the seventh form; the later family's looks); each row that meets fmt, with fmt's text TOLD by the authors' own Lean function (tested against real Go, not proved from fmt's source: count such statements apart). THE CARD IS WHAT COUNTS. Prove the row's statement (the work); the ties are given (YtljepanilfbjgaaDoorTie.lean); close each card by the builder's one call (the guide's Derived/Test/ToyasCard.lean, 'card_holds'). Laid BY PROGRAM, IN A SANDBOX (cutbox-door.mjs). By AI agents, Wed Nov 11 2026. No macro, syntax, notation, axiom, sorry.
-/
import Derived.Test.YtljepanilfbjgaaDoorRows
import GoSem.ClaimSeven
namespace Go.Proofs.YtljepanilfbjgaaDoor
namespace Rows

/-- THE TIED CARD OF 'pilasterlaw12.ValueMay'. -/
def valueMayCard : Claim7 := { stood := { row := valueMayRow, standIns := [], harness := (true, "71bb1f32b4699ae3a3fb56ecc16560f0ead72901ab401f720d4348452b636120"), looks := false }, kinds := [], alts := [], laidByText := true, laidKinds := [.data, .pinned], laidTests := true, laidLooks := .later }
def ValueMayCardSaid : Prop := Claim7.holds Tryd.pinned (.plain (OpenSpec.ofChange valueMaySpec)) valueMayCard

/-- THE TIED CARD OF 'pilasterlaw12.ValueSchemas'. -/
def valueSchemasCard : Claim7 := { stood := { row := valueSchemasRow, standIns := [], harness := (true, "71bb1f32b4699ae3a3fb56ecc16560f0ead72901ab401f720d4348452b636120"), looks := false }, kinds := [], alts := [], laidByText := true, laidKinds := [.data, .pinned], laidTests := true, laidLooks := .later }
def ValueSchemasCardSaid : Prop := Claim7.holds Tryd.pinned (.plain (OpenSpec.ofChange valueSchemasSpec)) valueSchemasCard

/-- THE SECOND FORM's CARD OF 'pilasterlaw12.ValueMay'. -/
def valueMayUptoCard : Claim7 := { stood := { row := valueMayUptoRow, standIns := [], harness := (true, "71bb1f32b4699ae3a3fb56ecc16560f0ead72901ab401f720d4348452b636120"), looks := false }, kinds := [], alts := [], laidByText := true, laidKinds := [.data, .pinned], laidTests := true, laidLooks := .later }
def ValueMayUptoCardSaid : Prop := Claim7.holds Tryd.pinned (.plain (OpenSpec.upto valueMaySpec)) valueMayUptoCard

/-- THE SECOND FORM's CARD OF 'pilasterlaw12.ValueSchemas'. -/
def valueSchemasUptoCard : Claim7 := { stood := { row := valueSchemasUptoRow, standIns := [], harness := (true, "71bb1f32b4699ae3a3fb56ecc16560f0ead72901ab401f720d4348452b636120"), looks := false }, kinds := [], alts := [], laidByText := true, laidKinds := [.data, .pinned], laidTests := true, laidLooks := .later }
def ValueSchemasUptoCardSaid : Prop := Claim7.holds Tryd.pinned (.plain (OpenSpec.upto valueSchemasSpec)) valueSchemasUptoCard
end Rows
end Go.Proofs.YtljepanilfbjgaaDoor
