
/- The table of widths out of what a seat's rows list. (For seats whose rows list widths.table alone.) -/

import Derived.Test.YtiapopaggpnceaaDoorWLeaf

import Derived.Test.YtiapopaggpnceaaDoorLaw

import Derived.Test.YtiapopaggpnceaaDoorTie

import Derived.Test.YtiapopaggpnceaaDoorCards

import Derived.SevenTiedAt

import Derived.Stop.Joined

namespace Go.Proofs.YtiapopaggpnceaaDoor

open Go.RowKit Go.ChangeShapes Go.WideShapes Go.ChangeAt

theorem gTab : Tryd.prog.globalNamed "pilaster/widths.table" = some 0 := by kernel_rfl
theorem tTab : (Tryd.prog.globals[0]?).map (·.type) = some 63 := by kernel_rfl
theorem door_met (os : Os) (args : Array Value) : laidMetH Tryd.prog [("pilaster/widths.table", Rows.laid_pilaster_widths_table)] ((World.doorLaid Tryd.prog 400 os).forCall (fun _ _ => 0) ⟨#[], args, []⟩).memory :=
  laidMetH_of_parts3 (fuel := 8) (laidMet_of_run' 8 (by kernel_rfl) (by kernel_rfl)) (by kernel_rfl) (by kernel_rfl)
theorem tab_of {W : World} (h : laidMetH Tryd.prog [("pilaster/widths.table", Rows.laid_pilaster_widths_table)] W) : WTab W := by
  rw [MakeChecks.laidMetH_plain _ _ _ (by kernel_rfl)] at h
  exact row_of_laid (zs := wtab) gTab tTab Tryd.underlying63 Tryd.underlying3 (by kernel_rfl) (by kernel_rfl) (by omega) h
end Go.Proofs.YtiapopaggpnceaaDoor
