/- What stands at the head of widths' statements, and the table out of what the rows list. -/
import Derived.Test.YtgngdfgfjghbbaaDoorWMost
import Derived.Test.YtgngdfgfjghbbaaDoorLaw
import Derived.Test.YtgngdfgfjghbbaaDoorTie
import Derived.Test.YtgngdfgfjghbbaaDoorCards
import Derived.SevenTiedAt
import Derived.Stop.Joined
namespace Go.Proofs.YtgngdfgfjghbbaaDoor
open Go.RowKit Go.ChangeShapes Go.WideShapes Go.ChangeAt

theorem wshown_any (w : World) (ht : WTab w) : Calls Tryd.prog 8 #[] w fun e w' => e = .returned (.bool true) ∧ w = w' := by
  have HT := Lib.hid ht
  clear ht
  have h1 : wof 23 = 24 := by decide
  have h2 : wof 24 = 26 := by decide
  have h3 : wof 31 = 64 := by decide
  have h4 : wof 32 = 0 := by decide
  have h5 : wcode 25 = -1 := by decide +kernel
  have h6 : wclosest 25 = 26 := by decide +kernel
  have h7 : wclosest 33 = 40 := by decide +kernel
  go_enter Tryd.func8, Tryd.ntmps8
  go_wp2_with (first | (go_at_call 9; refine (of_any _ _ HT.out (by omega) (by omega)).mono ?_; rintro e w' ⟨rfl, rfl⟩) | (go_at_call 11; refine (code_any _ _ HT.out).mono ?_; rintro e w' ⟨rfl, rfl⟩) | (go_at_call 13; refine (closest_any _ _ HT.out).mono ?_; rintro e w' ⟨rfl, rfl⟩))
  go_ret
  exact ⟨rfl, rfl⟩
theorem gTab : Tryd.prog.globalNamed "pilaster/widths.table" = some 0 := by kernel_rfl
theorem tTab : (Tryd.prog.globals[0]?).map (·.type) = some 33 := by kernel_rfl
theorem door_met (os : Os) (args : Array Value) : laidMetH Tryd.prog [("pilaster/widths.table", Rows.laid_pilaster_widths_table)] ((World.doorLaid Tryd.prog 400 os).forCall (fun _ _ => 0) ⟨#[], args, []⟩).memory :=
  laidMetH_of_parts3 (fuel := 8) (laidMet_of_run' 8 (by kernel_rfl) (by kernel_rfl)) (by kernel_rfl) (by kernel_rfl)
theorem tab_of {W : World} (h : laidMetH Tryd.prog [("pilaster/widths.table", Rows.laid_pilaster_widths_table)] W) : WTab W := by
  rw [MakeChecks.laidMetH_plain _ _ _ (by kernel_rfl)] at h
  exact row_of_laid (zs := wtab) gTab tTab Tryd.underlying33 Tryd.underlying3 (by kernel_rfl) (by kernel_rfl) (by omega) h
end Go.Proofs.YtgngdfgfjghbbaaDoor
