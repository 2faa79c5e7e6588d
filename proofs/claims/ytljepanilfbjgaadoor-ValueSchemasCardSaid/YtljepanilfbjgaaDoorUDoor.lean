
/- utf8's two tables out of what a seat's rows list. (For seats whose rows list these two alone.) -/

import Derived.Test.YtljepanilfbjgaaDoorUtf

import Derived.Test.YtljepanilfbjgaaDoorLaw

import Derived.Test.YtljepanilfbjgaaDoorTie

import Derived.Test.YtljepanilfbjgaaDoorCards

import Derived.SevenTiedAt

import Derived.Stop.Joined

import Derived.Lay

import Derived.LaidOnce

import Derived.Test.YtljepanilfbjgaaDoorTab

namespace Go.Proofs.YtljepanilfbjgaaDoor

open Go.Lib Go.RowKit Go.ChangeShapes Go.WideShapes Go.ChangeAt

theorem u8_of {W : World} (h : laidMetH Tryd.prog [("unicode/utf8.acceptRanges", Rows.laid_unicode_utf8_acceptRanges), ("unicode/utf8.first", Rows.laid_unicode_utf8_first)] W) : Tryd.U8 W := by
  rw [MakeChecks.laidMetH_plain _ _ _ (by kernel_rfl)] at h
  have h1 := Go.Lib.laidMet.reads h (n := "unicode/utf8.first") (d := Rows.laid_unicode_utf8_first) (by simp)
  have h2 := Go.Lib.laidMet.reads h (n := "unicode/utf8.acceptRanges") (d := Rows.laid_unicode_utf8_acceptRanges) (by simp)
  rw [show Rows.laid_unicode_utf8_first = firstData from Pinned.utf8First_eq] at h1
  rw [show (Rows.laid_unicode_utf8_acceptRanges : DataW Unit) = acceptData from by kernel_rfl] at h2
  exact utf8Tabs_of_readsT (U8Types.of196 Tryd.lays196) Tryd.u8extra h1 h2
end Go.Proofs.YtljepanilfbjgaaDoor
