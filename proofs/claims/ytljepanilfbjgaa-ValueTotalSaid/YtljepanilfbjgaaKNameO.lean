
/- The program's contracts of layer 12: name (of a column), named. -/

import Derived.Test.YtljepanilfbjgaaKName

import Derived.Test.YtljepanilfbjgaaWide

import Derived.Lib.OthersKept

import Derived.Lib.TrimUEq

namespace Go.Proofs.Ytljepanilfbjgaa

open Go.RowKit

theorem kchar_eq (r : Int) : kchar r = ((decide (97 ≤ r) && decide (r ≤ 122)) || (decide (48 ≤ r) && decide (r ≤ 57)) || (r == 95)) := by
  rw [Bool.eq_iff_iff, kchar_yes]
  simp only [Bool.or_eq_true, Bool.and_eq_true, decide_eq_true_eq, beq_iff_eq]
  omega
/-- What a range over a name knows of its place: all ahead of it may stand in a name. -/
def NameRelO (s : ByteArray) (w wr : World) : Prop := ∃ pos : Nat, wr.heap[w.heap.size]? = some (.stringIter s pos) ∧ kchars s pos ∧ Below w.heap.size w wr
end Go.Proofs.Ytljepanilfbjgaa
