
/- Contracts of widths' functions, and of the reference's. -/

import Derived.Test.YthbmgedfhpdmpaaShelf

import Derived.Test.YthbmgedfhpdmpaaCom

import Derived.Test.YthbmgedfhpdmpaaWPlain

import Derived.Test.YthbmgedfhpdmpaaTab

namespace Go.Proofs.Ythbmgedfhpdmpaa

open Go.RowKit

def codeRel (x : Int) (i : Value) : Prop := ∃ k : Nat, i = .int .i64 k ∧ k ≤ 32 ∧ ∀ j, j < k → wat j ≠ x
def closestRel (x : Int) (i : Value) : Prop := ∃ k : Nat, i = .int .i64 k ∧ k ≤ 32 ∧ ∀ j, j < k → wat j < x
end Go.Proofs.Ythbmgedfhpdmpaa
