
/- utf8.ValidString's contract, laid at this program; its two tables out of what a seat's rows list. -/

import Derived.Shelf.Unicode.ValidAny

import Derived.Lib.LaidU8T

import Derived.PinnedBridge

import Derived.Test.YtljepanilfbjgaaProg

namespace Go.Proofs

open Go.Shelf Go.Lib Go.RowKit
end Go.Proofs
