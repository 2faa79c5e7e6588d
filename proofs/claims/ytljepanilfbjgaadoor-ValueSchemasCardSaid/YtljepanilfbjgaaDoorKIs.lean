
/- The program's contracts of layer 12. -/

import Derived.Test.YtljepanilfbjgaaDoorKMayO

import Derived.Test.YtljepanilfbjgaaDoorKCmpO

import Derived.Test.YtljepanilfbjgaaDoorKSchemaO

namespace Go.Proofs.YtljepanilfbjgaaDoor

open Go.RowKit

end Go.Proofs.YtljepanilfbjgaaDoor
