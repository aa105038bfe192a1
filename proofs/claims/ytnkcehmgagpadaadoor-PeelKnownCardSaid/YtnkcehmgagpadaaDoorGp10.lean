/- Contract: the document's own Cmp. Condition: thirty-two bytes each. -/
import Derived.Test.YtnkcehmgagpadaaDoorGp14
import Derived.Test.YtnkcehmgagpadaaDoorUr
import Derived.Test.YtnkcehmgagpadaaDoorUe
namespace Go.Proofs.YtnkcehmgagpadaaDoor
open Go.RowKit
end Go.Proofs.YtnkcehmgagpadaaDoor
/- Contracts: the law's own sets as the document's (the law's 'own'), the document's own Good, Same, Has. Condition: at most 10^5 sums. -/
namespace Go.Proofs.YtnkcehmgagpadaaDoor
open Go.RowKit
end Go.Proofs.YtnkcehmgagpadaaDoor
