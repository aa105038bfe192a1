/- Contract: the document's own Cmp. Condition: thirty-two bytes each. -/
import Derived.Test.YtnkcehmgagpadabDoorGp14
import Derived.Test.YtnkcehmgagpadabDoorUr
import Derived.Test.YtnkcehmgagpadabDoorUe
namespace Go.Proofs.YtnkcehmgagpadabDoor
open Go.RowKit
end Go.Proofs.YtnkcehmgagpadabDoor
/- Contracts: the law's own sets as the document's (the law's 'own'), the document's own Good, Same, Has. Condition: at most 10^5 sums. -/
namespace Go.Proofs.YtnkcehmgagpadabDoor
open Go.RowKit
end Go.Proofs.YtnkcehmgagpadabDoor
