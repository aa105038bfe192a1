/- Contract: the document's own Of: SHA-256. Condition: fewer than 2^40 bytes; a nil slice has no capacity. -/
import Derived.Test.YtnkcehmgagpadabDoorRblock
import Derived.Test.YtnkcehmgagpadabDoorGp8
namespace Go.Proofs.YtnkcehmgagpadabDoor
open Go.RowKit
section
attribute [local go_sem] N_and N_or N_xor N_add
end
end Go.Proofs.YtnkcehmgagpadabDoor
