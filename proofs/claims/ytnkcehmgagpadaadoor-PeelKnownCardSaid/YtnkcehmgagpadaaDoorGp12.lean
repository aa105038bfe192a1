/- What stands under the openers of sums, at a seat with package sum's variables laid. No condition. -/
import Derived.Test.YtnkcehmgagpadaaDoorLaid
import Derived.Below
import Derived.ShutString
import Derived.Test.YtnkcehmgagpadaaDoorUm
import Derived.Deep.Slices
namespace Go.Proofs.YtnkcehmgagpadaaDoor
open Go.ChangeShapes Go.WideShapes Go.ChangeAt Go.RowKit
end Go.Proofs.YtnkcehmgagpadaaDoor
/- A sum by value, a slice of sums, that came in. No condition. -/
namespace Go.Proofs.YtnkcehmgagpadaaDoor
open Go.ChangeShapes Go.WideShapes Go.ChangeAt Go.RowKit Go.Deep
end Go.Proofs.YtnkcehmgagpadaaDoor
