/- Rows of sums in a guarded operation; a literal of a sum; sums told by their first byte. No condition. -/
import Derived.Test.YtnkcehmgagpadaaDoorUr
import Derived.Test.YtnkcehmgagpadaaDoorUe
namespace Go.Proofs.YtnkcehmgagpadaaDoor
open Go.RowKit
section
variable {ops : Array Oper} {rest : List Oper} {o : Oper} {a : Act} {w : World} {Q : Exit → Act → World → Prop}
end
end Go.Proofs.YtnkcehmgagpadaaDoor
