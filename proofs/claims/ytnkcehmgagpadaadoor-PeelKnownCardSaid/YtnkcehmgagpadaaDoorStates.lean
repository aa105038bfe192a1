/- A region that draws its order, walked by state and not by path: an invariant J of what is listed, the slots and the memory, which each operation that may come up keeps (one proof an operation, whatever came before it); the states lie level by level, and the kernel checks that each one's ready operations are foreseen and lead to the next level. No condition. -/
import Derived.Test.YtnkcehmgagpadaaDoorGp24
namespace Go.Proofs.YtnkcehmgagpadaaDoor
section
variable {P : Program} {md : Region.Mode} {ops : Array Oper} {Q : Exit → Act → World → Prop} {S : World → Prop}
end
end Go.Proofs.YtnkcehmgagpadaaDoor
