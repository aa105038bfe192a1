/- Plain laws of sets: what is apart, what is together. No condition. -/
import Derived.Test.YtnkcehmgagpadaaDoorUo
namespace Go.Proofs.YtnkcehmgagpadaaDoor
theorem sl4 (P Q : List Su) : botU P Q = botU Q P := ascU_unique (asc_botU _ _) (asc_botU _ _) fun z => by
  simp only [mem_botU]; exact And.comm
end Go.Proofs.YtnkcehmgagpadaaDoor
