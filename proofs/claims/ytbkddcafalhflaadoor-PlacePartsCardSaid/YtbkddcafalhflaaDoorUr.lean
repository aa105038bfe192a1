/- Contracts: a law's arguments as a set (the law's 'row'), package set's rises, Good. Conditions: at most 10^5 sums (Good, rises: fewer than 2^62). -/
import Derived.Test.YtbkddcafalhflaaDoorUm
namespace Go.Proofs.YtbkddcafalhflaaDoor
open Go.RowKit
theorem szSum : (Tryd.prog.info? 28).map (·.size) = some 32 := by kernel_rfl
theorem szArr : (Tryd.prog.info? 27).map (·.size) = some 32 := by kernel_rfl
end Go.Proofs.YtbkddcafalhflaaDoor
