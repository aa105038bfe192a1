/- Sums: thirty-two bytes. No condition. -/
import Derived.Test.YtbkddcafalhflaaDoorUc
namespace Go.Proofs.YtbkddcafalhflaaDoor
/-- A sum: thirty-two bytes. -/
abbrev Su := { x : List (BitVec 8) // x.length = 32 }
instance : Inhabited Su := ⟨⟨List.replicate 32 0, by simp⟩⟩
end Go.Proofs.YtbkddcafalhflaaDoor
