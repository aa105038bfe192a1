/- The arguments of the laws on pieces, opened. No condition. -/
import Derived.Test.YthpledfjopbchaaDoorOpenB
namespace Go.Proofs.YthpledfjopbchaaDoor
end Go.Proofs.YthpledfjopbchaaDoor
