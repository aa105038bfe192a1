/- Byte slices as lists: they lie in Byts here. No condition. -/
import Derived.Test.YthpledfjopbchaaDoorByts
namespace Go.Proofs.YthpledfjopbchaaDoor
end Go.Proofs.YthpledfjopbchaaDoor
