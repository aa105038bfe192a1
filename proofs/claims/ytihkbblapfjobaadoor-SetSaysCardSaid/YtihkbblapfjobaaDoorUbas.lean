import Derived.Test.YtihkbblapfjobaaDoorSha
import Derived.Test.YtihkbblapfjobaaDoorMem
/- What stands under the texts on sets, at a seat that has package sum's. No condition. -/
