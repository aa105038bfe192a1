import Derived.Test.YtbkddcafalhflaaDoorSha
import Derived.Test.YtbkddcafalhflaaDoorMem
/- What stands under the texts on sets, at a seat that has package sum's. No condition. -/
