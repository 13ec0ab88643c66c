/- Words of the laws of layer 5, gathered. -/
import Derived.Test.YtifhjmhekapaoaaDoorHeadAlive
import Derived.Test.YtifhjmhekapaoaaDoorHeadRefEncode
import Derived.Test.YtifhjmhekapaoaaDoorBigAll
