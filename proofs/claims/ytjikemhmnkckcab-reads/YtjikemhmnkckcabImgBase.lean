import Derived.Test.YtjikemhmnkckcabCodeConf
import Derived.WalkLawsBesides
import Derived.Deep.RegionHeld3
import Derived.Deep.AppendLies
import Derived.Deep.DrawnRows
import Derived.Deep.RegionLaw
/- For the images: a configuration in memory, on both sides, is in CodeConf and what it imports. -/
