import Derived.Test.YtjikemhmnkckcabGreatJ26
/- Malloc, Free, Realloc, Usable of a script that touches. -/
namespace Go.Proofs.YtjikemhmnkckcabGreat
open Go.RowKit

end Go.Proofs.YtjikemhmnkckcabGreat
