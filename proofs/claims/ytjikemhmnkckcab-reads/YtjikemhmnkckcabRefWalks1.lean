import Derived.Test.YtjikemhmnkckcabRefRep
import Derived.Test.YtjikemhmnkckcabPickWalks
namespace Go.Proofs.Ytjikemhmnkckcab
open Go.RowKit

end Go.Proofs.Ytjikemhmnkckcab
