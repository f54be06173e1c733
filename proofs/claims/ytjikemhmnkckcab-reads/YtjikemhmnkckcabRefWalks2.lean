import Derived.Test.YtjikemhmnkckcabRefWalks1
namespace Go.Proofs.Ytjikemhmnkckcab
open Go.RowKit

end Go.Proofs.Ytjikemhmnkckcab
