import Derived.Test.YtjikemhmnkckcabJ5
import Derived.Test.YtjikemhmnkckcabJ11
import Derived.Test.YtjikemhmnkckcabJ6
namespace Go.Proofs.Ytjikemhmnkckcab
open Go.RowKit

end Go.Proofs.Ytjikemhmnkckcab
namespace Go.Proofs.Ytjikemhmnkckcab
open Go.RowKit

/-- where the new list of events lies: where it lay, or in a new block -/
def NewBlk (vl vl' : Value) (w : World) : Prop := ∀ g, vl'.ownBlock = some g → vl.ownBlock = some g ∨ w.heap.size ≤ g

end Go.Proofs.Ytjikemhmnkckcab
namespace Go.Proofs.Ytjikemhmnkckcab
open Go.RowKit

end Go.Proofs.Ytjikemhmnkckcab
