import Derived.Test.YtjikemhmnkckcabRefWalks2
import Derived.Test.YtjikemhmnkckcabConfWalks2
namespace Go.Proofs.Ytjikemhmnkckcab
open Go.RowKit

/-- what the document's heap keeps: a valid configuration, and small sizes -/
structure ROk (R : RSt) : Prop where
  conf : Cf.Valid R.st R.rest R.cls
  size0 : ∀ i, 0 ≤ (R.log.getD i Ref.Ev.no).size
  size1 : ∀ i, (R.log.getD i Ref.Ev.no).size ≤ 8

end Go.Proofs.Ytjikemhmnkckcab
