import Derived.Test.YtjikemhmnkckcabGreatJ26
import Derived.Test.YtjikemhmnkckcabGreatJ27
/- Load, Store, Move of a script that touches. -/
namespace Go.Proofs.YtjikemhmnkckcabGreat
open Go.RowKit

end Go.Proofs.YtjikemhmnkckcabGreat
/- The end of a script that touches: every byte. -/
namespace Go.Proofs.YtjikemhmnkckcabGreat
open Go.RowKit

def touchKinds : List Int := [1, 2, 10, 3, 4, 5, 6, 7]
theorem touchKinds_of {k : Int} (h : hasKind touchKinds k = true) : (k = 1 ∨ k = 2 ∨ k = 3 ∨ k = 4) ∨ k = 5 ∨ k = 6 ∨ k = 7 ∨ k = 10 := by
  unfold hasKind touchKinds at h
  simp at h
  omega
end Go.Proofs.YtjikemhmnkckcabGreat
