import Derived.Test.YtjikemhmnkckcabJ24
namespace Go.Proofs.Ytjikemhmnkckcab
open Go.RowKit

theorem Kept.trans' {a b c : World} {S T : Nat → Prop} (h : Kept a b S) (g : Kept b c T) (ht : ∀ k, k < a.heap.size → T k → S k) : Kept a c S :=
  ⟨g.os.trans h.os, g.tape.trans h.tape, g.output.trans h.output, Nat.le_trans h.size g.size, fun k hk hs => (g.block k (Nat.lt_of_lt_of_le hk h.size) (fun x => hs (ht k hk x))).trans (h.block k hk hs)⟩
theorem mR_len (R : RSt) (size draw site : Int) : (mR R size draw site).log.length ≤ R.log.length + 1 := by unfold mR; split <;> simp

end Go.Proofs.Ytjikemhmnkckcab
