import Derived.Test.YtjikemhmnkckcabJ12
import Derived.Test.YtjikemhmnkckcabJ22
namespace Go.Proofs.Ytjikemhmnkckcab
open Go.RowKit
attribute [local go_sem ↓] Go.wp_at_zero Go.wp_at_succ

set_option maxHeartbeats 400000 in
theorem num_any (e : Int) (w : World) : Calls Try.prog 10 #[.int .i64 e] w fun e' w' => e' = .returned (.int .i64 e) ∧ w = w' := by
  go_enter Try.func10, Try.ntmps10
  go_wp2
  go_ret
  exact ⟨rfl, rfl⟩

def WFoot (q ph : Nat) (gc : Value) (bb : Nat) (G : GSt) (pr : Nat) (vc vl vm : Value) (vp : Value) (b : Nat) : Prop := b = q ∨ GFoot ph gc bb G b ∨ RFoot pr vc vl vm b ∨ vp.ownBlock = some b

end Go.Proofs.Ytjikemhmnkckcab
