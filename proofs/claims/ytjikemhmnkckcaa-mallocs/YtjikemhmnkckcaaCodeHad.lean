import Derived.Test.YtjikemhmnkckcaaCodeRep
import Derived.Test.YtjikemhmnkckcaaCopyWide
/- The program's slot.had. -/
namespace Go.Proofs.Ytjikemhmnkckcaa
open Go.RowKit

/-- had: is the tag the slot's last? -/
def ghad (x : GSlot) (t : Int) : Bool := x.state != 2 && x.tag == t
def slotV (x : GSlot) : Value := .agg #[.int .i64 x.state, .int .i64 x.tag, .int .i64 x.bytes, .int .i64 x.rest, .int .i64 x.alloc, .int .i64 x.gone]
set_option maxRecDepth 100000 in
theorem had_any (x : GSlot) (t : Int) (w : World) :
    Calls Try.prog 100 #[slotV x, .int .i64 t] w fun e w' => e = .returned (.bool (ghad x t)) ∧ Below w.heap.size w w' := by
  unfold slotV
  have HG : Hid (ghad x t = (x.state != 2 && x.tag == t)) := rfl
  cases z1 : (x.state != 2)
  · have HF : Hid (ghad x t = false) := by show _ = _; rw [HG.out, z1]; rfl
    clear HG
    go_enter Try.func100, Try.ntmps100
    go_wp2
    go_ret
    exact ⟨by rw [HF.out]; rfl, (Below.refl _ _).alloc (Nat.le_refl _) _⟩
  · have HF : Hid (ghad x t = (x.tag == t)) := by show _ = _; rw [HG.out, z1]; rfl
    clear HG
    go_enter Try.func100, Try.ntmps100
    go_wp2
    go_ret
    exact ⟨by rw [HF.out]; rfl, (Below.refl _ _).alloc (Nat.le_refl _) _⟩

end Go.Proofs.Ytjikemhmnkckcaa
