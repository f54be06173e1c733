import Derived.Test.YtjikemhmnkckcabGreatJ14
namespace Go.Proofs.YtjikemhmnkckcabGreat
namespace Ref
end Ref
end Go.Proofs.YtjikemhmnkckcabGreat
namespace Go.Proofs.YtjikemhmnkckcabGreat
open Go.RowKit
theorem tame_iff (p : Int) : Ref.tameB p = true ↔ 0 ≤ p ∧ p / 72057594037927936 ≤ 15 ∧ p % 72057594037927936 ≤ 65535 := by
 show ((decide (0 ≤ p) && decide (p / 72057594037927936 ≤ 15)) && decide (p % 72057594037927936 ≤ 65535)) = true ↔ _
 rw [Bool.and_eq_true, Bool.and_eq_true, decide_eq_true_iff, decide_eq_true_iff, decide_eq_true_iff, and_assoc]
theorem tame_not {p : Int} (h : Ref.tameB p = false) : p < 0 ∨ 15 < p / 72057594037927936 ∨ 65535 < p % 72057594037927936 := by
 have h2 : ¬ (0 ≤ p ∧ p / 72057594037927936 ≤ 15 ∧ p % 72057594037927936 ≤ 65535) := by rw [← tame_iff, h]; decide
 omega
def ghad (x : GSlot) (t : Int) : Bool := x.state != 2 && x.tag == t
def slotV (x : GSlot) : Value := .agg #[.int .i64 x.state, .int .i64 x.tag, .int .i64 x.bytes, .int .i64 x.rest, .int .i64 x.alloc, .int .i64 x.gone]
set_option maxRecDepth 100000 in
theorem had_any (x : GSlot) (t : Int) (w : World) :
 Calls Tryz.prog 158 #[slotV x, .int .i64 t] w fun e w' => e = .returned (.bool (ghad x t)) ∧ Below w.heap.size w w' := by
 unfold slotV
 have HG : Hid (ghad x t = (x.state != 2 && x.tag == t)) := rfl
 cases z1 : (x.state != 2)
 ·have HF : Hid (ghad x t = false) := by show _ = _; rw [HG.out, z1]; rfl
  clear HG
  go_enter Tryz.func158, Tryz.ntmps158
  go_wp2
  go_ret
  exact ⟨by rw [HF.out]; rfl, (Below.refl _ _).alloc (Nat.le_refl _) _⟩
 ·have HF : Hid (ghad x t = (x.tag == t)) := by show _ = _; rw [HG.out, z1]; rfl
  clear HG
  go_enter Tryz.func158, Tryz.ntmps158
  go_wp2
  go_ret
  exact ⟨by rw [HF.out]; rfl, (Below.refl _ _).alloc (Nat.le_refl _) _⟩
end Go.Proofs.YtjikemhmnkckcabGreat
