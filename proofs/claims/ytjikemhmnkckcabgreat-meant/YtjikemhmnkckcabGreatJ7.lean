import Derived.Test.YtjikemhmnkckcabGreatJ6
import Derived.Test.YtjikemhmnkckcabGreatJ5
namespace Go.Proofs.YtjikemhmnkckcabGreat
open Go.RowKit
attribute [local go_sem ↓] Go.wp_at_zero Go.wp_at_succ
theorem add_lit (g off j : Nat) : (⟨g, off, none⟩ : Addr).add j = ⟨g, off + j, none⟩ := by unfold Addr.add; split <;> simp_all
theorem Kept.refl (w : World) (S : Nat → Prop) : Kept w w S := ⟨rfl, rfl, rfl, Nat.le_refl _, fun _ _ _ => rfl⟩
theorem Kept.setCell {w wr : World} {S : Nat → Prop} (h : Kept w wr S) (a : Addr) (v : Value) (ha : S a.block) : Kept w (wr.setCell a v) S :=
 ⟨h.os, h.tape, h.output, by rw [World.size_setCell]; exact h.size, fun k hk hs => (Below.heap_setCell wr a v k (fun e => hs (e ▸ ha))).trans (h.block k hk hs)⟩
end Go.Proofs.YtjikemhmnkckcabGreat
