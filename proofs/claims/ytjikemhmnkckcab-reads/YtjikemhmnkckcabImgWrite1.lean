import Derived.Test.YtjikemhmnkckcabImgSound2
import Derived.Lib.SlBytesRow
/- The image of a program: one byte. -/
namespace Go.Proofs.Ytjikemhmnkckcab
open Go.RowKit

set_option maxRecDepth 100000 in
set_option maxHeartbeats 800000 in
theorem one_any (v : Int) (w : World) (v0 : 0 ≤ v) (v1 : v ≤ 255) : Calls Try.prog 30 #[.int .i64 v] w fun e w' => e = .returned (.string ⟨#[UInt8.ofNat v.toNat]⟩) ∧ Below w.heap.size w w' := by
  have hconv : (convert 76 9 (.slice (some ⟨w.heap.size, 0, none⟩) 1 1)).run Try.prog (w.alloc (.cells #[.int .u8 v] 5)) = .ok (.string ⟨#[UInt8.ofNat v.toNat]⟩) (w.alloc (.cells #[.int .u8 v] 5)) := by
    refine Go.Lib.run_convert_whole (P := Try.prog) _ 76 5 9 Try.underlying76 Try.underlying5 Try.underlying9 w.heap.size 0 ⟨#[UInt8.ofNat v.toNat]⟩ (fun i hi => ?_) 1
    have hi' : i < 1 := hi
    obtain rfl : i = 0 := by omega
    have hb : Blk (w.alloc (.cells #[.int .u8 v] 5)) w.heap.size 5 [.int .u8 v] := Blk.alloc w _ _
    have hx : (((UInt8.ofNat v.toNat).toNat : Nat) : Int) = v := by rw [UInt8.toNat_ofNat']; omega
    show _ = some (Value.int .u8 (((UInt8.ofNat v.toNat).toNat : Nat) : Int))
    rw [hx]
    exact hb.cell (j := 0) rfl
  go_enter Try.func30, Try.ntmps30
  go_wp2
  go_ret
  exact ⟨rfl, (Below.refl _ _).alloc (Nat.le_refl _) _⟩
end Go.Proofs.Ytjikemhmnkckcab
