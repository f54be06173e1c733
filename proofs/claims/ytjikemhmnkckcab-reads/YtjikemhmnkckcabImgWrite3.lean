import Derived.Test.YtjikemhmnkckcabImgWrite2
/- Write of what is no valid program. -/
namespace Go.Proofs.Ytjikemhmnkckcab
open Go.RowKit

set_option maxRecDepth 100000 in
set_option maxHeartbeats 800000 in
theorem rwrite_no (st rest : Int) (a : Option Addr) (cap : Nat) (cls : List (Int × Int)) (d : ByteArray) (ia : Option Addr) (icap : Nat) (code : List Ins) (w : World) (h : CRow w a cap cls) (hi : IRow w ia icap code) (hs : soundB st rest cls d.size code = false) :
    Calls Try.prog 14 #[.agg #[.int .i64 st, .int .i64 rest, .slice a cls.length cap, .string d, .slice ia code.length icap]] w fun e w' => e = .returned (.tuple #[.string ⟨#[]⟩, .int .i64 10]) ∧ Below w.heap.size w w' := by
  have HC := hide2 h
  have HI := hide2 hi
  have HS := hide2 hs
  clear h hi hs
  go_enter Try.func14, Try.ntmps14
  go_wp2_with fail
  refine (sound_any st rest a cap cls d ia icap code _ (HC.out.below ((Below.refl _ _).alloc (Nat.le_refl _) _)) (HI.out.below ((Below.refl _ _).alloc (Nat.le_refl _) _))).mono ?_
  rw [HS.out]
  rintro e1 w1 ⟨rfl, hb1⟩
  go_wp2
  go_ret2
  exact ⟨rfl, ((Below.refl _ _).alloc (Nat.le_refl _) _).trans (hb1.mono (by simp))⟩
set_option maxRecDepth 100000 in
set_option maxHeartbeats 800000 in
theorem gwrite_no (st rest : Int) (a : Option Addr) (cap : Nat) (cls : List (Int × Int)) (d : ByteArray) (ia : Option Addr) (icap : Nat) (code : List Ins) (w : World) (h : CRow w a cap cls) (hi : IRow w ia icap code) (hs : soundB st rest cls d.size code = false) :
    Calls Try.prog 13 #[.agg #[.int .i64 st, .int .i64 rest, .slice a cls.length cap, .string d, .slice ia code.length icap]] w fun e w' => e = .returned (.tuple #[.string ⟨#[]⟩, .int .i64 10]) ∧ Below w.heap.size w w' := by
  have HC := hide2 h
  have HI := hide2 hi
  have HS := hide2 hs
  clear h hi hs
  go_enter Try.func13, Try.ntmps13
  go_wp2_with fail
  first
    | refine (validProgram_any st rest a cap cls d ia icap code w HC.out HI.out).mono ?_
    | refine (validProgram_any st rest a cap cls d ia icap code _ (HC.out.below ((Below.refl _ _).alloc (Nat.le_refl _) _)) (HI.out.below ((Below.refl _ _).alloc (Nat.le_refl _) _))).mono ?_
  rw [HS.out]
  rintro e1 w1 ⟨rfl, hb1⟩
  go_wp2
  go_ret2
  first
    | exact ⟨rfl, hb1⟩
    | exact ⟨rfl, ((Below.refl _ _).alloc (Nat.le_refl _) _).trans (hb1.mono (by simp))⟩
end Go.Proofs.Ytjikemhmnkckcab
