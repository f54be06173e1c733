import Derived.Test.YtjikemhmnkckcabImgCode1
/- The program's Write of a valid program. -/
namespace Go.Proofs.Ytjikemhmnkckcab
open Go.RowKit

set_option maxRecDepth 100000 in
set_option maxHeartbeats 800000 in
theorem gwrite_yes (st rest : Int) (a : Option Addr) (cap : Nat) (cls : List (Int × Int)) (d : ByteArray) (ia : Option Addr) (icap : Nat) (code : List Ins) (w : World) (h : CRow w a cap cls) (hi : IRow w ia icap code) (hs : soundB st rest cls d.size code = true) :
    Calls Try.prog 13 #[.agg #[.int .i64 st, .int .i64 rest, .slice a cls.length cap, .string d, .slice ia code.length icap]] w fun e w' => e = .returned (.tuple #[.string (img4 st rest cls d code code.length), .int .i64 0]) ∧ Below w.heap.size w w' := by
  have HC := hide2 h
  have HI := hide2 hi
  have HS := hide2 hs
  clear h hi hs
  go_enter Try.func13, Try.ntmps13
  go_wp2_with fail
  obtain ⟨wa, hwa⟩ : ∃ wa, wa = w.alloc (.cells #[.int .i64 st, .int .i64 rest, .slice a cls.length cap, .string d, .slice ia code.length icap] 27) := ⟨_, rfl⟩
  rw [← hwa]
  have HBA : Hid (Below w.heap.size w wa) := by show Below _ _ _; rw [hwa]; exact (Below.refl _ _).alloc (Nat.le_refl _) _
  have HP : Hid (Blk wa w.heap.size 27 [.int .i64 st, .int .i64 rest, .slice a cls.length cap, .string d, .slice ia code.length icap]) := by show Blk _ _ _ _; rw [hwa]; exact Blk.alloc _ _ _
  clear hwa
  refine (validProgram_any st rest a cap cls d ia icap code _ (HC.out.below HBA.out) (HI.out.below HBA.out)).mono ?_
  rw [HS.out]
  rintro e1 w1 ⟨rfl, hb1⟩
  have HP1 := hide2 (HP.out.below hb1 HP.out.lt)
  have HB : Hid (Below w.heap.size w w1) := HBA.out.trans (hb1.mono HBA.out.size)
  clear hb1 HP HBA
  have p0 := HP1.out.cell (j := 0) rfl
  have p1 := HP1.out.cell (j := 1) rfl
  have p2 := HP1.out.cell (j := 2) rfl
  have p3 := HP1.out.cell (j := 3) rfl
  have p4 := HP1.out.cell (j := 4) rfl
  go_wp2_with fail
  refine (image_any st rest a cap cls d ia icap code _ (HC.out.below HB.out) (HI.out.below HB.out) HS.out).mono ?_
  rintro e2 w2 ⟨rfl, hb2⟩
  have HB2 := hide2 (HB.out.trans (hb2.mono HB.out.size))
  clear hb2 p0 p1 p2 p3 p4
  go_wp2
  go_ret2
  exact ⟨rfl, HB2.out⟩
end Go.Proofs.Ytjikemhmnkckcab
