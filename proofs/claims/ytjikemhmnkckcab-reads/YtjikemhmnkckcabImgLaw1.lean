import Derived.Test.YtjikemhmnkckcabImgBytes
import Derived.Test.YtjikemhmnkckcabStill
/- The law's sameProgram. -/
namespace Go.Proofs.Ytjikemhmnkckcab
open Go.RowKit
attribute [local go_sem ↓] Go.wp_at_zero Go.wp_at_succ

set_option maxRecDepth 100000 in
set_option maxHeartbeats 1600000 in
theorem sameProgram_any (st rest : Int) (a b : Option Addr) (cap capb : Nat) (cls : List (Int × Int)) (d : ByteArray) (ia ib : Option Addr) (icap icapb : Nat) (code : List Ins) (w : World) (ha : CRow w a cap cls) (hb : CRow w b capb cls) (hia : IRow w ia icap code) (hib : IRow w ib icapb code) :
    Calls Try.prog 9 #[.agg #[.int .i64 st, .int .i64 rest, .slice a cls.length cap, .string d, .slice ia code.length icap], .agg #[.int .i64 st, .int .i64 rest, .slice b cls.length capb, .string d, .slice ib code.length icapb]] w fun e w' => e = .returned (.bool true) ∧ Below w.heap.size w w' := by
  have l1 := hia.len
  have l2 := hia.cap
  unfold maxLen at l2
  have l3 := hib.len
  have l4 := hib.cap
  unfold maxLen at l4
  have HA := hide2 ha
  have HB := hide2 hb
  have HIA := hide2 hia
  have HIB := hide2 hib
  have e3 : (((code.length : Nat) : Int) != ((code.length : Nat) : Int)) = false := by simp
  clear ha hb hia hib
  go_enter Try.func9, Try.ntmps9
  go_wp2_with fail
  obtain ⟨wa, hwa⟩ : ∃ wa, wa = (w.alloc (.cells #[.int .i64 st, .int .i64 rest, .slice a cls.length cap, .string d, .slice ia code.length icap] 27)).alloc (.cells #[.int .i64 st, .int .i64 rest, .slice b cls.length capb, .string d, .slice ib code.length icapb] 27) := ⟨_, rfl⟩
  rw [← hwa]
  have HBA : Hid (Below w.heap.size w wa) := by show Below _ _ _; rw [hwa]; exact ((Below.refl _ _).alloc (Nat.le_refl _) _).alloc (by simp) _
  have HP : Hid (Blk wa w.heap.size 27 [.int .i64 st, .int .i64 rest, .slice a cls.length cap, .string d, .slice ia code.length icap]) := by
    show Blk _ _ _ _; rw [hwa]; exact (Below.heap_alloc _ _ _ (by simp)).trans (heap_alloc_new w _)
  have HQ : Hid (Blk wa (w.heap.size + 1) 27 [.int .i64 st, .int .i64 rest, .slice b cls.length capb, .string d, .slice ib code.length icapb]) := by
    show Blk _ _ _ _; rw [hwa, show w.heap.size + 1 = (w.alloc (.cells #[.int .i64 st, .int .i64 rest, .slice a cls.length cap, .string d, .slice ia code.length icap] 27)).heap.size by simp]; exact heap_alloc_new _ _
  clear hwa
  refine (same_any st rest a b cap capb cls _ (HA.out.below HBA.out) (HB.out.below HBA.out)).mono ?_
  rintro e1 w1 ⟨rfl, hb1⟩
  have HP1 := hide2 (HP.out.below hb1 HP.out.lt)
  have HQ1 := hide2 (HQ.out.below hb1 HQ.out.lt)
  have HB1 : Hid (Below w.heap.size w w1) := HBA.out.trans (hb1.mono HBA.out.size)
  clear hb1 HP HQ HBA
  have p3 := HP1.out.cell (j := 3) rfl
  have p4 := HP1.out.cell (j := 4) rfl
  have q3 := HQ1.out.cell (j := 3) rfl
  have q4 := HQ1.out.cell (j := 4) rfl
  go_wp2
  go_loopw [6] (fun i wr => ∃ m : Nat, m ≤ code.length ∧ i = .int .i64 (m : Int) ∧ Hid (Below w1.heap.size w1 wr)) (fun i _ => code.length - (intOf i).toNat)
  case atStart => exact ⟨0, by omega, rfl, Below.refl _ _⟩
  case round =>
    obtain ⟨m, hm, rfl, HBR⟩ := hrel
    have p4' := (HBR.out.cell (p := ⟨w.heap.size, 4, none⟩) HP1.out.lt).trans p4
    have q4' := (HBR.out.cell (p := ⟨w.heap.size + 1, 4, none⟩) HQ1.out.lt).trans q4
    clear p3 q3 p4 q4
    by_cases hlt : m < code.length
    · have HWR : Hid (Below w.heap.size w wr) := HB1.out.trans (HBR.out.mono HB1.out.size)
      obtain ⟨g, off, rfl, hgl, hcell⟩ := HIA.out.cells (by omega)
      obtain ⟨g', off', rfl, hgl', hcell'⟩ := HIB.out.cells (by omega)
      obtain ⟨x0, x1, x2, x3⟩ := hcell m hlt
      obtain ⟨y0, y1, y2, y3⟩ := hcell' m hlt
      have x0' := (HWR.out.cell (p := ⟨g, off + m * 4, none⟩) hgl).trans x0
      have x1' := (HWR.out.cell (p := ⟨g, off + m * 4 + 1, none⟩) hgl).trans x1
      have x2' := (HWR.out.cell (p := ⟨g, off + m * 4 + 2, none⟩) hgl).trans x2
      have x3' := (HWR.out.cell (p := ⟨g, off + m * 4 + 3, none⟩) hgl).trans x3
      have y0' := (HWR.out.cell (p := ⟨g', off' + m * 4, none⟩) hgl').trans y0
      have y1' := (HWR.out.cell (p := ⟨g', off' + m * 4 + 1, none⟩) hgl').trans y1
      have y2' := (HWR.out.cell (p := ⟨g', off' + m * 4 + 2, none⟩) hgl').trans y2
      have y3' := (HWR.out.cell (p := ⟨g', off' + m * 4 + 3, none⟩) hgl').trans y3
      have i0 : (0 : Int) ≤ (m : Int) := by omega
      have i1 : (m : Int) < (code.length : Int) := by omega
      clear x0 x1 x2 x3 y0 y1 y2 y3 hcell hcell'
      generalize (code.getD m Ins.no).op = z0 at *
      generalize (code.getD m Ins.no).a = z1 at *
      generalize (code.getD m Ins.no).b = z2 at *
      generalize (code.getD m Ins.no).c = z3 at *
      go_wp2
      go_quiet (fail)
      go_wp2
      go_roundw
      case rel => exact ⟨m + 1, by omega, by go_num, below_drewN HBR.out _⟩
      case measure => simp [intOf]; omega
    · go_wp2
      go_ret
      exact ⟨rfl, HB1.out.trans (HBR.out.mono HB1.out.size)⟩
end Go.Proofs.Ytjikemhmnkckcab
