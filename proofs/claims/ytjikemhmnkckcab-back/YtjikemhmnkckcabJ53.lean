import Derived.Test.YtjikemhmnkckcabJ51
import Derived.Test.YtjikemhmnkckcabJ48
/- The program's Read. -/
namespace Go.Proofs.Ytjikemhmnkckcab
open Go.RowKit

set_option maxRecDepth 100000 in
set_option maxHeartbeats 3200000 in
theorem gread_any (d : ByteArray) (w : World) (hd : (d.size : Int) ≤ 9223372036854775807) : Calls Try.prog 7 #[.string d] w fun e w' =>
    ∃ a cap ia icap, e = .returned (.tuple #[.agg #[.int .i64 (oSt d), .int .i64 (oRest d), .slice a (oCls d).length cap, .string (oData d), .slice ia (oCode d).length icap], .int .i64 (oErr d)]) ∧
      Rows2 w' w.heap.size (.slice a (oCls d).length cap) (.slice ia (oCode d).length icap) (oCls d) (oCode d) ∧ Below w.heap.size w w' ∧ (imgB d = false → a = none ∧ cap = 0 ∧ ia = none ∧ icap = 0) := by
  go_enter Try.func7, Try.ntmps7
  go_upto_region 2 with (fail)
  obtain ⟨wa, hwa⟩ : ∃ wa, wa = (w.alloc (.cells zProg.toArray 27)).alloc (.cells (scV d 0 false).toArray 59) := ⟨_, rfl⟩
  have hsc : scV d 0 false = [.string d, .int .i64 0, .bool false] := by simp [scV]
  have HBL : Hid (Below w.heap.size w wa) := by show Below _ _ _; rw [hwa]; exact ((Below.refl _ _).alloc (Nat.le_refl _) _).alloc (by simp) _
  have hsa : Hid (wa.heap.size = w.heap.size + 2) := by show _ = _; rw [hwa]; simp
  have HZ : Hid (Blk wa w.heap.size 27 zProg) := by
    show Blk _ _ _ _; rw [hwa]; exact (Below.heap_alloc _ _ _ (by simp)).trans (heap_alloc_new w _)
  have HS : Hid (Blk wa (w.heap.size + 1) 59 (scV d 0 false)) := by
    show Blk _ _ _ _
    rw [hwa, show w.heap.size + 1 = (w.alloc (.cells zProg.toArray 27)).heap.size by simp]
    exact heap_alloc_new _ _
  rw [hsc] at hwa
  unfold zProg at hwa
  rw [← hwa]
  clear hwa hsc
  go_upto_region 3 with (go_at_call 24; refine (program_any (w.heap.size + 1) d _ HS.out hd).mono ?_; rintro e1 w1 ⟨a, cap, ia, icap, rfl, hrows, hb1, hk1⟩; have HS1 := hide2 hb1; have HR1 := hide2 hrows; have HK1 := hide2 hk1; have HZ1 := hide2 (HZ.out.kept hk1 (by omega)); have hsz1 := hk1.size; clear hb1 hk1 hrows)
  have hwa2 := hsa.out
  have HB1 : Hid (Below w.heap.size w w1) := ⟨by rw [HK1.out.os, HBL.out.os], by rw [HK1.out.tape, HBL.out.tape], by rw [HK1.out.output, HBL.out.output], by omega, fun k hk => (HK1.out.block k (by omega) (by omega)).trans (HBL.out.block k hk)⟩
  generalize hst : byteAt d 2 = st at *
  generalize hre : byteAt d 3 = re at *
  obtain ⟨w2, hw2⟩ : ∃ w2, w2 = w1.alloc (.cells #[.int .i64 st, .int .i64 re, .slice a (pCls d).length cap, .string (pDataG d (pM d)), .slice ia (pCode d).length icap] 27) := ⟨_, rfl⟩
  have HX2 : Hid (Below w1.heap.size w1 w2) := by show Below _ _ _; rw [hw2]; exact (Below.refl _ _).alloc (Nat.le_refl _) _
  have HP2 : Hid (Blk w2 w1.heap.size 27 [.int .i64 st, .int .i64 re, .slice a (pCls d).length cap, .string (pDataG d (pM d)), .slice ia (pCode d).length icap]) := by show Blk _ _ _ _; rw [hw2]; exact Blk.alloc _ _ _
  rw [← hw2]
  have HST := hide2 hst
  have HRE := hide2 hre
  clear hst hre hw2
  have HS2 := hide2 (HS1.out.below HX2.out HS1.out.lt)
  have HZ2 := hide2 (HZ1.out.below HX2.out HZ1.out.lt)
  have HR2 := hide2 ((HR1.out.kept (fun g _ hg => HX2.out.block g hg)).le (show w.heap.size + 2 ≤ wa.heap.size + 2 by omega))
  have HB2 : Hid (Below w.heap.size w w2) := HB1.out.trans (HX2.out.mono (by omega))
  have hpz : w1.heap.size ≠ w.heap.size := by omega
  clear HS HZ HBL HS1 HZ1 HR1 HB1 hsa HK1 HX2
  have s1 := HS2.out.cell (j := 1) rfl
  have s2 := HS2.out.cell (j := 2) rfl
  have z0 := HZ2.out.cell (j := 0) rfl
  have z1 := HZ2.out.cell (j := 1) rfl
  have z2 := HZ2.out.cell (j := 2) rfl
  have z3 := HZ2.out.cell (j := 3) rfl
  have z4 := HZ2.out.cell (j := 4) rfl
  have zf0 := HZ2.out.frozen 0
  have zf1 := HZ2.out.frozen 1
  have zf2 := HZ2.out.frozen 2
  have zf3 := HZ2.out.frozen 3
  have zf4 := HZ2.out.frozen 4
  have p0 := HP2.out.cell (j := 0) rfl
  have p1 := HP2.out.cell (j := 1) rfl
  have p2 := HP2.out.cell (j := 2) rfl
  have p3 := HP2.out.cell (j := 3) rfl
  have p4 := HP2.out.cell (j := 4) rfl
  cases hh : pHead d with
  | false =>
    have HY := hide2 (o_no (d := d) (by unfold imgB; rw [hh]; rfl))
    rw [hh] at s2
    simp only [Bool.not_false, Bool.true_or] at s2
    go_wp2
    refine bodyPost_ret (v := .tuple #[.agg zProg.toArray, .int .i64 10]) (by simp [results, Try.results7, go_sem, z0, z1, z2, z3, z4, zProg]) rfl ?_
    obtain ⟨y0, y1, y2, y3, y4, y5⟩ := HY.out
    rw [y0, y1, y2, y3, y4, y5]
    exact ⟨none, 0, none, 0, rfl, rows2_nil _ _, below_set5 HB2.out _ _ _ _ _, fun _ => ⟨rfl, rfl, rfl, rfl⟩⟩
  | true =>
    rw [hh] at s2
    rcases Nat.lt_trichotomy (pEnd d) d.size with hlt | heq | hgt
    · have HY := hide2 (o_no (d := d) (by unfold imgB; rw [show decide (pEnd d = d.size) = false by simp; omega]; simp))
      rw [show (!true || decide (d.size < pEnd d)) = false by simp; omega] at s2
      rw [show min (pEnd d) d.size = pEnd d by omega] at s1
      have hne : (((pEnd d : Nat) : Int) != ((d.size : Nat) : Int)) = true := by rw [bne_iff_ne]; omega
      go_wp2
      refine bodyPost_ret (v := .tuple #[.agg zProg.toArray, .int .i64 10]) (by simp [results, Try.results7, go_sem, z0, z1, z2, z3, z4, zProg]) rfl ?_
      obtain ⟨y0, y1, y2, y3, y4, y5⟩ := HY.out
      rw [y0, y1, y2, y3, y4, y5]
      exact ⟨none, 0, none, 0, rfl, rows2_nil _ _, below_set5 HB2.out _ _ _ _ _, fun _ => ⟨rfl, rfl, rfl, rfl⟩⟩
    · rw [show (!true || decide (d.size < pEnd d)) = false by simp; omega] at s2
      rw [show min (pEnd d) d.size = d.size by omega] at s1
      have hne : (((d.size : Nat) : Int) != ((d.size : Nat) : Int)) = false := by simp
      have hF := pEnd_F heq
      cases hs : pSound d (pM d) with
      | false =>
        have HY := hide2 (o_no (d := d) (by unfold imgB; rw [hs]; simp))
        have HSB : Hid (soundB st re (pCls d) (pDataG d (pM d)).size (pCode d) = false) := by show _ = _; rw [pDataG_size, ← HST.out, ← HRE.out]; exact hs
        go_wp2_with (go_at_call 25; refine (validProgram_any st re a cap (pCls d) (pDataG d (pM d)) ia icap (pCode d) _ (crow_of HR2.out.crow) (irow_of HR2.out.irow)).mono ?_; rw [HSB.out]; rintro e2 w3 ⟨rfl, hb3⟩; have HB3 := hide2 (HB2.out.trans (hb3.mono HB2.out.size)); have HZ3 := hide2 (HZ2.out.below hb3 HZ2.out.lt); have zz0 := HZ3.out.cell (j := 0) rfl; have zz1 := HZ3.out.cell (j := 1) rfl; have zz2 := HZ3.out.cell (j := 2) rfl; have zz3 := HZ3.out.cell (j := 3) rfl; have zz4 := HZ3.out.cell (j := 4) rfl; have zzf0 := HZ3.out.frozen 0; have zzf1 := HZ3.out.frozen 1; have zzf2 := HZ3.out.frozen 2; have zzf3 := HZ3.out.frozen 3; have zzf4 := HZ3.out.frozen 4; clear hb3)
        refine bodyPost_ret (v := .tuple #[.agg zProg.toArray, .int .i64 10]) (by simp [results, Try.results7, go_sem, zz0, zz1, zz2, zz3, zz4, zProg]) rfl ?_
        obtain ⟨y0, y1, y2, y3, y4, y5⟩ := HY.out
        rw [y0, y1, y2, y3, y4, y5]
        exact ⟨none, 0, none, 0, rfl, rows2_nil _ _, below_set5 HB3.out _ _ _ _ _, fun _ => ⟨rfl, rfl, rfl, rfl⟩⟩
      | true =>
        have hB : imgB d = true := by unfold imgB; rw [hh, hs]; simp [heq]
        have HY := hide2 (o_yes hB)
        have HBB := hide2 hB
        have HDT : Hid (pDataG d (pM d) = pData d) := by show _ = _; rw [pDataG_eq (by omega)]; unfold pData; rw [if_pos (by omega)]
        have HSB : Hid (soundB st re (pCls d) (pDataG d (pM d)).size (pCode d) = true) := by show _ = _; rw [pDataG_size, ← HST.out, ← HRE.out]; exact hs
        clear hB
        go_wp2_with (go_at_call 25; refine (validProgram_any st re a cap (pCls d) (pDataG d (pM d)) ia icap (pCode d) _ (crow_of HR2.out.crow) (irow_of HR2.out.irow)).mono ?_; rw [HSB.out]; rintro e2 w3 ⟨rfl, hb3⟩; have HB3 := hide2 (HB2.out.trans (hb3.mono HB2.out.size)); have HZ3 := hide2 (HZ2.out.below hb3 HZ2.out.lt); have HP3 := hide2 (HP2.out.below hb3 HP2.out.lt); have HR3 := hide2 (HR2.out.kept (fun g _ hg => hb3.block g hg)); have zz0 := HZ3.out.cell (j := 0) rfl; have zz1 := HZ3.out.cell (j := 1) rfl; have zz2 := HZ3.out.cell (j := 2) rfl; have zz3 := HZ3.out.cell (j := 3) rfl; have zz4 := HZ3.out.cell (j := 4) rfl; have zzf0 := HZ3.out.frozen 0; have zzf1 := HZ3.out.frozen 1; have zzf2 := HZ3.out.frozen 2; have zzf3 := HZ3.out.frozen 3; have zzf4 := HZ3.out.frozen 4; have pp0 := HP3.out.cell (j := 0) rfl; have pp1 := HP3.out.cell (j := 1) rfl; have pp2 := HP3.out.cell (j := 2) rfl; have pp3 := HP3.out.cell (j := 3) rfl; have pp4 := HP3.out.cell (j := 4) rfl; clear hb3)
        refine bodyPost_ret (v := .tuple #[.agg #[.int .i64 st, .int .i64 re, .slice a (pCls d).length cap, .string (pDataG d (pM d)), .slice ia (pCode d).length icap], .int .i64 0]) (by simp [results, Try.results7, go_sem, zz0, zz1, zz2, zz3, zz4]) rfl ?_
        obtain ⟨y0, y1, y2, y3, y4, y5⟩ := HY.out
        rw [y0, y1, y2, y3, y4, y5, HST.out, HRE.out, HDT.out]
        refine ⟨a, cap, ia, icap, rfl, (HR3.out.kept (fun g hg _ => ?_)).le (by omega), below_set5 HB3.out _ _ _ _ _, fun h => by rw [HBB.out] at h; cases h⟩
        have hn : g ≠ w.heap.size := by omega
        rw [Below.heap_setCell _ _ _ g hn, Below.heap_setCell _ _ _ g hn, Below.heap_setCell _ _ _ g hn, Below.heap_setCell _ _ _ g hn, Below.heap_setCell _ _ _ g hn]
    · have HY := hide2 (o_no (d := d) (by unfold imgB; rw [show decide (pEnd d = d.size) = false by simp; omega]; simp))
      rw [show (!true || decide (d.size < pEnd d)) = true by simp; omega] at s2
      go_wp2
      refine bodyPost_ret (v := .tuple #[.agg zProg.toArray, .int .i64 10]) (by simp [results, Try.results7, go_sem, z0, z1, z2, z3, z4, zProg]) rfl ?_
      obtain ⟨y0, y1, y2, y3, y4, y5⟩ := HY.out
      rw [y0, y1, y2, y3, y4, y5]
      exact ⟨none, 0, none, 0, rfl, rows2_nil _ _, below_set5 HB2.out _ _ _ _ _, fun _ => ⟨rfl, rfl, rfl, rfl⟩⟩
end Go.Proofs.Ytjikemhmnkckcab
/- The statements' same; Run of what is no image; refusedImage. -/
namespace Go.Proofs.Ytjikemhmnkckcab
open Go.RowKit
attribute [local go_sem ↓] Go.wp_at_zero Go.wp_at_succ

set_option maxRecDepth 100000 in
set_option maxHeartbeats 3200000 in
theorem ksame_any (st rest : Int) (a b : Option Addr) (cap capb : Nat) (cls : List (Int × Int)) (d : ByteArray) (ia ib : Option Addr) (icap icapb : Nat) (code : List Ins) (w : World) (ha : CRow w a cap cls) (hb : CRow w b capb cls) (hia : IRow w ia icap code) (hib : IRow w ib icapb code) :
    Calls Try.prog 17 #[.agg #[.int .i64 st, .int .i64 rest, .slice a cls.length cap, .string d, .slice ia code.length icap], .agg #[.int .i64 st, .int .i64 rest, .slice b cls.length capb, .string d, .slice ib code.length icapb]] w fun e w' => e = .returned (.bool true) ∧ Below w.heap.size w w' := by
  have l1 := hia.len
  have l2 := hia.cap
  have l3 := ha.len
  have l4 := ha.cap
  unfold maxLen at l2 l4
  have HA := hide2 ha
  have HB := hide2 hb
  have HIA := hide2 hia
  have HIB := hide2 hib
  have e0 : (st != st) = false := by simp
  have e1 : (rest != rest) = false := by simp
  have e2 : (((cls.length : Nat) : Int) != ((cls.length : Nat) : Int)) = false := by simp
  have e3 : (((code.length : Nat) : Int) != ((code.length : Nat) : Int)) = false := by simp
  clear ha hb hia hib
  go_enter Try.func17, Try.ntmps17
  go_upto_region 1 with (fail)
  obtain ⟨wa, hwa⟩ : ∃ wa, wa = (w.alloc (.cells #[.int .i64 st, .int .i64 rest, .slice a cls.length cap, .string d, .slice ia code.length icap] 27)).alloc (.cells #[.int .i64 st, .int .i64 rest, .slice b cls.length capb, .string d, .slice ib code.length icapb] 27) := ⟨_, rfl⟩
  rw [← hwa]
  have HBA : Hid (Below w.heap.size w wa) := by show Below _ _ _; rw [hwa]; exact ((Below.refl _ _).alloc (Nat.le_refl _) _).alloc (by simp) _
  have HP1 : Hid (Blk wa w.heap.size 27 [.int .i64 st, .int .i64 rest, .slice a cls.length cap, .string d, .slice ia code.length icap]) := by
    show Blk _ _ _ _; rw [hwa]; exact (Below.heap_alloc _ _ _ (by simp)).trans (heap_alloc_new w _)
  have HQ1 : Hid (Blk wa (w.heap.size + 1) 27 [.int .i64 st, .int .i64 rest, .slice b cls.length capb, .string d, .slice ib code.length icapb]) := by
    show Blk _ _ _ _; rw [hwa, show w.heap.size + 1 = (w.alloc (.cells #[.int .i64 st, .int .i64 rest, .slice a cls.length cap, .string d, .slice ia code.length icap] 27)).heap.size by simp]; exact heap_alloc_new _ _
  clear hwa
  have p0 := HP1.out.cell (j := 0) rfl
  have p1 := HP1.out.cell (j := 1) rfl
  have p2 := HP1.out.cell (j := 2) rfl
  have p3 := HP1.out.cell (j := 3) rfl
  have p4 := HP1.out.cell (j := 4) rfl
  have q0 := HQ1.out.cell (j := 0) rfl
  have q1 := HQ1.out.cell (j := 1) rfl
  have q2 := HQ1.out.cell (j := 2) rfl
  have q3 := HQ1.out.cell (j := 3) rfl
  have q4 := HQ1.out.cell (j := 4) rfl
  go_wp2
  go_loopw [5] (fun i wr => ∃ m : Nat, m ≤ cls.length ∧ i = .int .i64 (m : Int) ∧ Hid (Below wa.heap.size wa wr)) (fun i _ => cls.length - (intOf i).toNat)
  case atStart => exact ⟨0, by omega, rfl, Below.refl _ _⟩
  case round =>
    obtain ⟨m, hm, rfl, HBR⟩ := hrel
    have p2' := (HBR.out.cell (p := ⟨w.heap.size, 2, none⟩) HP1.out.lt).trans p2
    have q2' := (HBR.out.cell (p := ⟨w.heap.size + 1, 2, none⟩) HQ1.out.lt).trans q2
    have p4' := (HBR.out.cell (p := ⟨w.heap.size, 4, none⟩) HP1.out.lt).trans p4
    clear p0 p1 p3 q0 q1 q3 p2 q2
    by_cases hlt : m < cls.length
    · have HWR : Hid (Below w.heap.size w wr) := HBA.out.trans (HBR.out.mono HBA.out.size)
      obtain ⟨g, off, rfl, hgl, hcell⟩ := HA.out.cells (by omega)
      obtain ⟨g', off', rfl, hgl', hcell'⟩ := HB.out.cells (by omega)
      have x0' := (HWR.out.cell (p := ⟨g, off + m * 2, none⟩) hgl).trans (hcell m hlt).1
      have x1' := (HWR.out.cell (p := ⟨g, off + m * 2 + 1, none⟩) hgl).trans (hcell m hlt).2
      have y0' := (HWR.out.cell (p := ⟨g', off' + m * 2, none⟩) hgl').trans (hcell' m hlt).1
      have y1' := (HWR.out.cell (p := ⟨g', off' + m * 2 + 1, none⟩) hgl').trans (hcell' m hlt).2
      have i0 : (0 : Int) ≤ (m : Int) := by omega
      have i1 : (m : Int) < (cls.length : Int) := by omega
      clear hcell hcell'
      generalize Cf.gr cls m = z0 at *
      generalize Cf.sl cls m = z1 at *
      go_wp2
      go_quiet (fail)
      go_wp2
      go_roundw
      case rel => exact ⟨m + 1, by omega, by go_num, below_drewN HBR.out _⟩
      case measure => simp [intOf]; omega
    · go_upto_region 10 with (fail)
      generalize wr = wv at *
      go_wp2
      go_loopw [6] (fun i wr => ∃ m : Nat, m ≤ code.length ∧ i = .int .i64 (m : Int) ∧ Hid (Below wa.heap.size wa wr)) (fun i _ => code.length - (intOf i).toNat)
      case atStart => exact ⟨0, by omega, rfl, HBR⟩
      case round =>
        obtain ⟨k, hk, rfl, HBK⟩ := hrel
        have r4 := (HBK.out.cell (p := ⟨w.heap.size, 4, none⟩) HP1.out.lt).trans p4
        have s4 := (HBK.out.cell (p := ⟨w.heap.size + 1, 4, none⟩) HQ1.out.lt).trans q4
        clear p4 q4 p2' q2' p4'
        by_cases hlt2 : k < code.length
        · have HWR : Hid (Below w.heap.size w wr) := HBA.out.trans (HBK.out.mono HBA.out.size)
          obtain ⟨g, off, rfl, hgl, hcell⟩ := HIA.out.cells (by omega)
          obtain ⟨g', off', rfl, hgl', hcell'⟩ := HIB.out.cells (by omega)
          obtain ⟨x0, x1, x2, x3⟩ := hcell k hlt2
          obtain ⟨y0, y1, y2, y3⟩ := hcell' k hlt2
          have x0' := (HWR.out.cell (p := ⟨g, off + k * 4, none⟩) hgl).trans x0
          have x1' := (HWR.out.cell (p := ⟨g, off + k * 4 + 1, none⟩) hgl).trans x1
          have x2' := (HWR.out.cell (p := ⟨g, off + k * 4 + 2, none⟩) hgl).trans x2
          have x3' := (HWR.out.cell (p := ⟨g, off + k * 4 + 3, none⟩) hgl).trans x3
          have y0' := (HWR.out.cell (p := ⟨g', off' + k * 4, none⟩) hgl').trans y0
          have y1' := (HWR.out.cell (p := ⟨g', off' + k * 4 + 1, none⟩) hgl').trans y1
          have y2' := (HWR.out.cell (p := ⟨g', off' + k * 4 + 2, none⟩) hgl').trans y2
          have y3' := (HWR.out.cell (p := ⟨g', off' + k * 4 + 3, none⟩) hgl').trans y3
          have i0 : (0 : Int) ≤ (k : Int) := by omega
          have i1 : (k : Int) < (code.length : Int) := by omega
          clear x0 x1 x2 x3 y0 y1 y2 y3 hcell hcell'
          generalize (code.getD k Ins.no).op = z0 at *
          generalize (code.getD k Ins.no).a = z1 at *
          generalize (code.getD k Ins.no).b = z2 at *
          generalize (code.getD k Ins.no).c = z3 at *
          go_wp2
          go_quiet (fail)
          go_wp2
          go_roundw
          case rel => exact ⟨k + 1, by omega, by go_num, below_drewN HBK.out _⟩
          case measure => simp [intOf]; omega
        · go_wp2
          go_ret
          exact ⟨rfl, HBA.out.trans (HBK.out.mono HBA.out.size)⟩

/-- An outcome's cells. -/
def outC (en co st pc dr : Int) (o : ByteArray) (rep : List Value) : List Value := [.int .i64 en, .int .i64 co, .int .i64 st, .int .i64 pc, .int .i64 dr, .string o] ++ rep
def zRep : List Value := [.int .i64 0, .int .i64 0, .int .i64 0, .int .i64 0, .int .i64 0, .int .i64 0, .int .i64 0, .int .i64 0, .int .i64 0, .slice none 0 0]

set_option maxRecDepth 100000 in
set_option maxHeartbeats 3200000 in
theorem run_no (d inp : ByteArray) (vd : Value) (fuel : Int) (w : World) (hd : (d.size : Int) ≤ 9223372036854775807) (hB : imgB d = false) :
    Calls Try.prog 18 #[.string d, .string inp, vd, .int .i64 fuel] w fun e w' => e = .returned (.agg (outC 1 0 0 0 0 ⟨#[]⟩ zRep).toArray) ∧ Below w.heap.size w w' := by
  have HBB := hide2 hB
  clear hB
  go_enter Try.func18, Try.ntmps18
  go_upto_region 1 with (fail)
  obtain ⟨wa, hwa⟩ : ∃ wa, wa = w.alloc (.cells (outC 0 0 0 0 0 ⟨#[]⟩ zRep).toArray 49) := ⟨_, rfl⟩
  have HBA : Hid (Below w.heap.size w wa) := by show Below _ _ _; rw [hwa]; exact (Below.refl _ _).alloc (Nat.le_refl _) _
  have HO : Hid (Blk wa w.heap.size 49 (outC 0 0 0 0 0 ⟨#[]⟩ zRep)) := by show Blk _ _ _ _; rw [hwa]; exact Blk.alloc _ _ _
  unfold outC zRep at hwa
  simp only [List.cons_append, List.nil_append] at hwa
  rw [← hwa]
  clear hwa
  go_upto_region 2 with (go_at_call 7; refine (gread_any d wa hd).mono ?_; rintro e1 w1 ⟨a, cap, ia, icap, rfl, -, hbel, -⟩; obtain ⟨y0, y1, y2, y3, y4, y5⟩ := o_no HBB.out; rw [y0, y1, y2, y3, y4, y5]; have HB1 := hide2 hbel; have HO1 := hide2 (HO.out.below hbel HO.out.lt); clear hbel y0 y1 y2 y3 y4 y5)
  obtain ⟨w2, hw2⟩ : ∃ w2, w2 = w1.alloc (.cells #[.int .i64 0, .int .i64 0, .slice a 0 cap, .string ⟨#[]⟩, .slice ia 0 icap] 27) := ⟨_, rfl⟩
  have HX2 : Hid (Below w1.heap.size w1 w2) := by show Below _ _ _; rw [hw2]; exact (Below.refl _ _).alloc (Nat.le_refl _) _
  first
    | rw [← hw2]
    | (simp only [List.length_nil]; rw [← hw2])
  have HO2 := hide2 (HO1.out.below HX2.out HO1.out.lt)
  have hsz := HB1.out.size
  have hsz2 := HBA.out.size
  have HBL : Hid (Below w.heap.size w w2) := (HBA.out.trans (HB1.out.mono hsz2)).trans (HX2.out.mono (by omega))
  clear hw2 HX2 HO1 HB1 HO
  have hbuilt : Try.prog.built 49 [(0, .int .i64 1)] = some (outC 1 0 0 0 0 ⟨#[]⟩ zRep).toArray := by kernel_rfl
  go_upto_region 3 with (fail)
  apply wp_region_lit
  refine wpList_build rfl 49 _ rfl (by simp only [List.map_toArray, List.map_cons, List.map_nil, Act.eval]; rw [hbuilt]; rfl) ?_
  simp only [List.map_toArray, List.map_cons, List.map_nil, Act.eval, hbuilt, Option.getD_some]
  refine wpList_store_row rfl 49 _ _ rfl w.heap.size (outC 1 0 0 0 0 ⟨#[]⟩ zRep).toArray rfl rfl 49 _ HO2.out (by kernel_rfl) rfl (by kernel_rfl) ?_
  go_wp2
  refine bodyPost_ret (v := .agg (outC 1 0 0 0 0 ⟨#[]⟩ zRep).toArray) ?_ rfl ⟨rfl, ?_⟩
  · exact results_cell_row Try.results18 _ _ w.heap.size 49 (outC 1 0 0 0 0 ⟨#[]⟩ zRep).toArray (0, 0) _ rfl (setRow_heap w2 _ _ _ _ _ HO2.out) Try.underlying49 rfl (by kernel_rfl)
  exact HBL.out.trans ⟨rfl, rfl, rfl, by simp [World.setRow], fun k hk => setRow_other w2 _ k _ (by omega)⟩
end Go.Proofs.Ytjikemhmnkckcab
