import Derived.Test.YtjikemhmnkckcabImgScan5
/- The program's Read. -/
namespace Go.Proofs.Ytjikemhmnkckcab
open Go.RowKit

set_option maxRecDepth 100000 in
set_option maxHeartbeats 3200000 in
theorem gread_any (d : ByteArray) (w : World) (hd : (d.size : Int) ≤ 9223372036854775807) : Calls Try.prog 7 #[.string d] w fun e w' =>
    ∃ a cap ia icap, e = .returned (.tuple #[.agg #[.int .i64 (oSt d), .int .i64 (oRest d), .slice a (oCls d).length cap, .string (oData d), .slice ia (oCode d).length icap], .int .i64 (oErr d)]) ∧
      Rows2 w' w.heap.size (.slice a (oCls d).length cap) (.slice ia (oCode d).length icap) (oCls d) (oCode d) ∧ Below w.heap.size w w' ∧ (imgB d = false → a = none ∧ cap = 0 ∧ ia = none ∧ icap = 0) := by
  go_enter Try.func7, Try.ntmps7
  go_upto_region 2 with (fail)
  obtain ⟨wa, hwa⟩ : ∃ wa, wa = (w.alloc (.cells zProg.toArray 27)).alloc (.cells (scV d 0 false).toArray 59) := ⟨_, rfl⟩
  have hsc : scV d 0 false = [.string d, .int .i64 0, .bool false] := by simp [scV]
  have HBL : Hid (Below w.heap.size w wa) := by show Below _ _ _; rw [hwa]; exact ((Below.refl _ _).alloc (Nat.le_refl _) _).alloc (by simp) _
  have hsa : Hid (wa.heap.size = w.heap.size + 2) := by show _ = _; rw [hwa]; simp
  have HZ : Hid (Blk wa w.heap.size 27 zProg) := by
    show Blk _ _ _ _; rw [hwa]; exact (Below.heap_alloc _ _ _ (by simp)).trans (heap_alloc_new w _)
  have HS : Hid (Blk wa (w.heap.size + 1) 59 (scV d 0 false)) := by
    show Blk _ _ _ _
    rw [hwa, show w.heap.size + 1 = (w.alloc (.cells zProg.toArray 27)).heap.size by simp]
    exact heap_alloc_new _ _
  rw [hsc] at hwa
  unfold zProg at hwa
  rw [← hwa]
  clear hwa hsc
  go_upto_region 3 with (go_at_call 24; refine (program_any (w.heap.size + 1) d _ HS.out hd).mono ?_; rintro e1 w1 ⟨a, cap, ia, icap, rfl, hrows, hb1, hk1⟩; have HS1 := hide2 hb1; have HR1 := hide2 hrows; have HK1 := hide2 hk1; have HZ1 := hide2 (HZ.out.kept hk1 (by omega)); have hsz1 := hk1.size; clear hb1 hk1 hrows)
  have hwa2 := hsa.out
  have HB1 : Hid (Below w.heap.size w w1) := ⟨by rw [HK1.out.os, HBL.out.os], by rw [HK1.out.tape, HBL.out.tape], by rw [HK1.out.output, HBL.out.output], by omega, fun k hk => (HK1.out.block k (by omega) (by omega)).trans (HBL.out.block k hk)⟩
  generalize hst : byteAt d 2 = st at *
  generalize hre : byteAt d 3 = re at *
  obtain ⟨w2, hw2⟩ : ∃ w2, w2 = w1.alloc (.cells #[.int .i64 st, .int .i64 re, .slice a (pCls d).length cap, .string (pDataG d (pM d)), .slice ia (pCode d).length icap] 27) := ⟨_, rfl⟩
  have HX2 : Hid (Below w1.heap.size w1 w2) := by show Below _ _ _; rw [hw2]; exact (Below.refl _ _).alloc (Nat.le_refl _) _
  have HP2 : Hid (Blk w2 w1.heap.size 27 [.int .i64 st, .int .i64 re, .slice a (pCls d).length cap, .string (pDataG d (pM d)), .slice ia (pCode d).length icap]) := by show Blk _ _ _ _; rw [hw2]; exact Blk.alloc _ _ _
  rw [← hw2]
  have HST := hide2 hst
  have HRE := hide2 hre
  clear hst hre hw2
  have HS2 := hide2 (HS1.out.below HX2.out HS1.out.lt)
  have HZ2 := hide2 (HZ1.out.below HX2.out HZ1.out.lt)
  have HR2 := hide2 ((HR1.out.kept (fun g _ hg => HX2.out.block g hg)).le (show w.heap.size + 2 ≤ wa.heap.size + 2 by omega))
  have HB2 : Hid (Below w.heap.size w w2) := HB1.out.trans (HX2.out.mono (by omega))
  have hpz : w1.heap.size ≠ w.heap.size := by omega
  clear HS HZ HBL HS1 HZ1 HR1 HB1 hsa HK1 HX2
  have s1 := HS2.out.cell (j := 1) rfl
  have s2 := HS2.out.cell (j := 2) rfl
  have z0 := HZ2.out.cell (j := 0) rfl
  have z1 := HZ2.out.cell (j := 1) rfl
  have z2 := HZ2.out.cell (j := 2) rfl
  have z3 := HZ2.out.cell (j := 3) rfl
  have z4 := HZ2.out.cell (j := 4) rfl
  have zf0 := HZ2.out.frozen 0
  have zf1 := HZ2.out.frozen 1
  have zf2 := HZ2.out.frozen 2
  have zf3 := HZ2.out.frozen 3
  have zf4 := HZ2.out.frozen 4
  have p0 := HP2.out.cell (j := 0) rfl
  have p1 := HP2.out.cell (j := 1) rfl
  have p2 := HP2.out.cell (j := 2) rfl
  have p3 := HP2.out.cell (j := 3) rfl
  have p4 := HP2.out.cell (j := 4) rfl
  cases hh : pHead d with
  | false =>
    have HY := hide2 (o_no (d := d) (by unfold imgB; rw [hh]; rfl))
    rw [hh] at s2
    simp only [Bool.not_false, Bool.true_or] at s2
    go_wp2
    refine bodyPost_ret (v := .tuple #[.agg zProg.toArray, .int .i64 10]) (by simp [results, Try.results7, go_sem, z0, z1, z2, z3, z4, zProg]) rfl ?_
    obtain ⟨y0, y1, y2, y3, y4, y5⟩ := HY.out
    rw [y0, y1, y2, y3, y4, y5]
    exact ⟨none, 0, none, 0, rfl, rows2_nil _ _, below_set5 HB2.out _ _ _ _ _, fun _ => ⟨rfl, rfl, rfl, rfl⟩⟩
  | true =>
    rw [hh] at s2
    rcases Nat.lt_trichotomy (pEnd d) d.size with hlt | heq | hgt
    · have HY := hide2 (o_no (d := d) (by unfold imgB; rw [show decide (pEnd d = d.size) = false by simp; omega]; simp))
      rw [show (!true || decide (d.size < pEnd d)) = false by simp; omega] at s2
      rw [show min (pEnd d) d.size = pEnd d by omega] at s1
      have hne : (((pEnd d : Nat) : Int) != ((d.size : Nat) : Int)) = true := by rw [bne_iff_ne]; omega
      go_wp2
      refine bodyPost_ret (v := .tuple #[.agg zProg.toArray, .int .i64 10]) (by simp [results, Try.results7, go_sem, z0, z1, z2, z3, z4, zProg]) rfl ?_
      obtain ⟨y0, y1, y2, y3, y4, y5⟩ := HY.out
      rw [y0, y1, y2, y3, y4, y5]
      exact ⟨none, 0, none, 0, rfl, rows2_nil _ _, below_set5 HB2.out _ _ _ _ _, fun _ => ⟨rfl, rfl, rfl, rfl⟩⟩
    · rw [show (!true || decide (d.size < pEnd d)) = false by simp; omega] at s2
      rw [show min (pEnd d) d.size = d.size by omega] at s1
      have hne : (((d.size : Nat) : Int) != ((d.size : Nat) : Int)) = false := by simp
      have hF := pEnd_F heq
      cases hs : pSound d (pM d) with
      | false =>
        have HY := hide2 (o_no (d := d) (by unfold imgB; rw [hs]; simp))
        have HSB : Hid (soundB st re (pCls d) (pDataG d (pM d)).size (pCode d) = false) := by show _ = _; rw [pDataG_size, ← HST.out, ← HRE.out]; exact hs
        go_wp2_with (go_at_call 25; refine (validProgram_any st re a cap (pCls d) (pDataG d (pM d)) ia icap (pCode d) _ (crow_of HR2.out.crow) (irow_of HR2.out.irow)).mono ?_; rw [HSB.out]; rintro e2 w3 ⟨rfl, hb3⟩; have HB3 := hide2 (HB2.out.trans (hb3.mono HB2.out.size)); have HZ3 := hide2 (HZ2.out.below hb3 HZ2.out.lt); have zz0 := HZ3.out.cell (j := 0) rfl; have zz1 := HZ3.out.cell (j := 1) rfl; have zz2 := HZ3.out.cell (j := 2) rfl; have zz3 := HZ3.out.cell (j := 3) rfl; have zz4 := HZ3.out.cell (j := 4) rfl; have zzf0 := HZ3.out.frozen 0; have zzf1 := HZ3.out.frozen 1; have zzf2 := HZ3.out.frozen 2; have zzf3 := HZ3.out.frozen 3; have zzf4 := HZ3.out.frozen 4; clear hb3)
        refine bodyPost_ret (v := .tuple #[.agg zProg.toArray, .int .i64 10]) (by simp [results, Try.results7, go_sem, zz0, zz1, zz2, zz3, zz4, zProg]) rfl ?_
        obtain ⟨y0, y1, y2, y3, y4, y5⟩ := HY.out
        rw [y0, y1, y2, y3, y4, y5]
        exact ⟨none, 0, none, 0, rfl, rows2_nil _ _, below_set5 HB3.out _ _ _ _ _, fun _ => ⟨rfl, rfl, rfl, rfl⟩⟩
      | true =>
        have hB : imgB d = true := by unfold imgB; rw [hh, hs]; simp [heq]
        have HY := hide2 (o_yes hB)
        have HBB := hide2 hB
        have HDT : Hid (pDataG d (pM d) = pData d) := by show _ = _; rw [pDataG_eq (by omega)]; unfold pData; rw [if_pos (by omega)]
        have HSB : Hid (soundB st re (pCls d) (pDataG d (pM d)).size (pCode d) = true) := by show _ = _; rw [pDataG_size, ← HST.out, ← HRE.out]; exact hs
        clear hB
        go_wp2_with (go_at_call 25; refine (validProgram_any st re a cap (pCls d) (pDataG d (pM d)) ia icap (pCode d) _ (crow_of HR2.out.crow) (irow_of HR2.out.irow)).mono ?_; rw [HSB.out]; rintro e2 w3 ⟨rfl, hb3⟩; have HB3 := hide2 (HB2.out.trans (hb3.mono HB2.out.size)); have HZ3 := hide2 (HZ2.out.below hb3 HZ2.out.lt); have HP3 := hide2 (HP2.out.below hb3 HP2.out.lt); have HR3 := hide2 (HR2.out.kept (fun g _ hg => hb3.block g hg)); have zz0 := HZ3.out.cell (j := 0) rfl; have zz1 := HZ3.out.cell (j := 1) rfl; have zz2 := HZ3.out.cell (j := 2) rfl; have zz3 := HZ3.out.cell (j := 3) rfl; have zz4 := HZ3.out.cell (j := 4) rfl; have zzf0 := HZ3.out.frozen 0; have zzf1 := HZ3.out.frozen 1; have zzf2 := HZ3.out.frozen 2; have zzf3 := HZ3.out.frozen 3; have zzf4 := HZ3.out.frozen 4; have pp0 := HP3.out.cell (j := 0) rfl; have pp1 := HP3.out.cell (j := 1) rfl; have pp2 := HP3.out.cell (j := 2) rfl; have pp3 := HP3.out.cell (j := 3) rfl; have pp4 := HP3.out.cell (j := 4) rfl; clear hb3)
        refine bodyPost_ret (v := .tuple #[.agg #[.int .i64 st, .int .i64 re, .slice a (pCls d).length cap, .string (pDataG d (pM d)), .slice ia (pCode d).length icap], .int .i64 0]) (by simp [results, Try.results7, go_sem, zz0, zz1, zz2, zz3, zz4]) rfl ?_
        obtain ⟨y0, y1, y2, y3, y4, y5⟩ := HY.out
        rw [y0, y1, y2, y3, y4, y5, HST.out, HRE.out, HDT.out]
        refine ⟨a, cap, ia, icap, rfl, (HR3.out.kept (fun g hg _ => ?_)).le (by omega), below_set5 HB3.out _ _ _ _ _, fun h => by rw [HBB.out] at h; cases h⟩
        have hn : g ≠ w.heap.size := by omega
        rw [Below.heap_setCell _ _ _ g hn, Below.heap_setCell _ _ _ g hn, Below.heap_setCell _ _ _ g hn, Below.heap_setCell _ _ _ g hn, Below.heap_setCell _ _ _ g hn]
    · have HY := hide2 (o_no (d := d) (by unfold imgB; rw [show decide (pEnd d = d.size) = false by simp; omega]; simp))
      rw [show (!true || decide (d.size < pEnd d)) = true by simp; omega] at s2
      go_wp2
      refine bodyPost_ret (v := .tuple #[.agg zProg.toArray, .int .i64 10]) (by simp [results, Try.results7, go_sem, z0, z1, z2, z3, z4, zProg]) rfl ?_
      obtain ⟨y0, y1, y2, y3, y4, y5⟩ := HY.out
      rw [y0, y1, y2, y3, y4, y5]
      exact ⟨none, 0, none, 0, rfl, rows2_nil _ _, below_set5 HB2.out _ _ _ _ _, fun _ => ⟨rfl, rfl, rfl, rfl⟩⟩
end Go.Proofs.Ytjikemhmnkckcab
