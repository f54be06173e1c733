import Derived.Test.YtjikemhmnkckcabGreatJ38
import Derived.Test.YtjikemhmnkckcabGreatJ5
import Derived.Test.YtjikemhmnkckcabGreatJ7
import Derived.Test.YtjikemhmnkckcabGreatJ18
/- The program's Read. -/
namespace Go.Proofs.YtjikemhmnkckcabGreat
open Go.RowKit

set_option maxRecDepth 100000 in
set_option maxHeartbeats 3200000 in
theorem gread_any (d : ByteArray) (w : World) (hd : (d.size : Int) ≤ 9223372036854775807) : Calls Tryz.prog 13 #[.string d] w fun e w' =>
    ∃ a cap ia icap, e = .returned (.tuple #[.agg #[.int .i64 (oSt d), .int .i64 (oRest d), .slice a (oCls d).length cap, .string (oData d), .slice ia (oCode d).length icap], .int .i64 (oErr d)]) ∧
      Rows2 w' w.heap.size (.slice a (oCls d).length cap) (.slice ia (oCode d).length icap) (oCls d) (oCode d) ∧ Below w.heap.size w w' ∧ (imgB d = false → a = none ∧ cap = 0 ∧ ia = none ∧ icap = 0) := by
  go_enter Tryz.func13, Tryz.ntmps13
  go_upto_region 2 with (fail)
  obtain ⟨wa, hwa⟩ : ∃ wa, wa = (w.alloc (.cells zProg.toArray 39)).alloc (.cells (scV d 0 false).toArray 70) := ⟨_, rfl⟩
  have hsc : scV d 0 false = [.string d, .int .i64 0, .bool false] := by simp [scV]
  have HBL : Hid (Below w.heap.size w wa) := by show Below _ _ _; rw [hwa]; exact ((Below.refl _ _).alloc (Nat.le_refl _) _).alloc (by simp) _
  have hsa : Hid (wa.heap.size = w.heap.size + 2) := by show _ = _; rw [hwa]; simp
  have HZ : Hid (Blk wa w.heap.size 39 zProg) := by
    show Blk _ _ _ _; rw [hwa]; exact (Below.heap_alloc _ _ _ (by simp)).trans (heap_alloc_new w _)
  have HS : Hid (Blk wa (w.heap.size + 1) 70 (scV d 0 false)) := by
    show Blk _ _ _ _
    rw [hwa, show w.heap.size + 1 = (w.alloc (.cells zProg.toArray 39)).heap.size by simp]
    exact heap_alloc_new _ _
  rw [hsc] at hwa
  unfold zProg at hwa
  rw [← hwa]
  clear hwa hsc
  go_upto_region 3 with (go_at_call 26; refine (program_any (w.heap.size + 1) d _ HS.out hd).mono ?_; rintro e1 w1 ⟨a, cap, ia, icap, rfl, hrows, hb1, hk1⟩; have HS1 := hide2 hb1; have HR1 := hide2 hrows; have HK1 := hide2 hk1; have HZ1 := hide2 (HZ.out.kept hk1 (by omega)); have hsz1 := hk1.size; clear hb1 hk1 hrows)
  have hwa2 := hsa.out
  have HB1 : Hid (Below w.heap.size w w1) := ⟨by rw [HK1.out.os, HBL.out.os], by rw [HK1.out.tape, HBL.out.tape], by rw [HK1.out.output, HBL.out.output], by omega, fun k hk => (HK1.out.block k (by omega) (by omega)).trans (HBL.out.block k hk)⟩
  generalize hst : byteAt d 2 = st at *
  generalize hre : byteAt d 3 = re at *
  obtain ⟨w2, hw2⟩ : ∃ w2, w2 = w1.alloc (.cells #[.int .i64 st, .int .i64 re, .slice a (pCls d).length cap, .string (pDataG d (pM d)), .slice ia (pCode d).length icap] 39) := ⟨_, rfl⟩
  have HX2 : Hid (Below w1.heap.size w1 w2) := by show Below _ _ _; rw [hw2]; exact (Below.refl _ _).alloc (Nat.le_refl _) _
  have HP2 : Hid (Blk w2 w1.heap.size 39 [.int .i64 st, .int .i64 re, .slice a (pCls d).length cap, .string (pDataG d (pM d)), .slice ia (pCode d).length icap]) := by show Blk _ _ _ _; rw [hw2]; exact Blk.alloc _ _ _
  rw [← hw2]
  have HST := hide2 hst
  have HRE := hide2 hre
  clear hst hre hw2
  have HS2 := hide2 (HS1.out.below HX2.out HS1.out.lt)
  have HZ2 := hide2 (HZ1.out.below HX2.out HZ1.out.lt)
  have HR2 := hide2 ((HR1.out.kept (fun g _ hg => HX2.out.block g hg)).le (show w.heap.size + 2 ≤ wa.heap.size + 2 by omega))
  have HB2 : Hid (Below w.heap.size w w2) := HB1.out.trans (HX2.out.mono (by omega))
  have hpz : w1.heap.size ≠ w.heap.size := by omega
  clear HS HZ HBL HS1 HZ1 HR1 HB1 hsa HK1 HX2
  have s1 := HS2.out.cell (j := 1) rfl
  have s2 := HS2.out.cell (j := 2) rfl
  have z0 := HZ2.out.cell (j := 0) rfl
  have z1 := HZ2.out.cell (j := 1) rfl
  have z2 := HZ2.out.cell (j := 2) rfl
  have z3 := HZ2.out.cell (j := 3) rfl
  have z4 := HZ2.out.cell (j := 4) rfl
  have zf0 := HZ2.out.frozen 0
  have zf1 := HZ2.out.frozen 1
  have zf2 := HZ2.out.frozen 2
  have zf3 := HZ2.out.frozen 3
  have zf4 := HZ2.out.frozen 4
  have p0 := HP2.out.cell (j := 0) rfl
  have p1 := HP2.out.cell (j := 1) rfl
  have p2 := HP2.out.cell (j := 2) rfl
  have p3 := HP2.out.cell (j := 3) rfl
  have p4 := HP2.out.cell (j := 4) rfl
  cases hh : pHead d with
  | false =>
    have HY := hide2 (o_no (d := d) (by unfold imgB; rw [hh]; rfl))
    rw [hh] at s2
    simp only [Bool.not_false, Bool.true_or] at s2
    go_wp2
    refine bodyPost_ret (v := .tuple #[.agg zProg.toArray, .int .i64 10]) (by simp [results, Tryz.results13, go_sem, z0, z1, z2, z3, z4, zProg]) rfl ?_
    obtain ⟨y0, y1, y2, y3, y4, y5⟩ := HY.out
    rw [y0, y1, y2, y3, y4, y5]
    exact ⟨none, 0, none, 0, rfl, rows2_nil _ _, below_set5 HB2.out _ _ _ _ _, fun _ => ⟨rfl, rfl, rfl, rfl⟩⟩
  | true =>
    rw [hh] at s2
    rcases Nat.lt_trichotomy (pEnd d) d.size with hlt | heq | hgt
    · have HY := hide2 (o_no (d := d) (by unfold imgB; rw [show decide (pEnd d = d.size) = false by simp; omega]; simp))
      rw [show (!true || decide (d.size < pEnd d)) = false by simp; omega] at s2
      rw [show min (pEnd d) d.size = pEnd d by omega] at s1
      have hne : (((pEnd d : Nat) : Int) != ((d.size : Nat) : Int)) = true := by rw [bne_iff_ne]; omega
      go_wp2
      refine bodyPost_ret (v := .tuple #[.agg zProg.toArray, .int .i64 10]) (by simp [results, Tryz.results13, go_sem, z0, z1, z2, z3, z4, zProg]) rfl ?_
      obtain ⟨y0, y1, y2, y3, y4, y5⟩ := HY.out
      rw [y0, y1, y2, y3, y4, y5]
      exact ⟨none, 0, none, 0, rfl, rows2_nil _ _, below_set5 HB2.out _ _ _ _ _, fun _ => ⟨rfl, rfl, rfl, rfl⟩⟩
    · rw [show (!true || decide (d.size < pEnd d)) = false by simp; omega] at s2
      rw [show min (pEnd d) d.size = d.size by omega] at s1
      have hne : (((d.size : Nat) : Int) != ((d.size : Nat) : Int)) = false := by simp
      have hF := pEnd_F heq
      cases hs : pSound d (pM d) with
      | false =>
        have HY := hide2 (o_no (d := d) (by unfold imgB; rw [hs]; simp))
        have HSB : Hid (soundB st re (pCls d) (pDataG d (pM d)).size (pCode d) = false) := by show _ = _; rw [pDataG_size, ← HST.out, ← HRE.out]; exact hs
        go_wp2_with (go_at_call 27; refine (validProgram_any st re a cap (pCls d) (pDataG d (pM d)) ia icap (pCode d) _ (crow_of HR2.out.crow) (irow_of HR2.out.irow)).mono ?_; rw [HSB.out]; rintro e2 w3 ⟨rfl, hb3⟩; have HB3 := hide2 (HB2.out.trans (hb3.mono HB2.out.size)); have HZ3 := hide2 (HZ2.out.below hb3 HZ2.out.lt); have zz0 := HZ3.out.cell (j := 0) rfl; have zz1 := HZ3.out.cell (j := 1) rfl; have zz2 := HZ3.out.cell (j := 2) rfl; have zz3 := HZ3.out.cell (j := 3) rfl; have zz4 := HZ3.out.cell (j := 4) rfl; have zzf0 := HZ3.out.frozen 0; have zzf1 := HZ3.out.frozen 1; have zzf2 := HZ3.out.frozen 2; have zzf3 := HZ3.out.frozen 3; have zzf4 := HZ3.out.frozen 4; clear hb3)
        refine bodyPost_ret (v := .tuple #[.agg zProg.toArray, .int .i64 10]) (by simp [results, Tryz.results13, go_sem, zz0, zz1, zz2, zz3, zz4, zProg]) rfl ?_
        obtain ⟨y0, y1, y2, y3, y4, y5⟩ := HY.out
        rw [y0, y1, y2, y3, y4, y5]
        exact ⟨none, 0, none, 0, rfl, rows2_nil _ _, below_set5 HB3.out _ _ _ _ _, fun _ => ⟨rfl, rfl, rfl, rfl⟩⟩
      | true =>
        have hB : imgB d = true := by unfold imgB; rw [hh, hs]; simp [heq]
        have HY := hide2 (o_yes hB)
        have HBB := hide2 hB
        have HDT : Hid (pDataG d (pM d) = pData d) := by show _ = _; rw [pDataG_eq (by omega)]; unfold pData; rw [if_pos (by omega)]
        have HSB : Hid (soundB st re (pCls d) (pDataG d (pM d)).size (pCode d) = true) := by show _ = _; rw [pDataG_size, ← HST.out, ← HRE.out]; exact hs
        clear hB
        go_wp2_with (go_at_call 27; refine (validProgram_any st re a cap (pCls d) (pDataG d (pM d)) ia icap (pCode d) _ (crow_of HR2.out.crow) (irow_of HR2.out.irow)).mono ?_; rw [HSB.out]; rintro e2 w3 ⟨rfl, hb3⟩; have HB3 := hide2 (HB2.out.trans (hb3.mono HB2.out.size)); have HZ3 := hide2 (HZ2.out.below hb3 HZ2.out.lt); have HP3 := hide2 (HP2.out.below hb3 HP2.out.lt); have HR3 := hide2 (HR2.out.kept (fun g _ hg => hb3.block g hg)); have zz0 := HZ3.out.cell (j := 0) rfl; have zz1 := HZ3.out.cell (j := 1) rfl; have zz2 := HZ3.out.cell (j := 2) rfl; have zz3 := HZ3.out.cell (j := 3) rfl; have zz4 := HZ3.out.cell (j := 4) rfl; have zzf0 := HZ3.out.frozen 0; have zzf1 := HZ3.out.frozen 1; have zzf2 := HZ3.out.frozen 2; have zzf3 := HZ3.out.frozen 3; have zzf4 := HZ3.out.frozen 4; have pp0 := HP3.out.cell (j := 0) rfl; have pp1 := HP3.out.cell (j := 1) rfl; have pp2 := HP3.out.cell (j := 2) rfl; have pp3 := HP3.out.cell (j := 3) rfl; have pp4 := HP3.out.cell (j := 4) rfl; clear hb3)
        refine bodyPost_ret (v := .tuple #[.agg #[.int .i64 st, .int .i64 re, .slice a (pCls d).length cap, .string (pDataG d (pM d)), .slice ia (pCode d).length icap], .int .i64 0]) (by simp [results, Tryz.results13, go_sem, zz0, zz1, zz2, zz3, zz4]) rfl ?_
        obtain ⟨y0, y1, y2, y3, y4, y5⟩ := HY.out
        rw [y0, y1, y2, y3, y4, y5, HST.out, HRE.out, HDT.out]
        refine ⟨a, cap, ia, icap, rfl, (HR3.out.kept (fun g hg _ => ?_)).le (by omega), below_set5 HB3.out _ _ _ _ _, fun h => by rw [HBB.out] at h; cases h⟩
        have hn : g ≠ w.heap.size := by omega
        rw [Below.heap_setCell _ _ _ g hn, Below.heap_setCell _ _ _ g hn, Below.heap_setCell _ _ _ g hn, Below.heap_setCell _ _ _ g hn, Below.heap_setCell _ _ _ g hn]
    · have HY := hide2 (o_no (d := d) (by unfold imgB; rw [show decide (pEnd d = d.size) = false by simp; omega]; simp))
      rw [show (!true || decide (d.size < pEnd d)) = true by simp; omega] at s2
      go_wp2
      refine bodyPost_ret (v := .tuple #[.agg zProg.toArray, .int .i64 10]) (by simp [results, Tryz.results13, go_sem, z0, z1, z2, z3, z4, zProg]) rfl ?_
      obtain ⟨y0, y1, y2, y3, y4, y5⟩ := HY.out
      rw [y0, y1, y2, y3, y4, y5]
      exact ⟨none, 0, none, 0, rfl, rows2_nil _ _, below_set5 HB2.out _ _ _ _ _, fun _ => ⟨rfl, rfl, rfl, rfl⟩⟩
end Go.Proofs.YtjikemhmnkckcabGreat
/- The program's machine: how it begins. -/
namespace Go.Proofs.YtjikemhmnkckcabGreat
open Go.RowKit

/-- A machine's cells. -/
def mCells (ph vcode : Value) (r : List Int) (inp : ByteArray) (heard : Int) (vd : Value) (drawn : Int) (vo : Value) (pc next steps en ex : Int) (rep : List Value) : List Value :=
  [ph, vcode] ++ r.map (Value.int .i64) ++ [.string inp, .int .i64 heard, vd, .int .i64 drawn, vo, .int .i64 pc, .int .i64 next, .int .i64 steps, .int .i64 en, .int .i64 ex] ++ rep
def zRep2 : List Value := [.int .i64 0, .int .i64 0, .int .i64 0, .int .i64 0, .int .i64 0, .int .i64 0, .int .i64 0, .int .i64 0, .int .i64 0, .slice none 0 0]
/-- Memory with the first bytes of the data laid into static memory. -/
def dMem (mem : List Int) (d : ByteArray) : Nat → List Int
  | 0 => mem
  | m + 1 => (dMem mem d m).set (16 + m) (byteAt d m)
theorem dMem_len (mem : List Int) (d : ByteArray) (m : Nat) : (dMem mem d m).length = mem.length := by
  induction m with
  | zero => rfl
  | succ m ih => simp [dMem, ih]

theorem gran_lo {st rest : Int} {cls : List (Int × Int)} (hv : Cf.Valid st rest cls) : st + 2 ≤ Cf.gran st cls cls.length := by
  have := Cf.gran_mono hv 0 cls.length (Nat.zero_le _) (Nat.le_refl _)
  have e : Cf.gran st cls 0 = 1 + st + 1 := rfl
  omega

set_option maxRecDepth 100000 in
set_option maxHeartbeats 3200000 in
theorem newMachine_any (st rest : Int) (a : Option Addr) (cap : Nat) (cls : List (Int × Int)) (d : ByteArray) (ia : Option Addr) (ni icap : Nat) (inp : ByteArray) (da : Option Addr) (nd dcap : Nat) (w : World) (h : CRow w a cap cls) (hv : Cf.Valid st rest cls) (hd : (d.size : Int) ≤ 16 * st) :
    Calls Tryz.prog 14 #[.agg #[.int .i64 st, .int .i64 rest, .slice a cls.length cap, .string d, .slice ia ni icap], .string inp, .slice da nd dcap] w fun e w' => ∃ mb ph gc bb cs, e = .returned (.pointer (some ⟨mb, 0, none⟩)) ∧
      Blk w' mb 81 (mCells (.pointer (some ⟨ph, 0, none⟩)) (.slice ia ni icap) [0, 0, 0, 0, 0, 0, 0, 0] inp 0 (.slice da nd dcap) 0 (.slice none 0 0) 0 0 0 0 0 zRep2) ∧
      GRep w' ph gc bb ⟨st, rest, cs, dMem (List.replicate (16 * Cf.gran st cls cls.length).toNat 0) d d.size⟩ ∧ ClsOk st cls cls.length cs ∧ Below w.heap.size w w' ∧ w.heap.size ≤ mb ∧
      ∀ b, GFoot ph gc bb ⟨st, rest, cs, dMem (List.replicate (16 * Cf.gran st cls cls.length).toNat 0) d d.size⟩ b → w.heap.size ≤ b ∧ b ≠ mb := by
  have st0 := hv.st0
  have st1 := hv.st1
  have HC := hide2 h
  have HV := hide2 hv
  clear h hv
  go_enter Tryz.func14, Tryz.ntmps14
  go_upto_region 1 with (fail)
  obtain ⟨wa, hwa⟩ : ∃ wa, wa = w.alloc (.cells #[.int .i64 st, .int .i64 rest, .slice a cls.length cap, .string d, .slice ia ni icap] 39) := ⟨_, rfl⟩
  have HBA : Hid (Below w.heap.size w wa) := by show Below _ _ _; rw [hwa]; exact (Below.refl _ _).alloc (Nat.le_refl _) _
  have HP : Hid (Blk wa w.heap.size 39 [.int .i64 st, .int .i64 rest, .slice a cls.length cap, .string d, .slice ia ni icap]) := by show Blk _ _ _ _; rw [hwa]; exact Blk.alloc _ _ _
  have hsa : wa.heap.size = w.heap.size + 1 := by rw [hwa]; simp
  rw [← hwa]
  clear hwa
  have HSA := hide2 hsa
  clear hsa
  have p0 := HP.out.cell (j := 0) rfl
  have p1 := HP.out.cell (j := 1) rfl
  have p2 := HP.out.cell (j := 2) rfl
  go_upto_region 2 with (go_at_call 28; refine (gnew_yes st rest a cap cls wa (HC.out.below HBA.out) HV.out).mono ?_; rintro e1 w1 ⟨ph, gc, bb, cs, rfl, hg, hcl, hb1, hft⟩; have HG := hide2 hg; have HCL := hide2 hcl; have HB1 := hide2 hb1; have HFT := hide2 hft; clear hg hcl hb1 hft)
  have HP1 := hide2 (HP.out.below HB1.out HP.out.lt)
  clear p0 p1 p2 HP
  obtain ⟨mem0, hm0⟩ : ∃ m0 : List Int, m0 = List.replicate (16 * Cf.gran st cls cls.length).toNat 0 := ⟨_, rfl⟩
  have hml : (16 + d.size) ≤ mem0.length := by
    rw [hm0, List.length_replicate]
    have := HV.out.n0
    have hg := gran_lo HV.out
    omega
  rw [← hm0] at HG HFT
  have HM0 := hide2 hm0
  clear hm0
  have hwp : ∀ b, GFoot ph gc bb ⟨st, rest, cs, mem0⟩ b → b ≠ w.heap.size := fun b hb => by have := HFT.out b hb; have := HSA.out; omega
  have HWP := hide2 hwp
  clear hwp
  go_wp2
  go_loopw [9] (fun i wr => ∃ m : Nat, m ≤ d.size ∧ i = .int .i64 (m : Int) ∧ Hid (GRep wr ph gc bb ⟨st, rest, cs, dMem mem0 d m⟩) ∧ Hid (Blk wr w.heap.size 39 [.int .i64 st, .int .i64 rest, .slice a cls.length cap, .string d, .slice ia ni icap]) ∧ Hid (Below wa.heap.size wa wr)) (fun i _ => d.size - (intOf i).toNat)
  case atStart => exact ⟨0, by omega, rfl, HG, HP1, HB1⟩
  case round =>
    obtain ⟨m, hm, rfl, HGR, HPR, HBR⟩ := hrel
    clear HG HP1 HB1
    have hdl := dMem_len mem0 d m
    by_cases hlt : m < d.size
    · have hmI : (m : Int) < (d.size : Int) := by omega
      have q3 := HPR.out.cell (j := 3) rfl
      have g3 := HGR.out.blk.cell (j := 3) rfl
      have hlen : ((dMem mem0 d m).map (Value.int .u8)).length = mem0.length := by simp [hdl]
      have hk : 16 + m < ((dMem mem0 d m).map (Value.int .u8)).length := by omega
      have b0 := HGR.out.mem.cell (j := 16 + m) (List.getElem?_eq_getElem hk)
      have bf := HGR.out.mem.frozen (16 + m)
      generalize ((dMem mem0 d m).map (Value.int .u8))[16 + m] = z0 at *
      simp only [hdl] at g3
      have hI2 : (16 : Int) + (m : Int) < (mem0.length : Int) := by omega
      have hI3 : (16 + (m : Int)).toNat = 16 + m := by omega
      have HV2 : Hid (byteAt d m = (d[m].toNat : Int)) := byteAt_lt hlt
      clear hlen hk
      go_upto_region 5 with (fail)
      go_region
      go_wp2
      have hset : Blk ((wr.setCell ⟨bb, 16 + m, none⟩ (.int .u8 (d[m].toNat : Int))).drew) bb 5 ((dMem mem0 d (m + 1)).map (Value.int .u8)) := by
        have e := HGR.out.mem.setCell (16 + m) (.int .u8 (d[m].toNat : Int))
        have e2 : ((dMem mem0 d m).map (Value.int .u8)).set (16 + m) (.int .u8 (d[m].toNat : Int)) = (dMem mem0 d (m + 1)).map (Value.int .u8) := by
          simp only [dMem, HV2.out, List.map_set]
        rw [e2] at e
        exact e
      have hkept : Kept wr ((wr.setCell ⟨bb, 16 + m, none⟩ (.int .u8 (d[m].toNat : Int))).drew) (· = bb) := by
        have := (Kept.refl wr (· = bb)).setCell ⟨bb, 16 + m, none⟩ (.int .u8 (d[m].toNat : Int)) rfl
        exact ⟨this.os, this.tape, this.output, this.size, this.block⟩
      have HG2 := hide2 (HGR.out.setMem (dMem mem0 d (m + 1)) (by rw [dMem_len]; exact hdl.symm) hkept hset)
      have hwb : w.heap.size ≠ bb := fun e => HWP.out bb (.inr (.inr (.inl rfl))) e.symm
      have hab : wa.heap.size ≤ bb := HFT.out bb (.inr (.inr (.inl rfl)))
      have HP2 := hide2 (HPR.out.kept hkept hwb)
      have HB2 : Hid (Below wa.heap.size wa ((wr.setCell ⟨bb, 16 + m, none⟩ (.int .u8 (d[m].toNat : Int))).drew)) := (HBR.out.setCell hab _).drew
      clear hset hkept
      go_roundw
      case rel => exact ⟨m + 1, by omega, by go_num, HG2, HP2, HB2⟩
      case measure => simp [intOf]; omega
    · obtain rfl : m = d.size := by omega
      have q3 := HPR.out.cell (j := 3) rfl
      go_upto_region 6 with (fail)
      have q4 := HPR.out.cell (j := 4) rfl
      go_wp2
      go_ret
      have hx : Below wr.heap.size wr (wr.alloc (.cells (mCells (.pointer (some ⟨ph, 0, none⟩)) (.slice ia ni icap) [0, 0, 0, 0, 0, 0, 0, 0] inp 0 (.slice da nd dcap) 0 (.slice none 0 0) 0 0 0 0 0 zRep2).toArray 81)) := (Below.refl _ _).alloc (Nat.le_refl _) _
      have hsz := HBR.out.size
      have hsa := HSA.out
      have hft : ∀ b, GFoot ph gc bb ⟨st, rest, cs, dMem mem0 d d.size⟩ b → GFoot ph gc bb ⟨st, rest, cs, mem0⟩ b := fun b hb => hb
      rw [← HM0.out]
      refine ⟨wr.heap.size, ph, gc, bb, cs, rfl, Blk.alloc wr 81 _, HGR.out.below hx, HCL.out, (HBA.out.trans (HBR.out.mono HBA.out.size)).trans (hx.mono (by omega)), by omega, fun b hb => ⟨by have := HFT.out b (hft b hb); omega, by have := HGR.out.foot_lt hb; omega⟩⟩
end Go.Proofs.YtjikemhmnkckcabGreat
/- A program's data in memory: the document's heap behind it. -/
namespace Go.Proofs.YtjikemhmnkckcabGreat
open Go.RowKit

/-- The document's heap with the first bytes of the data marked. -/
def RSt.lays (R : RSt) (d : ByteArray) : Nat → RSt
  | 0 => R
  | m + 1 => (R.lays d m).mark (16 + m) (byteAt d m)
theorem SimB.mark {G : GSt} {R : RSt} (h : SimB G R) (a : Nat) (b : Int) (ha : a < G.mem.length) (b0 : 0 ≤ b) (b1 : b ≤ 255) : SimB ⟨G.st, G.rest, G.cs, G.mem.set a b⟩ (R.mark a b) := by
  have hs := h.store a 1 b (by omega) (by omega)
  have e1 : R.stores a b 1 = R.mark a b := by
    show (R.stores a b 0).mark ((a : Int) + (0 : Nat)) (Ref.stV b 0 % 256) = _
    have : Ref.stV b 0 % 256 = b := by unfold Ref.stV; omega
    rw [this]
    show R.mark ((a : Int) + (0 : Nat)) b = _
    simp
  rw [e1] at hs
  have e2 : setTo G.mem a b 1 = G.mem.set a b := by
    apply List.ext_getElem?
    intro i
    have hl := setTo_len G.mem a b 1
    have hg := setTo_getD G.mem a b 1 (by omega) i
    by_cases hi : i < G.mem.length
    · rw [List.getElem?_eq_getElem (by omega), List.getElem?_eq_getElem (by simpa using hi)]
      congr 1
      rw [List.getD_eq_getElem?_getD, List.getElem?_eq_getElem (by omega)] at hg
      simp only [Option.getD_some] at hg
      rw [hg, List.getElem_set]
      by_cases e : a = i
      · subst e
        rw [if_pos (by omega), if_pos rfl]
        simp [shrV]
        omega
      · rw [if_neg (by omega), if_neg e, List.getD_eq_getElem?_getD, List.getElem?_eq_getElem hi]
        rfl
    · rw [List.getElem?_eq_none (by omega), List.getElem?_eq_none (by simp; omega)]
  rw [e2] at hs
  exact hs
theorem RSt.lays_same (R : RSt) (d : ByteArray) (m : Nat) : (R.lays d m).st = R.st ∧ (R.lays d m).rest = R.rest ∧ (R.lays d m).cls = R.cls ∧ (R.lays d m).log = R.log := by
  induction m with
  | zero => exact ⟨rfl, rfl, rfl, rfl⟩
  | succ m ih => exact ih
theorem SimB.lays {G : GSt} {R : RSt} (h : SimB G R) (d : ByteArray) (m : Nat) (hm : 16 + m ≤ G.mem.length) : SimB ⟨G.st, G.rest, G.cs, dMem G.mem d m⟩ (R.lays d m) := by
  induction m with
  | zero => exact h
  | succ m ih =>
    have hb := byteAt_bd d m
    have := (ih (by omega)).mark (16 + m) (byteAt d m) (by show 16 + m < (dMem G.mem d m).length; rw [dMem_len]; omega) hb.1 hb.2
    exact this
end Go.Proofs.YtjikemhmnkckcabGreat
