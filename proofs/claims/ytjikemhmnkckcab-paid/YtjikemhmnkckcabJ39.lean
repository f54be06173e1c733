import Derived.Test.YtjikemhmnkckcabJ38
import Derived.Test.YtjikemhmnkckcabJ7
import Derived.Test.YtjikemhmnkckcabJ10
import Derived.Test.YtjikemhmnkckcabJ22
/- The program's Read. -/
namespace Go.Proofs.Ytjikemhmnkckcab
open Go.RowKit

set_option maxRecDepth 100000 in
set_option maxHeartbeats 3200000 in
theorem gread_any (d : ByteArray) (w : World) (hd : (d.size : Int) ≤ 9223372036854775807) : Calls Try.prog 7 #[.string d] w fun e w' =>
    ∃ a cap ia icap, e = .returned (.tuple #[.agg #[.int .i64 (oSt d), .int .i64 (oRest d), .slice a (oCls d).length cap, .string (oData d), .slice ia (oCode d).length icap], .int .i64 (oErr d)]) ∧
      Rows2 w' w.heap.size (.slice a (oCls d).length cap) (.slice ia (oCode d).length icap) (oCls d) (oCode d) ∧ Below w.heap.size w w' ∧ (imgB d = false → a = none ∧ cap = 0 ∧ ia = none ∧ icap = 0) := by
  go_enter Try.func7, Try.ntmps7
  go_upto_region 2 with (fail)
  obtain ⟨wa, hwa⟩ : ∃ wa, wa = (w.alloc (.cells zProg.toArray 27)).alloc (.cells (scV d 0 false).toArray 59) := ⟨_, rfl⟩
  have hsc : scV d 0 false = [.string d, .int .i64 0, .bool false] := by simp [scV]
  have HBL : Hid (Below w.heap.size w wa) := by show Below _ _ _; rw [hwa]; exact ((Below.refl _ _).alloc (Nat.le_refl _) _).alloc (by simp) _
  have hsa : Hid (wa.heap.size = w.heap.size + 2) := by show _ = _; rw [hwa]; simp
  have HZ : Hid (Blk wa w.heap.size 27 zProg) := by
    show Blk _ _ _ _; rw [hwa]; exact (Below.heap_alloc _ _ _ (by simp)).trans (heap_alloc_new w _)
  have HS : Hid (Blk wa (w.heap.size + 1) 59 (scV d 0 false)) := by
    show Blk _ _ _ _
    rw [hwa, show w.heap.size + 1 = (w.alloc (.cells zProg.toArray 27)).heap.size by simp]
    exact heap_alloc_new _ _
  rw [hsc] at hwa
  unfold zProg at hwa
  rw [← hwa]
  clear hwa hsc
  go_upto_region 3 with (go_at_call 24; refine (program_any (w.heap.size + 1) d _ HS.out hd).mono ?_; rintro e1 w1 ⟨a, cap, ia, icap, rfl, hrows, hb1, hk1⟩; have HS1 := hide2 hb1; have HR1 := hide2 hrows; have HK1 := hide2 hk1; have HZ1 := hide2 (HZ.out.kept hk1 (by omega)); have hsz1 := hk1.size; clear hb1 hk1 hrows)
  have hwa2 := hsa.out
  have HB1 : Hid (Below w.heap.size w w1) := ⟨by rw [HK1.out.os, HBL.out.os], by rw [HK1.out.tape, HBL.out.tape], by rw [HK1.out.output, HBL.out.output], by omega, fun k hk => (HK1.out.block k (by omega) (by omega)).trans (HBL.out.block k hk)⟩
  generalize hst : byteAt d 2 = st at *
  generalize hre : byteAt d 3 = re at *
  obtain ⟨w2, hw2⟩ : ∃ w2, w2 = w1.alloc (.cells #[.int .i64 st, .int .i64 re, .slice a (pCls d).length cap, .string (pDataG d (pM d)), .slice ia (pCode d).length icap] 27) := ⟨_, rfl⟩
  have HX2 : Hid (Below w1.heap.size w1 w2) := by show Below _ _ _; rw [hw2]; exact (Below.refl _ _).alloc (Nat.le_refl _) _
  have HP2 : Hid (Blk w2 w1.heap.size 27 [.int .i64 st, .int .i64 re, .slice a (pCls d).length cap, .string (pDataG d (pM d)), .slice ia (pCode d).length icap]) := by show Blk _ _ _ _; rw [hw2]; exact Blk.alloc _ _ _
  rw [← hw2]
  have HST := hide2 hst
  have HRE := hide2 hre
  clear hst hre hw2
  have HS2 := hide2 (HS1.out.below HX2.out HS1.out.lt)
  have HZ2 := hide2 (HZ1.out.below HX2.out HZ1.out.lt)
  have HR2 := hide2 ((HR1.out.kept (fun g _ hg => HX2.out.block g hg)).le (show w.heap.size + 2 ≤ wa.heap.size + 2 by omega))
  have HB2 : Hid (Below w.heap.size w w2) := HB1.out.trans (HX2.out.mono (by omega))
  have hpz : w1.heap.size ≠ w.heap.size := by omega
  clear HS HZ HBL HS1 HZ1 HR1 HB1 hsa HK1 HX2
  have s1 := HS2.out.cell (j := 1) rfl
  have s2 := HS2.out.cell (j := 2) rfl
  have z0 := HZ2.out.cell (j := 0) rfl
  have z1 := HZ2.out.cell (j := 1) rfl
  have z2 := HZ2.out.cell (j := 2) rfl
  have z3 := HZ2.out.cell (j := 3) rfl
  have z4 := HZ2.out.cell (j := 4) rfl
  have zf0 := HZ2.out.frozen 0
  have zf1 := HZ2.out.frozen 1
  have zf2 := HZ2.out.frozen 2
  have zf3 := HZ2.out.frozen 3
  have zf4 := HZ2.out.frozen 4
  have p0 := HP2.out.cell (j := 0) rfl
  have p1 := HP2.out.cell (j := 1) rfl
  have p2 := HP2.out.cell (j := 2) rfl
  have p3 := HP2.out.cell (j := 3) rfl
  have p4 := HP2.out.cell (j := 4) rfl
  cases hh : pHead d with
  | false =>
    have HY := hide2 (o_no (d := d) (by unfold imgB; rw [hh]; rfl))
    rw [hh] at s2
    simp only [Bool.not_false, Bool.true_or] at s2
    go_wp2
    refine bodyPost_ret (v := .tuple #[.agg zProg.toArray, .int .i64 10]) (by simp [results, Try.results7, go_sem, z0, z1, z2, z3, z4, zProg]) rfl ?_
    obtain ⟨y0, y1, y2, y3, y4, y5⟩ := HY.out
    rw [y0, y1, y2, y3, y4, y5]
    exact ⟨none, 0, none, 0, rfl, rows2_nil _ _, below_set5 HB2.out _ _ _ _ _, fun _ => ⟨rfl, rfl, rfl, rfl⟩⟩
  | true =>
    rw [hh] at s2
    rcases Nat.lt_trichotomy (pEnd d) d.size with hlt | heq | hgt
    · have HY := hide2 (o_no (d := d) (by unfold imgB; rw [show decide (pEnd d = d.size) = false by simp; omega]; simp))
      rw [show (!true || decide (d.size < pEnd d)) = false by simp; omega] at s2
      rw [show min (pEnd d) d.size = pEnd d by omega] at s1
      have hne : (((pEnd d : Nat) : Int) != ((d.size : Nat) : Int)) = true := by rw [bne_iff_ne]; omega
      go_wp2
      refine bodyPost_ret (v := .tuple #[.agg zProg.toArray, .int .i64 10]) (by simp [results, Try.results7, go_sem, z0, z1, z2, z3, z4, zProg]) rfl ?_
      obtain ⟨y0, y1, y2, y3, y4, y5⟩ := HY.out
      rw [y0, y1, y2, y3, y4, y5]
      exact ⟨none, 0, none, 0, rfl, rows2_nil _ _, below_set5 HB2.out _ _ _ _ _, fun _ => ⟨rfl, rfl, rfl, rfl⟩⟩
    · rw [show (!true || decide (d.size < pEnd d)) = false by simp; omega] at s2
      rw [show min (pEnd d) d.size = d.size by omega] at s1
      have hne : (((d.size : Nat) : Int) != ((d.size : Nat) : Int)) = false := by simp
      have hF := pEnd_F heq
      cases hs : pSound d (pM d) with
      | false =>
        have HY := hide2 (o_no (d := d) (by unfold imgB; rw [hs]; simp))
        have HSB : Hid (soundB st re (pCls d) (pDataG d (pM d)).size (pCode d) = false) := by show _ = _; rw [pDataG_size, ← HST.out, ← HRE.out]; exact hs
        go_wp2_with (go_at_call 25; refine (validProgram_any st re a cap (pCls d) (pDataG d (pM d)) ia icap (pCode d) _ (crow_of HR2.out.crow) (irow_of HR2.out.irow)).mono ?_; rw [HSB.out]; rintro e2 w3 ⟨rfl, hb3⟩; have HB3 := hide2 (HB2.out.trans (hb3.mono HB2.out.size)); have HZ3 := hide2 (HZ2.out.below hb3 HZ2.out.lt); have zz0 := HZ3.out.cell (j := 0) rfl; have zz1 := HZ3.out.cell (j := 1) rfl; have zz2 := HZ3.out.cell (j := 2) rfl; have zz3 := HZ3.out.cell (j := 3) rfl; have zz4 := HZ3.out.cell (j := 4) rfl; have zzf0 := HZ3.out.frozen 0; have zzf1 := HZ3.out.frozen 1; have zzf2 := HZ3.out.frozen 2; have zzf3 := HZ3.out.frozen 3; have zzf4 := HZ3.out.frozen 4; clear hb3)
        refine bodyPost_ret (v := .tuple #[.agg zProg.toArray, .int .i64 10]) (by simp [results, Try.results7, go_sem, zz0, zz1, zz2, zz3, zz4, zProg]) rfl ?_
        obtain ⟨y0, y1, y2, y3, y4, y5⟩ := HY.out
        rw [y0, y1, y2, y3, y4, y5]
        exact ⟨none, 0, none, 0, rfl, rows2_nil _ _, below_set5 HB3.out _ _ _ _ _, fun _ => ⟨rfl, rfl, rfl, rfl⟩⟩
      | true =>
        have hB : imgB d = true := by unfold imgB; rw [hh, hs]; simp [heq]
        have HY := hide2 (o_yes hB)
        have HBB := hide2 hB
        have HDT : Hid (pDataG d (pM d) = pData d) := by show _ = _; rw [pDataG_eq (by omega)]; unfold pData; rw [if_pos (by omega)]
        have HSB : Hid (soundB st re (pCls d) (pDataG d (pM d)).size (pCode d) = true) := by show _ = _; rw [pDataG_size, ← HST.out, ← HRE.out]; exact hs
        clear hB
        go_wp2_with (go_at_call 25; refine (validProgram_any st re a cap (pCls d) (pDataG d (pM d)) ia icap (pCode d) _ (crow_of HR2.out.crow) (irow_of HR2.out.irow)).mono ?_; rw [HSB.out]; rintro e2 w3 ⟨rfl, hb3⟩; have HB3 := hide2 (HB2.out.trans (hb3.mono HB2.out.size)); have HZ3 := hide2 (HZ2.out.below hb3 HZ2.out.lt); have HP3 := hide2 (HP2.out.below hb3 HP2.out.lt); have HR3 := hide2 (HR2.out.kept (fun g _ hg => hb3.block g hg)); have zz0 := HZ3.out.cell (j := 0) rfl; have zz1 := HZ3.out.cell (j := 1) rfl; have zz2 := HZ3.out.cell (j := 2) rfl; have zz3 := HZ3.out.cell (j := 3) rfl; have zz4 := HZ3.out.cell (j := 4) rfl; have zzf0 := HZ3.out.frozen 0; have zzf1 := HZ3.out.frozen 1; have zzf2 := HZ3.out.frozen 2; have zzf3 := HZ3.out.frozen 3; have zzf4 := HZ3.out.frozen 4; have pp0 := HP3.out.cell (j := 0) rfl; have pp1 := HP3.out.cell (j := 1) rfl; have pp2 := HP3.out.cell (j := 2) rfl; have pp3 := HP3.out.cell (j := 3) rfl; have pp4 := HP3.out.cell (j := 4) rfl; clear hb3)
        refine bodyPost_ret (v := .tuple #[.agg #[.int .i64 st, .int .i64 re, .slice a (pCls d).length cap, .string (pDataG d (pM d)), .slice ia (pCode d).length icap], .int .i64 0]) (by simp [results, Try.results7, go_sem, zz0, zz1, zz2, zz3, zz4]) rfl ?_
        obtain ⟨y0, y1, y2, y3, y4, y5⟩ := HY.out
        rw [y0, y1, y2, y3, y4, y5, HST.out, HRE.out, HDT.out]
        refine ⟨a, cap, ia, icap, rfl, (HR3.out.kept (fun g hg _ => ?_)).le (by omega), below_set5 HB3.out _ _ _ _ _, fun h => by rw [HBB.out] at h; cases h⟩
        have hn : g ≠ w.heap.size := by omega
        rw [Below.heap_setCell _ _ _ g hn, Below.heap_setCell _ _ _ g hn, Below.heap_setCell _ _ _ g hn, Below.heap_setCell _ _ _ g hn, Below.heap_setCell _ _ _ g hn]
    · have HY := hide2 (o_no (d := d) (by unfold imgB; rw [show decide (pEnd d = d.size) = false by simp; omega]; simp))
      rw [show (!true || decide (d.size < pEnd d)) = true by simp; omega] at s2
      go_wp2
      refine bodyPost_ret (v := .tuple #[.agg zProg.toArray, .int .i64 10]) (by simp [results, Try.results7, go_sem, z0, z1, z2, z3, z4, zProg]) rfl ?_
      obtain ⟨y0, y1, y2, y3, y4, y5⟩ := HY.out
      rw [y0, y1, y2, y3, y4, y5]
      exact ⟨none, 0, none, 0, rfl, rows2_nil _ _, below_set5 HB2.out _ _ _ _ _, fun _ => ⟨rfl, rfl, rfl, rfl⟩⟩
end Go.Proofs.Ytjikemhmnkckcab
/- The program's machine: how it begins. -/
namespace Go.Proofs.Ytjikemhmnkckcab
open Go.RowKit

/-- A machine's cells. -/
def mCells (ph vcode : Value) (r : List Int) (inp : ByteArray) (heard : Int) (vd : Value) (drawn : Int) (vo : Value) (pc next steps en ex : Int) (rep : List Value) : List Value :=
  [ph, vcode] ++ r.map (Value.int .i64) ++ [.string inp, .int .i64 heard, vd, .int .i64 drawn, vo, .int .i64 pc, .int .i64 next, .int .i64 steps, .int .i64 en, .int .i64 ex] ++ rep
def zRep2 : List Value := [.int .i64 0, .int .i64 0, .int .i64 0, .int .i64 0, .int .i64 0, .int .i64 0, .int .i64 0, .int .i64 0, .int .i64 0, .slice none 0 0]
/-- Memory with the first bytes of the data laid into static memory. -/
def dMem (mem : List Int) (d : ByteArray) : Nat → List Int
  | 0 => mem
  | m + 1 => (dMem mem d m).set (16 + m) (byteAt d m)
theorem dMem_len (mem : List Int) (d : ByteArray) (m : Nat) : (dMem mem d m).length = mem.length := by
  induction m with
  | zero => rfl
  | succ m ih => simp [dMem, ih]

theorem gran_lo {st rest : Int} {cls : List (Int × Int)} (hv : Cf.Valid st rest cls) : st + 2 ≤ Cf.gran st cls cls.length := by
  have := Cf.gran_mono hv 0 cls.length (Nat.zero_le _) (Nat.le_refl _)
  have e : Cf.gran st cls 0 = 1 + st + 1 := rfl
  omega

set_option maxRecDepth 100000 in
set_option maxHeartbeats 3200000 in
theorem newMachine_any (st rest : Int) (a : Option Addr) (cap : Nat) (cls : List (Int × Int)) (d : ByteArray) (ia : Option Addr) (ni icap : Nat) (inp : ByteArray) (da : Option Addr) (nd dcap : Nat) (w : World) (h : CRow w a cap cls) (hv : Cf.Valid st rest cls) (hd : (d.size : Int) ≤ 16 * st) :
    Calls Try.prog 34 #[.agg #[.int .i64 st, .int .i64 rest, .slice a cls.length cap, .string d, .slice ia ni icap], .string inp, .slice da nd dcap] w fun e w' => ∃ mb ph gc bb cs, e = .returned (.pointer (some ⟨mb, 0, none⟩)) ∧
      Blk w' mb 85 (mCells (.pointer (some ⟨ph, 0, none⟩)) (.slice ia ni icap) [0, 0, 0, 0, 0, 0, 0, 0] inp 0 (.slice da nd dcap) 0 (.slice none 0 0) 0 0 0 0 0 zRep2) ∧
      GRep w' ph gc bb ⟨st, rest, cs, dMem (List.replicate (16 * Cf.gran st cls cls.length).toNat 0) d d.size⟩ ∧ ClsOk st cls cls.length cs ∧ Below w.heap.size w w' ∧ w.heap.size ≤ mb ∧
      ∀ b, GFoot ph gc bb ⟨st, rest, cs, dMem (List.replicate (16 * Cf.gran st cls cls.length).toNat 0) d d.size⟩ b → w.heap.size ≤ b ∧ b ≠ mb := by
  have st0 := hv.st0
  have st1 := hv.st1
  have HC := hide2 h
  have HV := hide2 hv
  clear h hv
  go_enter Try.func34, Try.ntmps34
  go_upto_region 1 with (fail)
  obtain ⟨wa, hwa⟩ : ∃ wa, wa = w.alloc (.cells #[.int .i64 st, .int .i64 rest, .slice a cls.length cap, .string d, .slice ia ni icap] 27) := ⟨_, rfl⟩
  have HBA : Hid (Below w.heap.size w wa) := by show Below _ _ _; rw [hwa]; exact (Below.refl _ _).alloc (Nat.le_refl _) _
  have HP : Hid (Blk wa w.heap.size 27 [.int .i64 st, .int .i64 rest, .slice a cls.length cap, .string d, .slice ia ni icap]) := by show Blk _ _ _ _; rw [hwa]; exact Blk.alloc _ _ _
  have hsa : wa.heap.size = w.heap.size + 1 := by rw [hwa]; simp
  rw [← hwa]
  clear hwa
  have HSA := hide2 hsa
  clear hsa
  have p0 := HP.out.cell (j := 0) rfl
  have p1 := HP.out.cell (j := 1) rfl
  have p2 := HP.out.cell (j := 2) rfl
  go_upto_region 2 with (go_at_call 46; refine (gnew_yes st rest a cap cls wa (HC.out.below HBA.out) HV.out).mono ?_; rintro e1 w1 ⟨ph, gc, bb, cs, rfl, hg, hcl, hb1, hft⟩; have HG := hide2 hg; have HCL := hide2 hcl; have HB1 := hide2 hb1; have HFT := hide2 hft; clear hg hcl hb1 hft)
  have HP1 := hide2 (HP.out.below HB1.out HP.out.lt)
  clear p0 p1 p2 HP
  obtain ⟨mem0, hm0⟩ : ∃ m0 : List Int, m0 = List.replicate (16 * Cf.gran st cls cls.length).toNat 0 := ⟨_, rfl⟩
  have hml : (16 + d.size) ≤ mem0.length := by
    rw [hm0, List.length_replicate]
    have := HV.out.n0
    have hg := gran_lo HV.out
    omega
  rw [← hm0] at HG HFT
  have HM0 := hide2 hm0
  clear hm0
  have hwp : ∀ b, GFoot ph gc bb ⟨st, rest, cs, mem0⟩ b → b ≠ w.heap.size := fun b hb => by have := HFT.out b hb; have := HSA.out; omega
  have HWP := hide2 hwp
  clear hwp
  go_wp2
  go_loopw [9] (fun i wr => ∃ m : Nat, m ≤ d.size ∧ i = .int .i64 (m : Int) ∧ Hid (GRep wr ph gc bb ⟨st, rest, cs, dMem mem0 d m⟩) ∧ Hid (Blk wr w.heap.size 27 [.int .i64 st, .int .i64 rest, .slice a cls.length cap, .string d, .slice ia ni icap]) ∧ Hid (Below wa.heap.size wa wr)) (fun i _ => d.size - (intOf i).toNat)
  case atStart => exact ⟨0, by omega, rfl, HG, HP1, HB1⟩
  case round =>
    obtain ⟨m, hm, rfl, HGR, HPR, HBR⟩ := hrel
    clear HG HP1 HB1
    have hdl := dMem_len mem0 d m
    by_cases hlt : m < d.size
    · have hmI : (m : Int) < (d.size : Int) := by omega
      have q3 := HPR.out.cell (j := 3) rfl
      have g3 := HGR.out.blk.cell (j := 3) rfl
      have hlen : ((dMem mem0 d m).map (Value.int .u8)).length = mem0.length := by simp [hdl]
      have hk : 16 + m < ((dMem mem0 d m).map (Value.int .u8)).length := by omega
      have b0 := HGR.out.mem.cell (j := 16 + m) (List.getElem?_eq_getElem hk)
      have bf := HGR.out.mem.frozen (16 + m)
      generalize ((dMem mem0 d m).map (Value.int .u8))[16 + m] = z0 at *
      simp only [hdl] at g3
      have hI2 : (16 : Int) + (m : Int) < (mem0.length : Int) := by omega
      have hI3 : (16 + (m : Int)).toNat = 16 + m := by omega
      have HV2 : Hid (byteAt d m = (d[m].toNat : Int)) := byteAt_lt hlt
      clear hlen hk
      go_upto_region 5 with (fail)
      go_region
      go_wp2
      have hset : Blk ((wr.setCell ⟨bb, 16 + m, none⟩ (.int .u8 (d[m].toNat : Int))).drew) bb 5 ((dMem mem0 d (m + 1)).map (Value.int .u8)) := by
        have e := HGR.out.mem.setCell (16 + m) (.int .u8 (d[m].toNat : Int))
        have e2 : ((dMem mem0 d m).map (Value.int .u8)).set (16 + m) (.int .u8 (d[m].toNat : Int)) = (dMem mem0 d (m + 1)).map (Value.int .u8) := by
          simp only [dMem, HV2.out, List.map_set]
        rw [e2] at e
        exact e
      have hkept : Kept wr ((wr.setCell ⟨bb, 16 + m, none⟩ (.int .u8 (d[m].toNat : Int))).drew) (· = bb) := by
        have := (Kept.refl wr (· = bb)).setCell ⟨bb, 16 + m, none⟩ (.int .u8 (d[m].toNat : Int)) rfl
        exact ⟨this.os, this.tape, this.output, this.size, this.block⟩
      have HG2 := hide2 (HGR.out.setMem (dMem mem0 d (m + 1)) (by rw [dMem_len]; exact hdl.symm) hkept hset)
      have hwb : w.heap.size ≠ bb := fun e => HWP.out bb (.inr (.inr (.inl rfl))) e.symm
      have hab : wa.heap.size ≤ bb := HFT.out bb (.inr (.inr (.inl rfl)))
      have HP2 := hide2 (HPR.out.kept hkept hwb)
      have HB2 : Hid (Below wa.heap.size wa ((wr.setCell ⟨bb, 16 + m, none⟩ (.int .u8 (d[m].toNat : Int))).drew)) := (HBR.out.setCell hab _).drew
      clear hset hkept
      go_roundw
      case rel => exact ⟨m + 1, by omega, by go_num, HG2, HP2, HB2⟩
      case measure => simp [intOf]; omega
    · obtain rfl : m = d.size := by omega
      have q3 := HPR.out.cell (j := 3) rfl
      go_upto_region 6 with (fail)
      have q4 := HPR.out.cell (j := 4) rfl
      go_wp2
      go_ret
      have hx : Below wr.heap.size wr (wr.alloc (.cells (mCells (.pointer (some ⟨ph, 0, none⟩)) (.slice ia ni icap) [0, 0, 0, 0, 0, 0, 0, 0] inp 0 (.slice da nd dcap) 0 (.slice none 0 0) 0 0 0 0 0 zRep2).toArray 85)) := (Below.refl _ _).alloc (Nat.le_refl _) _
      have hsz := HBR.out.size
      have hsa := HSA.out
      have hft : ∀ b, GFoot ph gc bb ⟨st, rest, cs, dMem mem0 d d.size⟩ b → GFoot ph gc bb ⟨st, rest, cs, mem0⟩ b := fun b hb => hb
      rw [← HM0.out]
      refine ⟨wr.heap.size, ph, gc, bb, cs, rfl, Blk.alloc wr 85 _, HGR.out.below hx, HCL.out, (HBA.out.trans (HBR.out.mono HBA.out.size)).trans (hx.mono (by omega)), by omega, fun b hb => ⟨by have := HFT.out b (hft b hb); omega, by have := HGR.out.foot_lt hb; omega⟩⟩
end Go.Proofs.Ytjikemhmnkckcab
/- A program's data in memory: the document's heap behind it. -/
namespace Go.Proofs.Ytjikemhmnkckcab
open Go.RowKit

/-- The document's heap with the first bytes of the data marked. -/
def RSt.lays (R : RSt) (d : ByteArray) : Nat → RSt
  | 0 => R
  | m + 1 => (R.lays d m).mark (16 + m) (byteAt d m)
theorem SimB.mark {G : GSt} {R : RSt} (h : SimB G R) (a : Nat) (b : Int) (ha : a < G.mem.length) (b0 : 0 ≤ b) (b1 : b ≤ 255) : SimB ⟨G.st, G.rest, G.cs, G.mem.set a b⟩ (R.mark a b) := by
  have hs := h.store a 1 b (by omega) (by omega)
  have e1 : R.stores a b 1 = R.mark a b := by
    show (R.stores a b 0).mark ((a : Int) + (0 : Nat)) (Ref.stV b 0 % 256) = _
    have : Ref.stV b 0 % 256 = b := by unfold Ref.stV; omega
    rw [this]
    show R.mark ((a : Int) + (0 : Nat)) b = _
    simp
  rw [e1] at hs
  have e2 : setTo G.mem a b 1 = G.mem.set a b := by
    apply List.ext_getElem?
    intro i
    have hl := setTo_len G.mem a b 1
    have hg := setTo_getD G.mem a b 1 (by omega) i
    by_cases hi : i < G.mem.length
    · rw [List.getElem?_eq_getElem (by omega), List.getElem?_eq_getElem (by simpa using hi)]
      congr 1
      rw [List.getD_eq_getElem?_getD, List.getElem?_eq_getElem (by omega)] at hg
      simp only [Option.getD_some] at hg
      rw [hg, List.getElem_set]
      by_cases e : a = i
      · subst e
        rw [if_pos (by omega), if_pos rfl]
        simp [shrV]
        omega
      · rw [if_neg (by omega), if_neg e, List.getD_eq_getElem?_getD, List.getElem?_eq_getElem hi]
        rfl
    · rw [List.getElem?_eq_none (by omega), List.getElem?_eq_none (by simp; omega)]
  rw [e2] at hs
  exact hs
theorem RSt.lays_same (R : RSt) (d : ByteArray) (m : Nat) : (R.lays d m).st = R.st ∧ (R.lays d m).rest = R.rest ∧ (R.lays d m).cls = R.cls ∧ (R.lays d m).log = R.log := by
  induction m with
  | zero => exact ⟨rfl, rfl, rfl, rfl⟩
  | succ m ih => exact ih
theorem SimB.lays {G : GSt} {R : RSt} (h : SimB G R) (d : ByteArray) (m : Nat) (hm : 16 + m ≤ G.mem.length) : SimB ⟨G.st, G.rest, G.cs, dMem G.mem d m⟩ (R.lays d m) := by
  induction m with
  | zero => exact h
  | succ m ih =>
    have hb := byteAt_bd d m
    have := (ih (by omega)).mark (16 + m) (byteAt d m) (by show 16 + m < (dMem G.mem d m).length; rw [dMem_len]; omega) hb.1 hb.2
    exact this
end Go.Proofs.Ytjikemhmnkckcab
/- The program's machine: registers; what needs no heap. -/
namespace Go.Proofs.Ytjikemhmnkckcab
open Go.RowKit
attribute [local go_sem ↓] Go.wp_at_zero Go.wp_at_succ

def rg (r : List Int) (k : Nat) : Int := r.getD k 0
theorem m_reg {w : World} {mb : Nat} {ph vcode : Value} {r : List Int} {inp : ByteArray} {heard : Int} {vd : Value} {drawn : Int} {vo : Value} {pc next steps en ex : Int} {rep : List Value}
    (h : Blk w mb 85 (mCells ph vcode r inp heard vd drawn vo pc next steps en ex rep)) (hr : r.length = 8) (k : Nat) (hk : k < 8) : w.cell? ⟨mb, 2 + k, none⟩ = some (.int .i64 (rg r k)) := by
  refine h.cell ?_
  unfold mCells rg
  rw [List.append_assoc, List.append_assoc, List.getElem?_append_right (by simp), List.getElem?_append_left (by simp; omega)]
  simp only [List.length_cons, List.length_nil]
  rw [show 2 + k - (0 + 1 + 1) = k by omega, List.getElem?_map, List.getElem?_eq_getElem (by omega)]
  simp [List.getD_eq_getElem?_getD, List.getElem?_eq_getElem (show k < r.length by omega)]
theorem m_set (ph vcode : Value) (r : List Int) (inp : ByteArray) (heard : Int) (vd : Value) (drawn : Int) (vo : Value) (pc next steps en ex : Int) (rep : List Value) (hr : r.length = 8) (k : Nat) (hk : k < 8) (v : Int) :
    (mCells ph vcode r inp heard vd drawn vo pc next steps en ex rep).set (2 + k) (.int .i64 v) = mCells ph vcode (r.set k v) inp heard vd drawn vo pc next steps en ex rep := by
  unfold mCells
  rw [List.append_assoc, List.append_assoc, List.set_append_right _ _ (by simp), List.set_append_left _ _ (by simp; omega)]
  simp only [List.length_cons, List.length_nil]
  rw [show 2 + k - (0 + 1 + 1) = k by omega, ← List.map_set, ← List.append_assoc, ← List.append_assoc]

def bOf (b : Bool) : Int := if b = true then 1 else 0
set_option maxHeartbeats 400000 in
theorem oneIf_any (b : Bool) (w : World) : Calls Try.prog 67 #[.bool b] w fun e w' => e = .returned (.int .i64 (bOf b)) ∧ w = w' := by
  cases b
  · go_enter Try.func67, Try.ntmps67
    go_wp2
    go_ret
    exact ⟨rfl, rfl⟩
  · go_enter Try.func67, Try.ntmps67
    go_wp2
    go_ret
    exact ⟨rfl, rfl⟩

set_option maxRecDepth 100000 in
set_option maxHeartbeats 1600000 in
theorem result_set (mb : Nat) (a b c : Int) (w : World) (b0 : 0 ≤ b) (b1 : b ≤ 255) (c0 : 0 ≤ c) (c1 : c ≤ 255) :
    Calls Try.prog 58 #[.pointer (some ⟨mb, 0, none⟩), .agg #[.int .i64 1, .int .i64 a, .int .i64 b, .int .i64 c]] w fun e w' => e = .returned (.int .i64 (256 * b + c)) ∧ Below w.heap.size w w' := by
  go_enter Try.func58, Try.ntmps58
  go_wp2
  go_ret
  exact ⟨rfl, (Below.refl _ _).alloc (Nat.le_refl _) _⟩
set_option maxRecDepth 100000 in
set_option maxHeartbeats 1600000 in
theorem result_base (mb : Nat) (a b c : Int) (w : World) (b0 : 0 ≤ b) (b1 : b ≤ 255) (c0 : 0 ≤ c) (c1 : c ≤ 255) :
    Calls Try.prog 58 #[.pointer (some ⟨mb, 0, none⟩), .agg #[.int .i64 10, .int .i64 a, .int .i64 b, .int .i64 c]] w fun e w' => e = .returned (.int .i64 (16 + 256 * b + c)) ∧ Below w.heap.size w w' := by
  go_enter Try.func58, Try.ntmps58
  go_wp2
  go_ret
  exact ⟨rfl, (Below.refl _ _).alloc (Nat.le_refl _) _⟩

/-- What Add, Sub, Less and Same make. -/
def sumV (op x y : Int) : Int := if op = 2 then wrap64 (x + y) else if op = 3 then wrap64 (x - y) else if op = 4 then (if x < y then 1 else 0) else (if x = y then 1 else 0)

set_option maxRecDepth 100000 in
set_option maxHeartbeats 3200000 in
theorem result_sum (mb : Nat) (ph vcode : Value) (r : List Int) (inp : ByteArray) (heard : Int) (vd : Value) (drawn : Int) (vo : Value) (pc next steps en ex : Int) (rep : List Value) (op a : Int) (b c : Nat) (w : World)
    (h : Blk w mb 85 (mCells ph vcode r inp heard vd drawn vo pc next steps en ex rep)) (hr : r.length = 8) (hb : b < 8) (hc : c < 8) (ho : op = 2 ∨ op = 3 ∨ op = 4 ∨ op = 5) :
    Calls Try.prog 58 #[.pointer (some ⟨mb, 0, none⟩), .agg #[.int .i64 op, .int .i64 a, .int .i64 (b : Int), .int .i64 (c : Int)]] w fun e w' => e = .returned (.int .i64 (sumV op (rg r b) (rg r c))) ∧ Below w.heap.size w w' := by
  obtain ⟨wa, hwa⟩ : ∃ wa, wa = w.alloc (.cells #[.int .i64 op, .int .i64 a, .int .i64 (b : Int), .int .i64 (c : Int)] 35) := ⟨_, rfl⟩
  have hbl : Below w.heap.size w wa := by rw [hwa]; exact (Below.refl _ _).alloc (Nat.le_refl _) _
  have HX : Hid (Blk wa w.heap.size 35 [.int .i64 op, .int .i64 a, .int .i64 (b : Int), .int .i64 (c : Int)]) := by show Blk _ _ _ _; rw [hwa]; exact Blk.alloc _ _ _
  have HM := hide2 (h.below hbl h.lt)
  have HB := hide2 hbl
  have rb := m_reg HM.out hr b hb
  have rc := m_reg HM.out hr c hc
  have x0 := HX.out.cell (j := 0) rfl
  have x2 := HX.out.cell (j := 2) rfl
  have x3 := HX.out.cell (j := 3) rfl
  have hbI : (b : Int) < 8 := by omega
  have hcI : (c : Int) < 8 := by omega
  generalize rg r b = vb at *
  generalize rg r c = vc at *
  clear h hbl
  rcases ho with rfl | rfl | rfl | rfl
  · go_enter Try.func58, Try.ntmps58
    go_upto_region 1 with (fail)
    rw [← hwa]
    clear hwa
    go_wp2
    go_quiet (fail)
    go_upto_region 7 with (fail)
    obtain ⟨wb, hwb⟩ : ∃ wb, wb = wa.drewN nq := ⟨_, rfl⟩
    rw [← hwb]
    have hbb : Below wa.heap.size wa wb := by rw [hwb]; exact below_drewN (Below.refl _ _) _
    have HBB : Hid (Below w.heap.size w wb) := HB.out.trans (hbb.mono HB.out.size)
    have rc' := (hbb.cell (p := ⟨mb, 2 + c, none⟩) HM.out.lt).trans rc
    have x3' := (hbb.cell (p := ⟨w.heap.size, 3, none⟩) HX.out.lt).trans x3
    have x0' := (hbb.cell (p := ⟨w.heap.size, 0, none⟩) HX.out.lt).trans x0
    clear hwb hbb rb rc x0 x2 x3 nq
    go_quiet (fail)
    go_wp2
    go_ret
    exact ⟨rfl, below_drewN HBB.out _⟩
  · go_enter Try.func58, Try.ntmps58
    go_upto_region 1 with (fail)
    rw [← hwa]
    clear hwa
    go_wp2
    go_quiet (fail)
    go_upto_region 7 with (fail)
    obtain ⟨wb, hwb⟩ : ∃ wb, wb = wa.drewN nq := ⟨_, rfl⟩
    rw [← hwb]
    have hbb : Below wa.heap.size wa wb := by rw [hwb]; exact below_drewN (Below.refl _ _) _
    have HBB : Hid (Below w.heap.size w wb) := HB.out.trans (hbb.mono HB.out.size)
    have rc' := (hbb.cell (p := ⟨mb, 2 + c, none⟩) HM.out.lt).trans rc
    have x3' := (hbb.cell (p := ⟨w.heap.size, 3, none⟩) HX.out.lt).trans x3
    have x0' := (hbb.cell (p := ⟨w.heap.size, 0, none⟩) HX.out.lt).trans x0
    clear hwb hbb rb rc x0 x2 x3 nq
    go_quiet (fail)
    go_wp2
    go_ret
    exact ⟨rfl, below_drewN HBB.out _⟩
  · go_enter Try.func58, Try.ntmps58
    go_upto_region 1 with (fail)
    rw [← hwa]
    clear hwa
    go_wp2
    go_quiet (fail)
    go_upto_region 7 with (fail)
    obtain ⟨wb, hwb⟩ : ∃ wb, wb = wa.drewN nq := ⟨_, rfl⟩
    rw [← hwb]
    have hbb : Below wa.heap.size wa wb := by rw [hwb]; exact below_drewN (Below.refl _ _) _
    have HBB : Hid (Below w.heap.size w wb) := HB.out.trans (hbb.mono HB.out.size)
    have rc' := (hbb.cell (p := ⟨mb, 2 + c, none⟩) HM.out.lt).trans rc
    have x3' := (hbb.cell (p := ⟨w.heap.size, 3, none⟩) HX.out.lt).trans x3
    have x0' := (hbb.cell (p := ⟨w.heap.size, 0, none⟩) HX.out.lt).trans x0
    clear hwb hbb rb rc x0 x2 x3 nq
    go_quiet (fail)
    go_wp2_with (go_at_call 67; refine (oneIf_any _ _).mono ?_; rintro e1 w1 ⟨rfl, rfl⟩)
    go_ret
    exact ⟨ret_int (by unfold sumV bOf; simp), below_drewN HBB.out _⟩
  · go_enter Try.func58, Try.ntmps58
    go_upto_region 1 with (fail)
    rw [← hwa]
    clear hwa
    go_wp2
    go_quiet (fail)
    go_upto_region 7 with (fail)
    obtain ⟨wb, hwb⟩ : ∃ wb, wb = wa.drewN nq := ⟨_, rfl⟩
    rw [← hwb]
    have hbb : Below wa.heap.size wa wb := by rw [hwb]; exact below_drewN (Below.refl _ _) _
    have HBB : Hid (Below w.heap.size w wb) := HB.out.trans (hbb.mono HB.out.size)
    have rc' := (hbb.cell (p := ⟨mb, 2 + c, none⟩) HM.out.lt).trans rc
    have x3' := (hbb.cell (p := ⟨w.heap.size, 3, none⟩) HX.out.lt).trans x3
    have x0' := (hbb.cell (p := ⟨w.heap.size, 0, none⟩) HX.out.lt).trans x0
    clear hwb hbb rb rc x0 x2 x3 nq
    go_quiet (fail)
    go_wp2_with (go_at_call 67; refine (oneIf_any _ _).mono ?_; rintro e1 w1 ⟨rfl, rfl⟩)
    go_ret
    exact ⟨ret_int (by unfold sumV bOf; simp), below_drewN HBB.out _⟩
end Go.Proofs.Ytjikemhmnkckcab
/- The program's machine: the input, the draws. -/
namespace Go.Proofs.Ytjikemhmnkckcab
open Go.RowKit
attribute [local go_sem ↓] Go.wp_at_zero Go.wp_at_succ

/-- The next byte of the input, -1 if none is left. -/
def hearV (inp : ByteArray) (heard : Nat) : Int := if heard < inp.size then byteAt inp heard else -1
def hearN (inp : ByteArray) (heard : Nat) : Nat := if heard < inp.size then heard + 1 else heard

set_option maxRecDepth 100000 in
set_option maxHeartbeats 1600000 in
theorem hear_any (mb : Nat) (ph vcode : Value) (r0 r1 r2 r3 r4 r5 r6 r7 : Int) (inp : ByteArray) (heard : Nat) (vd : Value) (drawn : Int) (vo : Value) (pc next steps en ex : Int) (rep : List Value) (w : World) (hi : (inp.size : Int) ≤ 9223372036854775807)
    (h : Blk w mb 85 (mCells ph vcode [r0, r1, r2, r3, r4, r5, r6, r7] inp heard vd drawn vo pc next steps en ex rep)) :
    Calls Try.prog 59 #[.pointer (some ⟨mb, 0, none⟩)] w fun e w' => e = .returned (.int .i64 (hearV inp heard)) ∧ Blk w' mb 85 (mCells ph vcode [r0, r1, r2, r3, r4, r5, r6, r7] inp (hearN inp heard) vd drawn vo pc next steps en ex rep) ∧ Kept w w' (· = mb) ∧ w'.heap.size = w.heap.size := by
  have H := hide2 h
  have c10 := h.cell (j := 10) rfl
  have c11 := h.cell (j := 11) rfl
  have f11 := h.frozen 11
  clear h
  by_cases hk : heard < inp.size
  · have hI : (heard : Int) < (inp.size : Int) := by omega
    have hv : byteAt inp heard = (inp[heard].toNat : Int) := byteAt_lt hk
    have hb := byteAt_bd inp heard
    rw [hv] at hb
    have HV : Hid (hearV inp heard = (inp[heard].toNat : Int)) := by show _ = _; unfold hearV; rw [if_pos hk, hv]
    have HN : Hid (hearN inp heard = heard + 1) := by show _ = _; unfold hearN; rw [if_pos hk]
    clear hv
    go_enter Try.func59, Try.ntmps59
    go_wp2
    go_quiet (fail)
    go_wp2
    go_quiet (fail)
    go_wp2
    go_ret
    exact ⟨by rw [HV.out]; rfl, by rw [HN.out]; exact (show Blk (w.drewN _) mb 85 _ from H.out).setCell 11 _, ((Kept.refl w _).drewN _).setCell _ _ rfl, by simp⟩
  · have hI : (inp.size : Int) ≤ (heard : Int) := by omega
    have HV : Hid (hearV inp heard = -1) := by show _ = _; unfold hearV; rw [if_neg hk]
    have HN : Hid (hearN inp heard = heard) := by show _ = _; unfold hearN; rw [if_neg hk]
    go_enter Try.func59, Try.ntmps59
    go_wp2
    go_quiet (fail)
    go_wp2
    go_ret
    exact ⟨by rw [HV.out]; rfl, by rw [HN.out]; exact H.out, (Kept.refl w _).drewN _, rfl⟩

/-- A row of draws. -/
structure DRow (w : World) (a : Option Addr) (cap : Nat) (ds : List Int) : Prop where
  len : ds.length ≤ cap
  cap : cap ≤ maxLen
  cells : 0 < ds.length → ∃ g off, a = some ⟨g, off, none⟩ ∧ g < w.heap.size ∧ ∀ i, i < ds.length → w.cell? ⟨g, off + i, none⟩ = some (.int .i64 (ds.getD i 0))
theorem DRow.kept {w w' : World} {a : Option Addr} {cap : Nat} {ds : List Int} (h : DRow w a cap ds) (hs : w.heap.size ≤ w'.heap.size) (hk : ∀ g off, a = some ⟨g, off, none⟩ → g < w.heap.size → w'.heap[g]? = w.heap[g]?) : DRow w' a cap ds := by
  refine ⟨h.len, h.cap, fun h0 => ?_⟩
  obtain ⟨g, off, e, hg, hc⟩ := h.cells h0
  refine ⟨g, off, e, by omega, fun i hi => ?_⟩
  rw [← hc i hi]
  unfold World.cell?
  rw [hk g off e hg]

set_option maxRecDepth 100000 in
set_option maxHeartbeats 1600000 in
theorem draw_yes (mb : Nat) (ph vcode : Value) (r0 r1 r2 r3 r4 r5 r6 r7 : Int) (inp : ByteArray) (heard : Int) (da : Option Addr) (dcap : Nat) (ds : List Int) (drawn : Nat) (vo : Value) (pc next steps en ex : Int) (rep : List Value) (w : World) (hd : DRow w da dcap ds) (hk : drawn < ds.length)
    (h : Blk w mb 85 (mCells ph vcode [r0, r1, r2, r3, r4, r5, r6, r7] inp heard (.slice da ds.length dcap) drawn vo pc next steps en ex rep)) :
    Calls Try.prog 68 #[.pointer (some ⟨mb, 0, none⟩)] w fun e w' => e = .returned (.tuple #[.int .i64 (ds.getD drawn 0), .bool true]) ∧ Blk w' mb 85 (mCells ph vcode [r0, r1, r2, r3, r4, r5, r6, r7] inp heard (.slice da ds.length dcap) ((drawn + 1 : Nat) : Int) vo pc next steps en ex rep) ∧ Kept w w' (· = mb) ∧ w'.heap.size = w.heap.size := by
  have H := hide2 h
  have c12 := h.cell (j := 12) rfl
  have c13 := h.cell (j := 13) rfl
  have f13 := h.frozen 13
  have hl := hd.len
  have hc := hd.cap
  unfold maxLen at hc
  obtain ⟨g, off, rfl, hg, hcell⟩ := hd.cells (by omega)
  have d0 := hcell drawn hk
  have hI : (drawn : Int) < (ds.length : Int) := by omega
  generalize ds.getD drawn 0 = dv at *
  clear h hcell hd
  go_enter Try.func68, Try.ntmps68
  go_wp2
  go_quiet (fail)
  go_wp2
  go_quiet (fail)
  go_wp2
  go_ret2
  exact ⟨rfl, (show Blk (w.drewN _) mb 85 _ from H.out).setCell 13 _, ((Kept.refl w _).drewN _).setCell _ _ rfl, by simp⟩
set_option maxRecDepth 100000 in
set_option maxHeartbeats 1600000 in
theorem draw_no (mb : Nat) (ph vcode : Value) (r0 r1 r2 r3 r4 r5 r6 r7 : Int) (inp : ByteArray) (heard : Int) (da : Option Addr) (n dcap : Nat) (drawn : Nat) (vo : Value) (pc next steps en ex : Int) (rep : List Value) (w : World) (hk : n ≤ drawn)
    (h : Blk w mb 85 (mCells ph vcode [r0, r1, r2, r3, r4, r5, r6, r7] inp heard (.slice da n dcap) drawn vo pc next steps en ex rep)) :
    Calls Try.prog 68 #[.pointer (some ⟨mb, 0, none⟩)] w fun e w' => e = .returned (.tuple #[.int .i64 0, .bool false]) ∧ Blk w' mb 85 (mCells ph vcode [r0, r1, r2, r3, r4, r5, r6, r7] inp heard (.slice da n dcap) drawn vo pc next steps 4 ex rep) ∧ Kept w w' (· = mb) ∧ w'.heap.size = w.heap.size := by
  have H := hide2 h
  have c12 := h.cell (j := 12) rfl
  have c13 := h.cell (j := 13) rfl
  have c18 := h.cell (j := 18) rfl
  have f18 := h.frozen 18
  have hI : (n : Int) ≤ (drawn : Int) := by omega
  clear h
  go_enter Try.func68, Try.ntmps68
  go_wp2
  go_quiet (fail)
  go_wp2
  go_ret2
  exact ⟨rfl, (show Blk (w.drewN _) mb 85 _ from H.out).setCell 18 _, ((Kept.refl w _).drewN _).setCell _ _ rfl, by simp⟩
end Go.Proofs.Ytjikemhmnkckcab
