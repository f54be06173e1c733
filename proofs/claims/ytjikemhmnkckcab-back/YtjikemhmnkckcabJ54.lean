import Derived.Test.YtjikemhmnkckcabJ53
import Derived.Test.YtjikemhmnkckcabJ9
import Derived.Test.YtjikemhmnkckcabJ13
/- The statements' refusedImage. -/
namespace Go.Proofs.Ytjikemhmnkckcab
open Go.RowKit
attribute [local go_sem ↓] Go.wp_at_zero Go.wp_at_succ

set_option maxRecDepth 100000 in
set_option maxHeartbeats 3200000 in
theorem refused_any (d : ByteArray) (w : World) (hd : (d.size : Int) ≤ 9223372036854775807) (hB : imgB d = false) :
    Calls Try.prog 19 #[.string d] w fun e w' => e = .returned (.bool true) ∧ Below w.heap.size w w' := by
  have HBB := hide2 hB
  clear hB
  go_enter Try.func19, Try.ntmps19
  go_upto_region 2 with (go_at_call 7; refine (gread_any d w hd).mono ?_; rintro e1 w1 ⟨a, cap, ia, icap, rfl, -, hbel, hnil⟩; obtain ⟨rfl, rfl, rfl, rfl⟩ := hnil HBB.out; obtain ⟨y0, y1, y2, y3, y4, y5⟩ := o_no HBB.out; rw [y0, y1, y2, y3, y4, y5]; have HB1 := hide2 hbel; clear hbel hnil y0 y1 y2 y3 y4 y5)
  obtain ⟨w2, hw2⟩ : ∃ w2, w2 = w1.alloc (.cells #[.int .i64 0, .int .i64 0, .slice none 0 0, .string ⟨#[]⟩, .slice none 0 0] 27) := ⟨_, rfl⟩
  have HX2 : Hid (Below w1.heap.size w1 w2) := by show Below _ _ _; rw [hw2]; exact (Below.refl _ _).alloc (Nat.le_refl _) _
  have HP2 : Hid (Blk w2 w1.heap.size 27 [.int .i64 0, .int .i64 0, .slice none 0 0, .string ⟨#[]⟩, .slice none 0 0]) := by show Blk _ _ _ _; rw [hw2]; exact Blk.alloc _ _ _
  first
    | rw [← hw2]
    | (simp only [List.length_nil]; rw [← hw2])
  clear hw2
  have HB2 : Hid (Below w.heap.size w w2) := HB1.out.trans (HX2.out.mono HB1.out.size)
  have p0 := HP2.out.cell (j := 0) rfl
  have p1 := HP2.out.cell (j := 1) rfl
  have p2 := HP2.out.cell (j := 2) rfl
  have p3 := HP2.out.cell (j := 3) rfl
  have p4 := HP2.out.cell (j := 4) rfl
  go_upto_region 3 with (go_at_call 17; refine (ksame_any 0 0 none none 0 0 [] ⟨#[]⟩ none none 0 0 [] w2 (crow_nil _) (crow_nil _) (irow_nil _) (irow_nil _)).mono ?_; rintro e1 w3 ⟨rfl, hb3⟩; have HB3 := hide2 (HB2.out.trans (hb3.mono HB2.out.size)); clear hb3)
  clear p0 p1 p2 p3 p4
  go_upto_region 4 with (go_at_call 18; refine (run_no d _ _ _ _ hd HBB.out).mono ?_; rintro e1 w4 ⟨rfl, hb4⟩; have HB4 : Hid (Below w.heap.size w w4) := (HB3.out.alloc HB3.out.size _).trans (hb4.mono (by have := HB3.out.size; simp; omega)); clear hb4; unfold outC zRep; simp only [List.cons_append, List.nil_append])
  go_wp2
  go_ret
  exact ⟨rfl, HB4.out.alloc HB4.out.size _⟩
end Go.Proofs.Ytjikemhmnkckcab
/- The program's machine: how it begins. -/
namespace Go.Proofs.Ytjikemhmnkckcab
open Go.RowKit

/-- A machine's cells. -/
def mCells (ph vcode : Value) (r : List Int) (inp : ByteArray) (heard : Int) (vd : Value) (drawn : Int) (vo : Value) (pc next steps en ex : Int) (rep : List Value) : List Value :=
  [ph, vcode] ++ r.map (Value.int .i64) ++ [.string inp, .int .i64 heard, vd, .int .i64 drawn, vo, .int .i64 pc, .int .i64 next, .int .i64 steps, .int .i64 en, .int .i64 ex] ++ rep
def zRep2 : List Value := [.int .i64 0, .int .i64 0, .int .i64 0, .int .i64 0, .int .i64 0, .int .i64 0, .int .i64 0, .int .i64 0, .int .i64 0, .slice none 0 0]
/-- Memory with the first bytes of the data laid into static memory. -/
def dMem (mem : List Int) (d : ByteArray) : Nat → List Int
  | 0 => mem
  | m + 1 => (dMem mem d m).set (16 + m) (byteAt d m)
theorem dMem_len (mem : List Int) (d : ByteArray) (m : Nat) : (dMem mem d m).length = mem.length := by
  induction m with
  | zero => rfl
  | succ m ih => simp [dMem, ih]

theorem gran_lo {st rest : Int} {cls : List (Int × Int)} (hv : Cf.Valid st rest cls) : st + 2 ≤ Cf.gran st cls cls.length := by
  have := Cf.gran_mono hv 0 cls.length (Nat.zero_le _) (Nat.le_refl _)
  have e : Cf.gran st cls 0 = 1 + st + 1 := rfl
  omega

set_option maxRecDepth 100000 in
set_option maxHeartbeats 3200000 in
theorem newMachine_any (st rest : Int) (a : Option Addr) (cap : Nat) (cls : List (Int × Int)) (d : ByteArray) (ia : Option Addr) (ni icap : Nat) (inp : ByteArray) (da : Option Addr) (nd dcap : Nat) (w : World) (h : CRow w a cap cls) (hv : Cf.Valid st rest cls) (hd : (d.size : Int) ≤ 16 * st) :
    Calls Try.prog 34 #[.agg #[.int .i64 st, .int .i64 rest, .slice a cls.length cap, .string d, .slice ia ni icap], .string inp, .slice da nd dcap] w fun e w' => ∃ mb ph gc bb cs, e = .returned (.pointer (some ⟨mb, 0, none⟩)) ∧
      Blk w' mb 85 (mCells (.pointer (some ⟨ph, 0, none⟩)) (.slice ia ni icap) [0, 0, 0, 0, 0, 0, 0, 0] inp 0 (.slice da nd dcap) 0 (.slice none 0 0) 0 0 0 0 0 zRep2) ∧
      GRep w' ph gc bb ⟨st, rest, cs, dMem (List.replicate (16 * Cf.gran st cls cls.length).toNat 0) d d.size⟩ ∧ ClsOk st cls cls.length cs ∧ Below w.heap.size w w' ∧ w.heap.size ≤ mb ∧
      ∀ b, GFoot ph gc bb ⟨st, rest, cs, dMem (List.replicate (16 * Cf.gran st cls cls.length).toNat 0) d d.size⟩ b → w.heap.size ≤ b ∧ b ≠ mb := by
  have st0 := hv.st0
  have st1 := hv.st1
  have HC := hide2 h
  have HV := hide2 hv
  clear h hv
  go_enter Try.func34, Try.ntmps34
  go_upto_region 1 with (fail)
  obtain ⟨wa, hwa⟩ : ∃ wa, wa = w.alloc (.cells #[.int .i64 st, .int .i64 rest, .slice a cls.length cap, .string d, .slice ia ni icap] 27) := ⟨_, rfl⟩
  have HBA : Hid (Below w.heap.size w wa) := by show Below _ _ _; rw [hwa]; exact (Below.refl _ _).alloc (Nat.le_refl _) _
  have HP : Hid (Blk wa w.heap.size 27 [.int .i64 st, .int .i64 rest, .slice a cls.length cap, .string d, .slice ia ni icap]) := by show Blk _ _ _ _; rw [hwa]; exact Blk.alloc _ _ _
  have hsa : wa.heap.size = w.heap.size + 1 := by rw [hwa]; simp
  rw [← hwa]
  clear hwa
  have HSA := hide2 hsa
  clear hsa
  have p0 := HP.out.cell (j := 0) rfl
  have p1 := HP.out.cell (j := 1) rfl
  have p2 := HP.out.cell (j := 2) rfl
  go_upto_region 2 with (go_at_call 46; refine (gnew_yes st rest a cap cls wa (HC.out.below HBA.out) HV.out).mono ?_; rintro e1 w1 ⟨ph, gc, bb, cs, rfl, hg, hcl, hb1, hft⟩; have HG := hide2 hg; have HCL := hide2 hcl; have HB1 := hide2 hb1; have HFT := hide2 hft; clear hg hcl hb1 hft)
  have HP1 := hide2 (HP.out.below HB1.out HP.out.lt)
  clear p0 p1 p2 HP
  obtain ⟨mem0, hm0⟩ : ∃ m0 : List Int, m0 = List.replicate (16 * Cf.gran st cls cls.length).toNat 0 := ⟨_, rfl⟩
  have hml : (16 + d.size) ≤ mem0.length := by
    rw [hm0, List.length_replicate]
    have := HV.out.n0
    have hg := gran_lo HV.out
    omega
  rw [← hm0] at HG HFT
  have HM0 := hide2 hm0
  clear hm0
  have hwp : ∀ b, GFoot ph gc bb ⟨st, rest, cs, mem0⟩ b → b ≠ w.heap.size := fun b hb => by have := HFT.out b hb; have := HSA.out; omega
  have HWP := hide2 hwp
  clear hwp
  go_wp2
  go_loopw [9] (fun i wr => ∃ m : Nat, m ≤ d.size ∧ i = .int .i64 (m : Int) ∧ Hid (GRep wr ph gc bb ⟨st, rest, cs, dMem mem0 d m⟩) ∧ Hid (Blk wr w.heap.size 27 [.int .i64 st, .int .i64 rest, .slice a cls.length cap, .string d, .slice ia ni icap]) ∧ Hid (Below wa.heap.size wa wr)) (fun i _ => d.size - (intOf i).toNat)
  case atStart => exact ⟨0, by omega, rfl, HG, HP1, HB1⟩
  case round =>
    obtain ⟨m, hm, rfl, HGR, HPR, HBR⟩ := hrel
    clear HG HP1 HB1
    have hdl := dMem_len mem0 d m
    by_cases hlt : m < d.size
    · have hmI : (m : Int) < (d.size : Int) := by omega
      have q3 := HPR.out.cell (j := 3) rfl
      have g3 := HGR.out.blk.cell (j := 3) rfl
      have hlen : ((dMem mem0 d m).map (Value.int .u8)).length = mem0.length := by simp [hdl]
      have hk : 16 + m < ((dMem mem0 d m).map (Value.int .u8)).length := by omega
      have b0 := HGR.out.mem.cell (j := 16 + m) (List.getElem?_eq_getElem hk)
      have bf := HGR.out.mem.frozen (16 + m)
      generalize ((dMem mem0 d m).map (Value.int .u8))[16 + m] = z0 at *
      simp only [hdl] at g3
      have hI2 : (16 : Int) + (m : Int) < (mem0.length : Int) := by omega
      have hI3 : (16 + (m : Int)).toNat = 16 + m := by omega
      have HV2 : Hid (byteAt d m = (d[m].toNat : Int)) := byteAt_lt hlt
      clear hlen hk
      go_upto_region 5 with (fail)
      go_region
      go_wp2
      have hset : Blk ((wr.setCell ⟨bb, 16 + m, none⟩ (.int .u8 (d[m].toNat : Int))).drew) bb 5 ((dMem mem0 d (m + 1)).map (Value.int .u8)) := by
        have e := HGR.out.mem.setCell (16 + m) (.int .u8 (d[m].toNat : Int))
        have e2 : ((dMem mem0 d m).map (Value.int .u8)).set (16 + m) (.int .u8 (d[m].toNat : Int)) = (dMem mem0 d (m + 1)).map (Value.int .u8) := by
          simp only [dMem, HV2.out, List.map_set]
        rw [e2] at e
        exact e
      have hkept : Kept wr ((wr.setCell ⟨bb, 16 + m, none⟩ (.int .u8 (d[m].toNat : Int))).drew) (· = bb) := by
        have := (Kept.refl wr (· = bb)).setCell ⟨bb, 16 + m, none⟩ (.int .u8 (d[m].toNat : Int)) rfl
        exact ⟨this.os, this.tape, this.output, this.size, this.block⟩
      have HG2 := hide2 (HGR.out.setMem (dMem mem0 d (m + 1)) (by rw [dMem_len]; exact hdl.symm) hkept hset)
      have hwb : w.heap.size ≠ bb := fun e => HWP.out bb (.inr (.inr (.inl rfl))) e.symm
      have hab : wa.heap.size ≤ bb := HFT.out bb (.inr (.inr (.inl rfl)))
      have HP2 := hide2 (HPR.out.kept hkept hwb)
      have HB2 : Hid (Below wa.heap.size wa ((wr.setCell ⟨bb, 16 + m, none⟩ (.int .u8 (d[m].toNat : Int))).drew)) := (HBR.out.setCell hab _).drew
      clear hset hkept
      go_roundw
      case rel => exact ⟨m + 1, by omega, by go_num, HG2, HP2, HB2⟩
      case measure => simp [intOf]; omega
    · obtain rfl : m = d.size := by omega
      have q3 := HPR.out.cell (j := 3) rfl
      go_upto_region 6 with (fail)
      have q4 := HPR.out.cell (j := 4) rfl
      go_wp2
      go_ret
      have hx : Below wr.heap.size wr (wr.alloc (.cells (mCells (.pointer (some ⟨ph, 0, none⟩)) (.slice ia ni icap) [0, 0, 0, 0, 0, 0, 0, 0] inp 0 (.slice da nd dcap) 0 (.slice none 0 0) 0 0 0 0 0 zRep2).toArray 85)) := (Below.refl _ _).alloc (Nat.le_refl _) _
      have hsz := HBR.out.size
      have hsa := HSA.out
      have hft : ∀ b, GFoot ph gc bb ⟨st, rest, cs, dMem mem0 d d.size⟩ b → GFoot ph gc bb ⟨st, rest, cs, mem0⟩ b := fun b hb => hb
      rw [← HM0.out]
      refine ⟨wr.heap.size, ph, gc, bb, cs, rfl, Blk.alloc wr 85 _, HGR.out.below hx, HCL.out, (HBA.out.trans (HBR.out.mono HBA.out.size)).trans (hx.mono (by omega)), by omega, fun b hb => ⟨by have := HFT.out b (hft b hb); omega, by have := HGR.out.foot_lt hb; omega⟩⟩
end Go.Proofs.Ytjikemhmnkckcab
/- A block of sixteen cells that is written over. -/
namespace Go.Proofs.Ytjikemhmnkckcab
open Go.RowKit

theorem Blk.drew {w : World} {q : Nat} {t : TypeId} {l : List Value} (h : Blk w q t l) : Blk w.drew q t l := h
theorem blk_set16 {w : World} {q : Nat} {t : TypeId} {u0 u1 u2 u3 u4 u5 u6 u7 u8 u9 u10 u11 u12 u13 u14 u15 : Value} (h : Blk w q t [u0, u1, u2, u3, u4, u5, u6, u7, u8, u9, u10, u11, u12, u13, u14, u15]) (v0 v1 v2 v3 v4 v5 v6 v7 v8 v9 v10 v11 v12 v13 v14 v15 : Value) : Blk ((((((((((((((((w.setCell ⟨q, 0, none⟩ v0).setCell ⟨q, 1, none⟩ v1).setCell ⟨q, 2, none⟩ v2).setCell ⟨q, 3, none⟩ v3).setCell ⟨q, 4, none⟩ v4).setCell ⟨q, 5, none⟩ v5).setCell ⟨q, 6, none⟩ v6).setCell ⟨q, 7, none⟩ v7).setCell ⟨q, 8, none⟩ v8).setCell ⟨q, 9, none⟩ v9).setCell ⟨q, 10, none⟩ v10).setCell ⟨q, 11, none⟩ v11).setCell ⟨q, 12, none⟩ v12).setCell ⟨q, 13, none⟩ v13).setCell ⟨q, 14, none⟩ v14).setCell ⟨q, 15, none⟩ v15) q t [v0, v1, v2, v3, v4, v5, v6, v7, v8, v9, v10, v11, v12, v13, v14, v15] :=
  ((((((((((((((((h.setCell 0 v0).setCell 1 v1).setCell 2 v2).setCell 3 v3).setCell 4 v4).setCell 5 v5).setCell 6 v6).setCell 7 v7).setCell 8 v8).setCell 9 v9).setCell 10 v10).setCell 11 v11).setCell 12 v12).setCell 13 v13).setCell 14 v14).setCell 15 v15)
theorem below_set16 {B : Nat} {a w : World} (h : Below B a w) {q : Nat} (hb : B ≤ q) (v0 v1 v2 v3 v4 v5 v6 v7 v8 v9 v10 v11 v12 v13 v14 v15 : Value) : Below B a ((((((((((((((((w.setCell ⟨q, 0, none⟩ v0).setCell ⟨q, 1, none⟩ v1).setCell ⟨q, 2, none⟩ v2).setCell ⟨q, 3, none⟩ v3).setCell ⟨q, 4, none⟩ v4).setCell ⟨q, 5, none⟩ v5).setCell ⟨q, 6, none⟩ v6).setCell ⟨q, 7, none⟩ v7).setCell ⟨q, 8, none⟩ v8).setCell ⟨q, 9, none⟩ v9).setCell ⟨q, 10, none⟩ v10).setCell ⟨q, 11, none⟩ v11).setCell ⟨q, 12, none⟩ v12).setCell ⟨q, 13, none⟩ v13).setCell ⟨q, 14, none⟩ v14).setCell ⟨q, 15, none⟩ v15) :=
  ((((((((((((((((h.setCell (p := ⟨q, 0, none⟩) hb v0).setCell (p := ⟨q, 1, none⟩) hb v1).setCell (p := ⟨q, 2, none⟩) hb v2).setCell (p := ⟨q, 3, none⟩) hb v3).setCell (p := ⟨q, 4, none⟩) hb v4).setCell (p := ⟨q, 5, none⟩) hb v5).setCell (p := ⟨q, 6, none⟩) hb v6).setCell (p := ⟨q, 7, none⟩) hb v7).setCell (p := ⟨q, 8, none⟩) hb v8).setCell (p := ⟨q, 9, none⟩) hb v9).setCell (p := ⟨q, 10, none⟩) hb v10).setCell (p := ⟨q, 11, none⟩) hb v11).setCell (p := ⟨q, 12, none⟩) hb v12).setCell (p := ⟨q, 13, none⟩) hb v13).setCell (p := ⟨q, 14, none⟩) hb v14).setCell (p := ⟨q, 15, none⟩) hb v15)
end Go.Proofs.Ytjikemhmnkckcab
/- The program's machine: how it ends; a run without fuel. -/
namespace Go.Proofs.Ytjikemhmnkckcab
open Go.RowKit
attribute [local go_sem ↓] Go.wp_at_zero Go.wp_at_succ

set_option maxRecDepth 100000 in
set_option maxHeartbeats 3200000 in
theorem outcome_any (mb : Nat) (ph vcode : Value) (r0 r1 r2 r3 r4 r5 r6 r7 : Int) (inp : ByteArray) (heard : Int) (vd : Value) (drawn : Int) (vo : Value) (pc next steps en ex : Int) (x0 x1 x2 x3 x4 x5 x6 x7 x8 : Int) (na : Option Addr) (nn ncap : Nat) (b : ByteArray) (w : World)
    (h : Blk w mb 85 (mCells ph vcode [r0, r1, r2, r3, r4, r5, r6, r7] inp heard vd drawn vo pc next steps en ex [.int .i64 x0, .int .i64 x1, .int .i64 x2, .int .i64 x3, .int .i64 x4, .int .i64 x5, .int .i64 x6, .int .i64 x7, .int .i64 x8, .slice na nn ncap]))
    (ho : w.ownsRow 0 5 1 vo b.size (bytesV b)) :
    Calls Try.prog 36 #[.pointer (some ⟨mb, 0, none⟩)] w fun e w' => e = .returned (.agg (outC en ex steps pc drawn b [.int .i64 x0, .int .i64 x1, .int .i64 x2, .int .i64 x3, .int .i64 x4, .int .i64 x5, .int .i64 x6, .int .i64 x7, .int .i64 x8, .slice na nn ncap]).toArray) ∧ Below w.heap.size w w' := by
  go_enter Try.func36, Try.ntmps36
  go_upto_region 1 with (fail)
  obtain ⟨wa, hwa⟩ : ∃ wa, wa = w.alloc (.cells (outC 0 0 0 0 0 ⟨#[]⟩ zRep).toArray 49) := ⟨_, rfl⟩
  have hbl : Below w.heap.size w wa := by rw [hwa]; exact (Below.refl _ _).alloc (Nat.le_refl _) _
  have HBA := hide2 hbl
  have HO : Hid (Blk wa w.heap.size 49 (outC 0 0 0 0 0 ⟨#[]⟩ zRep)) := by show Blk _ _ _ _; rw [hwa]; exact Blk.alloc _ _ _
  have HM := hide2 (h.below hbl h.lt)
  have HRW := hide2 (row_below ho hbl (own_lt ho))
  have hmo : mb ≠ w.heap.size := by have := h.lt; omega
  unfold outC zRep at hwa
  simp only [List.cons_append, List.nil_append] at hwa
  rw [← hwa]
  clear hwa hbl h ho
  have hcv := convert_row HRW.out
  have hcv3 := convert_row (w := wa.drew) (row_below HRW.out ((Below.refl _ _).drew) (own_lt HRW.out))
  have c11 := HM.out.cell (j := 14) rfl
  have d0 := HM.out.cell (j := 13) rfl
  have d1 := HM.out.cell (j := 15) rfl
  have d2 := HM.out.cell (j := 17) rfl
  have d3 := HM.out.cell (j := 18) rfl
  have d4 := HM.out.cell (j := 19) rfl
  have e0 := HM.out.cell (j := 20) rfl
  have e1 := HM.out.cell (j := 21) rfl
  have e2 := HM.out.cell (j := 22) rfl
  have e3 := HM.out.cell (j := 23) rfl
  have e4 := HM.out.cell (j := 24) rfl
  have e5 := HM.out.cell (j := 25) rfl
  have e6 := HM.out.cell (j := 26) rfl
  have e7 := HM.out.cell (j := 27) rfl
  have e8 := HM.out.cell (j := 28) rfl
  have e9 := HM.out.cell (j := 29) rfl
  have o0 := HO.out.cell (j := 0) rfl
  have of0 := HO.out.frozen 0
  have o1 := HO.out.cell (j := 1) rfl
  have of1 := HO.out.frozen 1
  have o2 := HO.out.cell (j := 2) rfl
  have of2 := HO.out.frozen 2
  have o3 := HO.out.cell (j := 3) rfl
  have of3 := HO.out.frozen 3
  have o4 := HO.out.cell (j := 4) rfl
  have of4 := HO.out.frozen 4
  have o5 := HO.out.cell (j := 5) rfl
  have of5 := HO.out.frozen 5
  have o6 := HO.out.cell (j := 6) rfl
  have of6 := HO.out.frozen 6
  have o7 := HO.out.cell (j := 7) rfl
  have of7 := HO.out.frozen 7
  have o8 := HO.out.cell (j := 8) rfl
  have of8 := HO.out.frozen 8
  have o9 := HO.out.cell (j := 9) rfl
  have of9 := HO.out.frozen 9
  have o10 := HO.out.cell (j := 10) rfl
  have of10 := HO.out.frozen 10
  have o11 := HO.out.cell (j := 11) rfl
  have of11 := HO.out.frozen 11
  have o12 := HO.out.cell (j := 12) rfl
  have of12 := HO.out.frozen 12
  have o13 := HO.out.cell (j := 13) rfl
  have of13 := HO.out.frozen 13
  have o14 := HO.out.cell (j := 14) rfl
  have of14 := HO.out.frozen 14
  have o15 := HO.out.cell (j := 15) rfl
  have of15 := HO.out.frozen 15
  have HOX : Hid (Blk wa w.heap.size 49 [.int .i64 0, .int .i64 0, .int .i64 0, .int .i64 0, .int .i64 0, .string ⟨#[]⟩, .int .i64 0, .int .i64 0, .int .i64 0, .int .i64 0, .int .i64 0, .int .i64 0, .int .i64 0, .int .i64 0, .int .i64 0, .slice none 0 0]) := HO.out
  clear HRW HM hmo HO
  go_region
  go_wp2
  refine bodyPost_ret (v := .agg (outC en ex steps pc drawn b [.int .i64 x0, .int .i64 x1, .int .i64 x2, .int .i64 x3, .int .i64 x4, .int .i64 x5, .int .i64 x6, .int .i64 x7, .int .i64 x8, .slice na nn ncap]).toArray) ?_ rfl ⟨rfl, ?_⟩
  · exact results_cell_row Try.results36 _ _ w.heap.size 49 (outC en ex steps pc drawn b [.int .i64 x0, .int .i64 x1, .int .i64 x2, .int .i64 x3, .int .i64 x4, .int .i64 x5, .int .i64 x6, .int .i64 x7, .int .i64 x8, .slice na nn ncap]).toArray (0, 0) _ rfl (Blk.drew (blk_set16 HOX.out _ _ _ _ _ _ _ _ _ _ _ _ _ _ _ _)) Try.underlying49 rfl (by kernel_rfl)
  · exact (below_set16 HBA.out (Nat.le_refl _) _ _ _ _ _ _ _ _ _ _ _ _ _ _ _ _).drew
end Go.Proofs.Ytjikemhmnkckcab
/- The program's machine: a run without fuel. -/
namespace Go.Proofs.Ytjikemhmnkckcab
open Go.RowKit
attribute [local go_sem ↓] Go.wp_at_zero Go.wp_at_succ

/-- Where the machine says how it ended. -/
def endOf (w : World) (mb : Nat) : Int := match w.cell? ⟨mb, 18, none⟩ with
  | some (.int _ k) => k
  | _ => 0

set_option maxRecDepth 100000 in
set_option maxHeartbeats 3200000 in
theorem run_nofuel (mb : Nat) (ph : Value) (ia : Option Addr) (n icap : Nat) (r0 r1 r2 r3 r4 r5 r6 r7 : Int) (inp : ByteArray) (heard : Int) (vd : Value) (drawn : Int) (vo : Value) (ex : Int) (rep : List Value) (w : World) (hn : 0 < n)
    (h : Blk w mb 85 (mCells ph (.slice ia n icap) [r0, r1, r2, r3, r4, r5, r6, r7] inp heard vd drawn vo 0 0 0 0 ex rep)) :
    Calls Try.prog 35 #[.pointer (some ⟨mb, 0, none⟩), .int .i64 0] w fun e w' => e = .returned (.tuple #[]) ∧ Blk w' mb 85 (mCells ph (.slice ia n icap) [r0, r1, r2, r3, r4, r5, r6, r7] inp heard vd drawn vo 0 0 0 3 ex rep) ∧ Kept w w' (· = mb) := by
  have hnI : (0 : Int) < (n : Int) := by omega
  have H := hide2 h
  clear h
  go_enter Try.func35, Try.ntmps35
  go_wp2
  go_loopw [] (fun wr => ∃ en : Int, (en = 0 ∨ en = 3) ∧ Hid (Blk wr mb 85 (mCells ph (.slice ia n icap) [r0, r1, r2, r3, r4, r5, r6, r7] inp heard vd drawn vo 0 0 0 en ex rep)) ∧ Hid (Kept w wr (· = mb))) (fun wr => if endOf wr mb = 0 then 1 else 0)
  case atStart => exact ⟨0, .inl rfl, H, Kept.refl _ _⟩
  case round =>
    obtain ⟨en, hen, HR, HK⟩ := hrel
    have HE : Hid (endOf wr mb = en) := by show _ = _; unfold endOf; rw [HR.out.cell (j := 18) (v := .int .i64 en) rfl]
    have c1 := HR.out.cell (j := 1) rfl
    have c15 := HR.out.cell (j := 15) rfl
    have c17 := HR.out.cell (j := 17) rfl
    have c18 := HR.out.cell (j := 18) rfl
    have f18 := HR.out.frozen 18
    rcases hen with rfl | rfl
    · go_wp2
      go_quiet (fail)
      go_wp2
      go_roundw
      case rel => exact ⟨3, .inr rfl, (show Blk (wr.drewN _) mb _ _ from HR.out).setCell 18 _, (HK.out.drewN _).setCell _ _ rfl⟩
      case measure =>
        rw [HE.out]
        have : ∀ q, endOf ((wr.drewN q).setCell ⟨mb, 18, none⟩ (.int .i64 3)) mb = 3 := fun q => by
          unfold endOf
          rw [((show Blk (wr.drewN q) mb _ _ from HR.out).setCell 18 (.int .i64 3)).cell (j := 18) (v := .int .i64 3) rfl]
        simp [this]
    · go_wp2
      go_end0
      exact ⟨rfl, HR.out, HK.out⟩
end Go.Proofs.Ytjikemhmnkckcab
/- A Run of an image without fuel. -/
namespace Go.Proofs.Ytjikemhmnkckcab
open Go.RowKit
attribute [local go_sem ↓] Go.wp_at_zero Go.wp_at_succ

theorem img_parts {d : ByteArray} (h : imgB d = true) : Cf.Valid (byteAt d 2) (byteAt d 3) (pCls d) ∧ ((pData d).size : Int) ≤ 16 * byteAt d 2 ∧ 0 < (pCode d).length := by
  have hs : soundB (byteAt d 2) (byteAt d 3) (pCls d) (pData d).size (pCode d) = true := (imgB_yes h).1
  unfold soundB at hs
  simp only [Bool.and_eq_true, decide_eq_true_eq] at hs
  have hc := hs.2.1
  unfold withinB at hc
  simp at hc
  exact ⟨Cf.valid_of hs.1.1, by omega, by omega⟩

set_option maxRecDepth 100000 in
set_option maxHeartbeats 6400000 in
theorem run_zero (d inp : ByteArray) (da : Option Addr) (nd dcap : Nat) (w : World) (hd : (d.size : Int) ≤ 9223372036854775807) (hB : imgB d = true) :
    Calls Try.prog 18 #[.string d, .string inp, .slice da nd dcap, .int .i64 0] w fun e w' => e = .returned (.agg (outC 3 0 0 0 0 ⟨#[]⟩ zRep).toArray) ∧ Below w.heap.size w w' := by
  obtain ⟨hv, hdt, hcp⟩ := img_parts hB
  have HV := hide2 hv
  have HDT := hide2 hdt
  have HBB := hide2 hB
  clear hB hv hdt
  go_enter Try.func18, Try.ntmps18
  go_upto_region 1 with (fail)
  obtain ⟨wa, hwa⟩ : ∃ wa, wa = w.alloc (.cells (outC 0 0 0 0 0 ⟨#[]⟩ zRep).toArray 49) := ⟨_, rfl⟩
  have HBA : Hid (Below w.heap.size w wa) := by show Below _ _ _; rw [hwa]; exact (Below.refl _ _).alloc (Nat.le_refl _) _
  have HO : Hid (Blk wa w.heap.size 49 (outC 0 0 0 0 0 ⟨#[]⟩ zRep)) := by show Blk _ _ _ _; rw [hwa]; exact Blk.alloc _ _ _
  unfold outC zRep at hwa
  simp only [List.cons_append, List.nil_append] at hwa
  rw [← hwa]
  clear hwa
  go_upto_region 2 with (go_at_call 7; refine (gread_any d wa hd).mono ?_; rintro e1 w1 ⟨a, cap, ia, icap, rfl, hrows, hbel, -⟩; obtain ⟨y0, y1, y2, y3, y4, y5⟩ := o_yes HBB.out; rw [y2, y4] at hrows; rw [y0, y1, y2, y3, y4, y5]; have HR1 := hide2 hrows; have HB1 := hide2 hbel; have HO1 := hide2 (HO.out.below hbel HO.out.lt); clear hbel hrows y0 y1 y2 y3 y4 y5)
  generalize byteAt d 2 = st at *
  generalize byteAt d 3 = re at *
  generalize pCls d = cls at *
  generalize pData d = dt at *
  generalize pCode d = code at *
  obtain ⟨w2, hw2⟩ : ∃ w2, w2 = w1.alloc (.cells #[.int .i64 st, .int .i64 re, .slice a cls.length cap, .string dt, .slice ia code.length icap] 27) := ⟨_, rfl⟩
  have HX2 : Hid (Below w1.heap.size w1 w2) := by show Below _ _ _; rw [hw2]; exact (Below.refl _ _).alloc (Nat.le_refl _) _
  have HP2 : Hid (Blk w2 w1.heap.size 27 [.int .i64 st, .int .i64 re, .slice a cls.length cap, .string dt, .slice ia code.length icap]) := by show Blk _ _ _ _; rw [hw2]; exact Blk.alloc _ _ _
  rw [← hw2]
  have HO2 := hide2 (HO1.out.below HX2.out HO1.out.lt)
  have HR2 := hide2 (HR1.out.kept (fun g _ hg => HX2.out.block g hg))
  have hsz1 := HB1.out.size
  have hsza := HBA.out.size
  have HBL2 : Hid (Below w.heap.size w w2) := (HBA.out.trans (HB1.out.mono hsza)).trans (HX2.out.mono (by omega))
  clear hw2 HX2 HO1 HB1 HO HR1
  have p0 := HP2.out.cell (j := 0) rfl
  have p1 := HP2.out.cell (j := 1) rfl
  have p2 := HP2.out.cell (j := 2) rfl
  have p3 := HP2.out.cell (j := 3) rfl
  have p4 := HP2.out.cell (j := 4) rfl
  go_upto_region 5 with (go_at_call 34; refine (newMachine_any st re a cap cls dt ia code.length icap inp da nd dcap w2 (crow_of HR2.out.crow) HV.out HDT.out).mono ?_; rintro e1 w3 ⟨mb, ph, gc, bb, cs, rfl, hm, -, -, hb3, hmb, -⟩; have HM3 := hide2 hm; have HX3 := hide2 hb3; have HMB := hide2 hmb; clear hm hb3 hmb)
  clear p0 p1 p2 p3 p4
  have HO3 := hide2 (HO2.out.below HX3.out HO2.out.lt)
  have HBL3 : Hid (Below w.heap.size w w3) := HBL2.out.trans (HX3.out.mono HBL2.out.size)
  have hol2 := HO2.out.lt
  have hmw : w.heap.size ≠ mb := by have := HMB.out; omega
  go_upto_region 6 with (go_at_call 35; refine (run_nofuel mb _ ia code.length icap 0 0 0 0 0 0 0 0 inp 0 _ 0 _ 0 _ w3 hcp HM3.out).mono ?_; rintro e1 w4 ⟨rfl, hm4, hk4⟩; have HM4 := hide2 hm4; have HK4 := hide2 hk4; clear hm4 hk4)
  have HO4 := hide2 (HO3.out.kept HK4.out hmw)
  have hsz3 := HX3.out.size
  have HBL4 : Hid (Below w.heap.size w w4) := by
    have hk := HK4.out
    have hx := HBL3.out
    have := HMB.out
    have := HBL2.out.size
    exact ⟨by rw [hk.os, hx.os], by rw [hk.tape, hx.tape], by rw [hk.output, hx.output], by have := hk.size; have := hx.size; omega, fun k hkk => (hk.block k (by have := hx.size; omega) (by omega)).trans (hx.block k hkk)⟩
  have hcall := outcome_any mb (.pointer (some ⟨ph, 0, none⟩)) (.slice ia code.length icap) 0 0 0 0 0 0 0 0 inp 0 (.slice da nd dcap) 0 (.slice none 0 0) 0 0 0 3 0 0 0 0 0 0 0 0 0 0 none 0 0 ⟨#[]⟩ w4 HM4.out ⟨rfl, .inl ⟨rfl, rfl⟩⟩
  have HCALL := hide2 hcall
  clear hcall HX3 HM3 HK4 HP2 HR2
  go_wp2_with (go_at_call 36; refine HCALL.out.mono ?_; rintro e1 w5 ⟨rfl, hb5⟩; have HB5 := hide2 hb5; have HO5 := hide2 (HO4.out.below hb5 HO4.out.lt); clear hb5; unfold outC; simp only [List.cons_append, List.nil_append]; have c0 := HO5.out.cell (j := 0) rfl; have c1 := HO5.out.cell (j := 1) rfl; have c2 := HO5.out.cell (j := 2) rfl; have c3 := HO5.out.cell (j := 3) rfl; have c4 := HO5.out.cell (j := 4) rfl; have c5 := HO5.out.cell (j := 5) rfl; have c6 := HO5.out.cell (j := 6) rfl; have c7 := HO5.out.cell (j := 7) rfl; have c8 := HO5.out.cell (j := 8) rfl; have c9 := HO5.out.cell (j := 9) rfl; have c10 := HO5.out.cell (j := 10) rfl; have c11 := HO5.out.cell (j := 11) rfl; have c12 := HO5.out.cell (j := 12) rfl; have c13 := HO5.out.cell (j := 13) rfl; have c14 := HO5.out.cell (j := 14) rfl; have c15 := HO5.out.cell (j := 15) rfl; have f0 := HO5.out.frozen 0; have f1 := HO5.out.frozen 1; have f2 := HO5.out.frozen 2; have f3 := HO5.out.frozen 3; have f4 := HO5.out.frozen 4; have f5 := HO5.out.frozen 5; have f6 := HO5.out.frozen 6; have f7 := HO5.out.frozen 7; have f8 := HO5.out.frozen 8; have f9 := HO5.out.frozen 9; have f10 := HO5.out.frozen 10; have f11 := HO5.out.frozen 11; have f12 := HO5.out.frozen 12; have f13 := HO5.out.frozen 13; have f14 := HO5.out.frozen 14; have f15 := HO5.out.frozen 15)
  have HOX : Hid (Blk w5 w.heap.size 49 [.int .i64 0, .int .i64 0, .int .i64 0, .int .i64 0, .int .i64 0, .string ⟨#[]⟩, .int .i64 0, .int .i64 0, .int .i64 0, .int .i64 0, .int .i64 0, .int .i64 0, .int .i64 0, .int .i64 0, .int .i64 0, .slice none 0 0]) := HO5.out
  have HBL5 : Hid (Below w.heap.size w w5) := HBL4.out.trans (HB5.out.mono HBL4.out.size)
  refine bodyPost_ret (v := .agg (outC 3 0 0 0 0 ⟨#[]⟩ zRep).toArray) ?_ rfl ⟨rfl, ?_⟩
  · exact results_cell_row Try.results18 _ _ w.heap.size 49 (outC 3 0 0 0 0 ⟨#[]⟩ zRep).toArray (0, 0) _ rfl (blk_set16 HOX.out _ _ _ _ _ _ _ _ _ _ _ _ _ _ _ _) Try.underlying49 rfl (by kernel_rfl)
  · exact below_set16 HBL5.out (Nat.le_refl _) _ _ _ _ _ _ _ _ _ _ _ _ _ _ _ _
end Go.Proofs.Ytjikemhmnkckcab
