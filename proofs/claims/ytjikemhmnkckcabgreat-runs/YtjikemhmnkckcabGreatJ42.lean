import Derived.Test.YtjikemhmnkckcabGreatJ41
/- The program's machine: Load. -/
namespace Go.Proofs.YtjikemhmnkckcabGreat
open Go.RowKit
attribute [local go_sem ↓] Go.wp_at_zero Go.wp_at_succ

theorem wrap64_i64 (x : Int) : -9223372036854775808 ≤ wrap64 x ∧ wrap64 x ≤ 9223372036854775807 := by unfold wrap64; omega
theorem ldV_i64 (byte : Int → Int) (a : Int) (i : Nat) : -9223372036854775808 ≤ Ref.ldV byte a i ∧ Ref.ldV byte a i ≤ 9223372036854775807 := by
  cases i with
  | zero => exact ⟨by show (-9223372036854775808 : Int) ≤ 0; omega, by show (0 : Int) ≤ 9223372036854775807; omega⟩
  | succ i => exact wrap64_i64 _
theorem mload_bd (R : RSt) (q n : Int) : -9223372036854775808 ≤ (R.load q n).1 ∧ (R.load q n).1 ≤ 9223372036854775807 := by
  unfold RSt.load
  split
  · exact ⟨by simp, by simp⟩
  · split
    · exact ⟨by simp, by simp⟩
    · exact ldV_i64 _ _ _
def dLoad (S : MS) (ka kb : Nat) (c n : Int) : MS :=
  if (S.R.load (wrap64 (rg S.r kb + c)) n).2 = 0 then S.reg ka (S.R.load (wrap64 (rg S.r kb + c)) n).1 else S.fault (rexplain S.R (wrap64 (rg S.r kb + c)) n)

set_option maxRecDepth 100000 in
set_option maxHeartbeats 3200000 in
theorem doLoad_any (F : MFix) (wB w : World) (G : GSt) (vo vn : Value) (S : MS) (op c n : Int) (ka kb : Nat) (h : MRep F wB w G vo vn S) (hka : ka < 8) (hkb : kb < 8) :
    Calls Tryz.prog 83 #[.pointer (some ⟨F.mb, 0, none⟩), .agg #[.int .i64 op, .int .i64 (ka : Int), .int .i64 (kb : Int), .int .i64 c], .int .i64 n] w fun e w' => e = .returned (.tuple #[]) ∧ ∃ G' vn', MRep F wB w' G' vo vn' (dLoad S ka kb c n) := by
  obtain ⟨SR, Sr, Sh, Sd, So, Sp, Sn, Ss, Se, Sx, Srep⟩ := S
  obtain ⟨r0, r1, r2, r3, r4, r5, r6, r7, hr⟩ := eight h.r8
  simp only at hr
  subst hr
  obtain ⟨y0, y1, y2, y3, y4, y5, y6, y7, y8, yl⟩ := Srep
  obtain ⟨wa, hwa⟩ : ∃ wa, wa = w.alloc (.cells #[.int .i64 op, .int .i64 (ka : Int), .int .i64 (kb : Int), .int .i64 c] 60) := ⟨_, rfl⟩
  have hbl : Below w.heap.size w wa := by rw [hwa]; exact (Below.refl _ _).alloc (Nat.le_refl _) _
  have HX : Hid (Blk wa w.heap.size 60 [.int .i64 op, .int .i64 (ka : Int), .int .i64 (kb : Int), .int .i64 c]) := by show Blk _ _ _ _; rw [hwa]; exact Blk.alloc _ _ _
  have HM := hide2 (h.under hbl)
  have hrb := h.rbd kb hkb
  have rk := m_reg HM.out.blk rfl kb hkb
  have x2 := HX.out.cell (j := 2) rfl
  have x3 := HX.out.cell (j := 3) rfl
  have hkI : (kb : Int) < 8 := by omega
  have hkA : (ka : Int) < 8 := by omega
  simp only at hrb
  have HDF : Hid (dLoad ⟨SR, [r0, r1, r2, r3, r4, r5, r6, r7], Sh, Sd, So, Sp, Sn, Ss, Se, Sx, ⟨y0, y1, y2, y3, y4, y5, y6, y7, y8, yl⟩⟩ ka kb c n = if (SR.load (wrap64 (rg [r0, r1, r2, r3, r4, r5, r6, r7] kb + c)) n).2 = 0 then MS.reg ⟨SR, [r0, r1, r2, r3, r4, r5, r6, r7], Sh, Sd, So, Sp, Sn, Ss, Se, Sx, ⟨y0, y1, y2, y3, y4, y5, y6, y7, y8, yl⟩⟩ ka (SR.load (wrap64 (rg [r0, r1, r2, r3, r4, r5, r6, r7] kb + c)) n).1 else MS.fault ⟨SR, [r0, r1, r2, r3, r4, r5, r6, r7], Sh, Sd, So, Sp, Sn, Ss, Se, Sx, ⟨y0, y1, y2, y3, y4, y5, y6, y7, y8, yl⟩⟩ (rexplain SR (wrap64 (rg [r0, r1, r2, r3, r4, r5, r6, r7] kb + c)) n)) := rfl
  generalize dLoad ⟨SR, [r0, r1, r2, r3, r4, r5, r6, r7], Sh, Sd, So, Sp, Sn, Ss, Se, Sx, ⟨y0, y1, y2, y3, y4, y5, y6, y7, y8, yl⟩⟩ ka kb c n = S' at *
  generalize rg [r0, r1, r2, r3, r4, r5, r6, r7] kb = q0 at *
  have hwr := wrap64_i64 (q0 + c)
  generalize hq : wrap64 (q0 + c) = q at *
  have hub := mload_bd SR q n
  clear h hbl
  go_enter Tryz.func83, Tryz.ntmps83
  go_upto_region 1 with (fail)
  rw [← hwa]
  clear hwa
  go_wp2
  go_quiet (fail)
  go_upto_region 2 with (fail)
  obtain ⟨wb, hwb⟩ : ∃ wb, wb = wa.drewN nq := ⟨_, rfl⟩
  rw [← hwb]
  have hbb : Below wa.heap.size wa wb := by rw [hwb]; exact below_drewN (Below.refl _ _) _
  have HM2 := hide2 (HM.out.under hbb)
  have HX2 := hide2 (HX.out.below hbb HX.out.lt)
  clear hwb hbb rk x2 x3 nq HM HX
  have c0 := HM2.out.blk.cell (j := 0) rfl
  go_upto_region 3 with (go_at_call 115; refine (gload_any F.ph F.gc F.bb G SR q n wb HM2.out.heap HM2.out.sim hwr.2).mono ?_; rintro e1 w1 ⟨rfl, hb1⟩; have HM3 := hide2 (HM2.out.under hb1); have HX3 := hide2 (HX2.out.below hb1 HX2.out.lt); clear hb1)
  clear c0 HM2 HX2
  have x1 := HX3.out.cell (j := 1) rfl
  by_cases he : (SR.load q n).2 = 0
  · rw [he]
    have HD : Hid (S' = MS.reg ⟨SR, [r0, r1, r2, r3, r4, r5, r6, r7], Sh, Sd, So, Sp, Sn, Ss, Se, Sx, ⟨y0, y1, y2, y3, y4, y5, y6, y7, y8, yl⟩⟩ ka (SR.load q n).1) := by show _ = _; rw [HDF.out, if_pos he]
    generalize (SR.load q n).1 = u at *
    clear he
    have ra := m_reg HM3.out.blk rfl ka hka
    have raf := HM3.out.blk.frozen (2 + ka)
    go_wp2
    go_region
    go_end0
    exact ⟨rfl, _, _, by rw [HD.out]; exact (HM3.out.setReg ka hka u (by omega) (by omega)).under ((Below.refl _ _).drew)⟩
  · have HD : Hid (S' = MS.fault ⟨SR, [r0, r1, r2, r3, r4, r5, r6, r7], Sh, Sd, So, Sp, Sn, Ss, Se, Sx, ⟨y0, y1, y2, y3, y4, y5, y6, y7, y8, yl⟩⟩ (rexplain SR q n)) := by show _ = _; rw [HDF.out, if_neg he]
    have hne : ((SR.load q n).2 != 0) = true := by simpa using he
    clear he
    go_wp2_with (go_at_call 116; refine (mexplain_any F.mb F.ph F.gc F.bb G SR _ r0 r1 r2 r3 r4 r5 r6 r7 F.inp _ _ _ vo _ _ _ _ _ y0 y1 y2 y3 y4 y5 y6 y7 y8 vn q n w1 HM3.out.heap HM3.out.sim.sim hwr.2 HM3.out.blk).mono ?_; rintro e2 w2 ⟨v, rfl, hm2, hrow, hvl, hk2⟩; rw [explain_sim HM3.out.sim.sim q n] at hm2 hrow; have HM4 := hide2 (HM3.out.faulted hk2 hm2 hrow hvl); clear hm2 hrow hvl hk2)
    refine bodyPost_ret (v := .tuple #[]) (results_none Tryz.results83 _ _ _) rfl ?_
    exact ⟨rfl, _, _, by rw [HD.out]; exact HM4.out⟩
end Go.Proofs.YtjikemhmnkckcabGreat
/- The program's machine: Store. -/
namespace Go.Proofs.YtjikemhmnkckcabGreat
open Go.RowKit
attribute [local go_sem ↓] Go.wp_at_zero Go.wp_at_succ

/-- The heap behind a call. -/
def MS.heap (S : MS) (R : RSt) : MS := ⟨R, S.r, S.heard, S.drawn, S.out, S.pc, S.next, S.steps, S.en, S.ex, S.rep⟩
def dStore (S : MS) (ka kb : Nat) (c n : Int) : MS :=
  if S.R.storeErr (wrap64 (rg S.r ka + c)) n = 0 then S.heap (S.R.store (wrap64 (rg S.r ka + c)) n (rg S.r kb))
  else (S.heap (S.R.store (wrap64 (rg S.r ka + c)) n (rg S.r kb))).fault (rexplain (S.R.store (wrap64 (rg S.r ka + c)) n (rg S.r kb)) (wrap64 (rg S.r ka + c)) n)

set_option maxRecDepth 100000 in
set_option maxHeartbeats 3200000 in
theorem doStore_any (F : MFix) (wB w : World) (G : GSt) (vo vn : Value) (S : MS) (op c n : Int) (ka kb : Nat) (h : MRep F wB w G vo vn S) (hka : ka < 8) (hkb : kb < 8) :
    Calls Tryz.prog 84 #[.pointer (some ⟨F.mb, 0, none⟩), .agg #[.int .i64 op, .int .i64 (ka : Int), .int .i64 (kb : Int), .int .i64 c], .int .i64 n] w fun e w' => e = .returned (.tuple #[]) ∧ ∃ G' vn', MRep F wB w' G' vo vn' (dStore S ka kb c n) := by
  obtain ⟨SR, Sr, Sh, Sd, So, Sp, Sn, Ss, Se, Sx, Srep⟩ := S
  obtain ⟨r0, r1, r2, r3, r4, r5, r6, r7, hr⟩ := eight h.r8
  simp only at hr
  subst hr
  obtain ⟨y0, y1, y2, y3, y4, y5, y6, y7, y8, yl⟩ := Srep
  obtain ⟨wa, hwa⟩ : ∃ wa, wa = w.alloc (.cells #[.int .i64 op, .int .i64 (ka : Int), .int .i64 (kb : Int), .int .i64 c] 60) := ⟨_, rfl⟩
  have hbl : Below w.heap.size w wa := by rw [hwa]; exact (Below.refl _ _).alloc (Nat.le_refl _) _
  have HX : Hid (Blk wa w.heap.size 60 [.int .i64 op, .int .i64 (ka : Int), .int .i64 (kb : Int), .int .i64 c]) := by show Blk _ _ _ _; rw [hwa]; exact Blk.alloc _ _ _
  have HM := hide2 (h.under hbl)
  have hra := h.rbd ka hka
  have hrb := h.rbd kb hkb
  have ra := m_reg HM.out.blk rfl ka hka
  have rb := m_reg HM.out.blk rfl kb hkb
  have x1 := HX.out.cell (j := 1) rfl
  have x2 := HX.out.cell (j := 2) rfl
  have x3 := HX.out.cell (j := 3) rfl
  have hkI : (ka : Int) < 8 := by omega
  have hkB : (kb : Int) < 8 := by omega
  simp only at hra hrb
  have HDF : Hid (dStore ⟨SR, [r0, r1, r2, r3, r4, r5, r6, r7], Sh, Sd, So, Sp, Sn, Ss, Se, Sx, ⟨y0, y1, y2, y3, y4, y5, y6, y7, y8, yl⟩⟩ ka kb c n = if SR.storeErr (wrap64 (rg [r0, r1, r2, r3, r4, r5, r6, r7] ka + c)) n = 0 then MS.heap ⟨SR, [r0, r1, r2, r3, r4, r5, r6, r7], Sh, Sd, So, Sp, Sn, Ss, Se, Sx, ⟨y0, y1, y2, y3, y4, y5, y6, y7, y8, yl⟩⟩ (SR.store (wrap64 (rg [r0, r1, r2, r3, r4, r5, r6, r7] ka + c)) n (rg [r0, r1, r2, r3, r4, r5, r6, r7] kb))
    else (MS.heap ⟨SR, [r0, r1, r2, r3, r4, r5, r6, r7], Sh, Sd, So, Sp, Sn, Ss, Se, Sx, ⟨y0, y1, y2, y3, y4, y5, y6, y7, y8, yl⟩⟩ (SR.store (wrap64 (rg [r0, r1, r2, r3, r4, r5, r6, r7] ka + c)) n (rg [r0, r1, r2, r3, r4, r5, r6, r7] kb))).fault (rexplain (SR.store (wrap64 (rg [r0, r1, r2, r3, r4, r5, r6, r7] ka + c)) n (rg [r0, r1, r2, r3, r4, r5, r6, r7] kb)) (wrap64 (rg [r0, r1, r2, r3, r4, r5, r6, r7] ka + c)) n)) := rfl
  generalize dStore ⟨SR, [r0, r1, r2, r3, r4, r5, r6, r7], Sh, Sd, So, Sp, Sn, Ss, Se, Sx, ⟨y0, y1, y2, y3, y4, y5, y6, y7, y8, yl⟩⟩ ka kb c n = S' at *
  generalize rg [r0, r1, r2, r3, r4, r5, r6, r7] ka = q0 at *
  generalize rg [r0, r1, r2, r3, r4, r5, r6, r7] kb = vv at *
  have hwr := wrap64_i64 (q0 + c)
  generalize hq : wrap64 (q0 + c) = q at *
  have HNF : Hid (¬ GFoot F.ph F.gc F.bb G w.heap.size) := fun e => by have := h.heap.foot_lt e; omega
  clear h hbl
  go_enter Tryz.func84, Tryz.ntmps84
  go_upto_region 1 with (fail)
  rw [← hwa]
  clear hwa
  go_wp2
  go_quiet (fail)
  go_upto_region 2 with (fail)
  obtain ⟨wb, hwb⟩ : ∃ wb, wb = wa.drewN nq := ⟨_, rfl⟩
  rw [← hwb]
  have hbb : Below wa.heap.size wa wb := by rw [hwb]; exact below_drewN (Below.refl _ _) _
  have HM2 := hide2 (HM.out.under hbb)
  have rb' := (hbb.cell (p := ⟨F.mb, 2 + kb, none⟩) HM.out.blk.lt).trans rb
  have x2' := (hbb.cell (p := ⟨w.heap.size, 2, none⟩) HX.out.lt).trans x2
  have hxm : w.heap.size < wb.heap.size := Nat.lt_of_lt_of_le HX.out.lt hbb.size
  have hxf : ¬ GFoot F.ph F.gc F.bb G w.heap.size := fun e => HNF.out e
  clear hwb hbb ra rb x1 x2 x3 nq HM HX
  have c0 := HM2.out.blk.cell (j := 0) rfl
  go_region_held3 (fun w' => w'.cell? ⟨F.mb, 0, none⟩ = some (.pointer (some ⟨F.ph, 0, none⟩)) ∧ w'.cell? ⟨F.mb, 2 + kb, none⟩ = some (.int .i64 vv) ∧ w'.cell? ⟨w.heap.size, 2, none⟩ = some (.int .i64 (kb : Int))) (go_keep)
    (first | (go_at_call 117; refine (gstore_any F.ph F.gc F.bb G SR q n vv wb.drew ((HM2.out.under ((Below.refl _ _).drew)).heap) HM2.out.sim hwr.2 hrb.1 hrb.2).mono ?_; rintro e1 w1 ⟨rfl, hg1, hk1⟩; have HM3 := hide2 ((HM2.out.under ((Below.refl _ _).drew)).call hg1 hk1 (HM2.out.sim.store_any q n vv) (fun b => G.store_foot SR q n vv F.ph F.gc F.bb b)); have x2'' : w1.cell? ⟨w.heap.size, 2, none⟩ = some (.int .i64 (kb : Int)) := (by rw [← x2']; unfold World.cell?; rw [hk1.block w.heap.size hxm hxf]; rfl); have rb'' : w1.cell? ⟨F.mb, 2 + kb, none⟩ = some (.int .i64 vv) := (by rw [← rb']; unfold World.cell?; rw [hk1.block F.mb HM2.out.blk.lt (fun e => (HM2.out.hf _ e).2 rfl)]; rfl); clear hg1 hk1; have c0' := HM3.out.blk.cell (j := 0) rfl))
  by_cases he : SR.storeErr q n = 0
  · rw [he]
    have HD : Hid (S' = MS.heap ⟨SR, [r0, r1, r2, r3, r4, r5, r6, r7], Sh, Sd, So, Sp, Sn, Ss, Se, Sx, ⟨y0, y1, y2, y3, y4, y5, y6, y7, y8, yl⟩⟩ (SR.store q n vv)) := by show _ = _; rw [HDF.out, if_pos he]
    clear he
    go_wp2
    go_end0
    exact ⟨rfl, _, _, by rw [HD.out]; exact HM3.out⟩
  · have HD : Hid (S' = (MS.heap ⟨SR, [r0, r1, r2, r3, r4, r5, r6, r7], Sh, Sd, So, Sp, Sn, Ss, Se, Sx, ⟨y0, y1, y2, y3, y4, y5, y6, y7, y8, yl⟩⟩ (SR.store q n vv)).fault (rexplain (SR.store q n vv) q n)) := by show _ = _; rw [HDF.out, if_neg he]
    have hne : (SR.storeErr q n != 0) = true := by simpa using he
    clear he
    go_wp2_with (go_at_call 116; refine (mexplain_any F.mb F.ph F.gc F.bb (G.store SR q n vv) (SR.store q n vv) _ r0 r1 r2 r3 r4 r5 r6 r7 F.inp _ _ _ vo _ _ _ _ _ y0 y1 y2 y3 y4 y5 y6 y7 y8 vn q n w1 HM3.out.heap HM3.out.sim.sim hwr.2 HM3.out.blk).mono ?_; rintro e2 w2 ⟨v, rfl, hm2, hrow, hvl, hk2⟩; rw [explain_sim HM3.out.sim.sim q n] at hm2 hrow; have HM4 := hide2 (HM3.out.faulted hk2 hm2 hrow hvl); clear hm2 hrow hvl hk2)
    go_end0
    exact ⟨rfl, _, _, by rw [HD.out]; exact HM4.out⟩
end Go.Proofs.YtjikemhmnkckcabGreat
/- The program's machine: its calls in few words; Malloc. -/
namespace Go.Proofs.YtjikemhmnkckcabGreat
open Go.RowKit
attribute [local go_sem ↓] Go.wp_at_zero Go.wp_at_succ

/-- One draw is taken; none is left. -/
def MS.drew (S : MS) : MS := ⟨S.R, S.r, S.heard, S.drawn + 1, S.out, S.pc, S.next, S.steps, S.en, S.ex, S.rep⟩
def MS.ends (S : MS) (en : Int) : MS := ⟨S.R, S.r, S.heard, S.drawn, S.out, S.pc, S.next, S.steps, en, S.ex, S.rep⟩
def dMalloc (ds : List Int) (S : MS) (ka kb : Nat) : MS :=
  if S.drawn < ds.length then (S.drew.heap (mR S.R (rg S.r kb) (ds.getD S.drawn 0) S.pc)).reg ka (mOut S.R (rg S.r kb) (ds.getD S.drawn 0)).1 else S.ends 4
section
variable {F : MFix} {wB w : World} {G : GSt} {vo vn : Value} {S : MS}
theorem MRep.draws (h : MRep F wB w G vo vn S) : DRow w F.da F.dcap F.ds :=
  h.drawR.kept h.below.size (fun g _ _ hg => h.below.block g hg)
theorem MRep.c0 (h : MRep F wB w G vo vn S) : w.cell? ⟨F.mb, 0, none⟩ = some (.pointer (some ⟨F.ph, 0, none⟩)) := h.blk.cell (j := 0) rfl
theorem MRep.blk8 (h : MRep F wB w G vo vn S) : ∃ r0 r1 r2 r3 r4 r5 r6 r7, S.r = [r0, r1, r2, r3, r4, r5, r6, r7] ∧ Blk w F.mb 81 (mCells (.pointer (some ⟨F.ph, 0, none⟩)) (.slice F.ia F.code.length F.icap) [r0, r1, r2, r3, r4, r5, r6, r7] F.inp S.heard (.slice F.da F.ds.length F.dcap) S.drawn vo S.pc S.next S.steps S.en S.ex (rptCells S.rep vn)) := by
  obtain ⟨r0, r1, r2, r3, r4, r5, r6, r7, hr⟩ := eight h.r8
  have hb := h.blk
  unfold mC at hb
  rw [hr] at hb
  exact ⟨_, _, _, _, _, _, _, _, hr, hb⟩
theorem MRep.c15 (h : MRep F wB w G vo vn S) : w.cell? ⟨F.mb, 15, none⟩ = some (.int .i64 S.pc) := by
  obtain ⟨r0, r1, r2, r3, r4, r5, r6, r7, _, hb⟩ := h.blk8
  exact hb.cell (j := 15) rfl
theorem MRep.c18 (h : MRep F wB w G vo vn S) : w.cell? ⟨F.mb, 18, none⟩ = some (.int .i64 S.en) := by
  obtain ⟨r0, r1, r2, r3, r4, r5, r6, r7, _, hb⟩ := h.blk8
  exact hb.cell (j := 18) rfl
theorem MRep.drawY (h : MRep F wB w G vo vn S) (hk : S.drawn < F.ds.length) (dd : Int) (hdd : F.ds.getD S.drawn 0 = dd) :
    Calls Tryz.prog 109 #[.pointer (some ⟨F.mb, 0, none⟩)] w fun e w' => e = .returned (.tuple #[.int .i64 dd, .bool true]) ∧ MRep F wB w' G vo vn S.drew ∧ Kept w w' (· = F.mb) := by
  obtain ⟨r0, r1, r2, r3, r4, r5, r6, r7, hr, hb⟩ := h.blk8
  refine (draw_yes F.mb _ _ r0 r1 r2 r3 r4 r5 r6 r7 F.inp _ F.da F.dcap F.ds S.drawn vo _ _ _ _ _ _ w h.draws hk hb).mono ?_
  rintro e w' ⟨rfl, hb1, hk1, -⟩
  rw [hdd]
  refine ⟨rfl, h.own hk1 ?_ rfl rfl rfl h.r8 h.rbd, hk1⟩
  unfold mC MS.drew
  rw [hr]
  exact hb1
theorem MRep.drawN (h : MRep F wB w G vo vn S) (hk : ¬ S.drawn < F.ds.length) :
    Calls Tryz.prog 109 #[.pointer (some ⟨F.mb, 0, none⟩)] w fun e w' => e = .returned (.tuple #[.int .i64 0, .bool false]) ∧ MRep F wB w' G vo vn (S.ends 4) := by
  obtain ⟨r0, r1, r2, r3, r4, r5, r6, r7, hr, hb⟩ := h.blk8
  refine (draw_no F.mb _ _ r0 r1 r2 r3 r4 r5 r6 r7 F.inp _ F.da F.ds.length F.dcap S.drawn vo _ _ _ _ _ _ w (by omega) hb).mono ?_
  rintro e w' ⟨rfl, hb1, hk1, -⟩
  refine ⟨rfl, h.own hk1 ?_ rfl rfl rfl h.r8 h.rbd⟩
  unfold mC MS.ends
  rw [hr]
  exact hb1
theorem MRep.blames (h : MRep F wB w G vo vn S) (q : Int) (q1 : q ≤ 9223372036854775807) :
    Calls Tryz.prog 112 #[.pointer (some ⟨F.mb, 0, none⟩), .int .i64 q] w fun e w' => e = .returned (.tuple #[]) ∧ ∃ v, MRep F wB w' G vo v (S.fault (rblame S.R q)) := by
  obtain ⟨r0, r1, r2, r3, r4, r5, r6, r7, hr, hb⟩ := h.blk8
  obtain ⟨SR, Sr, Sh, Sd, So, Sp, Sn, Ss, Se, Sx, y0, y1, y2, y3, y4, y5, y6, y7, y8, yl⟩ := S
  simp only at hr
  subst hr
  refine (mblame_any F.mb F.ph F.gc F.bb G SR _ r0 r1 r2 r3 r4 r5 r6 r7 F.inp _ _ _ vo _ _ _ _ _ y0 y1 y2 y3 y4 y5 y6 y7 y8 vn q w h.heap h.sim.sim q1 hb).mono ?_
  rintro e2 w2 ⟨v, rfl, hm2, hrow, hvl, hk2⟩
  rw [blame_sim h.sim.sim q] at hm2 hrow
  exact ⟨rfl, v, h.faulted hk2 hm2 hrow hvl⟩
theorem MRep.explains (h : MRep F wB w G vo vn S) (q n : Int) (q1 : q ≤ 9223372036854775807) :
    Calls Tryz.prog 116 #[.pointer (some ⟨F.mb, 0, none⟩), .int .i64 q, .int .i64 n] w fun e w' => e = .returned (.tuple #[]) ∧ ∃ v, MRep F wB w' G vo v (S.fault (rexplain S.R q n)) := by
  obtain ⟨r0, r1, r2, r3, r4, r5, r6, r7, hr, hb⟩ := h.blk8
  obtain ⟨SR, Sr, Sh, Sd, So, Sp, Sn, Ss, Se, Sx, y0, y1, y2, y3, y4, y5, y6, y7, y8, yl⟩ := S
  simp only at hr
  subst hr
  refine (mexplain_any F.mb F.ph F.gc F.bb G SR _ r0 r1 r2 r3 r4 r5 r6 r7 F.inp _ _ _ vo _ _ _ _ _ y0 y1 y2 y3 y4 y5 y6 y7 y8 vn q n w h.heap h.sim.sim q1 hb).mono ?_
  rintro e2 w2 ⟨v, rfl, hm2, hrow, hvl, hk2⟩
  rw [explain_sim h.sim.sim q n] at hm2 hrow
  exact ⟨rfl, v, h.faulted hk2 hm2 hrow hvl⟩
end

set_option maxRecDepth 100000 in
set_option maxHeartbeats 3200000 in
theorem doMalloc_any (F : MFix) (wB w : World) (G : GSt) (vo vn : Value) (S : MS) (op c : Int) (ka kb : Nat) (h : MRep F wB w G vo vn S) (hka : ka < 8) (hkb : kb < 8) :
    Calls Tryz.prog 79 #[.pointer (some ⟨F.mb, 0, none⟩), .agg #[.int .i64 op, .int .i64 (ka : Int), .int .i64 (kb : Int), .int .i64 c]] w fun e w' => e = .returned (.tuple #[]) ∧ ∃ G' vn', MRep F wB w' G' vo vn' (dMalloc F.ds S ka kb) := by
  obtain ⟨wa, hwa⟩ : ∃ wa, wa = w.alloc (.cells #[.int .i64 op, .int .i64 (ka : Int), .int .i64 (kb : Int), .int .i64 c] 60) := ⟨_, rfl⟩
  have hbl : Below w.heap.size w wa := by rw [hwa]; exact (Below.refl _ _).alloc (Nat.le_refl _) _
  have HX : Hid (Blk wa w.heap.size 60 [.int .i64 op, .int .i64 (ka : Int), .int .i64 (kb : Int), .int .i64 c]) := by show Blk _ _ _ _; rw [hwa]; exact Blk.alloc _ _ _
  have HM := hide2 (h.under hbl)
  have hxmb : w.heap.size ≠ F.mb := by have := h.blk.lt; omega
  have HNF : Hid (¬ GFoot F.ph F.gc F.bb G w.heap.size) := fun e => by have := h.heap.foot_lt e; omega
  have hkI : (ka : Int) < 8 := by omega
  have hkB : (kb : Int) < 8 := by omega
  clear h hbl
  go_enter Tryz.func79, Tryz.ntmps79
  go_upto_region 1 with (fail)
  rw [← hwa]
  clear hwa
  by_cases hdr : S.drawn < F.ds.length
  · have HDR := hide2 hdr
    obtain ⟨dd, HDD⟩ : ∃ dd, Hid (F.ds.getD S.drawn 0 = dd) := ⟨_, hide2 rfl⟩
    have HD : Hid (dMalloc F.ds S ka kb = (S.drew.heap (mR S.R (rg S.r kb) dd S.pc)).reg ka (mOut S.R (rg S.r kb) dd).1) := by show _ = _; rw [← HDD.out]; unfold dMalloc; rw [if_pos hdr]
    clear hdr
    go_upto_region 2 with (go_at_call 109; refine (HM.out.drawY HDR.out dd HDD.out).mono ?_; rintro e1 w1 ⟨rfl, hm1, hk1⟩; have HM1 := hide2 hm1; have HX1 := hide2 (HX.out.kept hk1 hxmb); clear hm1 hk1)
    have rb : w1.cell? ⟨F.mb, 2 + kb, none⟩ = some (.int .i64 (rg S.r kb)) := m_reg HM1.out.blk HM1.out.r8 kb hkb
    have x2 := HX1.out.cell (j := 2) rfl
    have c0 := HM1.out.c0
    have c15 : w1.cell? ⟨F.mb, 15, none⟩ = some (.int .i64 S.pc) := HM1.out.c15
    have HS : Hid (SimB G S.R) := HM1.out.sim
    generalize hq : rg S.r kb = q at *
    generalize hpc : (S.pc : Int) = pc at *
    have hnf : ¬ GFoot F.ph F.gc F.bb G w.heap.size := fun e => HNF.out e
    clear HM HX
    go_upto_region 3 with (fail)
    go_region_held3 (fun w' => w'.cell? ⟨F.mb, 0, none⟩ = some (.pointer (some ⟨F.ph, 0, none⟩)) ∧ w'.cell? ⟨F.mb, 2 + kb, none⟩ = some (.int .i64 q) ∧ w'.cell? ⟨F.mb, 15, none⟩ = some (.int .i64 pc) ∧ w'.cell? ⟨w.heap.size, 2, none⟩ = some (.int .i64 (kb : Int))) (go_keep)
      (first | (go_at_call 110; refine (gmalloc_all F.ph F.gc F.bb G S.R q dd pc w1.drew ((HM1.out.under ((Below.refl _ _).drew)).heap) HS.out.sim).mono ?_; rintro e2 w2 ⟨rfl, hg2, hk2⟩; have HM2 := hide2 ((HM1.out.under ((Below.refl _ _).drew)).call hg2 hk2 (HS.out.malloc q dd pc) (fun b => mG_foot HS.out.sim q dd pc F.ph F.gc F.bb b)); have HX2 := hide2 ((HX1.out.below ((Below.refl _ _).drew) HX1.out.lt).kept hk2 hnf); clear hg2 hk2; have e0 := HM2.out.c0; have e15 : w2.cell? ⟨F.mb, 15, none⟩ = some (.int .i64 pc) := (HM2.out.c15).trans (by rw [← hpc]; rfl); have eb : w2.cell? ⟨F.mb, 2 + kb, none⟩ = some (.int .i64 q) := (m_reg HM2.out.blk HM2.out.r8 kb hkb).trans (by rw [← hq]; rfl); have e2 := HX2.out.cell (j := 2) rfl))
    have hub := mOut_bd HS.out.sim.rok q dd
    generalize (mOut S.R q dd).1 = u at *
    clear c0 c15 rb x2 HM1 HX1
    have x1 := HX2.out.cell (j := 1) rfl
    have ra := m_reg HM2.out.blk HM2.out.r8 ka hka
    have raf := HM2.out.blk.frozen (2 + ka)
    go_wp2
    go_region
    go_end0
    refine ⟨rfl, mG G S.R q dd pc, vn, ?_⟩
    rw [HD.out]
    exact (HM2.out.setReg ka hka u (by omega) (by omega)).under ((Below.refl _ _).drew)
  · have HDR := hide2 hdr
    have HD : Hid (dMalloc F.ds S ka kb = S.ends 4) := by show _ = _; unfold dMalloc; rw [if_neg hdr]
    clear hdr
    go_wp2_with (go_at_call 109; refine (HM.out.drawN HDR.out).mono ?_; rintro e1 w1 ⟨rfl, hm1⟩; have HM1 := hide2 hm1; clear hm1)
    refine bodyPost_ret (v := .tuple #[]) (results_none Tryz.results79 _ _ _) rfl ?_
    exact ⟨rfl, _, _, by rw [HD.out]; exact HM1.out⟩
end Go.Proofs.YtjikemhmnkckcabGreat
