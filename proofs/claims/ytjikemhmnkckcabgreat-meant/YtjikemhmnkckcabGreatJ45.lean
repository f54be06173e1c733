import Derived.Test.YtjikemhmnkckcabGreatJ44
namespace Go.Proofs.YtjikemhmnkckcabGreat
open Go.RowKit
attribute [local go_sem ↓] Go.wp_at_zero Go.wp_at_succ
def MS.drew (S : MS) : MS := ⟨S.R, S.r, S.heard, S.drawn + 1, S.out, S.pc, S.next, S.steps, S.en, S.ex, S.rep⟩
def MS.ends (S : MS) (en : Int) : MS := ⟨S.R, S.r, S.heard, S.drawn, S.out, S.pc, S.next, S.steps, en, S.ex, S.rep⟩
def dMalloc (ds : List Int) (S : MS) (ka kb : Nat) : MS :=
 if S.drawn < ds.length then (S.drew.heap (mR S.R (rg S.r kb) (ds.getD S.drawn 0) S.pc)).reg ka (mOut S.R (rg S.r kb) (ds.getD S.drawn 0)).1 else S.ends 4
section
variable {F : MFix} {wB w : World} {G : GSt} {vo vn : Value} {S : MS}
theorem MRep.draws (h : MRep F wB w G vo vn S) : DRow w F.da F.dcap F.ds :=
 h.drawR.kept h.below.size (fun g _ _ hg => h.below.block g hg)
theorem MRep.c0 (h : MRep F wB w G vo vn S) : w.cell? ⟨F.mb, 0, none⟩ = some (.pointer (some ⟨F.ph, 0, none⟩)) := h.blk.cell (j := 0) rfl
theorem MRep.blk8 (h : MRep F wB w G vo vn S) : ∃ r0 r1 r2 r3 r4 r5 r6 r7, S.r = [r0, r1, r2, r3, r4, r5, r6, r7] ∧ Blk w F.mb 81 (mCells (.pointer (some ⟨F.ph, 0, none⟩)) (.slice F.ia F.code.length F.icap) [r0, r1, r2, r3, r4, r5, r6, r7] F.inp S.heard (.slice F.da F.ds.length F.dcap) S.drawn vo S.pc S.next S.steps S.en S.ex (rptCells S.rep vn)) := by
 obtain ⟨r0, r1, r2, r3, r4, r5, r6, r7, hr⟩ := eight h.r8;have hb := h.blk;unfold mC at hb;rw [hr] at hb;exact ⟨_, _, _, _, _, _, _, _, hr, hb⟩
theorem MRep.c15 (h : MRep F wB w G vo vn S) : w.cell? ⟨F.mb, 15, none⟩ = some (.int .i64 S.pc) := by
 obtain ⟨r0, r1, r2, r3, r4, r5, r6, r7, _, hb⟩ := h.blk8;exact hb.cell (j := 15) rfl
theorem MRep.c18 (h : MRep F wB w G vo vn S) : w.cell? ⟨F.mb, 18, none⟩ = some (.int .i64 S.en) := by
 obtain ⟨r0, r1, r2, r3, r4, r5, r6, r7, _, hb⟩ := h.blk8;exact hb.cell (j := 18) rfl
theorem MRep.drawY (h : MRep F wB w G vo vn S) (hk : S.drawn < F.ds.length) (dd : Int) (hdd : F.ds.getD S.drawn 0 = dd) :
 Calls Tryz.prog 109 #[.pointer (some ⟨F.mb, 0, none⟩)] w fun e w' => e = .returned (.tuple #[.int .i64 dd, .bool true]) ∧ MRep F wB w' G vo vn S.drew ∧ Kept w w' (· = F.mb) := by
 obtain ⟨r0, r1, r2, r3, r4, r5, r6, r7, hr, hb⟩ := h.blk8;refine (draw_yes F.mb _ _ r0 r1 r2 r3 r4 r5 r6 r7 F.inp _ F.da F.dcap F.ds S.drawn vo _ _ _ _ _ _ w h.draws hk hb).mono ?_;rintro e w' ⟨rfl, hb1, hk1, -⟩;rw [hdd];refine ⟨rfl, h.own hk1 ?_ rfl rfl rfl h.r8 h.rbd, hk1⟩;unfold mC MS.drew;rw [hr];exact hb1
theorem MRep.drawN (h : MRep F wB w G vo vn S) (hk : ¬ S.drawn < F.ds.length) :
 Calls Tryz.prog 109 #[.pointer (some ⟨F.mb, 0, none⟩)] w fun e w' => e = .returned (.tuple #[.int .i64 0, .bool false]) ∧ MRep F wB w' G vo vn (S.ends 4) := by
 obtain ⟨r0, r1, r2, r3, r4, r5, r6, r7, hr, hb⟩ := h.blk8;refine (draw_no F.mb _ _ r0 r1 r2 r3 r4 r5 r6 r7 F.inp _ F.da F.ds.length F.dcap S.drawn vo _ _ _ _ _ _ w (by omega) hb).mono ?_;rintro e w' ⟨rfl, hb1, hk1, -⟩;refine ⟨rfl, h.own hk1 ?_ rfl rfl rfl h.r8 h.rbd⟩;unfold mC MS.ends;rw [hr];exact hb1
theorem MRep.blames (h : MRep F wB w G vo vn S) (q : Int) (q1 : q ≤ 9223372036854775807) :
 Calls Tryz.prog 112 #[.pointer (some ⟨F.mb, 0, none⟩), .int .i64 q] w fun e w' => e = .returned (.tuple #[]) ∧ ∃ v, MRep F wB w' G vo v (S.fault (rblame S.R q)) := by
 obtain ⟨r0, r1, r2, r3, r4, r5, r6, r7, hr, hb⟩ := h.blk8;obtain ⟨SR, Sr, Sh, Sd, So, Sp, Sn, Ss, Se, Sx, y0, y1, y2, y3, y4, y5, y6, y7, y8, yl⟩ := S;simp only at hr;subst hr;refine (mblame_any F.mb F.ph F.gc F.bb G SR _ r0 r1 r2 r3 r4 r5 r6 r7 F.inp _ _ _ vo _ _ _ _ _ y0 y1 y2 y3 y4 y5 y6 y7 y8 vn q w h.heap h.sim.sim q1 hb).mono ?_;rintro e2 w2 ⟨v, rfl, hm2, hrow, hvl, hk2⟩;rw [blame_sim h.sim.sim q] at hm2 hrow;exact ⟨rfl, v, h.faulted hk2 hm2 hrow hvl⟩
theorem MRep.explains (h : MRep F wB w G vo vn S) (q n : Int) (q1 : q ≤ 9223372036854775807) :
 Calls Tryz.prog 116 #[.pointer (some ⟨F.mb, 0, none⟩), .int .i64 q, .int .i64 n] w fun e w' => e = .returned (.tuple #[]) ∧ ∃ v, MRep F wB w' G vo v (S.fault (rexplain S.R q n)) := by
 obtain ⟨r0, r1, r2, r3, r4, r5, r6, r7, hr, hb⟩ := h.blk8;obtain ⟨SR, Sr, Sh, Sd, So, Sp, Sn, Ss, Se, Sx, y0, y1, y2, y3, y4, y5, y6, y7, y8, yl⟩ := S;simp only at hr;subst hr;refine (mexplain_any F.mb F.ph F.gc F.bb G SR _ r0 r1 r2 r3 r4 r5 r6 r7 F.inp _ _ _ vo _ _ _ _ _ y0 y1 y2 y3 y4 y5 y6 y7 y8 vn q n w h.heap h.sim.sim q1 hb).mono ?_;rintro e2 w2 ⟨v, rfl, hm2, hrow, hvl, hk2⟩;rw [explain_sim h.sim.sim q n] at hm2 hrow;exact ⟨rfl, v, h.faulted hk2 hm2 hrow hvl⟩
end
set_option maxRecDepth 100000 in
set_option maxHeartbeats 3200000 in
theorem doMalloc_any (F : MFix) (wB w : World) (G : GSt) (vo vn : Value) (S : MS) (op c : Int) (ka kb : Nat) (h : MRep F wB w G vo vn S) (hka : ka < 8) (hkb : kb < 8) :
 Calls Tryz.prog 79 #[.pointer (some ⟨F.mb, 0, none⟩), .agg #[.int .i64 op, .int .i64 (ka : Int), .int .i64 (kb : Int), .int .i64 c]] w fun e w' => e = .returned (.tuple #[]) ∧ ∃ G' vn', MRep F wB w' G' vo vn' (dMalloc F.ds S ka kb) := by
 obtain ⟨wa, hwa⟩ : ∃ wa, wa = w.alloc (.cells #[.int .i64 op, .int .i64 (ka : Int), .int .i64 (kb : Int), .int .i64 c] 60) := ⟨_, rfl⟩
 have hbl : Below w.heap.size w wa := by rw [hwa]; exact (Below.refl _ _).alloc (Nat.le_refl _) _
 have HX : Hid (Blk wa w.heap.size 60 [.int .i64 op, .int .i64 (ka : Int), .int .i64 (kb : Int), .int .i64 c]) := by show Blk _ _ _ _; rw [hwa]; exact Blk.alloc _ _ _
 have HM := hide2 (h.under hbl);have hxmb : w.heap.size ≠ F.mb := by have := h.blk.lt; omega
 have HNF : Hid (¬ GFoot F.ph F.gc F.bb G w.heap.size) := fun e => by have := h.heap.foot_lt e; omega
 have hkI : (ka : Int) < 8 := by omega
 have hkB : (kb : Int) < 8 := by omega
 clear h hbl;go_enter Tryz.func79, Tryz.ntmps79;go_upto_region 1 with (fail);rw [← hwa];clear hwa
 by_cases hdr : S.drawn < F.ds.length
 ·have HDR := hide2 hdr;obtain ⟨dd, HDD⟩ : ∃ dd, Hid (F.ds.getD S.drawn 0 = dd) := ⟨_, hide2 rfl⟩
  have HD : Hid (dMalloc F.ds S ka kb = (S.drew.heap (mR S.R (rg S.r kb) dd S.pc)).reg ka (mOut S.R (rg S.r kb) dd).1) := by show _ = _; rw [← HDD.out]; unfold dMalloc; rw [if_pos hdr]
  clear hdr;go_upto_region 2 with (go_at_call 109; refine (HM.out.drawY HDR.out dd HDD.out).mono ?_; rintro e1 w1 ⟨rfl, hm1, hk1⟩; have HM1 := hide2 hm1; have HX1 := hide2 (HX.out.kept hk1 hxmb); clear hm1 hk1);have rb : w1.cell? ⟨F.mb, 2 + kb, none⟩ = some (.int .i64 (rg S.r kb)) := m_reg HM1.out.blk HM1.out.r8 kb hkb;have x2 := HX1.out.cell (j := 2) rfl;have c0 := HM1.out.c0;have c15 : w1.cell? ⟨F.mb, 15, none⟩ = some (.int .i64 S.pc) := HM1.out.c15;have HS : Hid (SimB G S.R) := HM1.out.sim;generalize hq : rg S.r kb = q at *;generalize hpc : (S.pc : Int) = pc at *;have hnf : ¬ GFoot F.ph F.gc F.bb G w.heap.size := fun e => HNF.out e
  clear HM HX;go_upto_region 3 with (fail)
  go_region_held3 (fun w' => w'.cell? ⟨F.mb, 0, none⟩ = some (.pointer (some ⟨F.ph, 0, none⟩)) ∧ w'.cell? ⟨F.mb, 2 + kb, none⟩ = some (.int .i64 q) ∧ w'.cell? ⟨F.mb, 15, none⟩ = some (.int .i64 pc) ∧ w'.cell? ⟨w.heap.size, 2, none⟩ = some (.int .i64 (kb : Int))) (go_keep)
   (first | (go_at_call 110; refine (gmalloc_all F.ph F.gc F.bb G S.R q dd pc w1.drew ((HM1.out.under ((Below.refl _ _).drew)).heap) HS.out.sim).mono ?_; rintro e2 w2 ⟨rfl, hg2, hk2⟩; have HM2 := hide2 ((HM1.out.under ((Below.refl _ _).drew)).call hg2 hk2 (HS.out.malloc q dd pc) (fun b => mG_foot HS.out.sim q dd pc F.ph F.gc F.bb b)); have HX2 := hide2 ((HX1.out.below ((Below.refl _ _).drew) HX1.out.lt).kept hk2 hnf); clear hg2 hk2; have e0 := HM2.out.c0; have e15 : w2.cell? ⟨F.mb, 15, none⟩ = some (.int .i64 pc) := (HM2.out.c15).trans (by rw [← hpc]; rfl); have eb : w2.cell? ⟨F.mb, 2 + kb, none⟩ = some (.int .i64 q) := (m_reg HM2.out.blk HM2.out.r8 kb hkb).trans (by rw [← hq]; rfl); have e2 := HX2.out.cell (j := 2) rfl))
  have hub := mOut_bd HS.out.sim.rok q dd;generalize (mOut S.R q dd).1 = u at *;clear c0 c15 rb x2 HM1 HX1;have x1 := HX2.out.cell (j := 1) rfl;have ra := m_reg HM2.out.blk HM2.out.r8 ka hka;have raf := HM2.out.blk.frozen (2 + ka);go_wp2
  go_region
  go_end0;refine ⟨rfl, mG G S.R q dd pc, vn, ?_⟩;rw [HD.out];exact (HM2.out.setReg ka hka u (by omega) (by omega)).under ((Below.refl _ _).drew)
 ·have HDR := hide2 hdr;have HD : Hid (dMalloc F.ds S ka kb = S.ends 4) := by show _ = _; unfold dMalloc; rw [if_neg hdr]
  clear hdr
  go_wp2_with (go_at_call 109; refine (HM.out.drawN HDR.out).mono ?_; rintro e1 w1 ⟨rfl, hm1⟩; have HM1 := hide2 hm1; clear hm1)
  refine bodyPost_ret (v := .tuple #[]) (results_none Tryz.results79 _ _ _) rfl ?_;exact ⟨rfl, _, _, by rw [HD.out]; exact HM1.out⟩
theorem blockFrom_err (st : Int) (cls : List (Int × Int)) (log : List Ref.Ev) (a t : Int) (f k : Nat) : (Ref.blockFrom st cls log a t f k).2.2 = 0 ∨ 5 ≤ (Ref.blockFrom st cls log a t f k).2.2 := by
 induction f generalizing k with
 | zero => exact Or.inr (by show (5 : Int) ≤ 8; omega)
 | succ f ih =>
   unfold Ref.blockFrom
   split
   ·split
    ·exact Or.inr (by show (5 : Int) ≤ 9; omega)
    ·exact Or.inl rfl
   ·exact ih (k + 1)
theorem block_err (st : Int) (cls : List (Int × Int)) (log : List Ref.Ev) (q : Int) : (Ref.block st cls log q).2.2 = 0 ∨ 5 ≤ (Ref.block st cls log q).2.2 := by
 unfold Ref.block
 split
 ·exact blockFrom_err ..
 ·exact Or.inr (by show (5 : Int) ≤ 5; omega)
theorem mOut_err {R : RSt} (ho : ROk R) (size draw : Int) : (mOut R size draw).2 = 0 ∨ (mOut R size draw).2 = 3 ∨ (mOut R size draw).2 = 4 := by
 rcases mOut_cases R ho size draw with ⟨_, hm⟩ | ⟨k, _, _, _, _, hm⟩ | ⟨k, s, h1, hk, hkl, hf, hs, hz, hm⟩ <;> rw [hm] <;> simp
def dRealloc (ds : List Int) (S : MS) (ka kb kc : Nat) : MS :=
 if S.drawn < ds.length then
  (if S.R.reBad (rg S.r kb) then S.drew.fault (rblame S.R (rg S.r kb))
  else (S.drew.heap (S.R.re (rg S.r kb) (rg S.r kc) (ds.getD S.drawn 0) S.pc)).reg ka (mOut S.R (rg S.r kc) (ds.getD S.drawn 0)).1)
 else S.ends 4
set_option maxRecDepth 100000 in
set_option maxHeartbeats 3200000 in
theorem doRealloc_any (F : MFix) (wB w : World) (G : GSt) (vo vn : Value) (S : MS) (op : Int) (ka kb kc : Nat) (h : MRep F wB w G vo vn S) (hka : ka < 8) (hkb : kb < 8) (hkc : kc < 8) :
 Calls Tryz.prog 81 #[.pointer (some ⟨F.mb, 0, none⟩), .agg #[.int .i64 op, .int .i64 (ka : Int), .int .i64 (kb : Int), .int .i64 (kc : Int)]] w fun e w' => e = .returned (.tuple #[]) ∧ ∃ G' vn', MRep F wB w' G' vo vn' (dRealloc F.ds S ka kb kc) := by
 obtain ⟨wa, hwa⟩ : ∃ wa, wa = w.alloc (.cells #[.int .i64 op, .int .i64 (ka : Int), .int .i64 (kb : Int), .int .i64 (kc : Int)] 60) := ⟨_, rfl⟩
 have hbl : Below w.heap.size w wa := by rw [hwa]; exact (Below.refl _ _).alloc (Nat.le_refl _) _
 have HX : Hid (Blk wa w.heap.size 60 [.int .i64 op, .int .i64 (ka : Int), .int .i64 (kb : Int), .int .i64 (kc : Int)]) := by show Blk _ _ _ _; rw [hwa]; exact Blk.alloc _ _ _
 have HM := hide2 (h.under hbl);have hxmb : w.heap.size ≠ F.mb := by have := h.blk.lt; omega
 have HNF : Hid (¬ GFoot F.ph F.gc F.bb G w.heap.size) := fun e => by have := h.heap.foot_lt e; omega
 have hkI : (ka : Int) < 8 := by omega
 have hkB : (kb : Int) < 8 := by omega
 have hkC : (kc : Int) < 8 := by omega
 have hrb := h.rbd kb hkb;clear h hbl;go_enter Tryz.func81, Tryz.ntmps81;go_upto_region 1 with (fail);rw [← hwa];clear hwa
 by_cases hdr : S.drawn < F.ds.length
 ·have HDR := hide2 hdr;obtain ⟨dd, HDD⟩ : ∃ dd, Hid (F.ds.getD S.drawn 0 = dd) := ⟨_, hide2 rfl⟩
  have HD : Hid (dRealloc F.ds S ka kb kc = if S.R.reBad (rg S.r kb) then S.drew.fault (rblame S.R (rg S.r kb)) else (S.drew.heap (S.R.re (rg S.r kb) (rg S.r kc) dd S.pc)).reg ka (mOut S.R (rg S.r kc) dd).1) := by show _ = _; rw [← HDD.out]; unfold dRealloc; rw [if_pos hdr]
  clear hdr;go_upto_region 2 with (go_at_call 109; refine (HM.out.drawY HDR.out dd HDD.out).mono ?_; rintro e1 w1 ⟨rfl, hm1, hk1⟩; have HM1 := hide2 hm1; have HX1 := hide2 (HX.out.kept hk1 hxmb); clear hm1 hk1);have rb : w1.cell? ⟨F.mb, 2 + kb, none⟩ = some (.int .i64 (rg S.r kb)) := m_reg HM1.out.blk HM1.out.r8 kb hkb;have x2 := HX1.out.cell (j := 2) rfl;have HS : Hid (SimB G S.R) := HM1.out.sim;generalize hq : rg S.r kb = q at *;have hnf : ¬ GFoot F.ph F.gc F.bb G w.heap.size := fun e => HNF.out e
  clear HM HX;go_upto_region 3 with (fail);go_wp2
  go_quiet (fail)
  go_upto_region 4 with (fail);obtain ⟨wb, hwb⟩ : ∃ wb, wb = w1.drewN nq := ⟨_, rfl⟩
  rw [← hwb];have hbb : Below w1.heap.size w1 wb := by rw [hwb]; exact below_drewN (Below.refl _ _) _
  have HM2 := hide2 (HM1.out.under hbb);have HX2 := hide2 (HX1.out.below hbb HX1.out.lt);clear hwb hbb rb x2 nq HM1 HX1;have rc : wb.cell? ⟨F.mb, 2 + kc, none⟩ = some (.int .i64 (rg S.r kc)) := m_reg HM2.out.blk HM2.out.r8 kc hkc;have x3 := HX2.out.cell (j := 3) rfl;have c0 := HM2.out.c0;have c15 : wb.cell? ⟨F.mb, 15, none⟩ = some (.int .i64 S.pc) := HM2.out.c15;generalize hz : rg S.r kc = z at *;generalize hpc : (S.pc : Int) = pc at *
  go_region_held3 (fun w' => w'.cell? ⟨F.mb, 0, none⟩ = some (.pointer (some ⟨F.ph, 0, none⟩)) ∧ w'.cell? ⟨F.mb, 2 + kc, none⟩ = some (.int .i64 z) ∧ w'.cell? ⟨F.mb, 15, none⟩ = some (.int .i64 pc) ∧ w'.cell? ⟨w.heap.size, 3, none⟩ = some (.int .i64 (kc : Int))) (go_keep)
   (first | (go_at_call 113; refine (greal_any F.ph F.gc F.bb G S.R q z dd pc wb.drew ((HM2.out.under ((Below.refl _ _).drew)).heap) HS.out hrb.2).mono ?_; rintro e2 w2 ⟨rfl, hg2, hk2⟩; have HM3 := hide2 ((HM2.out.under ((Below.refl _ _).drew)).call hg2 hk2 (HS.out.realloc q z dd pc) (fun b => reG_foot HS.out q z dd pc F.ph F.gc F.bb b)); have HX3 := hide2 ((HX2.out.below ((Below.refl _ _).drew) HX2.out.lt).kept hk2 hnf); clear hg2 hk2; have e0 := HM3.out.c0; have e15 : w2.cell? ⟨F.mb, 15, none⟩ = some (.int .i64 pc) := (HM3.out.c15).trans (by rw [← hpc]; rfl); have ec : w2.cell? ⟨F.mb, 2 + kc, none⟩ = some (.int .i64 z) := (m_reg HM3.out.blk HM3.out.r8 kc hkc).trans (by rw [← hz]; rfl); have e3 := HX3.out.cell (j := 3) rfl))
  clear c0 c15 rc x3 HM2 HX2
  by_cases hbad : S.R.reBad q
  ·have hre : S.R.re q z dd pc = S.R := by unfold RSt.re; rw [if_pos hbad]
   have HO : Hid (S.R.reOut q z dd = (0, (Ref.block S.R.st S.R.cls S.R.log q).2.2)) := by show _ = _; unfold RSt.reOut; rw [if_pos hbad]
   rw [if_pos hbad] at HD;have hne := (block_err S.R.st S.R.cls S.R.log q).resolve_left hbad.2
   have HM4 : Hid (MRep F wB w2 (reG G S.R q z dd pc) vo vn S.drew) := by
    have := HM3.out;rw [hre] at this;exact this
   rw [HO.out];clear hbad hre HM3 HO;generalize (Ref.block S.R.st S.R.cls S.R.log q).2.2 = er at *;have n0 : (er != 0) = true := by simp; omega
   have n3 : (er != 3) = true := by simp; omega
   have n4 : (er != 4) = true := by simp; omega
   go_wp2_with (go_at_call 112; refine (HM4.out.blames q hrb.2).mono ?_; rintro e3 w3 ⟨rfl, v, hm5⟩; have HM5 := hide2 hm5; clear hm5)
   refine bodyPost_ret (v := .tuple #[]) (results_none Tryz.results81 _ _ _) rfl ?_;exact ⟨rfl, _, _, by rw [HD.out]; exact HM5.out⟩
  ·have HO : Hid (S.R.reOut q z dd = mOut S.R z dd) := by show _ = _; unfold RSt.reOut; rw [if_neg hbad]
   rw [if_neg hbad] at HD;have hub := mOut_bd HS.out.sim.rok z dd;have her := mOut_err HS.out.sim.rok z dd;rw [HO.out];clear hbad HO;generalize (mOut S.R z dd).1 = u at *;generalize (mOut S.R z dd).2 = er at *;have x1 := HX3.out.cell (j := 1) rfl;have ra := m_reg HM3.out.blk HM3.out.r8 ka hka;have raf := HM3.out.blk.frozen (2 + ka);refine (fun (key : ∀ w4, w4 = (w2.setCell ⟨F.mb, 2 + ka, none⟩ (.int .i64 u)).drew → ∃ G' vn', MRep F wB w4 G' vo vn' (dRealloc F.ds S ka kb kc)) => ?region) ?key
   case key =>
    rintro w4 rfl;refine ⟨reG G S.R q z dd pc, vn, ?_⟩;rw [HD.out];exact (HM3.out.setReg ka hka u (by omega) (by omega)).under ((Below.refl _ _).drew)
   rcases her with rfl | rfl | rfl
   ·go_wp2
    go_region
    go_end0;exact ⟨rfl, key _ rfl⟩
   ·go_wp2
    go_region
    go_end0;exact ⟨rfl, key _ rfl⟩
   ·go_wp2
    go_region
    go_end0;exact ⟨rfl, key _ rfl⟩
 ·have HDR := hide2 hdr;have HD : Hid (dRealloc F.ds S ka kb kc = S.ends 4) := by show _ = _; unfold dRealloc; rw [if_neg hdr]
  clear hdr
  go_wp2_with (go_at_call 109; refine (HM.out.drawN HDR.out).mono ?_; rintro e1 w1 ⟨rfl, hm1⟩; have HM1 := hide2 hm1; clear hm1)
  refine bodyPost_ret (v := .tuple #[]) (results_none Tryz.results81 _ _ _) rfl ?_;exact ⟨rfl, _, _, by rw [HD.out]; exact HM1.out⟩
def dMove (S : MS) (ka kb kc : Nat) : MS :=
 if S.R.moveErr (rg S.r ka) (rg S.r kb) (rg S.r kc) = 0 then S.heap (S.R.move (rg S.r ka) (rg S.r kb) (rg S.r kc))
 else if (S.R.access (rg S.r kb) (rg S.r kc)).1 = 0 then S.fault (rexplain S.R (rg S.r ka) (rg S.r kc)) else S.fault (rexplain S.R (rg S.r kb) (rg S.r kc))
set_option maxRecDepth 100000 in
set_option maxHeartbeats 3200000 in
theorem doMove_any (F : MFix) (wB w : World) (G : GSt) (vo vn : Value) (S : MS) (op : Int) (ka kb kc : Nat) (h : MRep F wB w G vo vn S) (hka : ka < 8) (hkb : kb < 8) (hkc : kc < 8) :
 Calls Tryz.prog 85 #[.pointer (some ⟨F.mb, 0, none⟩), .agg #[.int .i64 op, .int .i64 (ka : Int), .int .i64 (kb : Int), .int .i64 (kc : Int)]] w fun e w' => e = .returned (.tuple #[]) ∧ ∃ G' vn', MRep F wB w' G' vo vn' (dMove S ka kb kc) := by
 obtain ⟨wa, hwa⟩ : ∃ wa, wa = w.alloc (.cells #[.int .i64 op, .int .i64 (ka : Int), .int .i64 (kb : Int), .int .i64 (kc : Int)] 60) := ⟨_, rfl⟩
 have hbl : Below w.heap.size w wa := by rw [hwa]; exact (Below.refl _ _).alloc (Nat.le_refl _) _
 have HX : Hid (Blk wa w.heap.size 60 [.int .i64 op, .int .i64 (ka : Int), .int .i64 (kb : Int), .int .i64 (kc : Int)]) := by show Blk _ _ _ _; rw [hwa]; exact Blk.alloc _ _ _
 have HM := hide2 (h.under hbl);have hkI : (ka : Int) < 8 := by omega
 have hkB : (kb : Int) < 8 := by omega
 have hkC : (kc : Int) < 8 := by omega
 have hra := h.rbd ka hka;have hrb := h.rbd kb hkb;have ra := m_reg HM.out.blk HM.out.r8 ka hka;have rb := m_reg HM.out.blk HM.out.r8 kb hkb;have rc := m_reg HM.out.blk HM.out.r8 kc hkc;have x1 := HX.out.cell (j := 1) rfl;have x2 := HX.out.cell (j := 2) rfl;have x3 := HX.out.cell (j := 3) rfl
 have HDF : Hid (dMove S ka kb kc = if S.R.moveErr (rg S.r ka) (rg S.r kb) (rg S.r kc) = 0 then S.heap (S.R.move (rg S.r ka) (rg S.r kb) (rg S.r kc))
  else if (S.R.access (rg S.r kb) (rg S.r kc)).1 = 0 then S.fault (rexplain S.R (rg S.r ka) (rg S.r kc)) else S.fault (rexplain S.R (rg S.r kb) (rg S.r kc))) := rfl
 generalize dMove S ka kb kc = S' at *;generalize rg S.r ka = qa at *;generalize rg S.r kb = qb at *;generalize rg S.r kc = n at *;clear h hbl;go_enter Tryz.func85, Tryz.ntmps85;go_upto_region 1 with (fail);rw [← hwa];clear hwa;go_wp2
 go_quiet (fail)
 go_upto_region 2 with (fail);obtain ⟨wb, hwb⟩ : ∃ wb, wb = wa.drewN nq := ⟨_, rfl⟩
 rw [← hwb];have hbb : Below wa.heap.size wa wb := by rw [hwb]; exact below_drewN (Below.refl _ _) _
 have HM2 := hide2 (HM.out.under hbb);have HX2 := hide2 (HX.out.below hbb HX.out.lt)
 replace rb := (hbb.cell (p := ⟨F.mb, 2 + kb, none⟩) HM.out.blk.lt).trans rb
 replace rc := (hbb.cell (p := ⟨F.mb, 2 + kc, none⟩) HM.out.blk.lt).trans rc
 replace x2 := HX2.out.cell (j := 2) rfl
 replace x3 := HX2.out.cell (j := 3) rfl
 clear hwb hbb ra x1 nq HM HX;go_wp2
 go_quiet (fail)
 go_upto_region 3 with (fail);obtain ⟨wc, hwc⟩ : ∃ wc, wc = wb.drewN nq := ⟨_, rfl⟩
 rw [← hwc];have hbc : Below wb.heap.size wb wc := by rw [hwc]; exact below_drewN (Below.refl _ _) _
 have HM3 := hide2 (HM2.out.under hbc);have HX3 := hide2 (HX2.out.below hbc HX2.out.lt)
 replace rc := (hbc.cell (p := ⟨F.mb, 2 + kc, none⟩) HM2.out.blk.lt).trans rc
 replace x3 := HX3.out.cell (j := 3) rfl
 clear hwc hbc rb x2 nq HM2 HX2;go_wp2
 go_quiet (fail)
 go_upto_region 4 with (fail);obtain ⟨wd, hwd⟩ : ∃ wd, wd = wc.drewN nq := ⟨_, rfl⟩
 rw [← hwd];have hbd : Below wc.heap.size wc wd := by rw [hwd]; exact below_drewN (Below.refl _ _) _
 have HM4 := hide2 (HM3.out.under hbd);clear hwd hbd rc x3 nq HM3 HX3;have c0 := HM4.out.c0;have HS : Hid (SimB G S.R) := HM4.out.sim;go_upto_region 5 with (go_at_call 118; refine (gmove_any F.ph F.gc F.bb G S.R qa qb n wd HM4.out.heap HS.out hra.2 hrb.2).mono ?_; rintro e1 w1 ⟨rfl, hg1, hk1⟩; have HM5 := hide2 (HM4.out.call hg1 hk1 (HS.out.move_any qa qb n) (fun b => G.move_foot S.R qa qb n F.ph F.gc F.bb b)); clear hg1 hk1);clear c0 HM4
 by_cases he : S.R.moveErr qa qb n = 0
 ·rw [he];have HD : Hid (S' = S.heap (S.R.move qa qb n)) := by show _ = _; rw [HDF.out, if_pos he]
  clear he;go_wp2;refine bodyPost_ret (v := .tuple #[]) (results_none Tryz.results85 _ _ _) rfl ?_;exact ⟨rfl, _, _, by rw [HD.out]; exact HM5.out⟩
 ·have hsm : S.R.move qa qb n = S.R := by unfold RSt.move; rw [if_neg he]
  have HM6 : Hid (MRep F wB w1 (G.move S.R qa qb n) vo vn S) := by
   have := HM5.out;rw [hsm] at this;exact this
  have HD : Hid (S' = if (S.R.access qb n).1 = 0 then S.fault (rexplain S.R qa n) else S.fault (rexplain S.R qb n)) := by show _ = _; rw [HDF.out, if_neg he]
  have hne : (S.R.moveErr qa qb n == 0) = false := by rw [beq_eq_false_iff_ne]; exact he
  have c0 := HM6.out.c0;clear he hsm HM5;go_upto_region 6 with (fail)
  by_cases ha : (S.R.access qb n).1 = 0
  ·rw [if_pos ha] at HD;have HA := hide2 ha;clear ha
   go_wp2_with (first | (go_at_call 119; refine (gaccess_any F.ph F.gc F.bb (G.move S.R qa qb n) S.R qb n w1 HM6.out.heap HM6.out.sim.sim hrb.2).mono ?_; rintro e2 w2 ⟨rfl, hb2⟩; have HM7 := hide2 (HM6.out.under hb2); rw [HA.out]; clear hb2) | (go_at_call 116; refine (HM7.out.explains qa n hra.2).mono ?_; rintro e3 w3 ⟨rfl, v, hm8⟩; have HM8 := hide2 hm8; clear hm8))
   go_end0;exact ⟨rfl, _, _, by rw [HD.out]; exact HM8.out⟩
  ·rw [if_neg ha] at HD;have hnb : ((S.R.access qb n).1 != 0) = true := by simpa using ha
   clear ha
   go_wp2_with (first | (go_at_call 119; refine (gaccess_any F.ph F.gc F.bb (G.move S.R qa qb n) S.R qb n w1 HM6.out.heap HM6.out.sim.sim hrb.2).mono ?_; rintro e2 w2 ⟨rfl, hb2⟩; have HM7 := hide2 (HM6.out.under hb2); clear hb2) | (go_at_call 116; refine (HM7.out.explains qb n hrb.2).mono ?_; rintro e3 w3 ⟨rfl, v, hm8⟩; have HM8 := hide2 hm8; clear hm8))
   go_end0;exact ⟨rfl, _, _, by rw [HD.out]; exact HM8.out⟩
def MS.goes (S : MS) (n : Nat) : MS := ⟨S.R, S.r, S.heard, S.drawn, S.out, S.pc, n, S.steps, S.en, S.ex, S.rep⟩
def MS.exits (S : MS) (v : Int) : MS := ⟨S.R, S.r, S.heard, S.drawn, S.out, S.pc, S.next, S.steps, S.en, v, S.rep⟩
def MS.stands (S : MS) (n : Nat) : MS := ⟨S.R, S.r, S.heard, S.drawn, S.out, n, S.next, S.steps, S.en, S.ex, S.rep⟩
def MS.stepped (S : MS) : MS := ⟨S.R, S.r, S.heard, S.drawn, S.out, S.pc, S.next, S.steps + 1, S.en, S.ex, S.rep⟩
def MS.hears (S : MS) (inp : ByteArray) : MS := ⟨S.R, S.r, hearN inp S.heard, S.drawn, S.out, S.pc, S.next, S.steps, S.en, S.ex, S.rep⟩
def MS.says (S : MS) (o : ByteArray) : MS := ⟨S.R, S.r, S.heard, S.drawn, o, S.pc, S.next, S.steps, S.en, S.ex, S.rep⟩
section
variable {F : MFix} {wB w : World} {G : GSt} {vo vn : Value} {S : MS}
theorem MRep.setNext (h : MRep F wB w G vo vn S) (n : Nat) : MRep F wB (w.setCell ⟨F.mb, 16, none⟩ (.int .i64 (n : Int))) G vo vn (S.goes n) := by
 obtain ⟨r0, r1, r2, r3, r4, r5, r6, r7, hr, hb⟩ := h.blk8;refine h.own ((Kept.refl w _).setCell _ _ rfl) ?_ rfl rfl rfl h.r8 h.rbd;unfold mC MS.goes;rw [hr];exact hb.setCell 16 (.int .i64 (n : Int))
theorem MRep.setPc (h : MRep F wB w G vo vn S) (n : Nat) : MRep F wB (w.setCell ⟨F.mb, 15, none⟩ (.int .i64 (n : Int))) G vo vn (S.stands n) := by
 obtain ⟨r0, r1, r2, r3, r4, r5, r6, r7, hr, hb⟩ := h.blk8;refine h.own ((Kept.refl w _).setCell _ _ rfl) ?_ rfl rfl rfl h.r8 h.rbd;unfold mC MS.stands;rw [hr];exact hb.setCell 15 (.int .i64 (n : Int))
theorem MRep.setSteps (h : MRep F wB w G vo vn S) : MRep F wB (w.setCell ⟨F.mb, 17, none⟩ (.int .i64 ((S.steps + 1 : Nat) : Int))) G vo vn S.stepped := by
 obtain ⟨r0, r1, r2, r3, r4, r5, r6, r7, hr, hb⟩ := h.blk8;refine h.own ((Kept.refl w _).setCell _ _ rfl) ?_ rfl rfl rfl h.r8 h.rbd;unfold mC MS.stepped;rw [hr];exact hb.setCell 17 (.int .i64 ((S.steps + 1 : Nat) : Int))
theorem MRep.setEn (h : MRep F wB w G vo vn S) (e : Int) : MRep F wB (w.setCell ⟨F.mb, 18, none⟩ (.int .i64 e)) G vo vn (S.ends e) := by
 obtain ⟨r0, r1, r2, r3, r4, r5, r6, r7, hr, hb⟩ := h.blk8;refine h.own ((Kept.refl w _).setCell _ _ rfl) ?_ rfl rfl rfl h.r8 h.rbd;unfold mC MS.ends;rw [hr];exact hb.setCell 18 (.int .i64 e)
theorem MRep.setEx (h : MRep F wB w G vo vn S) (e : Int) : MRep F wB (w.setCell ⟨F.mb, 19, none⟩ (.int .i64 e)) G vo vn (S.exits e) := by
 obtain ⟨r0, r1, r2, r3, r4, r5, r6, r7, hr, hb⟩ := h.blk8;refine h.own ((Kept.refl w _).setCell _ _ rfl) ?_ rfl rfl rfl h.r8 h.rbd;unfold mC MS.exits;rw [hr];exact hb.setCell 19 (.int .i64 e)
theorem MRep.c1 (h : MRep F wB w G vo vn S) : w.cell? ⟨F.mb, 1, none⟩ = some (.slice F.ia F.code.length F.icap) := h.blk.cell (j := 1) rfl
theorem MRep.c14 (h : MRep F wB w G vo vn S) : w.cell? ⟨F.mb, 14, none⟩ = some vo := by
 obtain ⟨r0, r1, r2, r3, r4, r5, r6, r7, hr, hb⟩ := h.blk8;exact hb.cell (j := 14) rfl
theorem MRep.c16 (h : MRep F wB w G vo vn S) : w.cell? ⟨F.mb, 16, none⟩ = some (.int .i64 S.next) := by
 obtain ⟨r0, r1, r2, r3, r4, r5, r6, r7, hr, hb⟩ := h.blk8;exact hb.cell (j := 16) rfl
theorem MRep.c17 (h : MRep F wB w G vo vn S) : w.cell? ⟨F.mb, 17, none⟩ = some (.int .i64 S.steps) := by
 obtain ⟨r0, r1, r2, r3, r4, r5, r6, r7, hr, hb⟩ := h.blk8;exact hb.cell (j := 17) rfl
theorem MRep.hearing (h : MRep F wB w G vo vn S) (hi : (F.inp.size : Int) ≤ 9223372036854775807) :
 Calls Tryz.prog 78 #[.pointer (some ⟨F.mb, 0, none⟩)] w fun e w' => e = .returned (.int .i64 (hearV F.inp S.heard)) ∧ MRep F wB w' G vo vn (S.hears F.inp) ∧ Kept w w' (· = F.mb) := by
 obtain ⟨r0, r1, r2, r3, r4, r5, r6, r7, hr, hb⟩ := h.blk8;refine (hear_any F.mb _ _ r0 r1 r2 r3 r4 r5 r6 r7 F.inp S.heard _ _ vo _ _ _ _ _ _ w hi hb).mono ?_;rintro e w' ⟨rfl, hb1, hk1, -⟩;refine ⟨rfl, h.own hk1 ?_ rfl rfl rfl h.r8 h.rbd, hk1⟩;unfold mC MS.hears;rw [hr];exact hb1
theorem MRep.grows {wx w2 : World} {v2 : Value} {n2 : Nat} {xs2 : List Value} {o2 : ByteArray} (h : MRep F wB w G vo vn S) (hx : Below w.heap.size w wx) (hgrow : wx.grownBy w2 vo.ownBlock) (hown : w2.ownsRow 0 5 1 v2 n2 xs2) (e1 : n2 = o2.size) (e2 : xs2 = bytesV o2)
 (hat : ∀ g, v2.ownBlock = some g → vo.ownBlock = some g ∨ w.heap.size ≤ g) : MRep F wB (w2.setCell ⟨F.mb, 14, none⟩ v2) G v2 vn (S.says o2) := by
 subst e1 e2;have hx2 := hx.size;have hmb := h.blk.lt;have hs := h.below.size
 have hb : ∀ b, b < w.heap.size → vo.ownBlock ≠ some b → w2.heap[b]? = w.heap[b]? := fun b hl hn => by
  rw [hgrow.block b (by omega) (fun e => hn e.symm), hx.block b hl]
 have hbs : ∀ b, b < w.heap.size → vo.ownBlock ≠ some b → b ≠ F.mb → (w2.setCell ⟨F.mb, 14, none⟩ v2).heap[b]? = w.heap[b]? := fun b hl hn hm => by
  rw [Below.heap_setCell w2 _ _ b hm, hb b hl hn]
 obtain ⟨r0, r1, r2, r3, r4, r5, r6, r7, hr, hbk⟩ := h.blk8
 have hvm : ∀ g, v2.ownBlock = some g → g ≠ F.mb := fun g hg => by
  rcases hat g hg with e | e
  ·exact (h.ho g e).2.1
  ·omega
 have hm2 : Blk w2 F.mb 81 (mCells (.pointer (some ⟨F.ph, 0, none⟩)) (.slice F.ia F.code.length F.icap) [r0, r1, r2, r3, r4, r5, r6, r7] F.inp S.heard (.slice F.da F.ds.length F.dcap) S.drawn vo S.pc S.next S.steps S.en S.ex (rptCells S.rep vn)) :=
  (hb F.mb hmb (fun e => (h.ho _ e).2.1 rfl)).trans hbk
 refine ⟨?_, h.heap.kept (fun b hf => hbs b (h.heap.foot_lt hf) (fun e => (h.ho b e).2.2 hf) (h.hf b hf).2), h.sim, row_kept hown (fun g hg => Below.heap_setCell w2 _ _ g (hvm g hg)), row_kept h.near (fun g hg => hbs g (own_lt h.near g hg) (h.hn g hg).2.2.2 (h.hn g hg).2.1), h.r8, h.rbd,
  ⟨?_, ?_, ?_, ?_, fun k hk => (hbs k (by omega) (fun e => by have := (h.ho k e).1; omega) (by have := h.hm; omega)).trans (h.below.block k hk)⟩, h.hm, h.hf, fun g hg => ?_, fun g hg => ⟨(h.hn g hg).1, (h.hn g hg).2.1, (h.hn g hg).2.2.1, fun e => ?_⟩, h.codeR, h.drawR⟩
 ·unfold mC MS.says;rw [hr];exact hm2.setCell 14 v2
 ·show w2.os = _; rw [hgrow.os, hx.os, h.below.os]
 ·show w2.tape = _; rw [hgrow.tape, hx.tape, h.below.tape]
 ·show w2.output = _; rw [hgrow.output, hx.output, h.below.output]
 ·rw [World.size_setCell]; have := hgrow.size; omega
 ·rcases hat g hg with e | e
  ·exact h.ho g e
  ·exact ⟨by omega, by omega, fun hf => by have := h.heap.foot_lt hf; omega⟩
 ·rcases hat g e with e2 | e2
  ·exact (h.hn g hg).2.2.2 e2
  ·have := own_lt h.near g hg; omega
end
set_option maxRecDepth 100000 in
set_option maxHeartbeats 3200000 in
theorem doHalt_any (F : MFix) (wB w : World) (G : GSt) (vo vn : Value) (S : MS) (ka : Nat) (b c : Int) (h : MRep F wB w G vo vn S) (hka : ka < 8) :
 Calls Tryz.prog 76 #[.pointer (some ⟨F.mb, 0, none⟩), .agg #[.int .i64 0, .int .i64 (ka : Int), .int .i64 b, .int .i64 c]] w fun e w' => e = .returned (.tuple #[]) ∧ MRep F wB w' G vo vn ((S.ends 2).exits (rg S.r ka)) := by
 obtain ⟨wa, hwa⟩ : ∃ wa, wa = w.alloc (.cells #[.int .i64 0, .int .i64 (ka : Int), .int .i64 b, .int .i64 c] 60) := ⟨_, rfl⟩
 have hbl : Below w.heap.size w wa := by rw [hwa]; exact (Below.refl _ _).alloc (Nat.le_refl _) _
 have HX : Hid (Blk wa w.heap.size 60 [.int .i64 0, .int .i64 (ka : Int), .int .i64 b, .int .i64 c]) := by show Blk _ _ _ _; rw [hwa]; exact Blk.alloc _ _ _
 have HM := hide2 (h.under hbl);have hxmb : w.heap.size ≠ F.mb := by have := h.blk.lt; omega
 have hkI : (ka : Int) < 8 := by omega
 have x0 := HX.out.cell (j := 0) rfl;have c18 := HM.out.c18;have f18 := HM.out.blk.frozen 18;clear h hbl;go_enter Tryz.func76, Tryz.ntmps76;go_upto_region 1 with (fail);rw [← hwa];clear hwa;go_upto_region 4 with (fail);obtain ⟨wb, hwb⟩ : ∃ wb, wb = wa.setCell ⟨F.mb, 18, none⟩ (.int .i64 2) := ⟨_, rfl⟩
 rw [← hwb];have HM2 : Hid (MRep F wB wb G vo vn (S.ends 2)) := by show MRep _ _ _ _ _ _ _; rw [hwb]; exact HM.out.setEn 2
 have HX2 : Hid (Blk wb w.heap.size 60 [.int .i64 0, .int .i64 (ka : Int), .int .i64 b, .int .i64 c]) := by show Blk _ _ _ _; rw [hwb]; exact HX.out.kept ((Kept.refl wa (· = F.mb)).setCell _ _ rfl) hxmb
 clear hwb x0 c18 f18 HM HX;have ra : wb.cell? ⟨F.mb, 2 + ka, none⟩ = some (.int .i64 (rg S.r ka)) := m_reg HM2.out.blk HM2.out.r8 ka hka;have x1 := HX2.out.cell (j := 1) rfl
 have c19 : ∃ v, wb.cell? ⟨F.mb, 19, none⟩ = some v := by
  obtain ⟨r0, r1, r2, r3, r4, r5, r6, r7, hr, hb⟩ := HM2.out.blk8;exact ⟨_, hb.cell (j := 19) rfl⟩
 obtain ⟨v19, c19⟩ := c19;have f19 := HM2.out.blk.frozen 19;generalize hq : rg S.r ka = q at *;go_wp2
 go_region
 all_goals go_end0
 all_goals exact ⟨rfl, by rw [hq]; exact (HM2.out.setEx q).under ((Below.refl _ _).drew)⟩
set_option maxRecDepth 100000 in
set_option maxHeartbeats 3200000 in
theorem doJump_any (F : MFix) (wB w : World) (G : GSt) (vo vn : Value) (S : MS) (a : Nat) (b c : Int) (h : MRep F wB w G vo vn S) :
 Calls Tryz.prog 76 #[.pointer (some ⟨F.mb, 0, none⟩), .agg #[.int .i64 6, .int .i64 (a : Int), .int .i64 b, .int .i64 c]] w fun e w' => e = .returned (.tuple #[]) ∧ MRep F wB w' G vo vn (S.goes a) := by
 obtain ⟨wa, hwa⟩ : ∃ wa, wa = w.alloc (.cells #[.int .i64 6, .int .i64 (a : Int), .int .i64 b, .int .i64 c] 60) := ⟨_, rfl⟩
 have hbl : Below w.heap.size w wa := by rw [hwa]; exact (Below.refl _ _).alloc (Nat.le_refl _) _
 have HX : Hid (Blk wa w.heap.size 60 [.int .i64 6, .int .i64 (a : Int), .int .i64 b, .int .i64 c]) := by show Blk _ _ _ _; rw [hwa]; exact Blk.alloc _ _ _
 have HM := hide2 (h.under hbl);have x0 := HX.out.cell (j := 0) rfl;have x1 := HX.out.cell (j := 1) rfl;have c16 := HM.out.c16;have f16 := HM.out.blk.frozen 16;clear h hbl;go_enter Tryz.func76, Tryz.ntmps76;go_upto_region 1 with (fail);rw [← hwa];clear hwa;go_wp2;go_end0;exact ⟨rfl, HM.out.setNext a⟩
def dZero (S : MS) (a b : Nat) : MS := if rg S.r a = 0 then S.goes b else S
set_option maxRecDepth 100000 in
set_option maxHeartbeats 3200000 in
theorem doZero_any (F : MFix) (wB w : World) (G : GSt) (vo vn : Value) (S : MS) (ka b : Nat) (c : Int) (h : MRep F wB w G vo vn S) (hka : ka < 8) :
 Calls Tryz.prog 76 #[.pointer (some ⟨F.mb, 0, none⟩), .agg #[.int .i64 7, .int .i64 (ka : Int), .int .i64 (b : Int), .int .i64 c]] w fun e w' => e = .returned (.tuple #[]) ∧ MRep F wB w' G vo vn (dZero S ka b) := by
 obtain ⟨wa, hwa⟩ : ∃ wa, wa = w.alloc (.cells #[.int .i64 7, .int .i64 (ka : Int), .int .i64 (b : Int), .int .i64 c] 60) := ⟨_, rfl⟩
 have hbl : Below w.heap.size w wa := by rw [hwa]; exact (Below.refl _ _).alloc (Nat.le_refl _) _
 have HX : Hid (Blk wa w.heap.size 60 [.int .i64 7, .int .i64 (ka : Int), .int .i64 (b : Int), .int .i64 c]) := by show Blk _ _ _ _; rw [hwa]; exact Blk.alloc _ _ _
 have HM := hide2 (h.under hbl);have hkI : (ka : Int) < 8 := by omega
 have x0 := HX.out.cell (j := 0) rfl;have x1 := HX.out.cell (j := 1) rfl;have ra := m_reg HM.out.blk HM.out.r8 ka hka;clear h hbl;obtain ⟨S', HS'⟩ : ∃ S', Hid (dZero S ka b = S') := ⟨_, hide2 rfl⟩
 rw [HS'.out];unfold dZero at HS';generalize rg S.r ka = q at *;go_enter Tryz.func76, Tryz.ntmps76;go_upto_region 1 with (fail);rw [← hwa];clear hwa;go_wp2
 go_quiet (fail)
 obtain ⟨wb, hwb⟩ : ∃ wb, wb = wa.drewN nq := ⟨_, rfl⟩
 rw [← hwb];have hbb : Below wa.heap.size wa wb := by rw [hwb]; exact below_drewN (Below.refl _ _) _
 have HM2 := hide2 (HM.out.under hbb);have HX2 := hide2 (HX.out.below hbb HX.out.lt);clear hwb hbb ra x0 x1 nq HM HX;have x2 := HX2.out.cell (j := 2) rfl;have c16 := HM2.out.c16;have f16 := HM2.out.blk.frozen 16
 by_cases hq : q = 0
 ·rw [if_pos hq] at HS';go_wp2;go_end0;rw [← HS'.out];exact ⟨rfl, HM2.out.setNext b⟩
 ·rw [if_neg hq] at HS';go_wp2;go_end0;rw [← HS'.out];exact ⟨rfl, HM2.out⟩
set_option maxRecDepth 100000 in
set_option maxHeartbeats 3200000 in
theorem do_halt (F : MFix) (wB w : World) (G : GSt) (vo vn : Value) (S : MS) (ka : Nat) (b c : Int) (h : MRep F wB w G vo vn S) (hka : ka < 8) :
 Calls Tryz.prog 56 #[.pointer (some ⟨F.mb, 0, none⟩), .agg #[.int .i64 0, .int .i64 (ka : Int), .int .i64 b, .int .i64 c]] w fun e w' => e = .returned (.tuple #[]) ∧ ∃ G' vo' vn', MRep F wB w' G' vo' vn' ((S.ends 2).exits (rg S.r ka)) := by
 obtain ⟨wa, hwa⟩ : ∃ wa, wa = w.alloc (.cells #[.int .i64 0, .int .i64 (ka : Int), .int .i64 b, .int .i64 c] 60) := ⟨_, rfl⟩
 have hbl : Below w.heap.size w wa := by rw [hwa]; exact (Below.refl _ _).alloc (Nat.le_refl _) _
 have HX : Hid (Blk wa w.heap.size 60 [.int .i64 0, .int .i64 (ka : Int), .int .i64 b, .int .i64 c]) := by show Blk _ _ _ _; rw [hwa]; exact Blk.alloc _ _ _
 have HM := hide2 (h.under hbl);have x0 := HX.out.cell (j := 0) rfl;have x1 := HX.out.cell (j := 1) rfl;have x2 := HX.out.cell (j := 2) rfl;have x3 := HX.out.cell (j := 3) rfl;clear h hbl;go_enter Tryz.func56, Tryz.ntmps56;go_upto_region 1 with (fail);rw [← hwa];clear hwa
 go_wp2_with (go_at_call 76; refine (doHalt_any F wB wa G vo vn S ka b c HM.out hka).mono ?_; rintro e1 w1 ⟨rfl, hm1⟩; have HM1 := hide2 hm1; clear hm1)
 go_end0;exact ⟨rfl, G, vo, vn, HM1.out⟩
set_option maxRecDepth 100000 in
set_option maxHeartbeats 3200000 in
theorem do_jump (F : MFix) (wB w : World) (G : GSt) (vo vn : Value) (S : MS) (a : Nat) (b c : Int) (h : MRep F wB w G vo vn S)  :
 Calls Tryz.prog 56 #[.pointer (some ⟨F.mb, 0, none⟩), .agg #[.int .i64 6, .int .i64 (a : Int), .int .i64 b, .int .i64 c]] w fun e w' => e = .returned (.tuple #[]) ∧ ∃ G' vo' vn', MRep F wB w' G' vo' vn' (S.goes a) := by
 obtain ⟨wa, hwa⟩ : ∃ wa, wa = w.alloc (.cells #[.int .i64 6, .int .i64 (a : Int), .int .i64 b, .int .i64 c] 60) := ⟨_, rfl⟩
 have hbl : Below w.heap.size w wa := by rw [hwa]; exact (Below.refl _ _).alloc (Nat.le_refl _) _
 have HX : Hid (Blk wa w.heap.size 60 [.int .i64 6, .int .i64 (a : Int), .int .i64 b, .int .i64 c]) := by show Blk _ _ _ _; rw [hwa]; exact Blk.alloc _ _ _
 have HM := hide2 (h.under hbl);have x0 := HX.out.cell (j := 0) rfl;have x1 := HX.out.cell (j := 1) rfl;have x2 := HX.out.cell (j := 2) rfl;have x3 := HX.out.cell (j := 3) rfl;clear h hbl;go_enter Tryz.func56, Tryz.ntmps56;go_upto_region 1 with (fail);rw [← hwa];clear hwa
 go_wp2_with (go_at_call 76; refine (doJump_any F wB wa G vo vn S a b c HM.out).mono ?_; rintro e1 w1 ⟨rfl, hm1⟩; have HM1 := hide2 hm1; clear hm1)
 go_end0;exact ⟨rfl, G, vo, vn, HM1.out⟩
set_option maxRecDepth 100000 in
set_option maxHeartbeats 3200000 in
theorem do_zero (F : MFix) (wB w : World) (G : GSt) (vo vn : Value) (S : MS) (ka b : Nat) (c : Int) (h : MRep F wB w G vo vn S) (hka : ka < 8) :
 Calls Tryz.prog 56 #[.pointer (some ⟨F.mb, 0, none⟩), .agg #[.int .i64 7, .int .i64 (ka : Int), .int .i64 (b : Int), .int .i64 c]] w fun e w' => e = .returned (.tuple #[]) ∧ ∃ G' vo' vn', MRep F wB w' G' vo' vn' (dZero S ka b) := by
 obtain ⟨wa, hwa⟩ : ∃ wa, wa = w.alloc (.cells #[.int .i64 7, .int .i64 (ka : Int), .int .i64 (b : Int), .int .i64 c] 60) := ⟨_, rfl⟩
 have hbl : Below w.heap.size w wa := by rw [hwa]; exact (Below.refl _ _).alloc (Nat.le_refl _) _
 have HX : Hid (Blk wa w.heap.size 60 [.int .i64 7, .int .i64 (ka : Int), .int .i64 (b : Int), .int .i64 c]) := by show Blk _ _ _ _; rw [hwa]; exact Blk.alloc _ _ _
 have HM := hide2 (h.under hbl);have x0 := HX.out.cell (j := 0) rfl;have x1 := HX.out.cell (j := 1) rfl;have x2 := HX.out.cell (j := 2) rfl;have x3 := HX.out.cell (j := 3) rfl;clear h hbl;go_enter Tryz.func56, Tryz.ntmps56;go_upto_region 1 with (fail);rw [← hwa];clear hwa
 go_wp2_with (go_at_call 76; refine (doZero_any F wB wa G vo vn S ka b c HM.out hka).mono ?_; rintro e1 w1 ⟨rfl, hm1⟩; have HM1 := hide2 hm1; clear hm1)
 go_end0;exact ⟨rfl, G, vo, vn, HM1.out⟩
set_option maxRecDepth 100000 in
set_option maxHeartbeats 3200000 in
theorem do_malloc (F : MFix) (wB w : World) (G : GSt) (vo vn : Value) (S : MS) (ka kb : Nat) (c : Int) (h : MRep F wB w G vo vn S) (hka : ka < 8) (hkb : kb < 8) :
 Calls Tryz.prog 56 #[.pointer (some ⟨F.mb, 0, none⟩), .agg #[.int .i64 11, .int .i64 (ka : Int), .int .i64 (kb : Int), .int .i64 c]] w fun e w' => e = .returned (.tuple #[]) ∧ ∃ G' vo' vn', MRep F wB w' G' vo' vn' (dMalloc F.ds S ka kb) := by
 obtain ⟨wa, hwa⟩ : ∃ wa, wa = w.alloc (.cells #[.int .i64 11, .int .i64 (ka : Int), .int .i64 (kb : Int), .int .i64 c] 60) := ⟨_, rfl⟩
 have hbl : Below w.heap.size w wa := by rw [hwa]; exact (Below.refl _ _).alloc (Nat.le_refl _) _
 have HX : Hid (Blk wa w.heap.size 60 [.int .i64 11, .int .i64 (ka : Int), .int .i64 (kb : Int), .int .i64 c]) := by show Blk _ _ _ _; rw [hwa]; exact Blk.alloc _ _ _
 have HM := hide2 (h.under hbl);have x0 := HX.out.cell (j := 0) rfl;have x1 := HX.out.cell (j := 1) rfl;have x2 := HX.out.cell (j := 2) rfl;have x3 := HX.out.cell (j := 3) rfl;clear h hbl;go_enter Tryz.func56, Tryz.ntmps56;go_upto_region 1 with (fail);rw [← hwa];clear hwa
 go_wp2_with (go_at_call 79; refine (doMalloc_any F wB wa G vo vn S 11 c ka kb HM.out hka hkb).mono ?_; rintro e1 w1 ⟨rfl, G2, vn2, hm1⟩; have HM1 := hide2 hm1; clear hm1)
 go_end0;exact ⟨rfl, G2, vo, vn2, HM1.out⟩
set_option maxRecDepth 100000 in
set_option maxHeartbeats 3200000 in
theorem do_free (F : MFix) (wB w : World) (G : GSt) (vo vn : Value) (S : MS) (ka : Nat) (b c : Int) (h : MRep F wB w G vo vn S) (hka : ka < 8) :
 Calls Tryz.prog 56 #[.pointer (some ⟨F.mb, 0, none⟩), .agg #[.int .i64 12, .int .i64 (ka : Int), .int .i64 b, .int .i64 c]] w fun e w' => e = .returned (.tuple #[]) ∧ ∃ G' vo' vn', MRep F wB w' G' vo' vn' (dFree S ka) := by
 obtain ⟨wa, hwa⟩ : ∃ wa, wa = w.alloc (.cells #[.int .i64 12, .int .i64 (ka : Int), .int .i64 b, .int .i64 c] 60) := ⟨_, rfl⟩
 have hbl : Below w.heap.size w wa := by rw [hwa]; exact (Below.refl _ _).alloc (Nat.le_refl _) _
 have HX : Hid (Blk wa w.heap.size 60 [.int .i64 12, .int .i64 (ka : Int), .int .i64 b, .int .i64 c]) := by show Blk _ _ _ _; rw [hwa]; exact Blk.alloc _ _ _
 have HM := hide2 (h.under hbl);have x0 := HX.out.cell (j := 0) rfl;have x1 := HX.out.cell (j := 1) rfl;have x2 := HX.out.cell (j := 2) rfl;have x3 := HX.out.cell (j := 3) rfl;clear h hbl;go_enter Tryz.func56, Tryz.ntmps56;go_upto_region 1 with (fail);rw [← hwa];clear hwa
 go_wp2_with (go_at_call 80; refine (doFree_any F wB wa G vo vn S 12 b c ka HM.out hka).mono ?_; rintro e1 w1 ⟨rfl, G2, vn2, hm1⟩; have HM1 := hide2 hm1; clear hm1)
 go_end0;exact ⟨rfl, G2, vo, vn2, HM1.out⟩
set_option maxRecDepth 100000 in
set_option maxHeartbeats 3200000 in
theorem do_realloc (F : MFix) (wB w : World) (G : GSt) (vo vn : Value) (S : MS) (ka kb kc : Nat) (h : MRep F wB w G vo vn S) (hka : ka < 8) (hkb : kb < 8) (hkc : kc < 8) :
 Calls Tryz.prog 56 #[.pointer (some ⟨F.mb, 0, none⟩), .agg #[.int .i64 13, .int .i64 (ka : Int), .int .i64 (kb : Int), .int .i64 (kc : Int)]] w fun e w' => e = .returned (.tuple #[]) ∧ ∃ G' vo' vn', MRep F wB w' G' vo' vn' (dRealloc F.ds S ka kb kc) := by
 obtain ⟨wa, hwa⟩ : ∃ wa, wa = w.alloc (.cells #[.int .i64 13, .int .i64 (ka : Int), .int .i64 (kb : Int), .int .i64 (kc : Int)] 60) := ⟨_, rfl⟩
 have hbl : Below w.heap.size w wa := by rw [hwa]; exact (Below.refl _ _).alloc (Nat.le_refl _) _
 have HX : Hid (Blk wa w.heap.size 60 [.int .i64 13, .int .i64 (ka : Int), .int .i64 (kb : Int), .int .i64 (kc : Int)]) := by show Blk _ _ _ _; rw [hwa]; exact Blk.alloc _ _ _
 have HM := hide2 (h.under hbl);have x0 := HX.out.cell (j := 0) rfl;have x1 := HX.out.cell (j := 1) rfl;have x2 := HX.out.cell (j := 2) rfl;have x3 := HX.out.cell (j := 3) rfl;clear h hbl;go_enter Tryz.func56, Tryz.ntmps56;go_upto_region 1 with (fail);rw [← hwa];clear hwa
 go_wp2_with (go_at_call 81; refine (doRealloc_any F wB wa G vo vn S 13 ka kb kc HM.out hka hkb hkc).mono ?_; rintro e1 w1 ⟨rfl, G2, vn2, hm1⟩; have HM1 := hide2 hm1; clear hm1)
 go_end0;exact ⟨rfl, G2, vo, vn2, HM1.out⟩
set_option maxRecDepth 100000 in
set_option maxHeartbeats 3200000 in
theorem do_usable (F : MFix) (wB w : World) (G : GSt) (vo vn : Value) (S : MS) (ka kb : Nat) (c : Int) (h : MRep F wB w G vo vn S) (hka : ka < 8) (hkb : kb < 8) :
 Calls Tryz.prog 56 #[.pointer (some ⟨F.mb, 0, none⟩), .agg #[.int .i64 14, .int .i64 (ka : Int), .int .i64 (kb : Int), .int .i64 c]] w fun e w' => e = .returned (.tuple #[]) ∧ ∃ G' vo' vn', MRep F wB w' G' vo' vn' (dUsable S ka kb) := by
 obtain ⟨wa, hwa⟩ : ∃ wa, wa = w.alloc (.cells #[.int .i64 14, .int .i64 (ka : Int), .int .i64 (kb : Int), .int .i64 c] 60) := ⟨_, rfl⟩
 have hbl : Below w.heap.size w wa := by rw [hwa]; exact (Below.refl _ _).alloc (Nat.le_refl _) _
 have HX : Hid (Blk wa w.heap.size 60 [.int .i64 14, .int .i64 (ka : Int), .int .i64 (kb : Int), .int .i64 c]) := by show Blk _ _ _ _; rw [hwa]; exact Blk.alloc _ _ _
 have HM := hide2 (h.under hbl);have x0 := HX.out.cell (j := 0) rfl;have x1 := HX.out.cell (j := 1) rfl;have x2 := HX.out.cell (j := 2) rfl;have x3 := HX.out.cell (j := 3) rfl;clear h hbl;go_enter Tryz.func56, Tryz.ntmps56;go_upto_region 1 with (fail);rw [← hwa];clear hwa
 go_wp2_with (go_at_call 82; refine (doUsable_any F wB wa G vo vn S 14 c ka kb HM.out hka hkb).mono ?_; rintro e1 w1 ⟨rfl, G2, vn2, hm1⟩; have HM1 := hide2 hm1; clear hm1)
 go_end0;exact ⟨rfl, G2, vo, vn2, HM1.out⟩
set_option maxRecDepth 100000 in
set_option maxHeartbeats 3200000 in
theorem do_load (F : MFix) (wB w : World) (G : GSt) (vo vn : Value) (S : MS) (ka kb : Nat) (c : Int) (h : MRep F wB w G vo vn S) (hka : ka < 8) (hkb : kb < 8) :
 Calls Tryz.prog 56 #[.pointer (some ⟨F.mb, 0, none⟩), .agg #[.int .i64 15, .int .i64 (ka : Int), .int .i64 (kb : Int), .int .i64 c]] w fun e w' => e = .returned (.tuple #[]) ∧ ∃ G' vo' vn', MRep F wB w' G' vo' vn' (dLoad S ka kb c 8) := by
 obtain ⟨wa, hwa⟩ : ∃ wa, wa = w.alloc (.cells #[.int .i64 15, .int .i64 (ka : Int), .int .i64 (kb : Int), .int .i64 c] 60) := ⟨_, rfl⟩
 have hbl : Below w.heap.size w wa := by rw [hwa]; exact (Below.refl _ _).alloc (Nat.le_refl _) _
 have HX : Hid (Blk wa w.heap.size 60 [.int .i64 15, .int .i64 (ka : Int), .int .i64 (kb : Int), .int .i64 c]) := by show Blk _ _ _ _; rw [hwa]; exact Blk.alloc _ _ _
 have HM := hide2 (h.under hbl);have x0 := HX.out.cell (j := 0) rfl;have x1 := HX.out.cell (j := 1) rfl;have x2 := HX.out.cell (j := 2) rfl;have x3 := HX.out.cell (j := 3) rfl;clear h hbl;go_enter Tryz.func56, Tryz.ntmps56;go_upto_region 1 with (fail);rw [← hwa];clear hwa
 go_wp2_with (go_at_call 83; refine (doLoad_any F wB wa G vo vn S 15 c 8 ka kb HM.out hka hkb).mono ?_; rintro e1 w1 ⟨rfl, G2, vn2, hm1⟩; have HM1 := hide2 hm1; clear hm1)
 go_end0;exact ⟨rfl, G2, vo, vn2, HM1.out⟩
set_option maxRecDepth 100000 in
set_option maxHeartbeats 3200000 in
theorem do_byte (F : MFix) (wB w : World) (G : GSt) (vo vn : Value) (S : MS) (ka kb : Nat) (c : Int) (h : MRep F wB w G vo vn S) (hka : ka < 8) (hkb : kb < 8) :
 Calls Tryz.prog 56 #[.pointer (some ⟨F.mb, 0, none⟩), .agg #[.int .i64 16, .int .i64 (ka : Int), .int .i64 (kb : Int), .int .i64 c]] w fun e w' => e = .returned (.tuple #[]) ∧ ∃ G' vo' vn', MRep F wB w' G' vo' vn' (dLoad S ka kb c 1) := by
 obtain ⟨wa, hwa⟩ : ∃ wa, wa = w.alloc (.cells #[.int .i64 16, .int .i64 (ka : Int), .int .i64 (kb : Int), .int .i64 c] 60) := ⟨_, rfl⟩
 have hbl : Below w.heap.size w wa := by rw [hwa]; exact (Below.refl _ _).alloc (Nat.le_refl _) _
 have HX : Hid (Blk wa w.heap.size 60 [.int .i64 16, .int .i64 (ka : Int), .int .i64 (kb : Int), .int .i64 c]) := by show Blk _ _ _ _; rw [hwa]; exact Blk.alloc _ _ _
 have HM := hide2 (h.under hbl);have x0 := HX.out.cell (j := 0) rfl;have x1 := HX.out.cell (j := 1) rfl;have x2 := HX.out.cell (j := 2) rfl;have x3 := HX.out.cell (j := 3) rfl;clear h hbl;go_enter Tryz.func56, Tryz.ntmps56;go_upto_region 1 with (fail);rw [← hwa];clear hwa
 go_wp2_with (go_at_call 83; refine (doLoad_any F wB wa G vo vn S 16 c 1 ka kb HM.out hka hkb).mono ?_; rintro e1 w1 ⟨rfl, G2, vn2, hm1⟩; have HM1 := hide2 hm1; clear hm1)
 go_end0;exact ⟨rfl, G2, vo, vn2, HM1.out⟩
set_option maxRecDepth 100000 in
set_option maxHeartbeats 3200000 in
theorem do_store (F : MFix) (wB w : World) (G : GSt) (vo vn : Value) (S : MS) (ka kb : Nat) (c : Int) (h : MRep F wB w G vo vn S) (hka : ka < 8) (hkb : kb < 8) :
 Calls Tryz.prog 56 #[.pointer (some ⟨F.mb, 0, none⟩), .agg #[.int .i64 17, .int .i64 (ka : Int), .int .i64 (kb : Int), .int .i64 c]] w fun e w' => e = .returned (.tuple #[]) ∧ ∃ G' vo' vn', MRep F wB w' G' vo' vn' (dStore S ka kb c 8) := by
 obtain ⟨wa, hwa⟩ : ∃ wa, wa = w.alloc (.cells #[.int .i64 17, .int .i64 (ka : Int), .int .i64 (kb : Int), .int .i64 c] 60) := ⟨_, rfl⟩
 have hbl : Below w.heap.size w wa := by rw [hwa]; exact (Below.refl _ _).alloc (Nat.le_refl _) _
 have HX : Hid (Blk wa w.heap.size 60 [.int .i64 17, .int .i64 (ka : Int), .int .i64 (kb : Int), .int .i64 c]) := by show Blk _ _ _ _; rw [hwa]; exact Blk.alloc _ _ _
 have HM := hide2 (h.under hbl);have x0 := HX.out.cell (j := 0) rfl;have x1 := HX.out.cell (j := 1) rfl;have x2 := HX.out.cell (j := 2) rfl;have x3 := HX.out.cell (j := 3) rfl;clear h hbl;go_enter Tryz.func56, Tryz.ntmps56;go_upto_region 1 with (fail);rw [← hwa];clear hwa
 go_wp2_with (go_at_call 84; refine (doStore_any F wB wa G vo vn S 17 c 8 ka kb HM.out hka hkb).mono ?_; rintro e1 w1 ⟨rfl, G2, vn2, hm1⟩; have HM1 := hide2 hm1; clear hm1)
 go_end0;exact ⟨rfl, G2, vo, vn2, HM1.out⟩
set_option maxRecDepth 100000 in
set_option maxHeartbeats 3200000 in
theorem do_put (F : MFix) (wB w : World) (G : GSt) (vo vn : Value) (S : MS) (ka kb : Nat) (c : Int) (h : MRep F wB w G vo vn S) (hka : ka < 8) (hkb : kb < 8) :
 Calls Tryz.prog 56 #[.pointer (some ⟨F.mb, 0, none⟩), .agg #[.int .i64 18, .int .i64 (ka : Int), .int .i64 (kb : Int), .int .i64 c]] w fun e w' => e = .returned (.tuple #[]) ∧ ∃ G' vo' vn', MRep F wB w' G' vo' vn' (dStore S ka kb c 1) := by
 obtain ⟨wa, hwa⟩ : ∃ wa, wa = w.alloc (.cells #[.int .i64 18, .int .i64 (ka : Int), .int .i64 (kb : Int), .int .i64 c] 60) := ⟨_, rfl⟩
 have hbl : Below w.heap.size w wa := by rw [hwa]; exact (Below.refl _ _).alloc (Nat.le_refl _) _
 have HX : Hid (Blk wa w.heap.size 60 [.int .i64 18, .int .i64 (ka : Int), .int .i64 (kb : Int), .int .i64 c]) := by show Blk _ _ _ _; rw [hwa]; exact Blk.alloc _ _ _
 have HM := hide2 (h.under hbl);have x0 := HX.out.cell (j := 0) rfl;have x1 := HX.out.cell (j := 1) rfl;have x2 := HX.out.cell (j := 2) rfl;have x3 := HX.out.cell (j := 3) rfl;clear h hbl;go_enter Tryz.func56, Tryz.ntmps56;go_upto_region 1 with (fail);rw [← hwa];clear hwa
 go_wp2_with (go_at_call 84; refine (doStore_any F wB wa G vo vn S 18 c 1 ka kb HM.out hka hkb).mono ?_; rintro e1 w1 ⟨rfl, G2, vn2, hm1⟩; have HM1 := hide2 hm1; clear hm1)
 go_end0;exact ⟨rfl, G2, vo, vn2, HM1.out⟩
set_option maxRecDepth 100000 in
set_option maxHeartbeats 3200000 in
theorem do_move (F : MFix) (wB w : World) (G : GSt) (vo vn : Value) (S : MS) (ka kb kc : Nat) (h : MRep F wB w G vo vn S) (hka : ka < 8) (hkb : kb < 8) (hkc : kc < 8) :
 Calls Tryz.prog 56 #[.pointer (some ⟨F.mb, 0, none⟩), .agg #[.int .i64 19, .int .i64 (ka : Int), .int .i64 (kb : Int), .int .i64 (kc : Int)]] w fun e w' => e = .returned (.tuple #[]) ∧ ∃ G' vo' vn', MRep F wB w' G' vo' vn' (dMove S ka kb kc) := by
 obtain ⟨wa, hwa⟩ : ∃ wa, wa = w.alloc (.cells #[.int .i64 19, .int .i64 (ka : Int), .int .i64 (kb : Int), .int .i64 (kc : Int)] 60) := ⟨_, rfl⟩
 have hbl : Below w.heap.size w wa := by rw [hwa]; exact (Below.refl _ _).alloc (Nat.le_refl _) _
 have HX : Hid (Blk wa w.heap.size 60 [.int .i64 19, .int .i64 (ka : Int), .int .i64 (kb : Int), .int .i64 (kc : Int)]) := by show Blk _ _ _ _; rw [hwa]; exact Blk.alloc _ _ _
 have HM := hide2 (h.under hbl);have x0 := HX.out.cell (j := 0) rfl;have x1 := HX.out.cell (j := 1) rfl;have x2 := HX.out.cell (j := 2) rfl;have x3 := HX.out.cell (j := 3) rfl;clear h hbl;go_enter Tryz.func56, Tryz.ntmps56;go_upto_region 1 with (fail);rw [← hwa];clear hwa
 go_wp2_with (go_at_call 85; refine (doMove_any F wB wa G vo vn S 19 ka kb kc HM.out hka hkb hkc).mono ?_; rintro e1 w1 ⟨rfl, G2, vn2, hm1⟩; have HM1 := hide2 hm1; clear hm1)
 go_end0;exact ⟨rfl, G2, vo, vn2, HM1.out⟩
end Go.Proofs.YtjikemhmnkckcabGreat
