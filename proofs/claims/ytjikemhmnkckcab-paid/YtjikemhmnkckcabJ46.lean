import Derived.Test.YtjikemhmnkckcabJ45
/- The program's machine: its calls in few words; Malloc. -/
namespace Go.Proofs.Ytjikemhmnkckcab
open Go.RowKit
attribute [local go_sem ↓] Go.wp_at_zero Go.wp_at_succ

/-- One draw is taken; none is left. -/
def MS.drew (S : MS) : MS := ⟨S.R, S.r, S.heard, S.drawn + 1, S.out, S.pc, S.next, S.steps, S.en, S.ex, S.rep⟩
def MS.ends (S : MS) (en : Int) : MS := ⟨S.R, S.r, S.heard, S.drawn, S.out, S.pc, S.next, S.steps, en, S.ex, S.rep⟩
def dMalloc (ds : List Int) (S : MS) (ka kb : Nat) : MS :=
  if S.drawn < ds.length then (S.drew.heap (mR S.R (rg S.r kb) (ds.getD S.drawn 0) S.pc)).reg ka (mOut S.R (rg S.r kb) (ds.getD S.drawn 0)).1 else S.ends 4
section
variable {F : MFix} {wB w : World} {G : GSt} {vo vn : Value} {S : MS}
theorem MRep.draws (h : MRep F wB w G vo vn S) : DRow w F.da F.dcap F.ds :=
  h.drawR.kept h.below.size (fun g _ _ hg => h.below.block g hg)
theorem MRep.c0 (h : MRep F wB w G vo vn S) : w.cell? ⟨F.mb, 0, none⟩ = some (.pointer (some ⟨F.ph, 0, none⟩)) := h.blk.cell (j := 0) rfl
theorem MRep.blk8 (h : MRep F wB w G vo vn S) : ∃ r0 r1 r2 r3 r4 r5 r6 r7, S.r = [r0, r1, r2, r3, r4, r5, r6, r7] ∧ Blk w F.mb 85 (mCells (.pointer (some ⟨F.ph, 0, none⟩)) (.slice F.ia F.code.length F.icap) [r0, r1, r2, r3, r4, r5, r6, r7] F.inp S.heard (.slice F.da F.ds.length F.dcap) S.drawn vo S.pc S.next S.steps S.en S.ex (rptCells S.rep vn)) := by
  obtain ⟨r0, r1, r2, r3, r4, r5, r6, r7, hr⟩ := eight h.r8
  have hb := h.blk
  unfold mC at hb
  rw [hr] at hb
  exact ⟨_, _, _, _, _, _, _, _, hr, hb⟩
theorem MRep.c15 (h : MRep F wB w G vo vn S) : w.cell? ⟨F.mb, 15, none⟩ = some (.int .i64 S.pc) := by
  obtain ⟨r0, r1, r2, r3, r4, r5, r6, r7, _, hb⟩ := h.blk8
  exact hb.cell (j := 15) rfl
theorem MRep.c18 (h : MRep F wB w G vo vn S) : w.cell? ⟨F.mb, 18, none⟩ = some (.int .i64 S.en) := by
  obtain ⟨r0, r1, r2, r3, r4, r5, r6, r7, _, hb⟩ := h.blk8
  exact hb.cell (j := 18) rfl
theorem MRep.drawY (h : MRep F wB w G vo vn S) (hk : S.drawn < F.ds.length) (dd : Int) (hdd : F.ds.getD S.drawn 0 = dd) :
    Calls Try.prog 68 #[.pointer (some ⟨F.mb, 0, none⟩)] w fun e w' => e = .returned (.tuple #[.int .i64 dd, .bool true]) ∧ MRep F wB w' G vo vn S.drew ∧ Kept w w' (· = F.mb) := by
  obtain ⟨r0, r1, r2, r3, r4, r5, r6, r7, hr, hb⟩ := h.blk8
  refine (draw_yes F.mb _ _ r0 r1 r2 r3 r4 r5 r6 r7 F.inp _ F.da F.dcap F.ds S.drawn vo _ _ _ _ _ _ w h.draws hk hb).mono ?_
  rintro e w' ⟨rfl, hb1, hk1, -⟩
  rw [hdd]
  refine ⟨rfl, h.own hk1 ?_ rfl rfl rfl h.r8 h.rbd, hk1⟩
  unfold mC MS.drew
  rw [hr]
  exact hb1
theorem MRep.drawN (h : MRep F wB w G vo vn S) (hk : ¬ S.drawn < F.ds.length) :
    Calls Try.prog 68 #[.pointer (some ⟨F.mb, 0, none⟩)] w fun e w' => e = .returned (.tuple #[.int .i64 0, .bool false]) ∧ MRep F wB w' G vo vn (S.ends 4) := by
  obtain ⟨r0, r1, r2, r3, r4, r5, r6, r7, hr, hb⟩ := h.blk8
  refine (draw_no F.mb _ _ r0 r1 r2 r3 r4 r5 r6 r7 F.inp _ F.da F.ds.length F.dcap S.drawn vo _ _ _ _ _ _ w (by omega) hb).mono ?_
  rintro e w' ⟨rfl, hb1, hk1, -⟩
  refine ⟨rfl, h.own hk1 ?_ rfl rfl rfl h.r8 h.rbd⟩
  unfold mC MS.ends
  rw [hr]
  exact hb1
theorem MRep.blames (h : MRep F wB w G vo vn S) (q : Int) (q1 : q ≤ 9223372036854775807) :
    Calls Try.prog 71 #[.pointer (some ⟨F.mb, 0, none⟩), .int .i64 q] w fun e w' => e = .returned (.tuple #[]) ∧ ∃ v, MRep F wB w' G vo v (S.fault (rblame S.R q)) := by
  obtain ⟨r0, r1, r2, r3, r4, r5, r6, r7, hr, hb⟩ := h.blk8
  obtain ⟨SR, Sr, Sh, Sd, So, Sp, Sn, Ss, Se, Sx, y0, y1, y2, y3, y4, y5, y6, y7, y8, yl⟩ := S
  simp only at hr
  subst hr
  refine (mblame_any F.mb F.ph F.gc F.bb G SR _ r0 r1 r2 r3 r4 r5 r6 r7 F.inp _ _ _ vo _ _ _ _ _ y0 y1 y2 y3 y4 y5 y6 y7 y8 vn q w h.heap h.sim.sim q1 hb).mono ?_
  rintro e2 w2 ⟨v, rfl, hm2, hrow, hvl, hk2⟩
  rw [blame_sim h.sim.sim q] at hm2 hrow
  exact ⟨rfl, v, h.faulted hk2 hm2 hrow hvl⟩
theorem MRep.explains (h : MRep F wB w G vo vn S) (q n : Int) (q1 : q ≤ 9223372036854775807) :
    Calls Try.prog 75 #[.pointer (some ⟨F.mb, 0, none⟩), .int .i64 q, .int .i64 n] w fun e w' => e = .returned (.tuple #[]) ∧ ∃ v, MRep F wB w' G vo v (S.fault (rexplain S.R q n)) := by
  obtain ⟨r0, r1, r2, r3, r4, r5, r6, r7, hr, hb⟩ := h.blk8
  obtain ⟨SR, Sr, Sh, Sd, So, Sp, Sn, Ss, Se, Sx, y0, y1, y2, y3, y4, y5, y6, y7, y8, yl⟩ := S
  simp only at hr
  subst hr
  refine (mexplain_any F.mb F.ph F.gc F.bb G SR _ r0 r1 r2 r3 r4 r5 r6 r7 F.inp _ _ _ vo _ _ _ _ _ y0 y1 y2 y3 y4 y5 y6 y7 y8 vn q n w h.heap h.sim.sim q1 hb).mono ?_
  rintro e2 w2 ⟨v, rfl, hm2, hrow, hvl, hk2⟩
  rw [explain_sim h.sim.sim q n] at hm2 hrow
  exact ⟨rfl, v, h.faulted hk2 hm2 hrow hvl⟩
end

set_option maxRecDepth 100000 in
set_option maxHeartbeats 3200000 in
theorem doMalloc_any (F : MFix) (wB w : World) (G : GSt) (vo vn : Value) (S : MS) (op c : Int) (ka kb : Nat) (h : MRep F wB w G vo vn S) (hka : ka < 8) (hkb : kb < 8) :
    Calls Try.prog 60 #[.pointer (some ⟨F.mb, 0, none⟩), .agg #[.int .i64 op, .int .i64 (ka : Int), .int .i64 (kb : Int), .int .i64 c]] w fun e w' => e = .returned (.tuple #[]) ∧ ∃ G' vn', MRep F wB w' G' vo vn' (dMalloc F.ds S ka kb) := by
  obtain ⟨wa, hwa⟩ : ∃ wa, wa = w.alloc (.cells #[.int .i64 op, .int .i64 (ka : Int), .int .i64 (kb : Int), .int .i64 c] 35) := ⟨_, rfl⟩
  have hbl : Below w.heap.size w wa := by rw [hwa]; exact (Below.refl _ _).alloc (Nat.le_refl _) _
  have HX : Hid (Blk wa w.heap.size 35 [.int .i64 op, .int .i64 (ka : Int), .int .i64 (kb : Int), .int .i64 c]) := by show Blk _ _ _ _; rw [hwa]; exact Blk.alloc _ _ _
  have HM := hide2 (h.under hbl)
  have hxmb : w.heap.size ≠ F.mb := by have := h.blk.lt; omega
  have HNF : Hid (¬ GFoot F.ph F.gc F.bb G w.heap.size) := fun e => by have := h.heap.foot_lt e; omega
  have hkI : (ka : Int) < 8 := by omega
  have hkB : (kb : Int) < 8 := by omega
  clear h hbl
  go_enter Try.func60, Try.ntmps60
  go_upto_region 1 with (fail)
  rw [← hwa]
  clear hwa
  by_cases hdr : S.drawn < F.ds.length
  · have HDR := hide2 hdr
    obtain ⟨dd, HDD⟩ : ∃ dd, Hid (F.ds.getD S.drawn 0 = dd) := ⟨_, hide2 rfl⟩
    have HD : Hid (dMalloc F.ds S ka kb = (S.drew.heap (mR S.R (rg S.r kb) dd S.pc)).reg ka (mOut S.R (rg S.r kb) dd).1) := by show _ = _; rw [← HDD.out]; unfold dMalloc; rw [if_pos hdr]
    clear hdr
    go_upto_region 2 with (go_at_call 68; refine (HM.out.drawY HDR.out dd HDD.out).mono ?_; rintro e1 w1 ⟨rfl, hm1, hk1⟩; have HM1 := hide2 hm1; have HX1 := hide2 (HX.out.kept hk1 hxmb); clear hm1 hk1)
    have rb : w1.cell? ⟨F.mb, 2 + kb, none⟩ = some (.int .i64 (rg S.r kb)) := m_reg HM1.out.blk HM1.out.r8 kb hkb
    have x2 := HX1.out.cell (j := 2) rfl
    have c0 := HM1.out.c0
    have c15 : w1.cell? ⟨F.mb, 15, none⟩ = some (.int .i64 S.pc) := HM1.out.c15
    have HS : Hid (SimB G S.R) := HM1.out.sim
    generalize hq : rg S.r kb = q at *
    generalize hpc : (S.pc : Int) = pc at *
    have hnf : ¬ GFoot F.ph F.gc F.bb G w.heap.size := fun e => HNF.out e
    clear HM HX
    go_upto_region 3 with (fail)
    go_region_held3 (fun w' => w'.cell? ⟨F.mb, 0, none⟩ = some (.pointer (some ⟨F.ph, 0, none⟩)) ∧ w'.cell? ⟨F.mb, 2 + kb, none⟩ = some (.int .i64 q) ∧ w'.cell? ⟨F.mb, 15, none⟩ = some (.int .i64 pc) ∧ w'.cell? ⟨w.heap.size, 2, none⟩ = some (.int .i64 (kb : Int))) (go_keep)
      (first | (go_at_call 69; refine (gmalloc_all F.ph F.gc F.bb G S.R q dd pc w1.drew ((HM1.out.under ((Below.refl _ _).drew)).heap) HS.out.sim).mono ?_; rintro e2 w2 ⟨rfl, hg2, hk2⟩; have HM2 := hide2 ((HM1.out.under ((Below.refl _ _).drew)).call hg2 hk2 (HS.out.malloc q dd pc) (fun b => mG_foot HS.out.sim q dd pc F.ph F.gc F.bb b)); have HX2 := hide2 ((HX1.out.below ((Below.refl _ _).drew) HX1.out.lt).kept hk2 hnf); clear hg2 hk2; have e0 := HM2.out.c0; have e15 : w2.cell? ⟨F.mb, 15, none⟩ = some (.int .i64 pc) := (HM2.out.c15).trans (by rw [← hpc]; rfl); have eb : w2.cell? ⟨F.mb, 2 + kb, none⟩ = some (.int .i64 q) := (m_reg HM2.out.blk HM2.out.r8 kb hkb).trans (by rw [← hq]; rfl); have e2 := HX2.out.cell (j := 2) rfl))
    have hub := mOut_bd HS.out.sim.rok q dd
    generalize (mOut S.R q dd).1 = u at *
    clear c0 c15 rb x2 HM1 HX1
    have x1 := HX2.out.cell (j := 1) rfl
    have ra := m_reg HM2.out.blk HM2.out.r8 ka hka
    have raf := HM2.out.blk.frozen (2 + ka)
    go_wp2
    go_region
    go_end0
    refine ⟨rfl, mG G S.R q dd pc, vn, ?_⟩
    rw [HD.out]
    exact (HM2.out.setReg ka hka u (by omega) (by omega)).under ((Below.refl _ _).drew)
  · have HDR := hide2 hdr
    have HD : Hid (dMalloc F.ds S ka kb = S.ends 4) := by show _ = _; unfold dMalloc; rw [if_neg hdr]
    clear hdr
    go_wp2_with (go_at_call 68; refine (HM.out.drawN HDR.out).mono ?_; rintro e1 w1 ⟨rfl, hm1⟩; have HM1 := hide2 hm1; clear hm1)
    refine bodyPost_ret (v := .tuple #[]) (results_none Try.results60 _ _ _) rfl ?_
    exact ⟨rfl, _, _, by rw [HD.out]; exact HM1.out⟩
end Go.Proofs.Ytjikemhmnkckcab
/- The program's machine: Realloc. -/
namespace Go.Proofs.Ytjikemhmnkckcab
open Go.RowKit
attribute [local go_sem ↓] Go.wp_at_zero Go.wp_at_succ

theorem blockFrom_err (st : Int) (cls : List (Int × Int)) (log : List Ref.Ev) (a t : Int) (f k : Nat) : (Ref.blockFrom st cls log a t f k).2.2 = 0 ∨ 5 ≤ (Ref.blockFrom st cls log a t f k).2.2 := by
  induction f generalizing k with
  | zero => exact Or.inr (by show (5 : Int) ≤ 8; omega)
  | succ f ih =>
    unfold Ref.blockFrom
    split
    · split
      · exact Or.inr (by show (5 : Int) ≤ 9; omega)
      · exact Or.inl rfl
    · exact ih (k + 1)
theorem block_err (st : Int) (cls : List (Int × Int)) (log : List Ref.Ev) (q : Int) : (Ref.block st cls log q).2.2 = 0 ∨ 5 ≤ (Ref.block st cls log q).2.2 := by
  unfold Ref.block
  split
  · exact blockFrom_err ..
  · exact Or.inr (by show (5 : Int) ≤ 5; omega)
theorem mOut_err {R : RSt} (ho : ROk R) (size draw : Int) : (mOut R size draw).2 = 0 ∨ (mOut R size draw).2 = 3 ∨ (mOut R size draw).2 = 4 := by
  rcases mOut_cases R ho size draw with ⟨_, hm⟩ | ⟨k, _, _, _, _, hm⟩ | ⟨k, s, h1, hk, hkl, hf, hs, hz, hm⟩ <;> rw [hm] <;> simp
def dRealloc (ds : List Int) (S : MS) (ka kb kc : Nat) : MS :=
  if S.drawn < ds.length then
    (if S.R.reBad (rg S.r kb) then S.drew.fault (rblame S.R (rg S.r kb))
    else (S.drew.heap (S.R.re (rg S.r kb) (rg S.r kc) (ds.getD S.drawn 0) S.pc)).reg ka (mOut S.R (rg S.r kc) (ds.getD S.drawn 0)).1)
  else S.ends 4

set_option maxRecDepth 100000 in
set_option maxHeartbeats 3200000 in
theorem doRealloc_any (F : MFix) (wB w : World) (G : GSt) (vo vn : Value) (S : MS) (op : Int) (ka kb kc : Nat) (h : MRep F wB w G vo vn S) (hka : ka < 8) (hkb : kb < 8) (hkc : kc < 8) :
    Calls Try.prog 62 #[.pointer (some ⟨F.mb, 0, none⟩), .agg #[.int .i64 op, .int .i64 (ka : Int), .int .i64 (kb : Int), .int .i64 (kc : Int)]] w fun e w' => e = .returned (.tuple #[]) ∧ ∃ G' vn', MRep F wB w' G' vo vn' (dRealloc F.ds S ka kb kc) := by
  obtain ⟨wa, hwa⟩ : ∃ wa, wa = w.alloc (.cells #[.int .i64 op, .int .i64 (ka : Int), .int .i64 (kb : Int), .int .i64 (kc : Int)] 35) := ⟨_, rfl⟩
  have hbl : Below w.heap.size w wa := by rw [hwa]; exact (Below.refl _ _).alloc (Nat.le_refl _) _
  have HX : Hid (Blk wa w.heap.size 35 [.int .i64 op, .int .i64 (ka : Int), .int .i64 (kb : Int), .int .i64 (kc : Int)]) := by show Blk _ _ _ _; rw [hwa]; exact Blk.alloc _ _ _
  have HM := hide2 (h.under hbl)
  have hxmb : w.heap.size ≠ F.mb := by have := h.blk.lt; omega
  have HNF : Hid (¬ GFoot F.ph F.gc F.bb G w.heap.size) := fun e => by have := h.heap.foot_lt e; omega
  have hkI : (ka : Int) < 8 := by omega
  have hkB : (kb : Int) < 8 := by omega
  have hkC : (kc : Int) < 8 := by omega
  have hrb := h.rbd kb hkb
  clear h hbl
  go_enter Try.func62, Try.ntmps62
  go_upto_region 1 with (fail)
  rw [← hwa]
  clear hwa
  by_cases hdr : S.drawn < F.ds.length
  · have HDR := hide2 hdr
    obtain ⟨dd, HDD⟩ : ∃ dd, Hid (F.ds.getD S.drawn 0 = dd) := ⟨_, hide2 rfl⟩
    have HD : Hid (dRealloc F.ds S ka kb kc = if S.R.reBad (rg S.r kb) then S.drew.fault (rblame S.R (rg S.r kb)) else (S.drew.heap (S.R.re (rg S.r kb) (rg S.r kc) dd S.pc)).reg ka (mOut S.R (rg S.r kc) dd).1) := by show _ = _; rw [← HDD.out]; unfold dRealloc; rw [if_pos hdr]
    clear hdr
    go_upto_region 2 with (go_at_call 68; refine (HM.out.drawY HDR.out dd HDD.out).mono ?_; rintro e1 w1 ⟨rfl, hm1, hk1⟩; have HM1 := hide2 hm1; have HX1 := hide2 (HX.out.kept hk1 hxmb); clear hm1 hk1)
    have rb : w1.cell? ⟨F.mb, 2 + kb, none⟩ = some (.int .i64 (rg S.r kb)) := m_reg HM1.out.blk HM1.out.r8 kb hkb
    have x2 := HX1.out.cell (j := 2) rfl
    have HS : Hid (SimB G S.R) := HM1.out.sim
    generalize hq : rg S.r kb = q at *
    have hnf : ¬ GFoot F.ph F.gc F.bb G w.heap.size := fun e => HNF.out e
    clear HM HX
    go_upto_region 3 with (fail)
    go_wp2
    go_quiet (fail)
    go_upto_region 4 with (fail)
    obtain ⟨wb, hwb⟩ : ∃ wb, wb = w1.drewN nq := ⟨_, rfl⟩
    rw [← hwb]
    have hbb : Below w1.heap.size w1 wb := by rw [hwb]; exact below_drewN (Below.refl _ _) _
    have HM2 := hide2 (HM1.out.under hbb)
    have HX2 := hide2 (HX1.out.below hbb HX1.out.lt)
    clear hwb hbb rb x2 nq HM1 HX1
    have rc : wb.cell? ⟨F.mb, 2 + kc, none⟩ = some (.int .i64 (rg S.r kc)) := m_reg HM2.out.blk HM2.out.r8 kc hkc
    have x3 := HX2.out.cell (j := 3) rfl
    have c0 := HM2.out.c0
    have c15 : wb.cell? ⟨F.mb, 15, none⟩ = some (.int .i64 S.pc) := HM2.out.c15
    generalize hz : rg S.r kc = z at *
    generalize hpc : (S.pc : Int) = pc at *
    go_region_held3 (fun w' => w'.cell? ⟨F.mb, 0, none⟩ = some (.pointer (some ⟨F.ph, 0, none⟩)) ∧ w'.cell? ⟨F.mb, 2 + kc, none⟩ = some (.int .i64 z) ∧ w'.cell? ⟨F.mb, 15, none⟩ = some (.int .i64 pc) ∧ w'.cell? ⟨w.heap.size, 3, none⟩ = some (.int .i64 (kc : Int))) (go_keep)
      (first | (go_at_call 72; refine (greal_any F.ph F.gc F.bb G S.R q z dd pc wb.drew ((HM2.out.under ((Below.refl _ _).drew)).heap) HS.out hrb.2).mono ?_; rintro e2 w2 ⟨rfl, hg2, hk2⟩; have HM3 := hide2 ((HM2.out.under ((Below.refl _ _).drew)).call hg2 hk2 (HS.out.realloc q z dd pc) (fun b => reG_foot HS.out q z dd pc F.ph F.gc F.bb b)); have HX3 := hide2 ((HX2.out.below ((Below.refl _ _).drew) HX2.out.lt).kept hk2 hnf); clear hg2 hk2; have e0 := HM3.out.c0; have e15 : w2.cell? ⟨F.mb, 15, none⟩ = some (.int .i64 pc) := (HM3.out.c15).trans (by rw [← hpc]; rfl); have ec : w2.cell? ⟨F.mb, 2 + kc, none⟩ = some (.int .i64 z) := (m_reg HM3.out.blk HM3.out.r8 kc hkc).trans (by rw [← hz]; rfl); have e3 := HX3.out.cell (j := 3) rfl))
    clear c0 c15 rc x3 HM2 HX2
    by_cases hbad : S.R.reBad q
    · have hre : S.R.re q z dd pc = S.R := by unfold RSt.re; rw [if_pos hbad]
      have HO : Hid (S.R.reOut q z dd = (0, (Ref.block S.R.st S.R.cls S.R.log q).2.2)) := by show _ = _; unfold RSt.reOut; rw [if_pos hbad]
      rw [if_pos hbad] at HD
      have hne := (block_err S.R.st S.R.cls S.R.log q).resolve_left hbad.2
      have HM4 : Hid (MRep F wB w2 (reG G S.R q z dd pc) vo vn S.drew) := by
        have := HM3.out
        rw [hre] at this
        exact this
      rw [HO.out]
      clear hbad hre HM3 HO
      generalize (Ref.block S.R.st S.R.cls S.R.log q).2.2 = er at *
      have n0 : (er != 0) = true := by simp; omega
      have n3 : (er != 3) = true := by simp; omega
      have n4 : (er != 4) = true := by simp; omega
      go_wp2_with (go_at_call 71; refine (HM4.out.blames q hrb.2).mono ?_; rintro e3 w3 ⟨rfl, v, hm5⟩; have HM5 := hide2 hm5; clear hm5)
      refine bodyPost_ret (v := .tuple #[]) (results_none Try.results62 _ _ _) rfl ?_
      exact ⟨rfl, _, _, by rw [HD.out]; exact HM5.out⟩
    · have HO : Hid (S.R.reOut q z dd = mOut S.R z dd) := by show _ = _; unfold RSt.reOut; rw [if_neg hbad]
      rw [if_neg hbad] at HD
      have hub := mOut_bd HS.out.sim.rok z dd
      have her := mOut_err HS.out.sim.rok z dd
      rw [HO.out]
      clear hbad HO
      generalize (mOut S.R z dd).1 = u at *
      generalize (mOut S.R z dd).2 = er at *
      have x1 := HX3.out.cell (j := 1) rfl
      have ra := m_reg HM3.out.blk HM3.out.r8 ka hka
      have raf := HM3.out.blk.frozen (2 + ka)
      refine (fun (key : ∀ w4, w4 = (w2.setCell ⟨F.mb, 2 + ka, none⟩ (.int .i64 u)).drew → ∃ G' vn', MRep F wB w4 G' vo vn' (dRealloc F.ds S ka kb kc)) => ?region) ?key
      case key =>
        rintro w4 rfl
        refine ⟨reG G S.R q z dd pc, vn, ?_⟩
        rw [HD.out]
        exact (HM3.out.setReg ka hka u (by omega) (by omega)).under ((Below.refl _ _).drew)
      rcases her with rfl | rfl | rfl
      · go_wp2
        go_region
        go_end0
        exact ⟨rfl, key _ rfl⟩
      · go_wp2
        go_region
        go_end0
        exact ⟨rfl, key _ rfl⟩
      · go_wp2
        go_region
        go_end0
        exact ⟨rfl, key _ rfl⟩
  · have HDR := hide2 hdr
    have HD : Hid (dRealloc F.ds S ka kb kc = S.ends 4) := by show _ = _; unfold dRealloc; rw [if_neg hdr]
    clear hdr
    go_wp2_with (go_at_call 68; refine (HM.out.drawN HDR.out).mono ?_; rintro e1 w1 ⟨rfl, hm1⟩; have HM1 := hide2 hm1; clear hm1)
    refine bodyPost_ret (v := .tuple #[]) (results_none Try.results62 _ _ _) rfl ?_
    exact ⟨rfl, _, _, by rw [HD.out]; exact HM1.out⟩
end Go.Proofs.Ytjikemhmnkckcab
/- The program's machine: Move. -/
namespace Go.Proofs.Ytjikemhmnkckcab
open Go.RowKit
attribute [local go_sem ↓] Go.wp_at_zero Go.wp_at_succ

def dMove (S : MS) (ka kb kc : Nat) : MS :=
  if S.R.moveErr (rg S.r ka) (rg S.r kb) (rg S.r kc) = 0 then S.heap (S.R.move (rg S.r ka) (rg S.r kb) (rg S.r kc))
  else if (S.R.access (rg S.r kb) (rg S.r kc)).1 = 0 then S.fault (rexplain S.R (rg S.r ka) (rg S.r kc)) else S.fault (rexplain S.R (rg S.r kb) (rg S.r kc))

set_option maxRecDepth 100000 in
set_option maxHeartbeats 3200000 in
theorem doMove_any (F : MFix) (wB w : World) (G : GSt) (vo vn : Value) (S : MS) (op : Int) (ka kb kc : Nat) (h : MRep F wB w G vo vn S) (hka : ka < 8) (hkb : kb < 8) (hkc : kc < 8) :
    Calls Try.prog 66 #[.pointer (some ⟨F.mb, 0, none⟩), .agg #[.int .i64 op, .int .i64 (ka : Int), .int .i64 (kb : Int), .int .i64 (kc : Int)]] w fun e w' => e = .returned (.tuple #[]) ∧ ∃ G' vn', MRep F wB w' G' vo vn' (dMove S ka kb kc) := by
  obtain ⟨wa, hwa⟩ : ∃ wa, wa = w.alloc (.cells #[.int .i64 op, .int .i64 (ka : Int), .int .i64 (kb : Int), .int .i64 (kc : Int)] 35) := ⟨_, rfl⟩
  have hbl : Below w.heap.size w wa := by rw [hwa]; exact (Below.refl _ _).alloc (Nat.le_refl _) _
  have HX : Hid (Blk wa w.heap.size 35 [.int .i64 op, .int .i64 (ka : Int), .int .i64 (kb : Int), .int .i64 (kc : Int)]) := by show Blk _ _ _ _; rw [hwa]; exact Blk.alloc _ _ _
  have HM := hide2 (h.under hbl)
  have hkI : (ka : Int) < 8 := by omega
  have hkB : (kb : Int) < 8 := by omega
  have hkC : (kc : Int) < 8 := by omega
  have hra := h.rbd ka hka
  have hrb := h.rbd kb hkb
  have ra := m_reg HM.out.blk HM.out.r8 ka hka
  have rb := m_reg HM.out.blk HM.out.r8 kb hkb
  have rc := m_reg HM.out.blk HM.out.r8 kc hkc
  have x1 := HX.out.cell (j := 1) rfl
  have x2 := HX.out.cell (j := 2) rfl
  have x3 := HX.out.cell (j := 3) rfl
  have HDF : Hid (dMove S ka kb kc = if S.R.moveErr (rg S.r ka) (rg S.r kb) (rg S.r kc) = 0 then S.heap (S.R.move (rg S.r ka) (rg S.r kb) (rg S.r kc))
    else if (S.R.access (rg S.r kb) (rg S.r kc)).1 = 0 then S.fault (rexplain S.R (rg S.r ka) (rg S.r kc)) else S.fault (rexplain S.R (rg S.r kb) (rg S.r kc))) := rfl
  generalize dMove S ka kb kc = S' at *
  generalize rg S.r ka = qa at *
  generalize rg S.r kb = qb at *
  generalize rg S.r kc = n at *
  clear h hbl
  go_enter Try.func66, Try.ntmps66
  go_upto_region 1 with (fail)
  rw [← hwa]
  clear hwa
  go_wp2
  go_quiet (fail)
  go_upto_region 2 with (fail)
  obtain ⟨wb, hwb⟩ : ∃ wb, wb = wa.drewN nq := ⟨_, rfl⟩
  rw [← hwb]
  have hbb : Below wa.heap.size wa wb := by rw [hwb]; exact below_drewN (Below.refl _ _) _
  have HM2 := hide2 (HM.out.under hbb)
  have HX2 := hide2 (HX.out.below hbb HX.out.lt)
  replace rb := (hbb.cell (p := ⟨F.mb, 2 + kb, none⟩) HM.out.blk.lt).trans rb
  replace rc := (hbb.cell (p := ⟨F.mb, 2 + kc, none⟩) HM.out.blk.lt).trans rc
  replace x2 := HX2.out.cell (j := 2) rfl
  replace x3 := HX2.out.cell (j := 3) rfl
  clear hwb hbb ra x1 nq HM HX
  go_wp2
  go_quiet (fail)
  go_upto_region 3 with (fail)
  obtain ⟨wc, hwc⟩ : ∃ wc, wc = wb.drewN nq := ⟨_, rfl⟩
  rw [← hwc]
  have hbc : Below wb.heap.size wb wc := by rw [hwc]; exact below_drewN (Below.refl _ _) _
  have HM3 := hide2 (HM2.out.under hbc)
  have HX3 := hide2 (HX2.out.below hbc HX2.out.lt)
  replace rc := (hbc.cell (p := ⟨F.mb, 2 + kc, none⟩) HM2.out.blk.lt).trans rc
  replace x3 := HX3.out.cell (j := 3) rfl
  clear hwc hbc rb x2 nq HM2 HX2
  go_wp2
  go_quiet (fail)
  go_upto_region 4 with (fail)
  obtain ⟨wd, hwd⟩ : ∃ wd, wd = wc.drewN nq := ⟨_, rfl⟩
  rw [← hwd]
  have hbd : Below wc.heap.size wc wd := by rw [hwd]; exact below_drewN (Below.refl _ _) _
  have HM4 := hide2 (HM3.out.under hbd)
  clear hwd hbd rc x3 nq HM3 HX3
  have c0 := HM4.out.c0
  have HS : Hid (SimB G S.R) := HM4.out.sim
  go_upto_region 5 with (go_at_call 77; refine (gmove_any F.ph F.gc F.bb G S.R qa qb n wd HM4.out.heap HS.out hra.2 hrb.2).mono ?_; rintro e1 w1 ⟨rfl, hg1, hk1⟩; have HM5 := hide2 (HM4.out.call hg1 hk1 (HS.out.move_any qa qb n) (fun b => G.move_foot S.R qa qb n F.ph F.gc F.bb b)); clear hg1 hk1)
  clear c0 HM4
  by_cases he : S.R.moveErr qa qb n = 0
  · rw [he]
    have HD : Hid (S' = S.heap (S.R.move qa qb n)) := by show _ = _; rw [HDF.out, if_pos he]
    clear he
    go_wp2
    refine bodyPost_ret (v := .tuple #[]) (results_none Try.results66 _ _ _) rfl ?_
    exact ⟨rfl, _, _, by rw [HD.out]; exact HM5.out⟩
  · have hsm : S.R.move qa qb n = S.R := by unfold RSt.move; rw [if_neg he]
    have HM6 : Hid (MRep F wB w1 (G.move S.R qa qb n) vo vn S) := by
      have := HM5.out
      rw [hsm] at this
      exact this
    have HD : Hid (S' = if (S.R.access qb n).1 = 0 then S.fault (rexplain S.R qa n) else S.fault (rexplain S.R qb n)) := by show _ = _; rw [HDF.out, if_neg he]
    have hne : (S.R.moveErr qa qb n == 0) = false := by rw [beq_eq_false_iff_ne]; exact he
    have c0 := HM6.out.c0
    clear he hsm HM5
    go_upto_region 6 with (fail)
    by_cases ha : (S.R.access qb n).1 = 0
    · rw [if_pos ha] at HD
      have HA := hide2 ha
      clear ha
      go_wp2_with (first | (go_at_call 78; refine (gaccess_any F.ph F.gc F.bb (G.move S.R qa qb n) S.R qb n w1 HM6.out.heap HM6.out.sim.sim hrb.2).mono ?_; rintro e2 w2 ⟨rfl, hb2⟩; have HM7 := hide2 (HM6.out.under hb2); rw [HA.out]; clear hb2) | (go_at_call 75; refine (HM7.out.explains qa n hra.2).mono ?_; rintro e3 w3 ⟨rfl, v, hm8⟩; have HM8 := hide2 hm8; clear hm8))
      go_end0
      exact ⟨rfl, _, _, by rw [HD.out]; exact HM8.out⟩
    · rw [if_neg ha] at HD
      have hnb : ((S.R.access qb n).1 != 0) = true := by simpa using ha
      clear ha
      go_wp2_with (first | (go_at_call 78; refine (gaccess_any F.ph F.gc F.bb (G.move S.R qa qb n) S.R qb n w1 HM6.out.heap HM6.out.sim.sim hrb.2).mono ?_; rintro e2 w2 ⟨rfl, hb2⟩; have HM7 := hide2 (HM6.out.under hb2); clear hb2) | (go_at_call 75; refine (HM7.out.explains qb n hrb.2).mono ?_; rintro e3 w3 ⟨rfl, v, hm8⟩; have HM8 := hide2 hm8; clear hm8))
      go_end0
      exact ⟨rfl, _, _, by rw [HD.out]; exact HM8.out⟩
end Go.Proofs.Ytjikemhmnkckcab
