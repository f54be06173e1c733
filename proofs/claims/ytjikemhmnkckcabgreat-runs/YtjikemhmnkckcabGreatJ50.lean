import Derived.Test.YtjikemhmnkckcabGreatJ49
/- The document's machine: Malloc, Realloc (written by gendoc.py). -/
namespace Go.Proofs.YtjikemhmnkckcabGreat
open Go.RowKit
attribute [local go_sem ↓] Go.wp_at_zero Go.wp_at_succ

theorem DRow.next {w : World} {g off cap : Nat} {ds : List Int} {k : Nat} (h : DRow w (some ⟨g, off, none⟩) cap (ds.drop k)) (hk : k < ds.length) : DRow w (if cap = 1 then some ⟨g, off, none⟩ else some ⟨g, off + 1, none⟩) (cap - 1) (ds.drop (k + 1)) := by
  have hl := h.len
  have hc := h.cap
  rw [List.length_drop] at hl
  refine ⟨by rw [List.length_drop]; omega, by omega, fun h0 => ?_⟩
  rw [List.length_drop] at h0
  rw [if_neg (by omega)]
  obtain ⟨g2, off2, e, hg, hcell⟩ := h.cells (by rw [List.length_drop]; omega)
  cases e
  refine ⟨g, off + 1, rfl, hg, fun i hi => ?_⟩
  rw [List.length_drop] at hi
  have := hcell (i + 1) (by rw [List.length_drop]; omega)
  rw [show off + 1 + i = off + (i + 1) by omega, this]
  congr 2
  rw [List.getD_eq_getElem?_getD, List.getD_eq_getElem?_getD, List.getElem?_drop, List.getElem?_drop]
  congr 2
  omega
set_option maxHeartbeats 1600000 in
theorem SRep.draws {F : SFix} {wB w : World} {vl vm vn : Value} {g off dcap : Nat} {S : MS} (h : SRep F wB w vl vm vn (some ⟨g, off, none⟩) dcap S) (hk : S.drawn < F.ds.length) {nd : Nat} (hn : F.ds.length - S.drawn = nd) {dv : Int} (hd : (S.drawn : Int) + 1 = dv) :
    SRep F wB ((w.setCell ⟨F.sb, 15, none⟩ (.slice (if dcap = 1 then some ⟨g, off, none⟩ else some ⟨g, off + 1, none⟩) (nd - 1) (dcap - 1))).setCell ⟨F.sb, 21, none⟩ (.int .i64 dv)) vl vm vn (if dcap = 1 then some ⟨g, off, none⟩ else some ⟨g, off + 1, none⟩) (dcap - 1) S.drew := by
  have hnx := h.drawR.next hk
  generalize (if dcap = 1 then some (⟨g, off, none⟩ : Addr) else some ⟨g, off + 1, none⟩) = da' at *
  obtain ⟨r0, r1, r2, r3, r4, r5, r6, r7, hr, hb⟩ := h.blk8
  refine h.own (((Kept.refl w (fun x => x = F.sb)).setCell ⟨F.sb, 15, none⟩ _ rfl).setCell ⟨F.sb, 21, none⟩ _ rfl) ?_ rfl rfl h.r8 h.rbd hnx hk h.hl
  have this := (hb.setCell 15 (.slice da' (nd - 1) (dcap - 1))).setCell 21 (.int .i64 dv)
  have e : F.ds.length - (S.drawn + 1) = nd - 1 := by omega
  have e2 : ((S.drawn + 1 : Nat) : Int) = dv := by omega
  show Blk _ _ _ (sCells F S.r (inpFrom F.inp S.heard) (.slice da' (F.ds.length - (S.drawn + 1)) (dcap - 1)) S.next S.en S.ex S.steps S.pc ((S.drawn + 1 : Nat) : Int) S.out (rptCells S.rep vn))
  rw [e, e2, hr]
  exact this
theorem SRep.draw0 {F : SFix} {wB w : World} {vl vm vn : Value} {da : Option Addr} {dcap : Nat} {S : MS} (h : SRep F wB w vl vm vn da dcap S) (hk : S.drawn < F.ds.length) :
    ∃ g off, da = some ⟨g, off, none⟩ ∧ g < wB.heap.size ∧ w.cell? ⟨g, off, none⟩ = some (.int .i64 (F.ds.getD S.drawn 0)) ∧ F.ds.length - S.drawn ≤ dcap ∧ dcap ≤ maxLen := by
  obtain ⟨g, off, e, hg, hc⟩ := h.drawR.cells (by rw [List.length_drop]; omega)
  have hl := h.drawR.len
  rw [List.length_drop] at hl
  refine ⟨g, off, e, hg, ?_, hl, h.drawR.cap⟩
  have := hc 0 (by rw [List.length_drop]; omega)
  rw [show off + 0 = off from rfl] at this
  rw [(h.below.cell (p := ⟨g, off, none⟩) hg).trans this]
  congr 2
  rw [List.getD_eq_getElem?_getD, List.getD_eq_getElem?_getD, List.getElem?_drop]
  rfl
theorem reOut_bd {R : RSt} (ho : ROk R) (q size draw : Int) : -9223372036854775808 ≤ (R.reOut q size draw).1 ∧ (R.reOut q size draw).1 ≤ 9223372036854775807 := by
  have := mOut_bd ho size draw
  unfold RSt.reOut
  split
  · exact ⟨by show (-9223372036854775808 : Int) ≤ 0; omega, by show (0 : Int) ≤ 9223372036854775807; omega⟩
  · omega
theorem reBad_zero (R : RSt) : ¬ R.reBad 0 := fun e => by
  unfold RSt.reBad at e
  exact e.1 rfl
theorem re_zero (R : RSt) (size draw site : Int) : R.re 0 size draw site = mR R size draw site := by
  unfold RSt.re
  rw [if_neg (reBad_zero R), if_pos (.inr rfl)]
theorem reOut_zero (R : RSt) (size draw : Int) : R.reOut 0 size draw = mOut R size draw := by
  unfold RSt.reOut
  rw [if_neg (reBad_zero R)]

set_option maxRecDepth 100000 in
set_option maxHeartbeats 3200000 in
theorem sgive_malloc (F : SFix) (wB w : World) (vl vm vn : Value) (da : Option Addr) (dcap : Nat) (S : MS) (ka kb : Nat) (c : Int) (h : SRep F wB w vl vm vn da dcap S) (hka : ka < 8) (hkb : kb < 8) (hdn : S.drawn ≤ 1048576) (hL : S.R.log.length ≤ 1048576) (hM : S.R.marks.length ≤ 1099511627776) :
    Calls Tryz.prog 35 #[.pointer (some ⟨F.sb, 0, none⟩), .agg #[.int .i64 11, .int .i64 (ka : Int), .int .i64 (kb : Int), .int .i64 c]] w fun e w' => e = .returned (.tuple #[]) ∧ SDone F wB w' (dMalloc F.ds S ka kb) := by
  obtain ⟨wa, hwa⟩ : ∃ wa, wa = w.alloc (.cells #[.int .i64 11, .int .i64 (ka : Int), .int .i64 (kb : Int), .int .i64 c] 60) := ⟨_, rfl⟩
  have hbl : Below w.heap.size w wa := by rw [hwa]; exact (Below.refl _ _).alloc (Nat.le_refl _) _
  have HX : Hid (Blk wa w.heap.size 60 [.int .i64 11, .int .i64 (ka : Int), .int .i64 (kb : Int), .int .i64 c]) := by show Blk _ _ _ _; rw [hwa]; exact Blk.alloc _ _ _
  have HM := hide2 (h.under hbl)
  have hxsb : w.heap.size ≠ F.sb := by have := h.blk.lt; omega
  have kaI : (ka : Int) < 8 := by omega
  have kbI : (kb : Int) < 8 := by omega
  have x0 := HX.out.cell (j := 0) rfl
  have c15 := HM.out.c15
  have hol := HX.out.lt
  have hsl := HM.out.blk.lt
  have HSIM := hide2 h.sim
  have HROK := hide2 h.rok
  have HNF0 : Hid (¬ RFoot F.ph F.vc vl vm w.heap.size) := fun e => by have := h.heap.foot_lt2 e; omega
  have hwB := h.below.size
  clear h hbl
  go_enter Tryz.func35, Tryz.ntmps35
  go_upto_region 1 with (fail)
  rw [← hwa]
  clear hwa
  by_cases hdr : S.drawn < F.ds.length
  · have HDR := hide2 hdr
    obtain ⟨g, off, hda, hg, hd0, hn1, hn2⟩ := HM.out.draw0 hdr
    subst hda
    unfold maxLen at hn2
    obtain ⟨dd, HDD⟩ : ∃ dd, Hid (F.ds.getD S.drawn 0 = dd) := ⟨_, hide2 rfl⟩
    rw [HDD.out] at hd0
    have HD : Hid (dMalloc F.ds S ka kb = (S.drew.heap (mR S.R (rg S.r kb) dd S.pc)).reg ka (mOut S.R (rg S.r kb) dd).1) := by show _ = _; rw [← HDD.out]; unfold dMalloc; rw [if_pos hdr]
    generalize hS' : dMalloc F.ds S ka kb = S' at *
    have HS' := hide2 hS'
    clear hS'
    obtain ⟨nd, hnd⟩ : ∃ nd, F.ds.length - S.drawn = nd := ⟨_, rfl⟩
    have hnp : 0 < nd := by omega
    rw [hnd] at c15 hn1
    have HND := hide2 hnd
    have hnz : ((nd : Int) == 0) = false := by rw [beq_eq_false_iff_ne]; omega
    have c21 := HM.out.c21
    have f15 := HM.out.blk.frozen 15
    have f21 := HM.out.blk.frozen 21
    have hgs : g ≠ F.sb := by have := HM.out.hm; omega
    clear hdr hnd
    go_upto_region 6 with (fail)
    obtain ⟨wb, hwb⟩ : ∃ wb, wb = (wa.setCell ⟨F.sb, 15, none⟩ (.slice (if dcap = 1 then some ⟨g, off, none⟩ else some ⟨g, off + 1, none⟩) (nd - 1) (dcap - 1))).setCell ⟨F.sb, 21, none⟩ (.int .i64 ((S.drawn : Int) + 1)) := ⟨_, rfl⟩
    rw [← hwb]
    have HM1 : Hid (SRep F wB wb vl vm vn (if dcap = 1 then some ⟨g, off, none⟩ else some ⟨g, off + 1, none⟩) (dcap - 1) S.drew) := by show SRep _ _ _ _ _ _ _ _ _; rw [hwb]; exact HM.out.draws HDR.out HND.out rfl
    have HX1 : Hid (Blk wb w.heap.size 60 [.int .i64 11, .int .i64 (ka : Int), .int .i64 (kb : Int), .int .i64 c]) := by show Blk _ _ _ _; rw [hwb]; exact HX.out.kept (((Kept.refl wa (· = F.sb)).setCell _ _ rfl).setCell _ _ rfl) hxsb
    have HNF : Hid (¬ RFoot F.ph F.vc vl vm w.heap.size) := HNF0.out
    clear hwb c15 c21 f15 f21 x0 hd0 hol hsl HM HX hgs hg hn1 hn2 hnp hnz HND
    generalize (if dcap = 1 then some (⟨g, off, none⟩ : Addr) else some ⟨g, off + 1, none⟩) = da1 at *
    generalize dcap - 1 = dcap1 at *
    have hsl := HM1.out.blk.lt
    have hol := HX1.out.lt
    have x0 := HX1.out.cell (j := 0) rfl
    have x2 := HX1.out.cell (j := 2) rfl
    have rb : wb.cell? ⟨F.sb, 6 + kb, none⟩ = some (.int .i64 (rg S.r kb)) := HM1.out.reg kb hkb
    have c20 : wb.cell? ⟨F.sb, 20, none⟩ = some (.int .i64 S.pc) := HM1.out.c20
    have c5 := HM1.out.c2
    have hrbb : -9223372036854775808 ≤ rg S.r kb ∧ rg S.r kb ≤ 9223372036854775807 := HM1.out.rbd kb hkb
    generalize hpc : (S.pc : Int) = pc at *
    generalize hqb : rg S.r kb = qb at *
    have HD2 : Hid (S' = if (if (S.drew.R.reOut 0 qb dd).2 = 3 ∨ (S.drew.R.reOut 0 qb dd).2 = 4 then 0 else (S.drew.R.reOut 0 qb dd).2) = 0 then (S.drew.heap (S.drew.R.re 0 qb dd pc)).reg ka (S.drew.R.reOut 0 qb dd).1 else (S.drew.heap (S.drew.R.re 0 qb dd pc)).fault (rblame S.drew.R 0)) := by
      show _ = _
      have hz := mOut_err HROK.out qb dd
      have e1 : S.drew.R.reOut 0 qb dd = mOut S.R qb dd := reOut_zero _ _ _
      have e2 : S.drew.R.re 0 qb dd pc = mR S.R qb dd pc := re_zero _ _ _ _
      rw [e1, e2, HD.out]
      rcases hz with hz | hz | hz <;> rw [hz] <;> simp
    clear HD
    have HD := HD2
    clear HD2
    go_upto_region 7 with (fail)
    go_quiet (fail)
    obtain ⟨wq, hwq⟩ : ∃ wz, wz = wb.drewN nq := ⟨_, rfl⟩
    rw [← hwq]
    have hbb : Below wb.heap.size wb wq := by rw [hwq]; exact below_drewN (Below.refl _ _) _
    have HM2 := hide2 (HM1.out.under hbb)
    have HX2 := hide2 (HX1.out.below hbb HX1.out.lt)
    clear hwq hbb nq hsl hol HM1 HX1 x0 x2 rb c20 c5
    have hsl := HM2.out.blk.lt
    have hol := HX2.out.lt
    have x0 := HX2.out.cell (j := 0) rfl
    have c5 := HM2.out.c2
    have c20 : wq.cell? ⟨F.sb, 20, none⟩ = some (.int .i64 pc) := HM2.out.c20.trans (by rw [← hpc]; rfl)
    obtain ⟨rp0, HRP0⟩ : ∃ rp, Hid (rblame S.drew.R 0 = rp) := ⟨_, hide2 rfl⟩
    rw [HRP0.out] at HD
    obtain ⟨rp, hrp⟩ : ∃ rp, rp0 = rp := ⟨_, rfl⟩
    have HRP : Hid (rblame S.drew.R 0 = rp) := by rw [← hrp]; exact HRP0
    rw [hrp] at HD
    clear hrp HRP0
    go_upto_region 12 with (go_at_call 37; refine (HM2.out.blames (w' := wq) 0 (by omega) (Below.refl _ _)).mono ?_; rw [HRP.out]; rintro e1 w3 ⟨v, rfl, hn⟩; obtain ⟨na, ncap, hv, -, -, -⟩ := row_open hn.row; subst hv; have HNR := hide2 hn; clear hn; unfold rptV rptCells)
    obtain ⟨w5, hw5⟩ : ∃ w5, w5 = w3.alloc (.cells (rptCells rp (.slice na rp.near.length ncap)).toArray 26) := ⟨_, rfl⟩
    have HA : Hid (RptAt wq rp w3.heap.size (.slice na rp.near.length ncap) w5) := by show RptAt _ _ _ _ _; rw [hw5]; exact RptAt.behind HNR.out
    unfold rptCells at hw5
    rw [← hw5]
    obtain ⟨pb, hpb⟩ : ∃ pb, pb = w3.heap.size := ⟨_, rfl⟩
    rw [← hpb] at HA ⊢
    have HM5 := hide2 (HM2.out.under HA.out.near.below)
    have HX5 := hide2 (HX2.out.below HA.out.near.below HX2.out.lt)
    clear hw5 hpb HNR hsl hol x0 c5 c20
    have hsl := HM5.out.blk.lt
    have hol := HX5.out.lt
    have c5 := HM5.out.c2
    have c20 : w5.cell? ⟨F.sb, 20, none⟩ = some (.int .i64 pc) := HM5.out.c20.trans (by rw [← hpc]; rfl)
    go_region_held3 (fun w' => w'.cell? ⟨F.sb, 5, none⟩ = some (.pointer (some ⟨F.ph, 0, none⟩)) ∧ w'.cell? ⟨F.sb, 20, none⟩ = some (.int .i64 pc)) (go_keep)
      (first | (go_at_call 58; refine (rt_realloc F.ph F.vc vl vm S.drew.R w5.drew (HM5.out.under ((Below.refl _ _).drew)).heap HROK.out (by show (S.R.log.length + 2) * 48 ≤ _; omega) (by show (S.R.marks.length + 65536) * 24 ≤ _; omega) 0 qb dd pc (by omega)).mono ?_; rintro e1 w6 ⟨vl6, vm6, rfl, hg6⟩; have HM6 := hide2 ((HM5.out.under ((Below.refl _ _).drew)).call hg6 (RGood.re HSIM.out 0 qb dd pc).sim); have HX6 := hide2 ((HX5.out.below ((Below.refl _ _).drew) hol).kept hg6.kept HNF.out); have HR6 := hide2 ((HA.out.later ((Below.refl _ _).drew)).called HM2.out hg6); clear hg6; have j5 := HM6.out.c2; have j20 : w6.cell? ⟨F.sb, 20, none⟩ = some (.int .i64 pc) := HM6.out.c20.trans (by rw [← hpc]; rfl)))
    clear c5 c20 j5 j20 HM2 HX2 HM5 HX5 HA
    have hub : -9223372036854775808 ≤ (S.drew.R.reOut 0 qb dd).1 ∧ (S.drew.R.reOut 0 qb dd).1 ≤ 9223372036854775807 := reOut_bd HROK.out _ _ _
    generalize (S.drew.R.reOut 0 qb dd).1 = u at *
    generalize (S.drew.R.reOut 0 qb dd).2 = er at *
    have r0 := HR6.out.blk.cell (j := 0) rfl
    have r1 := HR6.out.blk.cell (j := 1) rfl
    have r2 := HR6.out.blk.cell (j := 2) rfl
    have r3 := HR6.out.blk.cell (j := 3) rfl
    have r4 := HR6.out.blk.cell (j := 4) rfl
    have r5 := HR6.out.blk.cell (j := 5) rfl
    have r6 := HR6.out.blk.cell (j := 6) rfl
    have r7 := HR6.out.blk.cell (j := 7) rfl
    have r8 := HR6.out.blk.cell (j := 8) rfl
    have r9 := HR6.out.blk.cell (j := 9) rfl
    by_cases h3 : er = 3
    · subst h3
      go_upto_region 16 with (go_at_call 38; refine (HM6.out.faulting HR6.out 0).mono ?_; rintro e4 w7 ⟨rfl, ⟨vn7, hm7⟩, hk7⟩; have HM7 := hide2 hm7; have HX7 := hide2 (HX6.out.kept hk7 hxsb); clear hm7 hk7)
      clear r0 r1 r2 r3 r4 r5 r6 r7 r8 r9
      have x1 := HX7.out.cell (j := 1) rfl
      have ra := HM7.out.reg ka hka
      have raf := HM7.out.blk.frozen (6 + ka)
      go_region
      all_goals go_end0
      all_goals exact ⟨rfl, by rw [HS'.out]; exact HM7.out.last ka hka u (by omega) (by omega) ((Below.refl _ _).drew) (HD.out.trans (by simp))⟩
    by_cases h4 : er = 4
    · subst h4
      go_upto_region 16 with (go_at_call 38; refine (HM6.out.faulting HR6.out 0).mono ?_; rintro e4 w7 ⟨rfl, ⟨vn7, hm7⟩, hk7⟩; have HM7 := hide2 hm7; have HX7 := hide2 (HX6.out.kept hk7 hxsb); clear hm7 hk7)
      clear r0 r1 r2 r3 r4 r5 r6 r7 r8 r9
      have x1 := HX7.out.cell (j := 1) rfl
      have ra := HM7.out.reg ka hka
      have raf := HM7.out.blk.frozen (6 + ka)
      go_region
      all_goals go_end0
      all_goals exact ⟨rfl, by rw [HS'.out]; exact HM7.out.last ka hka u (by omega) (by omega) ((Below.refl _ _).drew) (HD.out.trans (by simp))⟩
    have h3b : (er == 3) = false := by rw [beq_eq_false_iff_ne]; exact h3
    have h4b : (er == 4) = false := by rw [beq_eq_false_iff_ne]; exact h4
    have HD2 : Hid (S' = if er = 0 then (S.drew.heap (S.drew.R.re 0 qb dd pc)).reg ka u else (S.drew.heap (S.drew.R.re 0 qb dd pc)).fault rp) := by show _ = _; rw [HD.out, if_neg (show ¬ (er = 3 ∨ er = 4) by omega)]
    clear h3 h4 HD
    go_upto_region 16 with (go_at_call 38; refine (HM6.out.faulting HR6.out er).mono ?_; rintro e4 w7 ⟨rfl, ⟨vn7, hm7⟩, hk7⟩; have HM7 := hide2 hm7; have HX7 := hide2 (HX6.out.kept hk7 hxsb); clear hm7 hk7)
    clear r0 r1 r2 r3 r4 r5 r6 r7 r8 r9
    have x1 := HX7.out.cell (j := 1) rfl
    have ra := HM7.out.reg ka hka
    have raf := HM7.out.blk.frozen (6 + ka)
    go_region
    all_goals go_end0
    all_goals exact ⟨rfl, by rw [HS'.out]; exact HM7.out.last ka hka u (by omega) (by omega) ((Below.refl _ _).drew) HD2.out⟩
  · have HD : Hid (dMalloc F.ds S ka kb = S.ends 4) := by show _ = _; unfold dMalloc; rw [if_neg hdr]
    have hnd : F.ds.length - S.drawn = 0 := by omega
    rw [hnd] at c15
    have c17 := HM.out.c17
    have f17 := HM.out.blk.frozen 17
    clear hdr hnd
    go_wp2
    refine bodyPost_ret (v := .tuple #[]) (results_none Tryz.results35 _ _ _) rfl ?_
    exact ⟨rfl, SDone.of (by rw [HD.out]; exact HM.out.setEn 4)⟩

set_option maxRecDepth 100000 in
set_option maxHeartbeats 3200000 in
theorem sgive_realloc (F : SFix) (wB w : World) (vl vm vn : Value) (da : Option Addr) (dcap : Nat) (S : MS) (ka kb kc : Nat) (h : SRep F wB w vl vm vn da dcap S) (hka : ka < 8) (hkb : kb < 8) (hkc : kc < 8) (hdn : S.drawn ≤ 1048576) (hL : S.R.log.length ≤ 1048576) (hM : S.R.marks.length ≤ 1099511627776) :
    Calls Tryz.prog 35 #[.pointer (some ⟨F.sb, 0, none⟩), .agg #[.int .i64 13, .int .i64 (ka : Int), .int .i64 (kb : Int), .int .i64 (kc : Int)]] w fun e w' => e = .returned (.tuple #[]) ∧ SDone F wB w' (dRealloc F.ds S ka kb kc) := by
  obtain ⟨wa, hwa⟩ : ∃ wa, wa = w.alloc (.cells #[.int .i64 13, .int .i64 (ka : Int), .int .i64 (kb : Int), .int .i64 (kc : Int)] 60) := ⟨_, rfl⟩
  have hbl : Below w.heap.size w wa := by rw [hwa]; exact (Below.refl _ _).alloc (Nat.le_refl _) _
  have HX : Hid (Blk wa w.heap.size 60 [.int .i64 13, .int .i64 (ka : Int), .int .i64 (kb : Int), .int .i64 (kc : Int)]) := by show Blk _ _ _ _; rw [hwa]; exact Blk.alloc _ _ _
  have HM := hide2 (h.under hbl)
  have hxsb : w.heap.size ≠ F.sb := by have := h.blk.lt; omega
  have kaI : (ka : Int) < 8 := by omega
  have kbI : (kb : Int) < 8 := by omega
  have kcI : (kc : Int) < 8 := by omega
  have x0 := HX.out.cell (j := 0) rfl
  have c15 := HM.out.c15
  have hol := HX.out.lt
  have hsl := HM.out.blk.lt
  have HSIM := hide2 h.sim
  have HROK := hide2 h.rok
  have HNF0 : Hid (¬ RFoot F.ph F.vc vl vm w.heap.size) := fun e => by have := h.heap.foot_lt2 e; omega
  have hwB := h.below.size
  clear h hbl
  go_enter Tryz.func35, Tryz.ntmps35
  go_upto_region 1 with (fail)
  rw [← hwa]
  clear hwa
  by_cases hdr : S.drawn < F.ds.length
  · have HDR := hide2 hdr
    obtain ⟨g, off, hda, hg, hd0, hn1, hn2⟩ := HM.out.draw0 hdr
    subst hda
    unfold maxLen at hn2
    obtain ⟨dd, HDD⟩ : ∃ dd, Hid (F.ds.getD S.drawn 0 = dd) := ⟨_, hide2 rfl⟩
    rw [HDD.out] at hd0
    have HD : Hid (dRealloc F.ds S ka kb kc = if S.R.reBad (rg S.r kb) then S.drew.fault (rblame S.R (rg S.r kb)) else (S.drew.heap (S.R.re (rg S.r kb) (rg S.r kc) dd S.pc)).reg ka (mOut S.R (rg S.r kc) dd).1) := by show _ = _; rw [← HDD.out]; unfold dRealloc; rw [if_pos hdr]
    generalize hS' : dRealloc F.ds S ka kb kc = S' at *
    have HS' := hide2 hS'
    clear hS'
    obtain ⟨nd, hnd⟩ : ∃ nd, F.ds.length - S.drawn = nd := ⟨_, rfl⟩
    have hnp : 0 < nd := by omega
    rw [hnd] at c15 hn1
    have HND := hide2 hnd
    have hnz : ((nd : Int) == 0) = false := by rw [beq_eq_false_iff_ne]; omega
    have c21 := HM.out.c21
    have f15 := HM.out.blk.frozen 15
    have f21 := HM.out.blk.frozen 21
    have hgs : g ≠ F.sb := by have := HM.out.hm; omega
    clear hdr hnd
    go_upto_region 6 with (fail)
    obtain ⟨wb, hwb⟩ : ∃ wb, wb = (wa.setCell ⟨F.sb, 15, none⟩ (.slice (if dcap = 1 then some ⟨g, off, none⟩ else some ⟨g, off + 1, none⟩) (nd - 1) (dcap - 1))).setCell ⟨F.sb, 21, none⟩ (.int .i64 ((S.drawn : Int) + 1)) := ⟨_, rfl⟩
    rw [← hwb]
    have HM1 : Hid (SRep F wB wb vl vm vn (if dcap = 1 then some ⟨g, off, none⟩ else some ⟨g, off + 1, none⟩) (dcap - 1) S.drew) := by show SRep _ _ _ _ _ _ _ _ _; rw [hwb]; exact HM.out.draws HDR.out HND.out rfl
    have HX1 : Hid (Blk wb w.heap.size 60 [.int .i64 13, .int .i64 (ka : Int), .int .i64 (kb : Int), .int .i64 (kc : Int)]) := by show Blk _ _ _ _; rw [hwb]; exact HX.out.kept (((Kept.refl wa (· = F.sb)).setCell _ _ rfl).setCell _ _ rfl) hxsb
    have HNF : Hid (¬ RFoot F.ph F.vc vl vm w.heap.size) := HNF0.out
    clear hwb c15 c21 f15 f21 x0 hd0 hol hsl HM HX hgs hg hn1 hn2 hnp hnz HND
    generalize (if dcap = 1 then some (⟨g, off, none⟩ : Addr) else some ⟨g, off + 1, none⟩) = da1 at *
    generalize dcap - 1 = dcap1 at *
    have hsl := HM1.out.blk.lt
    have hol := HX1.out.lt
    have x0 := HX1.out.cell (j := 0) rfl
    have x2 := HX1.out.cell (j := 2) rfl
    have rb : wb.cell? ⟨F.sb, 6 + kb, none⟩ = some (.int .i64 (rg S.r kb)) := HM1.out.reg kb hkb
    have c20 : wb.cell? ⟨F.sb, 20, none⟩ = some (.int .i64 S.pc) := HM1.out.c20
    have c5 := HM1.out.c2
    have hrbb : -9223372036854775808 ≤ rg S.r kb ∧ rg S.r kb ≤ 9223372036854775807 := HM1.out.rbd kb hkb
    generalize hpc : (S.pc : Int) = pc at *
    generalize hqb : rg S.r kb = qb at *
    have x3 := HX1.out.cell (j := 3) rfl
    have rc : wb.cell? ⟨F.sb, 6 + kc, none⟩ = some (.int .i64 (rg S.r kc)) := HM1.out.reg kc hkc
    generalize hqc : rg S.r kc = qc at *
    have HD2 : Hid (S' = if (if (S.drew.R.reOut qb qc dd).2 = 3 ∨ (S.drew.R.reOut qb qc dd).2 = 4 then 0 else (S.drew.R.reOut qb qc dd).2) = 0 then (S.drew.heap (S.drew.R.re qb qc dd pc)).reg ka (S.drew.R.reOut qb qc dd).1 else (S.drew.heap (S.drew.R.re qb qc dd pc)).fault (rblame S.drew.R qb)) := by
      show _ = _
      rw [HD.out]
      by_cases hbad : S.R.reBad qb
      · have e1 : S.drew.R.reOut qb qc dd = (0, (Ref.block S.R.st S.R.cls S.R.log qb).2.2) := if_pos hbad
        have e2 : S.drew.R.re qb qc dd pc = S.R := if_pos hbad
        have hb := hbad
        unfold RSt.reBad at hb
        have hz := block_err S.R.st S.R.cls S.R.log qb
        rw [e1, e2, if_pos hbad]
        simp only
        rw [if_neg (show ¬ ((Ref.block S.R.st S.R.cls S.R.log qb).2.2 = 3 ∨ (Ref.block S.R.st S.R.cls S.R.log qb).2.2 = 4) by omega), if_neg hb.2]
        rfl
      · have e1 : S.drew.R.reOut qb qc dd = mOut S.R qc dd := if_neg hbad
        have hz := mOut_err HROK.out qc dd
        rw [e1, if_neg hbad]
        rcases hz with hz | hz | hz <;> rw [hz] <;> simp <;> rfl
    clear HD
    have HD := HD2
    clear HD2
    go_upto_region 7 with (fail)
    go_quiet (fail)
    obtain ⟨wq, hwq⟩ : ∃ wz, wz = wb.drewN nq := ⟨_, rfl⟩
    rw [← hwq]
    have hbb : Below wb.heap.size wb wq := by rw [hwq]; exact below_drewN (Below.refl _ _) _
    have HM2 := hide2 (HM1.out.under hbb)
    have HX2 := hide2 (HX1.out.below hbb HX1.out.lt)
    clear hwq hbb nq hsl hol HM1 HX1 x0 x2 x3 rb rc c20 c5
    have hsl := HM2.out.blk.lt
    have hol := HX2.out.lt
    have x0 := HX2.out.cell (j := 0) rfl
    have x2 := HX2.out.cell (j := 2) rfl
    have x3 := HX2.out.cell (j := 3) rfl
    have c5 := HM2.out.c2
    have c20 : wq.cell? ⟨F.sb, 20, none⟩ = some (.int .i64 pc) := HM2.out.c20.trans (by rw [← hpc]; rfl)
    have rb : wq.cell? ⟨F.sb, 6 + kb, none⟩ = some (.int .i64 qb) := (HM2.out.reg kb hkb).trans (by rw [← hqb]; rfl)
    have rc : wq.cell? ⟨F.sb, 6 + kc, none⟩ = some (.int .i64 qc) := (HM2.out.reg kc hkc).trans (by rw [← hqc]; rfl)
    go_upto_region 9 with (fail)
    go_quiet (fail)
    obtain ⟨wr, hwr⟩ : ∃ wz, wz = wq.drewN nq := ⟨_, rfl⟩
    rw [← hwr]
    have hbb : Below wq.heap.size wq wr := by rw [hwr]; exact below_drewN (Below.refl _ _) _
    have HM3 := hide2 (HM2.out.under hbb)
    have HX3 := hide2 (HX2.out.below hbb HX2.out.lt)
    clear hwr hbb nq hsl hol HM2 HX2 x0 x2 x3 rb rc c20 c5
    have hsl := HM3.out.blk.lt
    have hol := HX3.out.lt
    have x3 := HX3.out.cell (j := 3) rfl
    have c5 := HM3.out.c2
    have c20 : wr.cell? ⟨F.sb, 20, none⟩ = some (.int .i64 pc) := HM3.out.c20.trans (by rw [← hpc]; rfl)
    have rc : wr.cell? ⟨F.sb, 6 + kc, none⟩ = some (.int .i64 qc) := (HM3.out.reg kc hkc).trans (by rw [← hqc]; rfl)
    go_upto_region 10 with (fail)
    go_quiet (fail)
    obtain ⟨ws, hws⟩ : ∃ wz, wz = wr.drewN nq := ⟨_, rfl⟩
    rw [← hws]
    have hbb : Below wr.heap.size wr ws := by rw [hws]; exact below_drewN (Below.refl _ _) _
    have HM4 := hide2 (HM3.out.under hbb)
    have HX4 := hide2 (HX3.out.below hbb HX3.out.lt)
    clear hws hbb nq hsl hol HM3 HX3 x3 rc c20 c5
    have hsl := HM4.out.blk.lt
    have hol := HX4.out.lt
    have c5 := HM4.out.c2
    have c20 : ws.cell? ⟨F.sb, 20, none⟩ = some (.int .i64 pc) := HM4.out.c20.trans (by rw [← hpc]; rfl)
    obtain ⟨rp0, HRP0⟩ : ∃ rp, Hid (rblame S.drew.R qb = rp) := ⟨_, hide2 rfl⟩
    rw [HRP0.out] at HD
    obtain ⟨rp, hrp⟩ : ∃ rp, rp0 = rp := ⟨_, rfl⟩
    have HRP : Hid (rblame S.drew.R qb = rp) := by rw [← hrp]; exact HRP0
    rw [hrp] at HD
    clear hrp HRP0
    go_upto_region 12 with (go_at_call 37; refine (HM4.out.blames (w' := ws) qb (by omega) (Below.refl _ _)).mono ?_; rw [HRP.out]; rintro e1 w3 ⟨v, rfl, hn⟩; obtain ⟨na, ncap, hv, -, -, -⟩ := row_open hn.row; subst hv; have HNR := hide2 hn; clear hn; unfold rptV rptCells)
    obtain ⟨w5, hw5⟩ : ∃ w5, w5 = w3.alloc (.cells (rptCells rp (.slice na rp.near.length ncap)).toArray 26) := ⟨_, rfl⟩
    have HA : Hid (RptAt ws rp w3.heap.size (.slice na rp.near.length ncap) w5) := by show RptAt _ _ _ _ _; rw [hw5]; exact RptAt.behind HNR.out
    unfold rptCells at hw5
    rw [← hw5]
    obtain ⟨pb, hpb⟩ : ∃ pb, pb = w3.heap.size := ⟨_, rfl⟩
    rw [← hpb] at HA ⊢
    have HM5 := hide2 (HM4.out.under HA.out.near.below)
    have HX5 := hide2 (HX4.out.below HA.out.near.below HX4.out.lt)
    clear hw5 hpb HNR hsl hol c5 c20
    have hsl := HM5.out.blk.lt
    have hol := HX5.out.lt
    have c5 := HM5.out.c2
    have c20 : w5.cell? ⟨F.sb, 20, none⟩ = some (.int .i64 pc) := HM5.out.c20.trans (by rw [← hpc]; rfl)
    go_region_held3 (fun w' => w'.cell? ⟨F.sb, 5, none⟩ = some (.pointer (some ⟨F.ph, 0, none⟩)) ∧ w'.cell? ⟨F.sb, 20, none⟩ = some (.int .i64 pc)) (go_keep)
      (first | (go_at_call 58; refine (rt_realloc F.ph F.vc vl vm S.drew.R w5.drew (HM5.out.under ((Below.refl _ _).drew)).heap HROK.out (by show (S.R.log.length + 2) * 48 ≤ _; omega) (by show (S.R.marks.length + 65536) * 24 ≤ _; omega) qb qc dd pc (by omega)).mono ?_; rintro e1 w6 ⟨vl6, vm6, rfl, hg6⟩; have HM6 := hide2 ((HM5.out.under ((Below.refl _ _).drew)).call hg6 (RGood.re HSIM.out qb qc dd pc).sim); have HX6 := hide2 ((HX5.out.below ((Below.refl _ _).drew) hol).kept hg6.kept HNF.out); have HR6 := hide2 ((HA.out.later ((Below.refl _ _).drew)).called HM4.out hg6); clear hg6; have j5 := HM6.out.c2; have j20 : w6.cell? ⟨F.sb, 20, none⟩ = some (.int .i64 pc) := HM6.out.c20.trans (by rw [← hpc]; rfl)))
    clear c5 c20 j5 j20 HM4 HX4 HM5 HX5 HA
    have hub : -9223372036854775808 ≤ (S.drew.R.reOut qb qc dd).1 ∧ (S.drew.R.reOut qb qc dd).1 ≤ 9223372036854775807 := reOut_bd HROK.out _ _ _
    generalize (S.drew.R.reOut qb qc dd).1 = u at *
    generalize (S.drew.R.reOut qb qc dd).2 = er at *
    have r0 := HR6.out.blk.cell (j := 0) rfl
    have r1 := HR6.out.blk.cell (j := 1) rfl
    have r2 := HR6.out.blk.cell (j := 2) rfl
    have r3 := HR6.out.blk.cell (j := 3) rfl
    have r4 := HR6.out.blk.cell (j := 4) rfl
    have r5 := HR6.out.blk.cell (j := 5) rfl
    have r6 := HR6.out.blk.cell (j := 6) rfl
    have r7 := HR6.out.blk.cell (j := 7) rfl
    have r8 := HR6.out.blk.cell (j := 8) rfl
    have r9 := HR6.out.blk.cell (j := 9) rfl
    by_cases h3 : er = 3
    · subst h3
      go_upto_region 16 with (go_at_call 38; refine (HM6.out.faulting HR6.out 0).mono ?_; rintro e4 w7 ⟨rfl, ⟨vn7, hm7⟩, hk7⟩; have HM7 := hide2 hm7; have HX7 := hide2 (HX6.out.kept hk7 hxsb); clear hm7 hk7)
      clear r0 r1 r2 r3 r4 r5 r6 r7 r8 r9
      have x1 := HX7.out.cell (j := 1) rfl
      have ra := HM7.out.reg ka hka
      have raf := HM7.out.blk.frozen (6 + ka)
      go_region
      all_goals go_end0
      all_goals exact ⟨rfl, by rw [HS'.out]; exact HM7.out.last ka hka u (by omega) (by omega) ((Below.refl _ _).drew) (HD.out.trans (by simp))⟩
    by_cases h4 : er = 4
    · subst h4
      go_upto_region 16 with (go_at_call 38; refine (HM6.out.faulting HR6.out 0).mono ?_; rintro e4 w7 ⟨rfl, ⟨vn7, hm7⟩, hk7⟩; have HM7 := hide2 hm7; have HX7 := hide2 (HX6.out.kept hk7 hxsb); clear hm7 hk7)
      clear r0 r1 r2 r3 r4 r5 r6 r7 r8 r9
      have x1 := HX7.out.cell (j := 1) rfl
      have ra := HM7.out.reg ka hka
      have raf := HM7.out.blk.frozen (6 + ka)
      go_region
      all_goals go_end0
      all_goals exact ⟨rfl, by rw [HS'.out]; exact HM7.out.last ka hka u (by omega) (by omega) ((Below.refl _ _).drew) (HD.out.trans (by simp))⟩
    have h3b : (er == 3) = false := by rw [beq_eq_false_iff_ne]; exact h3
    have h4b : (er == 4) = false := by rw [beq_eq_false_iff_ne]; exact h4
    have HD2 : Hid (S' = if er = 0 then (S.drew.heap (S.drew.R.re qb qc dd pc)).reg ka u else (S.drew.heap (S.drew.R.re qb qc dd pc)).fault rp) := by show _ = _; rw [HD.out, if_neg (show ¬ (er = 3 ∨ er = 4) by omega)]
    clear h3 h4 HD
    go_upto_region 16 with (go_at_call 38; refine (HM6.out.faulting HR6.out er).mono ?_; rintro e4 w7 ⟨rfl, ⟨vn7, hm7⟩, hk7⟩; have HM7 := hide2 hm7; have HX7 := hide2 (HX6.out.kept hk7 hxsb); clear hm7 hk7)
    clear r0 r1 r2 r3 r4 r5 r6 r7 r8 r9
    have x1 := HX7.out.cell (j := 1) rfl
    have ra := HM7.out.reg ka hka
    have raf := HM7.out.blk.frozen (6 + ka)
    go_region
    all_goals go_end0
    all_goals exact ⟨rfl, by rw [HS'.out]; exact HM7.out.last ka hka u (by omega) (by omega) ((Below.refl _ _).drew) HD2.out⟩
  · have HD : Hid (dRealloc F.ds S ka kb kc = S.ends 4) := by show _ = _; unfold dRealloc; rw [if_neg hdr]
    have hnd : F.ds.length - S.drawn = 0 := by omega
    rw [hnd] at c15
    have c17 := HM.out.c17
    have f17 := HM.out.blk.frozen 17
    clear hdr hnd
    go_wp2
    refine bodyPost_ret (v := .tuple #[]) (results_none Tryz.results35 _ _ _) rfl ?_
    exact ⟨rfl, SDone.of (by rw [HD.out]; exact HM.out.setEn 4)⟩
end Go.Proofs.YtjikemhmnkckcabGreat
