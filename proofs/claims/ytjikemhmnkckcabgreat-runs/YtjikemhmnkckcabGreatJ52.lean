import Derived.Test.YtjikemhmnkckcabGreatJ49
/- The document's machine: Move (written by gendoc.py). -/
namespace Go.Proofs.YtjikemhmnkckcabGreat
open Go.RowKit
attribute [local go_sem ↓] Go.wp_at_zero Go.wp_at_succ

/-- Another report in the same box. -/
theorem RptAt.again {w0 w5 w7 : World} {r r2 : Rpt} {rb : Nat} {v v2 : Value} (h : RptAt w0 r rb v w5) (hn : NearRel w5 r2.near v2 w7) :
    RptAt w0 r2 rb v2 ((((((((((w7.setCell ⟨rb, 0, none⟩ (.int .i64 r2.err)).setCell ⟨rb, 1, none⟩ (.int .i64 r2.addr)).setCell ⟨rb, 2, none⟩ (.int .i64 r2.want)).setCell ⟨rb, 3, none⟩ (.int .i64 r2.found)).setCell ⟨rb, 4, none⟩ (.int .i64 r2.state)).setCell ⟨rb, 5, none⟩ (.int .i64 r2.cls)).setCell ⟨rb, 6, none⟩ (.int .i64 r2.slot)).setCell ⟨rb, 7, none⟩ (.int .i64 r2.alloc)).setCell ⟨rb, 8, none⟩ (.int .i64 r2.gone)).setCell ⟨rb, 9, none⟩ v2) := by
  have hl := h.blk.lt
  have hs := h.near.below.size
  exact ⟨blk_set10b (h.blk.below hn.below hl) r2 v2, ⟨below_set10 (h.near.below.trans (hn.below.mono hs)) h.fresh _ _ _ _ _ _ _ _ _ _, row_kept hn.row (fun g hg => heap_set10 w7 (by have := hn.vlo g hg; omega) _ _ _ _ _ _ _ _ _ _), fun g hg => by have := hn.vlo g hg; omega⟩, h.fresh⟩

set_option maxRecDepth 100000 in
set_option maxHeartbeats 3200000 in
theorem stouch_move (F : SFix) (wB w : World) (vl vm vn : Value) (da : Option Addr) (dcap : Nat) (S : MS) (ka kb kc : Nat) (h : SRep F wB w vl vm vn da dcap S) (hka : ka < 8) (hkb : kb < 8) (hkc : kc < 8) (hL : S.R.log.length ≤ 1048576) (hM : S.R.marks.length ≤ 1099511627776) :
    Calls Tryz.prog 40 #[.pointer (some ⟨F.sb, 0, none⟩), .agg #[.int .i64 19, .int .i64 (ka : Int), .int .i64 (kb : Int), .int .i64 (kc : Int)]] w fun e w' => e = .returned (.tuple #[]) ∧ SDone F wB w' (dMove S ka kb kc) := by
  obtain ⟨wa, hwa⟩ : ∃ wa, wa = w.alloc (.cells #[.int .i64 19, .int .i64 (ka : Int), .int .i64 (kb : Int), .int .i64 (kc : Int)] 60) := ⟨_, rfl⟩
  have hbl : Below w.heap.size w wa := by rw [hwa]; exact (Below.refl _ _).alloc (Nat.le_refl _) _
  have HX : Hid (Blk wa w.heap.size 60 [.int .i64 19, .int .i64 (ka : Int), .int .i64 (kb : Int), .int .i64 (kc : Int)]) := by show Blk _ _ _ _; rw [hwa]; exact Blk.alloc _ _ _
  have HM := hide2 (h.under hbl)
  have hxsb : w.heap.size ≠ F.sb := by have := h.blk.lt; omega
  have kaI : (ka : Int) < 8 := by omega
  have kbI : (kb : Int) < 8 := by omega
  have kcI : (kc : Int) < 8 := by omega
  have x0 := HX.out.cell (j := 0) rfl
  have x2 := HX.out.cell (j := 2) rfl
  have x3 := HX.out.cell (j := 3) rfl
  have hra := h.rbd ka hka
  have hrb := h.rbd kb hkb
  have rb := HM.out.reg kb hkb
  have rc := HM.out.reg kc hkc
  have c5 := HM.out.c2
  have hsl := HM.out.blk.lt
  have hol := HX.out.lt
  have HROK := hide2 h.rok
  have HSIM := hide2 h.sim
  have HNF : Hid (¬ RFoot F.ph F.vc vl vm w.heap.size) := fun e => by have := h.heap.foot_lt2 e; omega
  have HD0 : Hid (dMove S ka kb kc = if S.R.moveErr (rg S.r ka) (rg S.r kb) (rg S.r kc) = 0 then S.heap (S.R.move (rg S.r ka) (rg S.r kb) (rg S.r kc)) else if (S.R.access (rg S.r kb) (rg S.r kc)).1 = 0 then S.fault (rexplain S.R (rg S.r ka) (rg S.r kc)) else S.fault (rexplain S.R (rg S.r kb) (rg S.r kc))) := rfl
  generalize dMove S ka kb kc = S' at *
  generalize hqt : rg S.r ka = qt at *
  generalize hqf : rg S.r kb = qf at *
  generalize hn : rg S.r kc = n at *
  obtain ⟨rp, HRP⟩ : ∃ rp, Hid (rexplain S.R qf n = rp) := ⟨_, hide2 rfl⟩
  have HER : Hid (rp.err = (S.R.access qf n).1) := by show _ = _; rw [← HRP.out]; exact rexplain_err _ _ _
  have HM0 : Hid (S.R.moveErr qt qf n ≠ 0 → S.heap (S.R.move qt qf n) = S) := fun e => by
    have : S.R.move qt qf n = S.R := by unfold RSt.move; rw [if_neg e]
    rw [this]; rfl
  clear h hbl
  go_enter Tryz.func40, Tryz.ntmps40
  go_upto_region 1 with (fail)
  rw [← hwa]
  clear hwa
  go_upto_region 20 with (fail)
  go_cut [11] from 13 (fun s w' => ∃ pb v, s = .pointer (some ⟨pb, 0, none⟩) ∧ RptAt wa rp pb v w')
  case first =>
    have mc5 := World.new_ne wa ⟨F.sb, 5, none⟩ c5
    have mx2 := World.new_ne wa ⟨w.heap.size, 2, none⟩ x2
    have mrb := World.new_ne wa ⟨F.sb, 6 + kb, none⟩ rb
    have mx3 := World.new_ne wa ⟨w.heap.size, 3, none⟩ x3
    have mrc := World.new_ne wa ⟨F.sb, 6 + kc, none⟩ rc
    go_region_held3 (fun w' => w'.cell? ⟨F.sb, 5, none⟩ = some (.pointer (some ⟨F.ph, 0, none⟩)) ∧ w'.cell? ⟨w.heap.size, 2, none⟩ = some (.int .i64 (kb : Int)) ∧ w'.cell? ⟨F.sb, 6 + kb, none⟩ = some (.int .i64 qf) ∧ w'.cell? ⟨w.heap.size, 3, none⟩ = some (.int .i64 (kc : Int)) ∧ w'.cell? ⟨F.sb, 6 + kc, none⟩ = some (.int .i64 n)) (go_keep)
      (first
        | (go_at_call 63; refine (HM.out.explains (w' := wa.drew) qf n hrb.2 ((Below.refl _ _).drew)).mono ?_; rw [HRP.out]; rintro e1 w1 ⟨v, rfl, hn⟩; obtain ⟨na, ncap, hv, -, -, -⟩ := row_open hn.row; subst hv; have HB1 : Hid (Below wa.heap.size wa w1) := ⟨hn.below.os, hn.below.tape, hn.below.output, hn.below.size, hn.below.block⟩; have HNR : Hid (NearRel wa rp.near (.slice na rp.near.length ncap) w1) := ⟨HB1.out, hn.row, hn.vlo⟩; have c51 : w1.cell? ⟨F.sb, 5, none⟩ = some (.pointer (some ⟨F.ph, 0, none⟩)) := (HB1.out.cell (p := ⟨F.sb, 5, none⟩) hsl).trans c5; have nc5 := World.new_ne w1 ⟨F.sb, 5, none⟩ c51; have x21 : w1.cell? ⟨w.heap.size, 2, none⟩ = some (.int .i64 (kb : Int)) := (HB1.out.cell (p := ⟨w.heap.size, 2, none⟩) hol).trans x2; have nx2 := World.new_ne w1 ⟨w.heap.size, 2, none⟩ x21; have rb1 : w1.cell? ⟨F.sb, 6 + kb, none⟩ = some (.int .i64 qf) := (HB1.out.cell (p := ⟨F.sb, 6 + kb, none⟩) hsl).trans rb; have nrb := World.new_ne w1 ⟨F.sb, 6 + kb, none⟩ rb1; have x31 : w1.cell? ⟨w.heap.size, 3, none⟩ = some (.int .i64 (kc : Int)) := (HB1.out.cell (p := ⟨w.heap.size, 3, none⟩) hol).trans x3; have nx3 := World.new_ne w1 ⟨w.heap.size, 3, none⟩ x31; have rc1 : w1.cell? ⟨F.sb, 6 + kc, none⟩ = some (.int .i64 n) := (HB1.out.cell (p := ⟨F.sb, 6 + kc, none⟩) hsl).trans rc; have nrc := World.new_ne w1 ⟨F.sb, 6 + kc, none⟩ rc1; unfold rptV rptCells; clear hn)
        | (go_at_call 63; refine (HM.out.explains (w' := (wa.alloc (.cells #[.int .i64 0, .int .i64 0, .int .i64 0, .int .i64 0, .int .i64 0, .int .i64 0, .int .i64 0, .int .i64 0, .int .i64 0, .slice none 0 0] 26)).drew) qf n hrb.2 (((Below.refl _ _).alloc (Nat.le_refl _) _).drew)).mono ?_; rw [HRP.out]; rintro e1 w1 ⟨v, rfl, hn⟩; obtain ⟨na, ncap, hv, -, -, -⟩ := row_open hn.row; subst hv; have hB2 : Below (wa.heap.size + 1) (wa.alloc (.cells (rptCells (Rpt.only 0) (.slice none 0 0)).toArray 26)) w1 := ⟨hn.below.os, hn.below.tape, hn.below.output, by have := hn.below.size; simpa using this, fun b hb => hn.below.block b (by simpa using hb)⟩; have HB1 : Hid (Below wa.heap.size wa w1) := ((Below.refl _ _).alloc (Nat.le_refl _) _).trans (hB2.mono (by omega)); have HRW := hide2 hn.row; have HVL : Hid (∀ g, (Value.slice na rp.near.length ncap).ownBlock = some g → wa.heap.size + 1 ≤ g) := (fun g hg => (by have := hn.vlo g hg; simpa using this)); have HRZ : Hid (Blk w1 wa.heap.size 26 (rptCells (Rpt.only 0) (.slice none 0 0))) := (Blk.alloc wa 26 (rptCells (Rpt.only 0) (.slice none 0 0))).below hB2 (by omega); have rz0 := HRZ.out.cell (j := 0) rfl; have rzf0 := HRZ.out.frozen 0; have rz1 := HRZ.out.cell (j := 1) rfl; have rzf1 := HRZ.out.frozen 1; have rz2 := HRZ.out.cell (j := 2) rfl; have rzf2 := HRZ.out.frozen 2; have rz3 := HRZ.out.cell (j := 3) rfl; have rzf3 := HRZ.out.frozen 3; have rz4 := HRZ.out.cell (j := 4) rfl; have rzf4 := HRZ.out.frozen 4; have rz5 := HRZ.out.cell (j := 5) rfl; have rzf5 := HRZ.out.frozen 5; have rz6 := HRZ.out.cell (j := 6) rfl; have rzf6 := HRZ.out.frozen 6; have rz7 := HRZ.out.cell (j := 7) rfl; have rzf7 := HRZ.out.frozen 7; have rz8 := HRZ.out.cell (j := 8) rfl; have rzf8 := HRZ.out.frozen 8; have rz9 := HRZ.out.cell (j := 9) rfl; have rzf9 := HRZ.out.frozen 9; have hrzl := HRZ.out.lt; have c51 : w1.cell? ⟨F.sb, 5, none⟩ = some (.pointer (some ⟨F.ph, 0, none⟩)) := (HB1.out.cell (p := ⟨F.sb, 5, none⟩) hsl).trans c5; have nc5 := World.new_ne w1 ⟨F.sb, 5, none⟩ c51; have x21 : w1.cell? ⟨w.heap.size, 2, none⟩ = some (.int .i64 (kb : Int)) := (HB1.out.cell (p := ⟨w.heap.size, 2, none⟩) hol).trans x2; have nx2 := World.new_ne w1 ⟨w.heap.size, 2, none⟩ x21; have rb1 : w1.cell? ⟨F.sb, 6 + kb, none⟩ = some (.int .i64 qf) := (HB1.out.cell (p := ⟨F.sb, 6 + kb, none⟩) hsl).trans rb; have nrb := World.new_ne w1 ⟨F.sb, 6 + kb, none⟩ rb1; have x31 : w1.cell? ⟨w.heap.size, 3, none⟩ = some (.int .i64 (kc : Int)) := (HB1.out.cell (p := ⟨w.heap.size, 3, none⟩) hol).trans x3; have nx3 := World.new_ne w1 ⟨w.heap.size, 3, none⟩ x31; have rc1 : w1.cell? ⟨F.sb, 6 + kc, none⟩ = some (.int .i64 n) := (HB1.out.cell (p := ⟨F.sb, 6 + kc, none⟩) hsl).trans rc; have nrc := World.new_ne w1 ⟨F.sb, 6 + kc, none⟩ rc1; unfold rptV rptCells; clear hn hB2))
    · go_wp2
      go_meet
      case rel => exact ⟨_, _, rfl, RptAt.behind HNR.out⟩
    · go_wp2
      go_meet
      case rel => exact ⟨_, _, rfl, RptAt.ahead HRZ.out HB1.out HRW.out HVL.out⟩
  case rest =>
    obtain ⟨pb, vr, rfl, hA⟩ := hcut
    have HA := hide2 hA
    have HM1 := hide2 (HM.out.under hA.near.below)
    have HX1 := hide2 (HX.out.below hA.near.below hol)
    obtain ⟨na, ncap, hv, -, -, -⟩ := row_open hA.near.row
    subst hv
    clear hA c5 x0 x2 x3 rb rc
    generalize wc = w5 at *
    have r0 := HA.out.blk.cell (j := 0) rfl
    have hfr := HA.out.fresh
    have hp1 : pb ≠ F.sb := by omega
    have hp2 : pb ≠ w.heap.size := by omega
    have hp3 : F.sb ≠ pb := fun e => hp1 e.symm
    have hp4 : w.heap.size ≠ pb := fun e => hp2 e.symm
    clear hfr hsl
    by_cases hacc : (S.R.access qf n).1 = 0
    · have he0 : rp.err = 0 := HER.out.trans hacc
      rw [he0] at r0
      obtain ⟨rq, HRQ⟩ : ∃ rq, Hid (rexplain S.R qt n = rq) := ⟨_, hide2 rfl⟩
      have HD : Hid (S' = (S.heap (S.R.move qt qf n)).faults (S.R.moveErr qt qf n) rq) := by
        show _ = _
        rw [HD0.out]
        unfold MS.faults
        by_cases e : S.R.moveErr qt qf n = 0
        · rw [if_pos e, if_pos e]
        · rw [if_neg e, if_neg e, if_pos hacc, HM0.out e, HRQ.out]
      clear hacc he0 HD0 hol
      have hsl := HM1.out.blk.lt
      have hol := HX1.out.lt
      have k5 := HM1.out.c2
      have k1 := HX1.out.cell (j := 1) rfl
      have k2 := HX1.out.cell (j := 2) rfl
      have k3 := HX1.out.cell (j := 3) rfl
      have kra : w5.cell? ⟨F.sb, 6 + ka, none⟩ = some (.int .i64 qt) := (HM1.out.reg ka hka).trans (by rw [← hqt])
      have krb : w5.cell? ⟨F.sb, 6 + kb, none⟩ = some (.int .i64 qf) := (HM1.out.reg kb hkb).trans (by rw [← hqf])
      have krc : w5.cell? ⟨F.sb, 6 + kc, none⟩ = some (.int .i64 n) := (HM1.out.reg kc hkc).trans (by rw [← hn])
      go_upto_region 22 with (fail)
      go_region_held3 (fun w' => w'.cell? ⟨F.sb, 5, none⟩ = some (.pointer (some ⟨F.ph, 0, none⟩)) ∧ w'.cell? ⟨w.heap.size, 1, none⟩ = some (.int .i64 (ka : Int)) ∧ w'.cell? ⟨w.heap.size, 3, none⟩ = some (.int .i64 (kc : Int)) ∧ w'.cell? ⟨F.sb, 6 + ka, none⟩ = some (.int .i64 qt) ∧ w'.cell? ⟨F.sb, 6 + kc, none⟩ = some (.int .i64 n)) (go_keep)
        (first | (go_at_call 63; refine (HM1.out.explains (w' := w5.drew) qt n hra.2 ((Below.refl _ _).drew)).mono ?_; rw [HRQ.out]; rintro e1 w7 ⟨v2, rfl, hn2⟩; obtain ⟨nb, nbcap, hv2, -, -, -⟩ := row_open hn2.row; subst hv2; have HB1 : Hid (Below w5.heap.size w5 w7) := ⟨hn2.below.os, hn2.below.tape, hn2.below.output, hn2.below.size, hn2.below.block⟩; have HNR : Hid (NearRel w5 rq.near (.slice nb rq.near.length nbcap) w7) := ⟨HB1.out, hn2.row, hn2.vlo⟩; have HRZ := hide2 (HA.out.blk.below HB1.out HA.out.blk.lt); have rz0 := HRZ.out.cell (j := 0) rfl; have rzf0 := HRZ.out.frozen 0; have rz1 := HRZ.out.cell (j := 1) rfl; have rzf1 := HRZ.out.frozen 1; have rz2 := HRZ.out.cell (j := 2) rfl; have rzf2 := HRZ.out.frozen 2; have rz3 := HRZ.out.cell (j := 3) rfl; have rzf3 := HRZ.out.frozen 3; have rz4 := HRZ.out.cell (j := 4) rfl; have rzf4 := HRZ.out.frozen 4; have rz5 := HRZ.out.cell (j := 5) rfl; have rzf5 := HRZ.out.frozen 5; have rz6 := HRZ.out.cell (j := 6) rfl; have rzf6 := HRZ.out.frozen 6; have rz7 := HRZ.out.cell (j := 7) rfl; have rzf7 := HRZ.out.frozen 7; have rz8 := HRZ.out.cell (j := 8) rfl; have rzf8 := HRZ.out.frozen 8; have rz9 := HRZ.out.cell (j := 9) rfl; have rzf9 := HRZ.out.frozen 9; have HM7 := hide2 (HM1.out.under HB1.out); have HX7 := hide2 (HX1.out.below HB1.out HX1.out.lt); have j5 := HM7.out.c2; have j1 := HX7.out.cell (j := 1) rfl; have j2 := HX7.out.cell (j := 2) rfl; have j3 := HX7.out.cell (j := 3) rfl; have ja : w7.cell? ⟨F.sb, 6 + ka, none⟩ = some (.int .i64 qt) := (HM7.out.reg ka hka).trans (by rw [← hqt]); have jb : w7.cell? ⟨F.sb, 6 + kb, none⟩ = some (.int .i64 qf) := (HM7.out.reg kb hkb).trans (by rw [← hqf]); have jc : w7.cell? ⟨F.sb, 6 + kc, none⟩ = some (.int .i64 n) := (HM7.out.reg kc hkc).trans (by rw [← hn]); unfold rptV rptCells; clear hn2))
      go_upto_region 23 with (fail)
      obtain ⟨w8, hw8⟩ : ∃ w8, w8 = ((((((((((w7.setCell ⟨pb, 0, none⟩ (.int .i64 rq.err)).setCell ⟨pb, 1, none⟩ (.int .i64 rq.addr)).setCell ⟨pb, 2, none⟩ (.int .i64 rq.want)).setCell ⟨pb, 3, none⟩ (.int .i64 rq.found)).setCell ⟨pb, 4, none⟩ (.int .i64 rq.state)).setCell ⟨pb, 5, none⟩ (.int .i64 rq.cls)).setCell ⟨pb, 6, none⟩ (.int .i64 rq.slot)).setCell ⟨pb, 7, none⟩ (.int .i64 rq.alloc)).setCell ⟨pb, 8, none⟩ (.int .i64 rq.gone)).setCell ⟨pb, 9, none⟩ (.slice nb rq.near.length nbcap)) := ⟨_, rfl⟩
      have HA8 : Hid (RptAt wa rq pb (.slice nb rq.near.length nbcap) w8) := by show RptAt _ _ _ _ _; rw [hw8]; exact HA.out.again HNR.out
      rw [← hw8]
      have HM8 := hide2 (HM.out.under HA8.out.near.below)
      have HX8 := hide2 (HX.out.below HA8.out.near.below HX.out.lt)
      clear hw8 r0 rz0 rz1 rz2 rz3 rz4 rz5 rz6 rz7 rz8 rz9 rzf0 rzf1 rzf2 rzf3 rzf4 rzf5 rzf6 rzf7 rzf8 rzf9 j5 j1 j2 j3 ja jb jc k5 k1 k2 k3 kra krb krc hsl hol HRZ HM7 HX7 HNR HB1 HM1 HX1 HA
      have hsl := HM8.out.blk.lt
      have hol := HX8.out.lt
      have g5 := HM8.out.c2
      have g1 := HX8.out.cell (j := 1) rfl
      have g2 := HX8.out.cell (j := 2) rfl
      have g3 := HX8.out.cell (j := 3) rfl
      have ga : w8.cell? ⟨F.sb, 6 + ka, none⟩ = some (.int .i64 qt) := (HM8.out.reg ka hka).trans (by rw [← hqt])
      have gb : w8.cell? ⟨F.sb, 6 + kb, none⟩ = some (.int .i64 qf) := (HM8.out.reg kb hkb).trans (by rw [← hqf])
      have gc : w8.cell? ⟨F.sb, 6 + kc, none⟩ = some (.int .i64 n) := (HM8.out.reg kc hkc).trans (by rw [← hn])
      go_region_held3 (fun w' => w'.cell? ⟨F.sb, 5, none⟩ = some (.pointer (some ⟨F.ph, 0, none⟩)) ∧ w'.cell? ⟨w.heap.size, 1, none⟩ = some (.int .i64 (ka : Int)) ∧ w'.cell? ⟨w.heap.size, 2, none⟩ = some (.int .i64 (kb : Int)) ∧ w'.cell? ⟨w.heap.size, 3, none⟩ = some (.int .i64 (kc : Int)) ∧ w'.cell? ⟨F.sb, 6 + ka, none⟩ = some (.int .i64 qt) ∧ w'.cell? ⟨F.sb, 6 + kb, none⟩ = some (.int .i64 qf) ∧ w'.cell? ⟨F.sb, 6 + kc, none⟩ = some (.int .i64 n)) (go_keep)
        (first | (go_at_call 66; refine (rt_move F.ph F.vc vl vm S.R w8.drew (HM8.out.under ((Below.refl _ _).drew)).heap HROK.out (by omega) (by omega) qt qf n hra.2 hrb.2).mono ?_; rintro e1 w2 ⟨vl2, vm2, rfl, hg2⟩; have HM2 := hide2 ((HM8.out.under ((Below.refl _ _).drew)).call hg2 (RGood.move HSIM.out qt qf n).sim); have HX2 := hide2 ((HX8.out.below ((Below.refl _ _).drew) hol).kept hg2.kept HNF.out); have HR := hide2 ((HA8.out.later ((Below.refl _ _).drew)).called HM.out hg2); clear hg2; have i5 := HM2.out.c2; have i1 := HX2.out.cell (j := 1) rfl; have i2 := HX2.out.cell (j := 2) rfl; have i3 := HX2.out.cell (j := 3) rfl; have ia : w2.cell? ⟨F.sb, 6 + ka, none⟩ = some (.int .i64 qt) := (HM2.out.reg ka hka).trans (by rw [← hqt]; rfl); have ib : w2.cell? ⟨F.sb, 6 + kb, none⟩ = some (.int .i64 qf) := (HM2.out.reg kb hkb).trans (by rw [← hqf]; rfl); have ic : w2.cell? ⟨F.sb, 6 + kc, none⟩ = some (.int .i64 n) := (HM2.out.reg kc hkc).trans (by rw [← hn]; rfl)))
      clear g5 g1 g2 g3 ga gb gc i5 i1 i2 i3 ia ib ic
      generalize S.R.moveErr qt qf n = er at *
      have s0 := HR.out.blk.cell (j := 0) rfl
      have s1 := HR.out.blk.cell (j := 1) rfl
      have s2 := HR.out.blk.cell (j := 2) rfl
      have s3 := HR.out.blk.cell (j := 3) rfl
      have s4 := HR.out.blk.cell (j := 4) rfl
      have s5 := HR.out.blk.cell (j := 5) rfl
      have s6 := HR.out.blk.cell (j := 6) rfl
      have s7 := HR.out.blk.cell (j := 7) rfl
      have s8 := HR.out.blk.cell (j := 8) rfl
      have s9 := HR.out.blk.cell (j := 9) rfl
      go_wp2_with (go_at_call 38; refine (HM2.out.faulting HR.out er).mono ?_; rintro e4 w6 ⟨rfl, ⟨vn6, hm6⟩, hk6⟩; have HM6 := hide2 hm6; clear hm6 hk6)
      go_end0
      exact ⟨rfl, SDone.of (by rw [HD.out]; exact HM6.out)⟩
    · have hne : (rp.err == 0) = false := by rw [beq_eq_false_iff_ne, HER.out]; exact hacc
      have HD : Hid (S' = (S.heap (S.R.move qt qf n)).faults (S.R.moveErr qt qf n) rp) := by
        show _ = _
        have e : S.R.moveErr qt qf n ≠ 0 := by unfold RSt.moveErr; rw [if_pos hacc]; exact hacc
        rw [HD0.out]
        unfold MS.faults
        rw [if_neg e, if_neg e, if_neg hacc, HM0.out e, HRP.out]
      clear hacc HD0 hol
      go_upto_region 23 with (fail)
      have hsl := HM1.out.blk.lt
      have hol := HX1.out.lt
      have g5 := HM1.out.c2
      have g1 := HX1.out.cell (j := 1) rfl
      have g2 := HX1.out.cell (j := 2) rfl
      have g3 := HX1.out.cell (j := 3) rfl
      have ga : w5.cell? ⟨F.sb, 6 + ka, none⟩ = some (.int .i64 qt) := (HM1.out.reg ka hka).trans (by rw [← hqt])
      have gb : w5.cell? ⟨F.sb, 6 + kb, none⟩ = some (.int .i64 qf) := (HM1.out.reg kb hkb).trans (by rw [← hqf])
      have gc : w5.cell? ⟨F.sb, 6 + kc, none⟩ = some (.int .i64 n) := (HM1.out.reg kc hkc).trans (by rw [← hn])
      go_region_held3 (fun w' => w'.cell? ⟨F.sb, 5, none⟩ = some (.pointer (some ⟨F.ph, 0, none⟩)) ∧ w'.cell? ⟨w.heap.size, 1, none⟩ = some (.int .i64 (ka : Int)) ∧ w'.cell? ⟨w.heap.size, 2, none⟩ = some (.int .i64 (kb : Int)) ∧ w'.cell? ⟨w.heap.size, 3, none⟩ = some (.int .i64 (kc : Int)) ∧ w'.cell? ⟨F.sb, 6 + ka, none⟩ = some (.int .i64 qt) ∧ w'.cell? ⟨F.sb, 6 + kb, none⟩ = some (.int .i64 qf) ∧ w'.cell? ⟨F.sb, 6 + kc, none⟩ = some (.int .i64 n)) (go_keep)
        (first | (go_at_call 66; refine (rt_move F.ph F.vc vl vm S.R w5.drew (HM1.out.under ((Below.refl _ _).drew)).heap HROK.out (by omega) (by omega) qt qf n hra.2 hrb.2).mono ?_; rintro e1 w2 ⟨vl2, vm2, rfl, hg2⟩; have HM2 := hide2 ((HM1.out.under ((Below.refl _ _).drew)).call hg2 (RGood.move HSIM.out qt qf n).sim); have HX2 := hide2 ((HX1.out.below ((Below.refl _ _).drew) hol).kept hg2.kept HNF.out); have HR := hide2 ((HA.out.later ((Below.refl _ _).drew)).called HM.out hg2); clear hg2; have i5 := HM2.out.c2; have i1 := HX2.out.cell (j := 1) rfl; have i2 := HX2.out.cell (j := 2) rfl; have i3 := HX2.out.cell (j := 3) rfl; have ia : w2.cell? ⟨F.sb, 6 + ka, none⟩ = some (.int .i64 qt) := (HM2.out.reg ka hka).trans (by rw [← hqt]; rfl); have ib : w2.cell? ⟨F.sb, 6 + kb, none⟩ = some (.int .i64 qf) := (HM2.out.reg kb hkb).trans (by rw [← hqf]; rfl); have ic : w2.cell? ⟨F.sb, 6 + kc, none⟩ = some (.int .i64 n) := (HM2.out.reg kc hkc).trans (by rw [← hn]; rfl)))
      clear g5 g1 g2 g3 ga gb gc i5 i1 i2 i3 ia ib ic
      generalize S.R.moveErr qt qf n = er at *
      have s0 := HR.out.blk.cell (j := 0) rfl
      have s1 := HR.out.blk.cell (j := 1) rfl
      have s2 := HR.out.blk.cell (j := 2) rfl
      have s3 := HR.out.blk.cell (j := 3) rfl
      have s4 := HR.out.blk.cell (j := 4) rfl
      have s5 := HR.out.blk.cell (j := 5) rfl
      have s6 := HR.out.blk.cell (j := 6) rfl
      have s7 := HR.out.blk.cell (j := 7) rfl
      have s8 := HR.out.blk.cell (j := 8) rfl
      have s9 := HR.out.blk.cell (j := 9) rfl
      go_wp2_with (go_at_call 38; refine (HM2.out.faulting HR.out er).mono ?_; rintro e4 w6 ⟨rfl, ⟨vn6, hm6⟩, hk6⟩; have HM6 := hide2 hm6; clear hm6 hk6)
      go_end0
      exact ⟨rfl, SDone.of (by rw [HD.out]; exact HM6.out)⟩
end Go.Proofs.YtjikemhmnkckcabGreat
