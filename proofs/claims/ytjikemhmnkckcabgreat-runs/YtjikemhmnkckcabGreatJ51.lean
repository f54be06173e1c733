import Derived.Test.YtjikemhmnkckcabGreatJ49
/- The document's machine: Load, Byte, Store, Put (written by gendoc.py). -/
namespace Go.Proofs.YtjikemhmnkckcabGreat
open Go.RowKit
attribute [local go_sem ↓] Go.wp_at_zero Go.wp_at_succ

set_option maxRecDepth 100000 in
set_option maxHeartbeats 3200000 in
theorem stouch_load (F : SFix) (wB w : World) (vl vm vn : Value) (da : Option Addr) (dcap : Nat) (S : MS) (ka kb : Nat) (c : Int) (h : SRep F wB w vl vm vn da dcap S) (hka : ka < 8) (hkb : kb < 8) :
    Calls Tryz.prog 40 #[.pointer (some ⟨F.sb, 0, none⟩), .agg #[.int .i64 15, .int .i64 (ka : Int), .int .i64 (kb : Int), .int .i64 c]] w fun e w' => e = .returned (.tuple #[]) ∧ SDone F wB w' (dLoad S ka kb c 8) := by
  obtain ⟨wa, hwa⟩ : ∃ wa, wa = w.alloc (.cells #[.int .i64 15, .int .i64 (ka : Int), .int .i64 (kb : Int), .int .i64 c] 60) := ⟨_, rfl⟩
  have hbl : Below w.heap.size w wa := by rw [hwa]; exact (Below.refl _ _).alloc (Nat.le_refl _) _
  have HX : Hid (Blk wa w.heap.size 60 [.int .i64 15, .int .i64 (ka : Int), .int .i64 (kb : Int), .int .i64 c]) := by show Blk _ _ _ _; rw [hwa]; exact Blk.alloc _ _ _
  have HM := hide2 (h.under hbl)
  have hxsb : w.heap.size ≠ F.sb := by have := h.blk.lt; omega
  have kaI : (ka : Int) < 8 := by omega
  have kbI : (kb : Int) < 8 := by omega
  have x0 := HX.out.cell (j := 0) rfl
  have x2 := HX.out.cell (j := 2) rfl
  have x3 := HX.out.cell (j := 3) rfl
  have rb := HM.out.reg kb hkb
  have c5 := HM.out.c2
  have hsl := HM.out.blk.lt
  have hol := HX.out.lt
  have HROK := hide2 h.rok
  have hwr := wrap64_i64 (rg S.r kb + c)
  have HD : Hid (dLoad S ka kb c 8 = if (S.R.load (wrap64 (rg S.r kb + c)) 8).2 = 0 then S.reg ka (S.R.load (wrap64 (rg S.r kb + c)) 8).1 else S.fault (rexplain S.R (wrap64 (rg S.r kb + c)) 8)) := rfl
  generalize dLoad S ka kb c 8 = S' at *
  generalize hq0 : rg S.r kb = q0 at *
  generalize hq : wrap64 (q0 + c) = q at *
  have hq2 : IntKind.i64.wrap (q0 + c) = q := by rw [IntKind.wrap_i64]; unfold wrap64 at hq; exact hq
  have hub := mload_bd S.R q 8
  obtain ⟨rp, HRP⟩ : ∃ rp, Hid (rexplain S.R q 8 = rp) := ⟨_, hide2 rfl⟩
  rw [HRP.out] at HD
  clear h hbl
  go_enter Tryz.func40, Tryz.ntmps40
  go_upto_region 1 with (fail)
  rw [← hwa]
  clear hwa
  go_upto_region 7 with (fail)
  go_cut [5] from 13 (fun s w' => ∃ pb v, s = .pointer (some ⟨pb, 0, none⟩) ∧ RptAt wa rp pb v w')
  case first =>
    have mc5 := World.new_ne wa ⟨F.sb, 5, none⟩ c5
    have mx2 := World.new_ne wa ⟨w.heap.size, 2, none⟩ x2
    have mrb := World.new_ne wa ⟨F.sb, 6 + kb, none⟩ rb
    have mx3 := World.new_ne wa ⟨w.heap.size, 3, none⟩ x3
    go_region_held3 (fun w' => w'.cell? ⟨F.sb, 5, none⟩ = some (.pointer (some ⟨F.ph, 0, none⟩)) ∧ w'.cell? ⟨w.heap.size, 2, none⟩ = some (.int .i64 (kb : Int)) ∧ w'.cell? ⟨F.sb, 6 + kb, none⟩ = some (.int .i64 q0) ∧ w'.cell? ⟨w.heap.size, 3, none⟩ = some (.int .i64 c)) (go_keep)
      (first
        | (go_at_call 63; refine (HM.out.explains (w' := wa.drew) q 8 hwr.2 ((Below.refl _ _).drew)).mono ?_; rw [HRP.out]; rintro e1 w1 ⟨v, rfl, hn⟩; obtain ⟨na, ncap, hv, -, -, -⟩ := row_open hn.row; subst hv; have HB1 : Hid (Below wa.heap.size wa w1) := ⟨hn.below.os, hn.below.tape, hn.below.output, hn.below.size, hn.below.block⟩; have HNR : Hid (NearRel wa rp.near (.slice na rp.near.length ncap) w1) := ⟨HB1.out, hn.row, hn.vlo⟩; have c51 : w1.cell? ⟨F.sb, 5, none⟩ = some (.pointer (some ⟨F.ph, 0, none⟩)) := (HB1.out.cell (p := ⟨F.sb, 5, none⟩) hsl).trans c5; have nc5 := World.new_ne w1 ⟨F.sb, 5, none⟩ c51; have x21 : w1.cell? ⟨w.heap.size, 2, none⟩ = some (.int .i64 (kb : Int)) := (HB1.out.cell (p := ⟨w.heap.size, 2, none⟩) hol).trans x2; have nx2 := World.new_ne w1 ⟨w.heap.size, 2, none⟩ x21; have rb1 : w1.cell? ⟨F.sb, 6 + kb, none⟩ = some (.int .i64 q0) := (HB1.out.cell (p := ⟨F.sb, 6 + kb, none⟩) hsl).trans rb; have nrb := World.new_ne w1 ⟨F.sb, 6 + kb, none⟩ rb1; have x31 : w1.cell? ⟨w.heap.size, 3, none⟩ = some (.int .i64 c) := (HB1.out.cell (p := ⟨w.heap.size, 3, none⟩) hol).trans x3; have nx3 := World.new_ne w1 ⟨w.heap.size, 3, none⟩ x31; unfold rptV rptCells; clear hn)
        | (go_at_call 63; refine (HM.out.explains (w' := (wa.alloc (.cells #[.int .i64 0, .int .i64 0, .int .i64 0, .int .i64 0, .int .i64 0, .int .i64 0, .int .i64 0, .int .i64 0, .int .i64 0, .slice none 0 0] 26)).drew) q 8 hwr.2 (((Below.refl _ _).alloc (Nat.le_refl _) _).drew)).mono ?_; rw [HRP.out]; rintro e1 w1 ⟨v, rfl, hn⟩; obtain ⟨na, ncap, hv, -, -, -⟩ := row_open hn.row; subst hv; have hB2 : Below (wa.heap.size + 1) (wa.alloc (.cells (rptCells (Rpt.only 0) (.slice none 0 0)).toArray 26)) w1 := ⟨hn.below.os, hn.below.tape, hn.below.output, by have := hn.below.size; simpa using this, fun b hb => hn.below.block b (by simpa using hb)⟩; have HB1 : Hid (Below wa.heap.size wa w1) := ((Below.refl _ _).alloc (Nat.le_refl _) _).trans (hB2.mono (by omega)); have HRW := hide2 hn.row; have HVL : Hid (∀ g, (Value.slice na rp.near.length ncap).ownBlock = some g → wa.heap.size + 1 ≤ g) := (fun g hg => (by have := hn.vlo g hg; simpa using this)); have HRZ : Hid (Blk w1 wa.heap.size 26 (rptCells (Rpt.only 0) (.slice none 0 0))) := (Blk.alloc wa 26 (rptCells (Rpt.only 0) (.slice none 0 0))).below hB2 (by omega); have rz0 := HRZ.out.cell (j := 0) rfl; have rzf0 := HRZ.out.frozen 0; have rz1 := HRZ.out.cell (j := 1) rfl; have rzf1 := HRZ.out.frozen 1; have rz2 := HRZ.out.cell (j := 2) rfl; have rzf2 := HRZ.out.frozen 2; have rz3 := HRZ.out.cell (j := 3) rfl; have rzf3 := HRZ.out.frozen 3; have rz4 := HRZ.out.cell (j := 4) rfl; have rzf4 := HRZ.out.frozen 4; have rz5 := HRZ.out.cell (j := 5) rfl; have rzf5 := HRZ.out.frozen 5; have rz6 := HRZ.out.cell (j := 6) rfl; have rzf6 := HRZ.out.frozen 6; have rz7 := HRZ.out.cell (j := 7) rfl; have rzf7 := HRZ.out.frozen 7; have rz8 := HRZ.out.cell (j := 8) rfl; have rzf8 := HRZ.out.frozen 8; have rz9 := HRZ.out.cell (j := 9) rfl; have rzf9 := HRZ.out.frozen 9; have hrzl := HRZ.out.lt; have c51 : w1.cell? ⟨F.sb, 5, none⟩ = some (.pointer (some ⟨F.ph, 0, none⟩)) := (HB1.out.cell (p := ⟨F.sb, 5, none⟩) hsl).trans c5; have nc5 := World.new_ne w1 ⟨F.sb, 5, none⟩ c51; have x21 : w1.cell? ⟨w.heap.size, 2, none⟩ = some (.int .i64 (kb : Int)) := (HB1.out.cell (p := ⟨w.heap.size, 2, none⟩) hol).trans x2; have nx2 := World.new_ne w1 ⟨w.heap.size, 2, none⟩ x21; have rb1 : w1.cell? ⟨F.sb, 6 + kb, none⟩ = some (.int .i64 q0) := (HB1.out.cell (p := ⟨F.sb, 6 + kb, none⟩) hsl).trans rb; have nrb := World.new_ne w1 ⟨F.sb, 6 + kb, none⟩ rb1; have x31 : w1.cell? ⟨w.heap.size, 3, none⟩ = some (.int .i64 c) := (HB1.out.cell (p := ⟨w.heap.size, 3, none⟩) hol).trans x3; have nx3 := World.new_ne w1 ⟨w.heap.size, 3, none⟩ x31; unfold rptV rptCells; clear hn hB2))
    · go_wp2
      go_meet
      case rel => exact ⟨_, _, rfl, RptAt.behind HNR.out⟩
    · go_wp2
      go_meet
      case rel => exact ⟨_, _, rfl, RptAt.ahead HRZ.out HB1.out HRW.out HVL.out⟩
  case rest =>
    obtain ⟨pb, vr, rfl, hA⟩ := hcut
    have HR1 := hide2 (hA.ready HM.out)
    have HM1 := hide2 (HM.out.under hA.near.below)
    have HX1 := hide2 (HX.out.below hA.near.below hol)
    obtain ⟨na, ncap, hv, -, -, -⟩ := row_open hA.near.row
    subst hv
    clear hA c5 x0 x2 x3 rb hsl hol HM HX
    generalize wc = w5 at *
    have hsl := HM1.out.blk.lt
    have hol := HX1.out.lt
    have k5 := HM1.out.c2
    have k2 := HX1.out.cell (j := 2) rfl
    have k3 := HX1.out.cell (j := 3) rfl
    have kr : w5.cell? ⟨F.sb, 6 + kb, none⟩ = some (.int .i64 q0) := (HM1.out.reg kb hkb).trans (by rw [← hq0])
    go_upto_region 8 with (fail)
    go_region_held3 (fun w' => w'.cell? ⟨F.sb, 5, none⟩ = some (.pointer (some ⟨F.ph, 0, none⟩)) ∧ w'.cell? ⟨w.heap.size, 2, none⟩ = some (.int .i64 (kb : Int)) ∧ w'.cell? ⟨F.sb, 6 + kb, none⟩ = some (.int .i64 q0) ∧ w'.cell? ⟨w.heap.size, 3, none⟩ = some (.int .i64 c)) (go_keep)
      (first | (go_at_call 64; refine (rload_any F.ph F.vc vl vm S.R q 8 w5.drew (HM1.out.under ((Below.refl _ _).drew)).heap HROK.out hwr.2).mono ?_; rintro e1 w2 ⟨rfl, hb2⟩; have HM2 := hide2 ((HM1.out.under ((Below.refl _ _).drew)).under hb2); have HX2 := hide2 ((HX1.out.below ((Below.refl _ _).drew) hol).below hb2 hol); have HR := hide2 ((HR1.out.under ((Below.refl _ _).drew)).under hb2); clear hb2; have j5 := HM2.out.c2; have j2 := HX2.out.cell (j := 2) rfl; have j3 := HX2.out.cell (j := 3) rfl; have jr : w2.cell? ⟨F.sb, 6 + kb, none⟩ = some (.int .i64 q0) := (HM2.out.reg kb hkb).trans (by rw [← hq0])))
    clear k5 k2 k3 kr j5 j2 j3 jr HM1 HX1 HR1
    generalize (S.R.load q 8).1 = u at *
    generalize (S.R.load q 8).2 = er at *
    have r0 := HR.out.blk.cell (j := 0) rfl
    have r1 := HR.out.blk.cell (j := 1) rfl
    have r2 := HR.out.blk.cell (j := 2) rfl
    have r3 := HR.out.blk.cell (j := 3) rfl
    have r4 := HR.out.blk.cell (j := 4) rfl
    have r5 := HR.out.blk.cell (j := 5) rfl
    have r6 := HR.out.blk.cell (j := 6) rfl
    have r7 := HR.out.blk.cell (j := 7) rfl
    have r8 := HR.out.blk.cell (j := 8) rfl
    have r9 := HR.out.blk.cell (j := 9) rfl
    go_upto_region 10 with (go_at_call 38; refine (HM2.out.faulting HR.out er).mono ?_; rintro e4 w6 ⟨rfl, ⟨vn6, hm6⟩, hk6⟩; have HM6 := hide2 hm6; have HX6 := hide2 (HX2.out.kept hk6 hxsb); clear hm6 hk6)
    clear r0 r1 r2 r3 r4 r5 r6 r7 r8 r9 HR HM2 HX2
    have x1 := HX6.out.cell (j := 1) rfl
    have ra := HM6.out.reg ka hka
    have raf := HM6.out.blk.frozen (6 + ka)
    go_region
    all_goals go_end0
    all_goals exact ⟨rfl, HM6.out.last ka hka u (by omega) (by omega) ((Below.refl _ _).drew) HD.out⟩

set_option maxRecDepth 100000 in
set_option maxHeartbeats 3200000 in
theorem stouch_byte (F : SFix) (wB w : World) (vl vm vn : Value) (da : Option Addr) (dcap : Nat) (S : MS) (ka kb : Nat) (c : Int) (h : SRep F wB w vl vm vn da dcap S) (hka : ka < 8) (hkb : kb < 8) :
    Calls Tryz.prog 40 #[.pointer (some ⟨F.sb, 0, none⟩), .agg #[.int .i64 16, .int .i64 (ka : Int), .int .i64 (kb : Int), .int .i64 c]] w fun e w' => e = .returned (.tuple #[]) ∧ SDone F wB w' (dLoad S ka kb c 1) := by
  obtain ⟨wa, hwa⟩ : ∃ wa, wa = w.alloc (.cells #[.int .i64 16, .int .i64 (ka : Int), .int .i64 (kb : Int), .int .i64 c] 60) := ⟨_, rfl⟩
  have hbl : Below w.heap.size w wa := by rw [hwa]; exact (Below.refl _ _).alloc (Nat.le_refl _) _
  have HX : Hid (Blk wa w.heap.size 60 [.int .i64 16, .int .i64 (ka : Int), .int .i64 (kb : Int), .int .i64 c]) := by show Blk _ _ _ _; rw [hwa]; exact Blk.alloc _ _ _
  have HM := hide2 (h.under hbl)
  have hxsb : w.heap.size ≠ F.sb := by have := h.blk.lt; omega
  have kaI : (ka : Int) < 8 := by omega
  have kbI : (kb : Int) < 8 := by omega
  have x0 := HX.out.cell (j := 0) rfl
  have x2 := HX.out.cell (j := 2) rfl
  have x3 := HX.out.cell (j := 3) rfl
  have rb := HM.out.reg kb hkb
  have c5 := HM.out.c2
  have hsl := HM.out.blk.lt
  have hol := HX.out.lt
  have HROK := hide2 h.rok
  have hwr := wrap64_i64 (rg S.r kb + c)
  have HD : Hid (dLoad S ka kb c 1 = if (S.R.load (wrap64 (rg S.r kb + c)) 1).2 = 0 then S.reg ka (S.R.load (wrap64 (rg S.r kb + c)) 1).1 else S.fault (rexplain S.R (wrap64 (rg S.r kb + c)) 1)) := rfl
  generalize dLoad S ka kb c 1 = S' at *
  generalize hq0 : rg S.r kb = q0 at *
  generalize hq : wrap64 (q0 + c) = q at *
  have hq2 : IntKind.i64.wrap (q0 + c) = q := by rw [IntKind.wrap_i64]; unfold wrap64 at hq; exact hq
  have hub := mload_bd S.R q 1
  obtain ⟨rp, HRP⟩ : ∃ rp, Hid (rexplain S.R q 1 = rp) := ⟨_, hide2 rfl⟩
  rw [HRP.out] at HD
  clear h hbl
  go_enter Tryz.func40, Tryz.ntmps40
  go_upto_region 1 with (fail)
  rw [← hwa]
  clear hwa
  go_upto_region 7 with (fail)
  go_cut [5] from 13 (fun s w' => ∃ pb v, s = .pointer (some ⟨pb, 0, none⟩) ∧ RptAt wa rp pb v w')
  case first =>
    have mc5 := World.new_ne wa ⟨F.sb, 5, none⟩ c5
    have mx2 := World.new_ne wa ⟨w.heap.size, 2, none⟩ x2
    have mrb := World.new_ne wa ⟨F.sb, 6 + kb, none⟩ rb
    have mx3 := World.new_ne wa ⟨w.heap.size, 3, none⟩ x3
    go_region_held3 (fun w' => w'.cell? ⟨F.sb, 5, none⟩ = some (.pointer (some ⟨F.ph, 0, none⟩)) ∧ w'.cell? ⟨w.heap.size, 2, none⟩ = some (.int .i64 (kb : Int)) ∧ w'.cell? ⟨F.sb, 6 + kb, none⟩ = some (.int .i64 q0) ∧ w'.cell? ⟨w.heap.size, 3, none⟩ = some (.int .i64 c)) (go_keep)
      (first
        | (go_at_call 63; refine (HM.out.explains (w' := wa.drew) q 1 hwr.2 ((Below.refl _ _).drew)).mono ?_; rw [HRP.out]; rintro e1 w1 ⟨v, rfl, hn⟩; obtain ⟨na, ncap, hv, -, -, -⟩ := row_open hn.row; subst hv; have HB1 : Hid (Below wa.heap.size wa w1) := ⟨hn.below.os, hn.below.tape, hn.below.output, hn.below.size, hn.below.block⟩; have HNR : Hid (NearRel wa rp.near (.slice na rp.near.length ncap) w1) := ⟨HB1.out, hn.row, hn.vlo⟩; have c51 : w1.cell? ⟨F.sb, 5, none⟩ = some (.pointer (some ⟨F.ph, 0, none⟩)) := (HB1.out.cell (p := ⟨F.sb, 5, none⟩) hsl).trans c5; have nc5 := World.new_ne w1 ⟨F.sb, 5, none⟩ c51; have x21 : w1.cell? ⟨w.heap.size, 2, none⟩ = some (.int .i64 (kb : Int)) := (HB1.out.cell (p := ⟨w.heap.size, 2, none⟩) hol).trans x2; have nx2 := World.new_ne w1 ⟨w.heap.size, 2, none⟩ x21; have rb1 : w1.cell? ⟨F.sb, 6 + kb, none⟩ = some (.int .i64 q0) := (HB1.out.cell (p := ⟨F.sb, 6 + kb, none⟩) hsl).trans rb; have nrb := World.new_ne w1 ⟨F.sb, 6 + kb, none⟩ rb1; have x31 : w1.cell? ⟨w.heap.size, 3, none⟩ = some (.int .i64 c) := (HB1.out.cell (p := ⟨w.heap.size, 3, none⟩) hol).trans x3; have nx3 := World.new_ne w1 ⟨w.heap.size, 3, none⟩ x31; unfold rptV rptCells; clear hn)
        | (go_at_call 63; refine (HM.out.explains (w' := (wa.alloc (.cells #[.int .i64 0, .int .i64 0, .int .i64 0, .int .i64 0, .int .i64 0, .int .i64 0, .int .i64 0, .int .i64 0, .int .i64 0, .slice none 0 0] 26)).drew) q 1 hwr.2 (((Below.refl _ _).alloc (Nat.le_refl _) _).drew)).mono ?_; rw [HRP.out]; rintro e1 w1 ⟨v, rfl, hn⟩; obtain ⟨na, ncap, hv, -, -, -⟩ := row_open hn.row; subst hv; have hB2 : Below (wa.heap.size + 1) (wa.alloc (.cells (rptCells (Rpt.only 0) (.slice none 0 0)).toArray 26)) w1 := ⟨hn.below.os, hn.below.tape, hn.below.output, by have := hn.below.size; simpa using this, fun b hb => hn.below.block b (by simpa using hb)⟩; have HB1 : Hid (Below wa.heap.size wa w1) := ((Below.refl _ _).alloc (Nat.le_refl _) _).trans (hB2.mono (by omega)); have HRW := hide2 hn.row; have HVL : Hid (∀ g, (Value.slice na rp.near.length ncap).ownBlock = some g → wa.heap.size + 1 ≤ g) := (fun g hg => (by have := hn.vlo g hg; simpa using this)); have HRZ : Hid (Blk w1 wa.heap.size 26 (rptCells (Rpt.only 0) (.slice none 0 0))) := (Blk.alloc wa 26 (rptCells (Rpt.only 0) (.slice none 0 0))).below hB2 (by omega); have rz0 := HRZ.out.cell (j := 0) rfl; have rzf0 := HRZ.out.frozen 0; have rz1 := HRZ.out.cell (j := 1) rfl; have rzf1 := HRZ.out.frozen 1; have rz2 := HRZ.out.cell (j := 2) rfl; have rzf2 := HRZ.out.frozen 2; have rz3 := HRZ.out.cell (j := 3) rfl; have rzf3 := HRZ.out.frozen 3; have rz4 := HRZ.out.cell (j := 4) rfl; have rzf4 := HRZ.out.frozen 4; have rz5 := HRZ.out.cell (j := 5) rfl; have rzf5 := HRZ.out.frozen 5; have rz6 := HRZ.out.cell (j := 6) rfl; have rzf6 := HRZ.out.frozen 6; have rz7 := HRZ.out.cell (j := 7) rfl; have rzf7 := HRZ.out.frozen 7; have rz8 := HRZ.out.cell (j := 8) rfl; have rzf8 := HRZ.out.frozen 8; have rz9 := HRZ.out.cell (j := 9) rfl; have rzf9 := HRZ.out.frozen 9; have hrzl := HRZ.out.lt; have c51 : w1.cell? ⟨F.sb, 5, none⟩ = some (.pointer (some ⟨F.ph, 0, none⟩)) := (HB1.out.cell (p := ⟨F.sb, 5, none⟩) hsl).trans c5; have nc5 := World.new_ne w1 ⟨F.sb, 5, none⟩ c51; have x21 : w1.cell? ⟨w.heap.size, 2, none⟩ = some (.int .i64 (kb : Int)) := (HB1.out.cell (p := ⟨w.heap.size, 2, none⟩) hol).trans x2; have nx2 := World.new_ne w1 ⟨w.heap.size, 2, none⟩ x21; have rb1 : w1.cell? ⟨F.sb, 6 + kb, none⟩ = some (.int .i64 q0) := (HB1.out.cell (p := ⟨F.sb, 6 + kb, none⟩) hsl).trans rb; have nrb := World.new_ne w1 ⟨F.sb, 6 + kb, none⟩ rb1; have x31 : w1.cell? ⟨w.heap.size, 3, none⟩ = some (.int .i64 c) := (HB1.out.cell (p := ⟨w.heap.size, 3, none⟩) hol).trans x3; have nx3 := World.new_ne w1 ⟨w.heap.size, 3, none⟩ x31; unfold rptV rptCells; clear hn hB2))
    · go_wp2
      go_meet
      case rel => exact ⟨_, _, rfl, RptAt.behind HNR.out⟩
    · go_wp2
      go_meet
      case rel => exact ⟨_, _, rfl, RptAt.ahead HRZ.out HB1.out HRW.out HVL.out⟩
  case rest =>
    obtain ⟨pb, vr, rfl, hA⟩ := hcut
    have HR1 := hide2 (hA.ready HM.out)
    have HM1 := hide2 (HM.out.under hA.near.below)
    have HX1 := hide2 (HX.out.below hA.near.below hol)
    obtain ⟨na, ncap, hv, -, -, -⟩ := row_open hA.near.row
    subst hv
    clear hA c5 x0 x2 x3 rb hsl hol HM HX
    generalize wc = w5 at *
    have hsl := HM1.out.blk.lt
    have hol := HX1.out.lt
    have k5 := HM1.out.c2
    have k2 := HX1.out.cell (j := 2) rfl
    have k3 := HX1.out.cell (j := 3) rfl
    have kr : w5.cell? ⟨F.sb, 6 + kb, none⟩ = some (.int .i64 q0) := (HM1.out.reg kb hkb).trans (by rw [← hq0])
    go_upto_region 8 with (fail)
    go_region_held3 (fun w' => w'.cell? ⟨F.sb, 5, none⟩ = some (.pointer (some ⟨F.ph, 0, none⟩)) ∧ w'.cell? ⟨w.heap.size, 2, none⟩ = some (.int .i64 (kb : Int)) ∧ w'.cell? ⟨F.sb, 6 + kb, none⟩ = some (.int .i64 q0) ∧ w'.cell? ⟨w.heap.size, 3, none⟩ = some (.int .i64 c)) (go_keep)
      (first | (go_at_call 64; refine (rload_any F.ph F.vc vl vm S.R q 1 w5.drew (HM1.out.under ((Below.refl _ _).drew)).heap HROK.out hwr.2).mono ?_; rintro e1 w2 ⟨rfl, hb2⟩; have HM2 := hide2 ((HM1.out.under ((Below.refl _ _).drew)).under hb2); have HX2 := hide2 ((HX1.out.below ((Below.refl _ _).drew) hol).below hb2 hol); have HR := hide2 ((HR1.out.under ((Below.refl _ _).drew)).under hb2); clear hb2; have j5 := HM2.out.c2; have j2 := HX2.out.cell (j := 2) rfl; have j3 := HX2.out.cell (j := 3) rfl; have jr : w2.cell? ⟨F.sb, 6 + kb, none⟩ = some (.int .i64 q0) := (HM2.out.reg kb hkb).trans (by rw [← hq0])))
    clear k5 k2 k3 kr j5 j2 j3 jr HM1 HX1 HR1
    generalize (S.R.load q 1).1 = u at *
    generalize (S.R.load q 1).2 = er at *
    have r0 := HR.out.blk.cell (j := 0) rfl
    have r1 := HR.out.blk.cell (j := 1) rfl
    have r2 := HR.out.blk.cell (j := 2) rfl
    have r3 := HR.out.blk.cell (j := 3) rfl
    have r4 := HR.out.blk.cell (j := 4) rfl
    have r5 := HR.out.blk.cell (j := 5) rfl
    have r6 := HR.out.blk.cell (j := 6) rfl
    have r7 := HR.out.blk.cell (j := 7) rfl
    have r8 := HR.out.blk.cell (j := 8) rfl
    have r9 := HR.out.blk.cell (j := 9) rfl
    go_upto_region 10 with (go_at_call 38; refine (HM2.out.faulting HR.out er).mono ?_; rintro e4 w6 ⟨rfl, ⟨vn6, hm6⟩, hk6⟩; have HM6 := hide2 hm6; have HX6 := hide2 (HX2.out.kept hk6 hxsb); clear hm6 hk6)
    clear r0 r1 r2 r3 r4 r5 r6 r7 r8 r9 HR HM2 HX2
    have x1 := HX6.out.cell (j := 1) rfl
    have ra := HM6.out.reg ka hka
    have raf := HM6.out.blk.frozen (6 + ka)
    go_region
    all_goals go_end0
    all_goals exact ⟨rfl, HM6.out.last ka hka u (by omega) (by omega) ((Below.refl _ _).drew) HD.out⟩

set_option maxRecDepth 100000 in
set_option maxHeartbeats 3200000 in
theorem stouch_store (F : SFix) (wB w : World) (vl vm vn : Value) (da : Option Addr) (dcap : Nat) (S : MS) (ka kb : Nat) (c : Int) (h : SRep F wB w vl vm vn da dcap S) (hka : ka < 8) (hkb : kb < 8) (hL : S.R.log.length ≤ 1048576) (hM : S.R.marks.length ≤ 1099511627776) :
    Calls Tryz.prog 40 #[.pointer (some ⟨F.sb, 0, none⟩), .agg #[.int .i64 17, .int .i64 (ka : Int), .int .i64 (kb : Int), .int .i64 c]] w fun e w' => e = .returned (.tuple #[]) ∧ SDone F wB w' (dStore S ka kb c 8) := by
  obtain ⟨wa, hwa⟩ : ∃ wa, wa = w.alloc (.cells #[.int .i64 17, .int .i64 (ka : Int), .int .i64 (kb : Int), .int .i64 c] 60) := ⟨_, rfl⟩
  have hbl : Below w.heap.size w wa := by rw [hwa]; exact (Below.refl _ _).alloc (Nat.le_refl _) _
  have HX : Hid (Blk wa w.heap.size 60 [.int .i64 17, .int .i64 (ka : Int), .int .i64 (kb : Int), .int .i64 c]) := by show Blk _ _ _ _; rw [hwa]; exact Blk.alloc _ _ _
  have HM := hide2 (h.under hbl)
  have hxsb : w.heap.size ≠ F.sb := by have := h.blk.lt; omega
  have kaI : (ka : Int) < 8 := by omega
  have kbI : (kb : Int) < 8 := by omega
  have x0 := HX.out.cell (j := 0) rfl
  have x1 := HX.out.cell (j := 1) rfl
  have x2 := HX.out.cell (j := 2) rfl
  have x3 := HX.out.cell (j := 3) rfl
  have ra := HM.out.reg ka hka
  have rb := HM.out.reg kb hkb
  have c5 := HM.out.c2
  have hsl := HM.out.blk.lt
  have hol := HX.out.lt
  have HROK := hide2 h.rok
  have HSIM := hide2 h.sim
  have hwr := wrap64_i64 (rg S.r ka + c)
  have HNF : Hid (¬ RFoot F.ph F.vc vl vm w.heap.size) := fun e => by have := h.heap.foot_lt2 e; omega
  have HD0 : Hid (dStore S ka kb c 8 = if S.R.storeErr (wrap64 (rg S.r ka + c)) 8 = 0 then S.heap (S.R.store (wrap64 (rg S.r ka + c)) 8 (rg S.r kb)) else (S.heap (S.R.store (wrap64 (rg S.r ka + c)) 8 (rg S.r kb))).fault (rexplain (S.R.store (wrap64 (rg S.r ka + c)) 8 (rg S.r kb)) (wrap64 (rg S.r ka + c)) 8)) := rfl
  generalize dStore S ka kb c 8 = S' at *
  generalize hq0 : rg S.r ka = q0 at *
  generalize hv0 : rg S.r kb = v0 at *
  generalize hq : wrap64 (q0 + c) = q at *
  have hq2 : IntKind.i64.wrap (q0 + c) = q := by rw [IntKind.wrap_i64]; unfold wrap64 at hq; exact hq
  obtain ⟨rp, HRP⟩ : ∃ rp, Hid (rexplain S.R q 8 = rp) := ⟨_, hide2 rfl⟩
  have HD : Hid (S' = (S.heap (S.R.store q 8 v0)).faults (S.R.storeErr q 8) rp) := by
    show _ = _
    rw [HD0.out]
    unfold MS.faults
    by_cases e : S.R.storeErr q 8 = 0
    · rw [if_pos e, if_pos e]
    · have e2 : S.R.store q 8 v0 = S.R := by unfold RSt.store; rw [if_neg e]
      rw [if_neg e, if_neg e, e2, HRP.out]
  clear HD0
  clear h hbl
  go_enter Tryz.func40, Tryz.ntmps40
  go_upto_region 1 with (fail)
  rw [← hwa]
  clear hwa
  go_upto_region 16 with (fail)
  go_cut [9] from 13 (fun s w' => ∃ pb v, s = .pointer (some ⟨pb, 0, none⟩) ∧ RptAt wa rp pb v w')
  case first =>
    have mc5 := World.new_ne wa ⟨F.sb, 5, none⟩ c5
    have mx1 := World.new_ne wa ⟨w.heap.size, 1, none⟩ x1
    have mra := World.new_ne wa ⟨F.sb, 6 + ka, none⟩ ra
    have mx3 := World.new_ne wa ⟨w.heap.size, 3, none⟩ x3
    go_region_held3 (fun w' => w'.cell? ⟨F.sb, 5, none⟩ = some (.pointer (some ⟨F.ph, 0, none⟩)) ∧ w'.cell? ⟨w.heap.size, 1, none⟩ = some (.int .i64 (ka : Int)) ∧ w'.cell? ⟨F.sb, 6 + ka, none⟩ = some (.int .i64 q0) ∧ w'.cell? ⟨w.heap.size, 3, none⟩ = some (.int .i64 c)) (go_keep)
      (first
        | (go_at_call 63; refine (HM.out.explains (w' := wa.drew) q 8 hwr.2 ((Below.refl _ _).drew)).mono ?_; rw [HRP.out]; rintro e1 w1 ⟨v, rfl, hn⟩; obtain ⟨na, ncap, hv, -, -, -⟩ := row_open hn.row; subst hv; have HB1 : Hid (Below wa.heap.size wa w1) := ⟨hn.below.os, hn.below.tape, hn.below.output, hn.below.size, hn.below.block⟩; have HNR : Hid (NearRel wa rp.near (.slice na rp.near.length ncap) w1) := ⟨HB1.out, hn.row, hn.vlo⟩; have c51 : w1.cell? ⟨F.sb, 5, none⟩ = some (.pointer (some ⟨F.ph, 0, none⟩)) := (HB1.out.cell (p := ⟨F.sb, 5, none⟩) hsl).trans c5; have nc5 := World.new_ne w1 ⟨F.sb, 5, none⟩ c51; have x11 : w1.cell? ⟨w.heap.size, 1, none⟩ = some (.int .i64 (ka : Int)) := (HB1.out.cell (p := ⟨w.heap.size, 1, none⟩) hol).trans x1; have nx1 := World.new_ne w1 ⟨w.heap.size, 1, none⟩ x11; have ra1 : w1.cell? ⟨F.sb, 6 + ka, none⟩ = some (.int .i64 q0) := (HB1.out.cell (p := ⟨F.sb, 6 + ka, none⟩) hsl).trans ra; have nra := World.new_ne w1 ⟨F.sb, 6 + ka, none⟩ ra1; have x31 : w1.cell? ⟨w.heap.size, 3, none⟩ = some (.int .i64 c) := (HB1.out.cell (p := ⟨w.heap.size, 3, none⟩) hol).trans x3; have nx3 := World.new_ne w1 ⟨w.heap.size, 3, none⟩ x31; unfold rptV rptCells; clear hn)
        | (go_at_call 63; refine (HM.out.explains (w' := (wa.alloc (.cells #[.int .i64 0, .int .i64 0, .int .i64 0, .int .i64 0, .int .i64 0, .int .i64 0, .int .i64 0, .int .i64 0, .int .i64 0, .slice none 0 0] 26)).drew) q 8 hwr.2 (((Below.refl _ _).alloc (Nat.le_refl _) _).drew)).mono ?_; rw [HRP.out]; rintro e1 w1 ⟨v, rfl, hn⟩; obtain ⟨na, ncap, hv, -, -, -⟩ := row_open hn.row; subst hv; have hB2 : Below (wa.heap.size + 1) (wa.alloc (.cells (rptCells (Rpt.only 0) (.slice none 0 0)).toArray 26)) w1 := ⟨hn.below.os, hn.below.tape, hn.below.output, by have := hn.below.size; simpa using this, fun b hb => hn.below.block b (by simpa using hb)⟩; have HB1 : Hid (Below wa.heap.size wa w1) := ((Below.refl _ _).alloc (Nat.le_refl _) _).trans (hB2.mono (by omega)); have HRW := hide2 hn.row; have HVL : Hid (∀ g, (Value.slice na rp.near.length ncap).ownBlock = some g → wa.heap.size + 1 ≤ g) := (fun g hg => (by have := hn.vlo g hg; simpa using this)); have HRZ : Hid (Blk w1 wa.heap.size 26 (rptCells (Rpt.only 0) (.slice none 0 0))) := (Blk.alloc wa 26 (rptCells (Rpt.only 0) (.slice none 0 0))).below hB2 (by omega); have rz0 := HRZ.out.cell (j := 0) rfl; have rzf0 := HRZ.out.frozen 0; have rz1 := HRZ.out.cell (j := 1) rfl; have rzf1 := HRZ.out.frozen 1; have rz2 := HRZ.out.cell (j := 2) rfl; have rzf2 := HRZ.out.frozen 2; have rz3 := HRZ.out.cell (j := 3) rfl; have rzf3 := HRZ.out.frozen 3; have rz4 := HRZ.out.cell (j := 4) rfl; have rzf4 := HRZ.out.frozen 4; have rz5 := HRZ.out.cell (j := 5) rfl; have rzf5 := HRZ.out.frozen 5; have rz6 := HRZ.out.cell (j := 6) rfl; have rzf6 := HRZ.out.frozen 6; have rz7 := HRZ.out.cell (j := 7) rfl; have rzf7 := HRZ.out.frozen 7; have rz8 := HRZ.out.cell (j := 8) rfl; have rzf8 := HRZ.out.frozen 8; have rz9 := HRZ.out.cell (j := 9) rfl; have rzf9 := HRZ.out.frozen 9; have hrzl := HRZ.out.lt; have c51 : w1.cell? ⟨F.sb, 5, none⟩ = some (.pointer (some ⟨F.ph, 0, none⟩)) := (HB1.out.cell (p := ⟨F.sb, 5, none⟩) hsl).trans c5; have nc5 := World.new_ne w1 ⟨F.sb, 5, none⟩ c51; have x11 : w1.cell? ⟨w.heap.size, 1, none⟩ = some (.int .i64 (ka : Int)) := (HB1.out.cell (p := ⟨w.heap.size, 1, none⟩) hol).trans x1; have nx1 := World.new_ne w1 ⟨w.heap.size, 1, none⟩ x11; have ra1 : w1.cell? ⟨F.sb, 6 + ka, none⟩ = some (.int .i64 q0) := (HB1.out.cell (p := ⟨F.sb, 6 + ka, none⟩) hsl).trans ra; have nra := World.new_ne w1 ⟨F.sb, 6 + ka, none⟩ ra1; have x31 : w1.cell? ⟨w.heap.size, 3, none⟩ = some (.int .i64 c) := (HB1.out.cell (p := ⟨w.heap.size, 3, none⟩) hol).trans x3; have nx3 := World.new_ne w1 ⟨w.heap.size, 3, none⟩ x31; unfold rptV rptCells; clear hn hB2))
    · go_wp2
      go_meet
      case rel => exact ⟨_, _, rfl, RptAt.behind HNR.out⟩
    · go_wp2
      go_meet
      case rel => exact ⟨_, _, rfl, RptAt.ahead HRZ.out HB1.out HRW.out HVL.out⟩
  case rest =>
    obtain ⟨pb, vr, rfl, hA⟩ := hcut
    have HA := hide2 hA
    have HM1 := hide2 (HM.out.under hA.near.below)
    have HX1 := hide2 (HX.out.below hA.near.below hol)
    obtain ⟨na, ncap, hv, -, -, -⟩ := row_open hA.near.row
    subst hv
    clear hA c5 x0 x1 x2 x3 ra rb hsl hol HX
    generalize wc = w5 at *
    have hsl := HM1.out.blk.lt
    have hol := HX1.out.lt
    have k5 := HM1.out.c2
    have k1 := HX1.out.cell (j := 1) rfl
    have k2 := HX1.out.cell (j := 2) rfl
    have k3 := HX1.out.cell (j := 3) rfl
    have ka1 : w5.cell? ⟨F.sb, 6 + ka, none⟩ = some (.int .i64 q0) := (HM1.out.reg ka hka).trans (by rw [← hq0])
    have kb1 : w5.cell? ⟨F.sb, 6 + kb, none⟩ = some (.int .i64 v0) := (HM1.out.reg kb hkb).trans (by rw [← hv0])
    go_upto_region 17 with (fail)
    go_region_held3 (fun w' => w'.cell? ⟨F.sb, 5, none⟩ = some (.pointer (some ⟨F.ph, 0, none⟩)) ∧ w'.cell? ⟨w.heap.size, 1, none⟩ = some (.int .i64 (ka : Int)) ∧ w'.cell? ⟨w.heap.size, 2, none⟩ = some (.int .i64 (kb : Int)) ∧ w'.cell? ⟨w.heap.size, 3, none⟩ = some (.int .i64 c) ∧ w'.cell? ⟨F.sb, 6 + ka, none⟩ = some (.int .i64 q0) ∧ w'.cell? ⟨F.sb, 6 + kb, none⟩ = some (.int .i64 v0)) (go_keep)
      (first | (go_at_call 65; refine (rt_store F.ph F.vc vl vm S.R w5.drew (HM1.out.under ((Below.refl _ _).drew)).heap HROK.out (by omega) (by omega) q 8 v0 hwr.2).mono ?_; rintro e1 w2 ⟨vl2, vm2, rfl, hg2⟩; have HM2 := hide2 ((HM1.out.under ((Below.refl _ _).drew)).call hg2 (RGood.store HSIM.out q 8 v0).sim); have HX2 := hide2 ((HX1.out.below ((Below.refl _ _).drew) hol).kept hg2.kept HNF.out); have HR := hide2 ((HA.out.later ((Below.refl _ _).drew)).called HM.out hg2); clear hg2; have j5 := HM2.out.c2; have j1 := HX2.out.cell (j := 1) rfl; have j2 := HX2.out.cell (j := 2) rfl; have j3 := HX2.out.cell (j := 3) rfl; have jr : w2.cell? ⟨F.sb, 6 + ka, none⟩ = some (.int .i64 q0) := (HM2.out.reg ka hka).trans (by rw [← hq0]; rfl); have jb : w2.cell? ⟨F.sb, 6 + kb, none⟩ = some (.int .i64 v0) := (HM2.out.reg kb hkb).trans (by rw [← hv0]; rfl)))
    clear k5 k1 k2 k3 ka1 kb1 j5 j1 j2 j3 jr jb HM1 HX1
    generalize S.R.storeErr q 8 = er at *
    have r0 := HR.out.blk.cell (j := 0) rfl
    have r1 := HR.out.blk.cell (j := 1) rfl
    have r2 := HR.out.blk.cell (j := 2) rfl
    have r3 := HR.out.blk.cell (j := 3) rfl
    have r4 := HR.out.blk.cell (j := 4) rfl
    have r5 := HR.out.blk.cell (j := 5) rfl
    have r6 := HR.out.blk.cell (j := 6) rfl
    have r7 := HR.out.blk.cell (j := 7) rfl
    have r8 := HR.out.blk.cell (j := 8) rfl
    have r9 := HR.out.blk.cell (j := 9) rfl
    go_wp2_with (go_at_call 38; refine (HM2.out.faulting HR.out er).mono ?_; rintro e4 w6 ⟨rfl, ⟨vn6, hm6⟩, hk6⟩; have HM6 := hide2 hm6; clear hm6 hk6)
    go_end0
    exact ⟨rfl, SDone.of (by rw [HD.out]; exact HM6.out)⟩

set_option maxRecDepth 100000 in
set_option maxHeartbeats 3200000 in
theorem stouch_put (F : SFix) (wB w : World) (vl vm vn : Value) (da : Option Addr) (dcap : Nat) (S : MS) (ka kb : Nat) (c : Int) (h : SRep F wB w vl vm vn da dcap S) (hka : ka < 8) (hkb : kb < 8) (hL : S.R.log.length ≤ 1048576) (hM : S.R.marks.length ≤ 1099511627776) :
    Calls Tryz.prog 40 #[.pointer (some ⟨F.sb, 0, none⟩), .agg #[.int .i64 18, .int .i64 (ka : Int), .int .i64 (kb : Int), .int .i64 c]] w fun e w' => e = .returned (.tuple #[]) ∧ SDone F wB w' (dStore S ka kb c 1) := by
  obtain ⟨wa, hwa⟩ : ∃ wa, wa = w.alloc (.cells #[.int .i64 18, .int .i64 (ka : Int), .int .i64 (kb : Int), .int .i64 c] 60) := ⟨_, rfl⟩
  have hbl : Below w.heap.size w wa := by rw [hwa]; exact (Below.refl _ _).alloc (Nat.le_refl _) _
  have HX : Hid (Blk wa w.heap.size 60 [.int .i64 18, .int .i64 (ka : Int), .int .i64 (kb : Int), .int .i64 c]) := by show Blk _ _ _ _; rw [hwa]; exact Blk.alloc _ _ _
  have HM := hide2 (h.under hbl)
  have hxsb : w.heap.size ≠ F.sb := by have := h.blk.lt; omega
  have kaI : (ka : Int) < 8 := by omega
  have kbI : (kb : Int) < 8 := by omega
  have x0 := HX.out.cell (j := 0) rfl
  have x1 := HX.out.cell (j := 1) rfl
  have x2 := HX.out.cell (j := 2) rfl
  have x3 := HX.out.cell (j := 3) rfl
  have ra := HM.out.reg ka hka
  have rb := HM.out.reg kb hkb
  have c5 := HM.out.c2
  have hsl := HM.out.blk.lt
  have hol := HX.out.lt
  have HROK := hide2 h.rok
  have HSIM := hide2 h.sim
  have hwr := wrap64_i64 (rg S.r ka + c)
  have HNF : Hid (¬ RFoot F.ph F.vc vl vm w.heap.size) := fun e => by have := h.heap.foot_lt2 e; omega
  have HD0 : Hid (dStore S ka kb c 1 = if S.R.storeErr (wrap64 (rg S.r ka + c)) 1 = 0 then S.heap (S.R.store (wrap64 (rg S.r ka + c)) 1 (rg S.r kb)) else (S.heap (S.R.store (wrap64 (rg S.r ka + c)) 1 (rg S.r kb))).fault (rexplain (S.R.store (wrap64 (rg S.r ka + c)) 1 (rg S.r kb)) (wrap64 (rg S.r ka + c)) 1)) := rfl
  generalize dStore S ka kb c 1 = S' at *
  generalize hq0 : rg S.r ka = q0 at *
  generalize hv0 : rg S.r kb = v0 at *
  generalize hq : wrap64 (q0 + c) = q at *
  have hq2 : IntKind.i64.wrap (q0 + c) = q := by rw [IntKind.wrap_i64]; unfold wrap64 at hq; exact hq
  obtain ⟨rp, HRP⟩ : ∃ rp, Hid (rexplain S.R q 1 = rp) := ⟨_, hide2 rfl⟩
  have HD : Hid (S' = (S.heap (S.R.store q 1 v0)).faults (S.R.storeErr q 1) rp) := by
    show _ = _
    rw [HD0.out]
    unfold MS.faults
    by_cases e : S.R.storeErr q 1 = 0
    · rw [if_pos e, if_pos e]
    · have e2 : S.R.store q 1 v0 = S.R := by unfold RSt.store; rw [if_neg e]
      rw [if_neg e, if_neg e, e2, HRP.out]
  clear HD0
  clear h hbl
  go_enter Tryz.func40, Tryz.ntmps40
  go_upto_region 1 with (fail)
  rw [← hwa]
  clear hwa
  go_upto_region 16 with (fail)
  go_cut [9] from 13 (fun s w' => ∃ pb v, s = .pointer (some ⟨pb, 0, none⟩) ∧ RptAt wa rp pb v w')
  case first =>
    have mc5 := World.new_ne wa ⟨F.sb, 5, none⟩ c5
    have mx1 := World.new_ne wa ⟨w.heap.size, 1, none⟩ x1
    have mra := World.new_ne wa ⟨F.sb, 6 + ka, none⟩ ra
    have mx3 := World.new_ne wa ⟨w.heap.size, 3, none⟩ x3
    go_region_held3 (fun w' => w'.cell? ⟨F.sb, 5, none⟩ = some (.pointer (some ⟨F.ph, 0, none⟩)) ∧ w'.cell? ⟨w.heap.size, 1, none⟩ = some (.int .i64 (ka : Int)) ∧ w'.cell? ⟨F.sb, 6 + ka, none⟩ = some (.int .i64 q0) ∧ w'.cell? ⟨w.heap.size, 3, none⟩ = some (.int .i64 c)) (go_keep)
      (first
        | (go_at_call 63; refine (HM.out.explains (w' := wa.drew) q 1 hwr.2 ((Below.refl _ _).drew)).mono ?_; rw [HRP.out]; rintro e1 w1 ⟨v, rfl, hn⟩; obtain ⟨na, ncap, hv, -, -, -⟩ := row_open hn.row; subst hv; have HB1 : Hid (Below wa.heap.size wa w1) := ⟨hn.below.os, hn.below.tape, hn.below.output, hn.below.size, hn.below.block⟩; have HNR : Hid (NearRel wa rp.near (.slice na rp.near.length ncap) w1) := ⟨HB1.out, hn.row, hn.vlo⟩; have c51 : w1.cell? ⟨F.sb, 5, none⟩ = some (.pointer (some ⟨F.ph, 0, none⟩)) := (HB1.out.cell (p := ⟨F.sb, 5, none⟩) hsl).trans c5; have nc5 := World.new_ne w1 ⟨F.sb, 5, none⟩ c51; have x11 : w1.cell? ⟨w.heap.size, 1, none⟩ = some (.int .i64 (ka : Int)) := (HB1.out.cell (p := ⟨w.heap.size, 1, none⟩) hol).trans x1; have nx1 := World.new_ne w1 ⟨w.heap.size, 1, none⟩ x11; have ra1 : w1.cell? ⟨F.sb, 6 + ka, none⟩ = some (.int .i64 q0) := (HB1.out.cell (p := ⟨F.sb, 6 + ka, none⟩) hsl).trans ra; have nra := World.new_ne w1 ⟨F.sb, 6 + ka, none⟩ ra1; have x31 : w1.cell? ⟨w.heap.size, 3, none⟩ = some (.int .i64 c) := (HB1.out.cell (p := ⟨w.heap.size, 3, none⟩) hol).trans x3; have nx3 := World.new_ne w1 ⟨w.heap.size, 3, none⟩ x31; unfold rptV rptCells; clear hn)
        | (go_at_call 63; refine (HM.out.explains (w' := (wa.alloc (.cells #[.int .i64 0, .int .i64 0, .int .i64 0, .int .i64 0, .int .i64 0, .int .i64 0, .int .i64 0, .int .i64 0, .int .i64 0, .slice none 0 0] 26)).drew) q 1 hwr.2 (((Below.refl _ _).alloc (Nat.le_refl _) _).drew)).mono ?_; rw [HRP.out]; rintro e1 w1 ⟨v, rfl, hn⟩; obtain ⟨na, ncap, hv, -, -, -⟩ := row_open hn.row; subst hv; have hB2 : Below (wa.heap.size + 1) (wa.alloc (.cells (rptCells (Rpt.only 0) (.slice none 0 0)).toArray 26)) w1 := ⟨hn.below.os, hn.below.tape, hn.below.output, by have := hn.below.size; simpa using this, fun b hb => hn.below.block b (by simpa using hb)⟩; have HB1 : Hid (Below wa.heap.size wa w1) := ((Below.refl _ _).alloc (Nat.le_refl _) _).trans (hB2.mono (by omega)); have HRW := hide2 hn.row; have HVL : Hid (∀ g, (Value.slice na rp.near.length ncap).ownBlock = some g → wa.heap.size + 1 ≤ g) := (fun g hg => (by have := hn.vlo g hg; simpa using this)); have HRZ : Hid (Blk w1 wa.heap.size 26 (rptCells (Rpt.only 0) (.slice none 0 0))) := (Blk.alloc wa 26 (rptCells (Rpt.only 0) (.slice none 0 0))).below hB2 (by omega); have rz0 := HRZ.out.cell (j := 0) rfl; have rzf0 := HRZ.out.frozen 0; have rz1 := HRZ.out.cell (j := 1) rfl; have rzf1 := HRZ.out.frozen 1; have rz2 := HRZ.out.cell (j := 2) rfl; have rzf2 := HRZ.out.frozen 2; have rz3 := HRZ.out.cell (j := 3) rfl; have rzf3 := HRZ.out.frozen 3; have rz4 := HRZ.out.cell (j := 4) rfl; have rzf4 := HRZ.out.frozen 4; have rz5 := HRZ.out.cell (j := 5) rfl; have rzf5 := HRZ.out.frozen 5; have rz6 := HRZ.out.cell (j := 6) rfl; have rzf6 := HRZ.out.frozen 6; have rz7 := HRZ.out.cell (j := 7) rfl; have rzf7 := HRZ.out.frozen 7; have rz8 := HRZ.out.cell (j := 8) rfl; have rzf8 := HRZ.out.frozen 8; have rz9 := HRZ.out.cell (j := 9) rfl; have rzf9 := HRZ.out.frozen 9; have hrzl := HRZ.out.lt; have c51 : w1.cell? ⟨F.sb, 5, none⟩ = some (.pointer (some ⟨F.ph, 0, none⟩)) := (HB1.out.cell (p := ⟨F.sb, 5, none⟩) hsl).trans c5; have nc5 := World.new_ne w1 ⟨F.sb, 5, none⟩ c51; have x11 : w1.cell? ⟨w.heap.size, 1, none⟩ = some (.int .i64 (ka : Int)) := (HB1.out.cell (p := ⟨w.heap.size, 1, none⟩) hol).trans x1; have nx1 := World.new_ne w1 ⟨w.heap.size, 1, none⟩ x11; have ra1 : w1.cell? ⟨F.sb, 6 + ka, none⟩ = some (.int .i64 q0) := (HB1.out.cell (p := ⟨F.sb, 6 + ka, none⟩) hsl).trans ra; have nra := World.new_ne w1 ⟨F.sb, 6 + ka, none⟩ ra1; have x31 : w1.cell? ⟨w.heap.size, 3, none⟩ = some (.int .i64 c) := (HB1.out.cell (p := ⟨w.heap.size, 3, none⟩) hol).trans x3; have nx3 := World.new_ne w1 ⟨w.heap.size, 3, none⟩ x31; unfold rptV rptCells; clear hn hB2))
    · go_wp2
      go_meet
      case rel => exact ⟨_, _, rfl, RptAt.behind HNR.out⟩
    · go_wp2
      go_meet
      case rel => exact ⟨_, _, rfl, RptAt.ahead HRZ.out HB1.out HRW.out HVL.out⟩
  case rest =>
    obtain ⟨pb, vr, rfl, hA⟩ := hcut
    have HA := hide2 hA
    have HM1 := hide2 (HM.out.under hA.near.below)
    have HX1 := hide2 (HX.out.below hA.near.below hol)
    obtain ⟨na, ncap, hv, -, -, -⟩ := row_open hA.near.row
    subst hv
    clear hA c5 x0 x1 x2 x3 ra rb hsl hol HX
    generalize wc = w5 at *
    have hsl := HM1.out.blk.lt
    have hol := HX1.out.lt
    have k5 := HM1.out.c2
    have k1 := HX1.out.cell (j := 1) rfl
    have k2 := HX1.out.cell (j := 2) rfl
    have k3 := HX1.out.cell (j := 3) rfl
    have ka1 : w5.cell? ⟨F.sb, 6 + ka, none⟩ = some (.int .i64 q0) := (HM1.out.reg ka hka).trans (by rw [← hq0])
    have kb1 : w5.cell? ⟨F.sb, 6 + kb, none⟩ = some (.int .i64 v0) := (HM1.out.reg kb hkb).trans (by rw [← hv0])
    go_upto_region 17 with (fail)
    go_region_held3 (fun w' => w'.cell? ⟨F.sb, 5, none⟩ = some (.pointer (some ⟨F.ph, 0, none⟩)) ∧ w'.cell? ⟨w.heap.size, 1, none⟩ = some (.int .i64 (ka : Int)) ∧ w'.cell? ⟨w.heap.size, 2, none⟩ = some (.int .i64 (kb : Int)) ∧ w'.cell? ⟨w.heap.size, 3, none⟩ = some (.int .i64 c) ∧ w'.cell? ⟨F.sb, 6 + ka, none⟩ = some (.int .i64 q0) ∧ w'.cell? ⟨F.sb, 6 + kb, none⟩ = some (.int .i64 v0)) (go_keep)
      (first | (go_at_call 65; refine (rt_store F.ph F.vc vl vm S.R w5.drew (HM1.out.under ((Below.refl _ _).drew)).heap HROK.out (by omega) (by omega) q 1 v0 hwr.2).mono ?_; rintro e1 w2 ⟨vl2, vm2, rfl, hg2⟩; have HM2 := hide2 ((HM1.out.under ((Below.refl _ _).drew)).call hg2 (RGood.store HSIM.out q 1 v0).sim); have HX2 := hide2 ((HX1.out.below ((Below.refl _ _).drew) hol).kept hg2.kept HNF.out); have HR := hide2 ((HA.out.later ((Below.refl _ _).drew)).called HM.out hg2); clear hg2; have j5 := HM2.out.c2; have j1 := HX2.out.cell (j := 1) rfl; have j2 := HX2.out.cell (j := 2) rfl; have j3 := HX2.out.cell (j := 3) rfl; have jr : w2.cell? ⟨F.sb, 6 + ka, none⟩ = some (.int .i64 q0) := (HM2.out.reg ka hka).trans (by rw [← hq0]; rfl); have jb : w2.cell? ⟨F.sb, 6 + kb, none⟩ = some (.int .i64 v0) := (HM2.out.reg kb hkb).trans (by rw [← hv0]; rfl)))
    clear k5 k1 k2 k3 ka1 kb1 j5 j1 j2 j3 jr jb HM1 HX1
    generalize S.R.storeErr q 1 = er at *
    have r0 := HR.out.blk.cell (j := 0) rfl
    have r1 := HR.out.blk.cell (j := 1) rfl
    have r2 := HR.out.blk.cell (j := 2) rfl
    have r3 := HR.out.blk.cell (j := 3) rfl
    have r4 := HR.out.blk.cell (j := 4) rfl
    have r5 := HR.out.blk.cell (j := 5) rfl
    have r6 := HR.out.blk.cell (j := 6) rfl
    have r7 := HR.out.blk.cell (j := 7) rfl
    have r8 := HR.out.blk.cell (j := 8) rfl
    have r9 := HR.out.blk.cell (j := 9) rfl
    go_wp2_with (go_at_call 38; refine (HM2.out.faulting HR.out er).mono ?_; rintro e4 w6 ⟨rfl, ⟨vn6, hm6⟩, hk6⟩; have HM6 := hide2 hm6; clear hm6 hk6)
    go_end0
    exact ⟨rfl, SDone.of (by rw [HD.out]; exact HM6.out)⟩
end Go.Proofs.YtjikemhmnkckcabGreat
