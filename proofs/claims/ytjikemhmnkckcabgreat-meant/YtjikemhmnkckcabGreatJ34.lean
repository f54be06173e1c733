import Derived.Test.YtjikemhmnkckcabGreatJ33
import Derived.StillTail
import Derived.StillTactics
namespace Go.Proofs.YtjikemhmnkckcabGreat
open Go.RowKit
attribute [local go_sem ↓] Go.wp_at_zero Go.wp_at_succ
section
variable (F : IFix) (wB : World) (vT vF : Value) (V : List Value) (col : Nat → Nat) (S : IS) (w : World)
set_option maxRecDepth 100000 in
set_option maxHeartbeats 6400000 in
theorem iblock_free (h : IRep F wB w vT vF V col S) (hg : IGood F S) (ka kb : Nat) (c : Int) (hka : ka < 8) (hkb : kb < 8) (hlen : S.T.length ≤ 1000000) (hfl : S.F.length ≤ 1000000) :
 Calls Tryz.prog 70 #[.pointer (some ⟨F.mb, 0, none⟩), .agg #[.int .i64 12, .int .i64 (ka : Int), .int .i64 (kb : Int), .int .i64 c]] w fun e w' => e = .returned (.tuple #[]) ∧ IDone F wB w' (iFree S ka) := by
 obtain ⟨wa, hwa⟩ : ∃ wa, wa = w.alloc (.cells #[.int .i64 12, .int .i64 (ka : Int), .int .i64 (kb : Int), .int .i64 c] 60) := ⟨_, rfl⟩
 have HB : Hid (Below w.heap.size w wa) := by show Below _ _ _; rw [hwa]; exact (Below.refl _ _).alloc (Nat.le_refl _) _
 have HX : Hid (Blk wa w.heap.size 60 [.int .i64 12, .int .i64 (ka : Int), .int .i64 (kb : Int), .int .i64 c]) := by show Blk _ _ _ _; rw [hwa]; exact Blk.alloc _ _ _
 have HRa := hide2 (h.under HB.out);have HG := hide2 hg;have HOW : Hid (∀ b, IOwn F.mb vT vF V b → b < w.heap.size) := fun b hb => h.own_lt hb
 have x0 := HX.out.cell (j := 0) rfl;have x1 := HX.out.cell (j := 1) rfl;have x2 := HX.out.cell (j := 2) rfl;have x3 := HX.out.cell (j := 3) rfl;have hxl := HX.out.lt;have c7 := HRa.out.cOf kb hkb;have c8 := HRa.out.cN kb hkb;have kaI : (ka : Int) < 8 := by omega
 have kbI : (kb : Int) < 8 := by omega
 clear h hg;obtain ⟨vo, hvo⟩ : ∃ vo, vo = (iv S.r kb).of := ⟨_, rfl⟩
 obtain ⟨vn, hvn⟩ : ∃ vn, vn = (iv S.r kb).n := ⟨_, rfl⟩
 rw [← hvo] at c7;rw [← hvn] at c8;have HVO := hide2 hvo;have HVN := hide2 hvn;clear hvo hvn;go_enter Tryz.func70, Tryz.ntmps70;go_upto_region 1 with (fail);rw [← hwa];clear hwa
 go_region_held3 (fun w' => w'.cell? ⟨w.heap.size, 2, none⟩ = some (.int .i64 (kb : Int)) ∧ w'.cell? ⟨F.mb, 7 + kb * 2, none⟩ = some (.int .i64 (vo : Int)) ∧ w'.cell? ⟨F.mb, 7 + kb * 2 + 1, none⟩ = some (.int .i64 vn)) (go_keep) (first | fail)
 rename_i hold
 clear hold;obtain ⟨wb, hwb⟩ : ∃ wb, wb = (wa.alloc (.cells #[.int .i64 (vo : Int), .int .i64 vn] 107)).drew := ⟨_, rfl⟩
 rw [← hwb];have HBb : Hid (Below wa.heap.size wa wb) := by show Below _ _ _; rw [hwb]; exact ((Below.refl _ _).alloc (Nat.le_refl _) _).drew
 have HY : Hid (Blk wb wa.heap.size 107 [.int .i64 (vo : Int), .int .i64 vn]) := by show Blk _ _ _ _; rw [hwb]; exact Blk.alloc _ _ _
 have HXb := hide2 (HX.out.below HBb.out hxl);have HRb := hide2 (HRa.out.under HBb.out);have HBB : Hid (Below w.heap.size w wb) := HB.out.trans (HBb.out.mono HB.out.size);clear x0 x1 x2 x3 c7 c8 hwb HX HRa;have x0 := HXb.out.cell (j := 0) rfl;have x1 := HXb.out.cell (j := 1) rfl;have x2 := HXb.out.cell (j := 2) rfl;have y0 := HY.out.cell (j := 0) rfl;have y1 := HY.out.cell (j := 1) rfl;have hnm : ¬ w.heap.size = F.mb := fun e => by have := HOW.out F.mb (.inl rfl); omega
 have hnm' : F.mb ≠ w.heap.size := fun e => hnm e.symm
 have hnm2 : ¬ wa.heap.size = F.mb := fun e => by have := HOW.out F.mb (.inl rfl); have := HB.out.size; omega
 have hnm2' : F.mb ≠ wa.heap.size := fun e => hnm2 e.symm
 have hwx : w.heap.size ≠ wa.heap.size := by omega
 have hwx' : wa.heap.size ≠ w.heap.size := by omega
 have hNO : Hid (¬ IOwn F.mb vT vF V w.heap.size) := fun x => by have := HOW.out _ x; omega
 have hNO2 : Hid (¬ IOwn F.mb vT vF V wa.heap.size) := fun x => by have := HOW.out _ x; have := HB.out.size; omega
 have HVG := hide2 (HG.out.rv ka hka);have c7 := HRb.out.cOf ka hka;have c8 := HRb.out.cN ka hka;clear HVO HVN;obtain ⟨ov, hov⟩ : ∃ ov, ov = (iv S.r ka).of := ⟨_, rfl⟩
 obtain ⟨nv, hnv⟩ : ∃ nv, nv = (iv S.r ka).n := ⟨_, rfl⟩
 rw [← hov] at c7;rw [← hnv] at c8;have HEV : Hid (iv S.r ka = ⟨ov, nv⟩) := by show _ = _; rw [hov, hnv]
 clear hov hnv;have f0 := HY.out.frozen 0;have f1 := HY.out.frozen 1;have hyl := HY.out.lt;go_upto_region 3 with (fail)
 go_region_held3 (fun w' => w'.cell? ⟨w.heap.size, 1, none⟩ = some (.int .i64 (ka : Int)) ∧ w'.cell? ⟨F.mb, 7 + ka * 2, none⟩ = some (.int .i64 (ov : Int)) ∧ w'.cell? ⟨F.mb, 7 + ka * 2 + 1, none⟩ = some (.int .i64 nv)) (go_keep) (first | fail)
 rename_i hold
 clear hold;obtain ⟨wc, hwc⟩ : ∃ wc, wc = ((wb.setCell ⟨wa.heap.size, 0, none⟩ (.int .i64 (ov : Int))).setCell ⟨wa.heap.size, 1, none⟩ (.int .i64 nv)).drew := ⟨_, rfl⟩
 rw [← hwc];have HKc : Hid (Kept wb wc (· = wa.heap.size)) := by show Kept _ _ _; rw [hwc]; exact ((((Kept.refl wb (· = wa.heap.size)).setCell _ _ rfl).setCell _ _ rfl).drewN 1)
 have HYc : Hid (Blk wc wa.heap.size 107 [.int .i64 (ov : Int), .int .i64 nv]) := by show Blk _ _ _ _; rw [hwc]; exact (HY.out.setCell 0 _).setCell 1 _
 have HXc := hide2 (HKc.out.blk HXb.out hwx);have HRc := hide2 (HRb.out.aside HKc.out (fun b e => ⟨fun x => hNO2.out (by rw [← e]; exact x), by have := HRb.out.hm; have := HOW.out F.mb (.inl rfl); have := HB.out.size; omega⟩));clear x0 x1 x2 y0 y1 c7 c8 f0 f1 hwc HY HXb HRb;have x0 := HXc.out.cell (j := 0) rfl;have y0 := HYc.out.cell (j := 0) rfl;have y1 := HYc.out.cell (j := 1) rfl;have hv : (⟨ov, nv⟩ : IV).of < S.T.length ∧ -9223372036854775808 ≤ (⟨ov, nv⟩ : IV).n ∧ (⟨ov, nv⟩ : IV).n ≤ 9223372036854775807 := by rw [← HEV.out]; exact HVG.out
 have HS : Hid (iFree S ka = if iNothing ⟨ov, nv⟩ = true then S else if iOwns S.T ⟨ov, nv⟩ = true then S.free ov else S.ends 102) := by show _ = _; unfold iFree; rw [HEV.out]
 clear HEV HVG;have HV := hide2 hv;clear hv
 by_cases hn : ov = 0 ∧ nv = 0
 ·obtain ⟨rfl, rfl⟩ := hn;have HS1 : Hid (iFree S ka = S) := by show _ = _; rw [HS.out, if_pos (by decide)]
  clear HS
  go_wp2_with fail
  refine (iheld_any F wB vT vF V col S wc HRc.out HG.out ⟨0, 0⟩ HV.out.1 HV.out.2.1 HV.out.2.2 hlen).mono ?_;rintro e1 w1 ⟨⟨r, rfl, -⟩, hb1⟩;have HR1 := hide2 (HRc.out.under hb1);clear x0 y0 y1;go_wp2;go_end0;exact ⟨rfl, _, _, _, _, _, HR1.out, .inl HS1.out.symm⟩
 ·have HN : Hid (iNothing ⟨ov, nv⟩ = false) := decide_eq_false hn
  have key : ((ov : Int) == 0) = false ∨ (((ov : Int) == 0) = true ∧ (nv == 0) = false) := by
   by_cases q : ov = 0
   ·right; exact ⟨by simp [q], by simp; exact fun e => hn ⟨q, e⟩⟩
   ·left; simp; omega
  clear hn
  rcases key with k1 | ⟨k1, k2⟩
  all_goals
   go_wp2_with fail
   refine (iheld_any F wB vT vF V col S wc HRc.out HG.out ⟨ov, nv⟩ HV.out.1 HV.out.2.1 HV.out.2.2 hlen).mono ?_;rintro e1 w1 ⟨⟨r, rfl, hs⟩, hb1⟩;have HR1 := hide2 (HRc.out.under hb1);have HY1 := hide2 (HYc.out.below hb1 HYc.out.lt);clear x0 y0 y1
   rcases hs with ⟨ho, rfl⟩ | ⟨ho, hr⟩
   ·have HS1 : Hid (iFree S ka = S.free ov) := by show _ = _; rw [HS.out, if_neg (by rw [HN.out]; decide), if_pos ho]
    clear HS ho
    go_wp2_with fail
    refine (istop_no F wB vT vF V col S w1 HR1.out).mono ?_;rintro e2 w2 ⟨rfl, hR2, hb2⟩;have HR2 := hide2 hR2;have z0 := (HY1.out.below hb2 HY1.out.lt).cell (j := 0) rfl;clear hR2 hb2
    go_wp2_with fail
    refine (ifree_any F wB vT vF V col S w2 HR2.out ov HV.out.1 hlen hfl).mono ?_;rintro e3 w3 ⟨rfl, vF3, col3, hR3, -⟩;have HR3 := hide2 hR3;clear hR3;go_wp2;go_end0;exact ⟨rfl, _, _, _, _, _, HR3.out, .inl HS1.out.symm⟩
   ·have HS1 : Hid (iFree S ka = S.ends 102) := by show _ = _; rw [HS.out, if_neg (by rw [HN.out]; decide), if_neg (by rw [ho]; decide)]
    clear HS ho
    go_wp2_with fail
    refine (istop_yes F wB vT vF V col S w1 HR1.out r hr).mono ?_;rintro e2 w2 ⟨rfl, hR2, -⟩;have HR2 := hide2 hR2;clear hR2;go_wp2;go_end0;exact ⟨rfl, _, _, _, _, _, HR2.out, .inr ⟨by rw [HS1.out]; rfl, hr⟩⟩
end
section
variable (F : IFix) (wB : World) (vT vF : Value) (V : List Value) (col : Nat → Nat) (S : IS) (w : World)
set_option maxRecDepth 100000 in
set_option maxHeartbeats 6400000 in
theorem iblock_usable (h : IRep F wB w vT vF V col S) (hg : IGood F S) (ka kb : Nat) (c : Int) (hka : ka < 8) (hkb : kb < 8) (hlen : S.T.length ≤ 1000000) :
 Calls Tryz.prog 70 #[.pointer (some ⟨F.mb, 0, none⟩), .agg #[.int .i64 14, .int .i64 (ka : Int), .int .i64 (kb : Int), .int .i64 c]] w fun e w' => e = .returned (.tuple #[]) ∧ IDone F wB w' (iUsable S ka kb) := by
 obtain ⟨wa, hwa⟩ : ∃ wa, wa = w.alloc (.cells #[.int .i64 14, .int .i64 (ka : Int), .int .i64 (kb : Int), .int .i64 c] 60) := ⟨_, rfl⟩
 have HB : Hid (Below w.heap.size w wa) := by show Below _ _ _; rw [hwa]; exact (Below.refl _ _).alloc (Nat.le_refl _) _
 have HX : Hid (Blk wa w.heap.size 60 [.int .i64 14, .int .i64 (ka : Int), .int .i64 (kb : Int), .int .i64 c]) := by show Blk _ _ _ _; rw [hwa]; exact Blk.alloc _ _ _
 have HRa := hide2 (h.under HB.out);have HG := hide2 hg;have HOW : Hid (∀ b, IOwn F.mb vT vF V b → b < w.heap.size) := fun b hb => h.own_lt hb
 have x0 := HX.out.cell (j := 0) rfl;have x1 := HX.out.cell (j := 1) rfl;have x2 := HX.out.cell (j := 2) rfl;have x3 := HX.out.cell (j := 3) rfl;have hxl := HX.out.lt;have c7 := HRa.out.cOf kb hkb;have c8 := HRa.out.cN kb hkb;have kaI : (ka : Int) < 8 := by omega
 have kbI : (kb : Int) < 8 := by omega
 clear h hg;obtain ⟨vo, hvo⟩ : ∃ vo, vo = (iv S.r kb).of := ⟨_, rfl⟩
 obtain ⟨vn, hvn⟩ : ∃ vn, vn = (iv S.r kb).n := ⟨_, rfl⟩
 rw [← hvo] at c7;rw [← hvn] at c8;have HVO := hide2 hvo;have HVN := hide2 hvn;clear hvo hvn;go_enter Tryz.func70, Tryz.ntmps70;go_upto_region 1 with (fail);rw [← hwa];clear hwa
 go_region_held3 (fun w' => w'.cell? ⟨w.heap.size, 2, none⟩ = some (.int .i64 (kb : Int)) ∧ w'.cell? ⟨F.mb, 7 + kb * 2, none⟩ = some (.int .i64 (vo : Int)) ∧ w'.cell? ⟨F.mb, 7 + kb * 2 + 1, none⟩ = some (.int .i64 vn)) (go_keep) (first | fail)
 rename_i hold
 clear hold;obtain ⟨wb, hwb⟩ : ∃ wb, wb = (wa.alloc (.cells #[.int .i64 (vo : Int), .int .i64 vn] 107)).drew := ⟨_, rfl⟩
 rw [← hwb];have HBb : Hid (Below wa.heap.size wa wb) := by show Below _ _ _; rw [hwb]; exact ((Below.refl _ _).alloc (Nat.le_refl _) _).drew
 have HY : Hid (Blk wb wa.heap.size 107 [.int .i64 (vo : Int), .int .i64 vn]) := by show Blk _ _ _ _; rw [hwb]; exact Blk.alloc _ _ _
 have HXb := hide2 (HX.out.below HBb.out hxl);have HRb := hide2 (HRa.out.under HBb.out);have HBB : Hid (Below w.heap.size w wb) := HB.out.trans (HBb.out.mono HB.out.size);clear x0 x1 x2 x3 c7 c8 hwb HX HRa;have x0 := HXb.out.cell (j := 0) rfl;have x1 := HXb.out.cell (j := 1) rfl;have x2 := HXb.out.cell (j := 2) rfl;have y0 := HY.out.cell (j := 0) rfl;have y1 := HY.out.cell (j := 1) rfl;have hnm : ¬ w.heap.size = F.mb := fun e => by have := HOW.out F.mb (.inl rfl); omega
 have hnm' : F.mb ≠ w.heap.size := fun e => hnm e.symm
 have hnm2 : ¬ wa.heap.size = F.mb := fun e => by have := HOW.out F.mb (.inl rfl); have := HB.out.size; omega
 have hnm2' : F.mb ≠ wa.heap.size := fun e => hnm2 e.symm
 have hwx : w.heap.size ≠ wa.heap.size := by omega
 have hwx' : wa.heap.size ≠ w.heap.size := by omega
 have hNO : Hid (¬ IOwn F.mb vT vF V w.heap.size) := fun x => by have := HOW.out _ x; omega
 have hNO2 : Hid (¬ IOwn F.mb vT vF V wa.heap.size) := fun x => by have := HOW.out _ x; have := HB.out.size; omega
 have HVG := hide2 (HG.out.rv kb hkb);have HEV : Hid (iv S.r kb = ⟨vo, vn⟩) := by show _ = _; rw [HVO.out, HVN.out]
 clear HVO HVN;have hv : (⟨vo, vn⟩ : IV).of < S.T.length ∧ -9223372036854775808 ≤ (⟨vo, vn⟩ : IV).n ∧ (⟨vo, vn⟩ : IV).n ≤ 9223372036854775807 := by rw [← HEV.out]; exact HVG.out
 have HS : Hid (iUsable S ka kb = if iOwns S.T ⟨vo, vn⟩ = true then S.reg ka ⟨0, (S.th vo).cells.length⟩ else S.ends 102) := by show _ = _; unfold iUsable; rw [HEV.out]
 clear HEV HVG;have HV := hide2 hv;clear hv
 have key : (vo = 0 ∧ vn = 0) ∨ ((vo : Int) == 0) = false ∨ (((vo : Int) == 0) = true ∧ (vn == 0) = false) := by
  by_cases q : vo = 0
  ·by_cases q2 : vn = 0
   ·exact .inl ⟨q, q2⟩
   ·right; right; exact ⟨by simp [q], by simp [q2]⟩
  ·right; left; simp; omega
 rcases key with ⟨rfl, rfl⟩ | k1 | ⟨k1, k2⟩
 ·have HS1 : Hid (iUsable S ka kb = S.ends 102) := by show _ = _; rw [HS.out, if_neg (fun x => absurd (of_decide_eq_true x).1 (by simp))]
  have HNO3 : Hid (iOwns S.T ⟨0, 0⟩ = false) := decide_eq_false (fun x => absurd x.1 (by simp));clear HS
  go_wp2_with fail
  refine (iheld_any F wB vT vF V col S wb HRb.out HG.out ⟨0, 0⟩ HV.out.1 HV.out.2.1 HV.out.2.2 hlen).mono ?_;rintro e1 w1 ⟨⟨r, rfl, hs⟩, hb1⟩;have HR1 := hide2 (HRb.out.under hb1);clear x0 x1 x2 y0 y1
  have hr : r = 101 ∨ r = 102 := by
   rcases hs with ⟨ho, _⟩ | ⟨_, hr⟩
   ·rw [HNO3.out] at ho; cases ho
   ·exact hr
  clear hs
  go_wp2_with fail
  refine (istop_yes F wB vT vF V col S w1 HR1.out r hr).mono ?_;rintro e2 w2 ⟨rfl, hR2, -⟩;have HR2 := hide2 hR2;clear hR2;go_wp2;go_end0;exact ⟨rfl, _, _, _, _, _, HR2.out, .inr ⟨by rw [HS1.out]; rfl, hr⟩⟩
 all_goals
  go_wp2_with fail
  refine (iheld_any F wB vT vF V col S wb HRb.out HG.out ⟨vo, vn⟩ HV.out.1 HV.out.2.1 HV.out.2.2 hlen).mono ?_;rintro e1 w1 ⟨⟨r, rfl, hs⟩, hb1⟩;have HR1 := hide2 (HRb.out.under hb1);have HY1 := hide2 (HY.out.below hb1 HY.out.lt);have HX1 := hide2 (HXb.out.below hb1 HXb.out.lt);clear x0 x1 x2 y0 y1
  rcases hs with ⟨ho, rfl⟩ | ⟨ho, hr⟩
  ·have HS1 : Hid (iUsable S ka kb = S.reg ka ⟨0, (S.th vo).cells.length⟩) := by show _ = _; rw [HS.out, if_pos ho]
   clear HS ho
   go_wp2_with fail
   refine (istop_no F wB vT vF V col S w1 HR1.out).mono ?_;rintro e2 w2 ⟨rfl, hR2, hb2⟩;have HR2 := hide2 hR2;have z0 := (HY1.out.below hb2 HY1.out.lt).cell (j := 0) rfl;have x1 := (HX1.out.below hb2 HX1.out.lt).cell (j := 1) rfl;obtain ⟨gt, cap, e5, hcap, hmax, hgl, -, hcell⟩ := hR2.things (by have := HG.out.len; omega);have c5 := hR2.c5;rw [e5] at c5;have hvo : vo < S.T.length := HV.out.1;obtain ⟨-, -, -, d3⟩ := hcell vo hvo;obtain ⟨a, ha⟩ := hR2.vlen HG.out.z0 vo hvo;rw [ha] at d3;have hvI : (vo : Int) < (S.T.length : Int) := by omega
   have hsm := HG.out.sm vo;unfold maxLen at hmax;have q7 := hR2.cOf ka hka;have q8 := hR2.cN ka hka;have f7 := hR2.blk.frozen (7 + ka * 2);have f8 := hR2.blk.frozen (7 + ka * 2 + 1);have HLN : Hid ((S.th vo).cells.length = (S.T.getD vo IT.no).cells.length) := rfl
   have hgm : gt ≠ F.mb := fun e => by
    have h1 := hR2.colT (b := gt) (by rw [e5]; rfl);have h2 := hR2.sep.mb;rw [e, h2] at h1; omega
   have hgm' : F.mb ≠ gt := fun e => hgm e.symm
   clear hR2 hb2 hcell ha e5;generalize (S.T.getD vo IT.no).cells.length = ln at *
   go_wp2_with fail
   refine wp_region_still_tail 17 (by kernel_rfl) (by kernel_rfl) ?_
   repeat still_step
   refine wpStill_nil ?_
   have HFIN : Hid (IRep F wB (((w2.setCell ⟨F.mb, 7 + ka * 2, none⟩ (.int .i64 0)).setCell ⟨F.mb, 7 + ka * 2 + 1, none⟩ (.int .i64 (ln : Int))).drew) vT vF V col (S.reg ka ⟨0, ln⟩)) := by
    have := HR2.out.setReg ka hka ⟨0, ln⟩;exact this.under ((Below.refl _ _).drew)
   go_wp2;go_end0;exact ⟨rfl, _, _, _, _, _, HFIN.out, .inl (by rw [HS1.out, HLN.out])⟩
  ·have HS1 : Hid (iUsable S ka kb = S.ends 102) := by show _ = _; rw [HS.out, if_neg (by rw [ho]; decide)]
   clear HS ho
   go_wp2_with fail
   refine (istop_yes F wB vT vF V col S w1 HR1.out r hr).mono ?_;rintro e2 w2 ⟨rfl, hR2, -⟩;have HR2 := hide2 hR2;clear hR2;go_wp2;go_end0;exact ⟨rfl, _, _, _, _, _, HR2.out, .inr ⟨by rw [HS1.out]; rfl, hr⟩⟩
end
theorem info_cell2 : (Tryz.prog.info? 115).map (fun i => (i.zero, i.size, i.bytes)) = some (some (.agg #[.int .i64 0, .int .i64 0, .int .i64 0]), 3, 24) := by kernel_rfl
structure LaidTo (w wr : World) (n : Int) (m : Nat) (v : Value) : Prop where
 row : wr.ownsRow 0 115 3 v m ((iLaid n m).flatMap icCells)
 bel : Below w.heap.size w wr
 new : ∀ g, v.ownBlock = some g → w.heap.size ≤ g
theorem iLaid_succ (n : Int) (m : Nat) : iLaid n (m + 1) = iLaid n m ++ [⟨⟨0, Ref.stV n m % 256⟩, 0⟩] := by
 unfold iLaid; rw [List.range_succ, List.map_append]; rfl
theorem stV_div (n : Int) (m : Nat) (hm : m < 8) : Ref.stV n m % 256 = n / 2 ^ (8 * m) % 256 := by
 have s0 : Ref.stV n 0 = n % 18446744073709551616 := rfl;have s1 : Ref.stV n 1 = Ref.stV n 0 / 256 := rfl;have s2 : Ref.stV n 2 = Ref.stV n 1 / 256 := rfl;have s3 : Ref.stV n 3 = Ref.stV n 2 / 256 := rfl;have s4 : Ref.stV n 4 = Ref.stV n 3 / 256 := rfl;have s5 : Ref.stV n 5 = Ref.stV n 4 / 256 := rfl;have s6 : Ref.stV n 6 = Ref.stV n 5 / 256 := rfl;have s7 : Ref.stV n 7 = Ref.stV n 6 / 256 := rfl
 rcases (show m = 0 ∨ m = 1 ∨ m = 2 ∨ m = 3 ∨ m = 4 ∨ m = 5 ∨ m = 6 ∨ m = 7 by omega) with rfl | rfl | rfl | rfl | rfl | rfl | rfl | rfl
 ·rw [s0]; show _ = n / 1 % 256; omega
 ·rw [s1, s0]; show _ = n / 256 % 256; omega
 ·rw [s2, s1, s0]; show _ = n / 65536 % 256; omega
 ·rw [s3, s2, s1, s0]; show _ = n / 16777216 % 256; omega
 ·rw [s4, s3, s2, s1, s0]; show _ = n / 4294967296 % 256; omega
 ·rw [s5, s4, s3, s2, s1, s0]; show _ = n / 1099511627776 % 256; omega
 ·rw [s6, s5, s4, s3, s2, s1, s0]; show _ = n / 281474976710656 % 256; omega
 ·rw [s7, s6, s5, s4, s3, s2, s1, s0]; show _ = n / 72057594037927936 % 256; omega
set_option maxRecDepth 100000 in
set_option maxHeartbeats 3200000 in
theorem ilaid_any (n : Int) (wd : Nat) (w : World) (hw : wd ≤ 8) :
 Calls Tryz.prog 107 #[.int .i64 n, .int .i64 (wd : Int)] w fun e w' => ∃ v, e = .returned v ∧ LaidTo w w' n wd v := by
 obtain ⟨i0, hi0, hz0, hz1, hz2⟩ := info_parts info_cell2;go_enter Tryz.func107, Tryz.ntmps107;go_wp2
 go_loopw [5, 6] (fun v i wr => ∃ m : Nat, m ≤ wd ∧ i = .int .i64 (m : Int) ∧ LaidTo w wr n m v) (fun _ i _ => wd - (intOf i).toNat)
 case atStart => exact ⟨0, by omega, rfl, ⟨⟨rfl, .inl ⟨rfl, rfl⟩⟩, Below.refl _ _, fun g hg => by simp [Value.ownBlock] at hg⟩⟩
 case round =>
  obtain ⟨m, hm, rfl, hr⟩ := hrel
  by_cases hlt : m < wd
  ·have hI : (m : Int) < (wd : Int) := by omega
   have m8 : (8 : Int) * (m : Int) ≤ 64 := by omega
   have hv : bits .and .i64 (n / 2 ^ (8 * m)) 255 = Ref.stV n m % 256 := by
    rw [and_i64, stV_div n m (by omega)]
   have HR := hide2 hr;generalize hx : Ref.stV n m % 256 = x at *;have HX := hide2 hx;clear hr hx
   go_wp2_with (at_builtin; go_loud (refine wpList_append_lies _ rfl _ _ _ rfl 0 115 i0 _ 3 24 Tryz.underlying111 hi0 hz0 hz1 hz2 rfl (by omega) u5 m ((iLaid n m).flatMap icCells) rfl (HR.out.row.alloc _) ⟨wr.heap.size, 0, none⟩ 1 1 [.int .i64 0, .int .i64 x, .int .i64 0] rfl rfl (World.news_of_block (cs := #[.int .i64 0, .int .i64 x, .int .i64 0]) (t := 115) (fr := (0, 0)) (heap_alloc_new wr _)) (by simp [Value.oneCell']) (by omega) (by simp [maxLen]; omega) (by omega) (by simp) (wr.heap.size + 1) (by simp) ?_; intro gg cap2 w2 hown hgrow hat hlt2))
   have hg7 : (wr.alloc (.cells #[.int .i64 0, .int .i64 x, .int .i64 0] 115)).grownBy w2 u5.ownBlock := ⟨hgrow.os, hgrow.tape, hgrow.output, hgrow.size, hgrow.block⟩
   have HS : Hid (LaidTo w w2 n (m + 1) (.slice (some ⟨gg, 0, none⟩) (m + 1) cap2)) := by
    have hs7 := hg7.size;rw [World.size_alloc] at hs7;have hbs := HR.out.bel.size;refine ⟨?_, ?_, fun g hg => ?_⟩
    ·rw [iLaid_succ, List.flatMap_append, HX.out]
     simpa [icCells] using hown
    ·refine HR.out.bel.trans ⟨hg7.os, hg7.tape, hg7.output, by omega, fun b hb => ?_⟩;rw [hg7.block b (by rw [World.size_alloc]; omega) (fun e => by have := HR.out.new b e.symm; omega)];exact Below.heap_alloc wr _ b (by omega)
    ·simp [Value.ownBlock] at hg;subst hg
     rcases hat with e | e
     ·exact HR.out.new gg e
     ·omega
   clear hg7 hown hgrow hat hlt2
   go_roundw
   case rel => exact ⟨m + 1, by omega, by go_num, HS.out⟩
   case measure => simp [intOf]; omega
  ·obtain rfl : m = wd := by omega
   go_wp2;go_ret;exact ⟨_, rfl, hr⟩
end Go.Proofs.YtjikemhmnkckcabGreat
namespace Go.Proofs.YtjikemhmnkckcabGreat
open Go Go.RowKit
theorem run_copy_rowW {P : Program} (w : World) (dT sT ty elem : TypeId) (size : Nat) (g o dLen dCap : Nat) (a : Addr) (sLen sCap : Nat) (cur : Array Value) (t : TypeId) (cs : List Value)
 (hu : P.underlying dT = some (.slice elem)) (hs : (P.info? elem).map (·.size) = some size)
 (hg : w.heap[g]? = some (.cells cur t (0, 0))) (hn : cs.length = Nat.min sLen dLen * size)
 (hsrc : ∀ j v, cs[j]? = some v → w.cell? (a.add j) = some v) (hfit : o + cs.length ≤ cur.size) (h1 : ∀ v ∈ cs, v.oneCell' = true) :
 (Builtin.copy_ #[dT, sT] ty #[.slice (some ⟨g, o, none⟩) dLen dCap, .slice (some a) sLen sCap]).run P w =
   .ok (goInt (Nat.min sLen dLen)) (w.setRow g (cur.toList.take o ++ cs ++ cur.toList.drop (o + cs.length)).toArray) := by
 have hl := run_loadCells_list (P := P) w a cs hsrc;have hst := run_storeCells_at P g o t cs 0 cur w hg (by simpa using hfit) h1
 cases hq : P.info? elem with
 | none => simp [hq] at hs
 | some i =>
   have hi : i.size = size := by simpa [hq] using hs
   simp [Builtin.copy_, run_underlying hu, Builtin.lenOf, Builtin.firstCells, sizeOf, typeInfo, hq, hi, ← hn, hl, hst]
theorem step_copy_keepW {P : Program} {ops : Array Oper} {o : Oper} {a : Act} {w : World} {K : Act → World → Prop} {Q : Exit → Act → World → Prop} {E : Prop} (hgd : o.guard = none) (d s : Operand) (dT sT : TypeId)
 (ho : o.op = .call { callee := .builtin .copy, args := #[d, s], argTypes := #[dT, sT] }) (elem : TypeId) (size : Nat) (hu : P.underlying dT = some (.slice elem)) (hsz : (P.info? elem).map (·.size) = some size)
 (g off dLen dCap : Nat) (ad : Addr) (sLen sCap : Nat) (hd : a.eval d = .slice (some ⟨g, off, none⟩) dLen dCap) (hs : a.eval s = .slice (some ad) sLen sCap)
 (cur : List Value) (t : TypeId) (hg : Blk w g t cur) (cs : List Value) (hn : cs.length = Nat.min sLen dLen * size)
 (hsrc : ∀ j v, cs[j]? = some v → w.cell? (ad.add j) = some v) (hfit : off + cs.length ≤ cur.length) (h1 : ∀ v ∈ cs, v.oneCell' = true)
 (h : ∀ w', Hid (Blk w' g t (splice cur off cs)) → Hid (Kept w w' (· = g)) → K (a.put o.dst (goInt (Nat.min sLen dLen))) w') :
 if Region.wanted o (yielded ops a.tmps) = true then Oper.wp P o a w K Q else E := by
 have hw : Region.wanted o (yielded ops a.tmps) = true := by simp [Region.wanted, hgd]
 rw [if_pos hw];have hrun := run_copy_rowW (P := P) w dT sT o.type elem size g off dLen dCap ad sLen sCap cur.toArray t cs hu hsz hg hn hsrc (by simpa using hfit) h1;unfold Oper.wp;simp [execOp, ho, resolve, invoke, builtin, hd, hs, hrun, Result.andThen];refine h _ (show Blk _ _ _ _ from ?_) (show Kept _ _ _ from ⟨rfl, rfl, rfl, by simp [World.setRow], fun k _ hs => setRow_other w g k _ hs⟩);unfold Blk
 simpa [splice] using setRow_heap w g _ _ t _ hg
theorem size_cell : (Tryz.prog.info? 115).map (·.size) = some 3 := by kernel_rfl
theorem ic_one (l : List IC) : ∀ v ∈ l.flatMap icCells, v.oneCell' = true := by
 intro v hv;rw [List.mem_flatMap] at hv;obtain ⟨c, _, hc⟩ := hv;simp only [icCells, List.mem_cons, List.not_mem_nil, or_false] at hc
 rcases hc with rfl | rfl | rfl <;> rfl
theorem ic_len (l : List IC) : (l.flatMap icCells).length = l.length * 3 := flat_len icCells 3 (fun _ => rfl) l
theorem ic_drop (l : List IC) (v : Nat) : (l.drop v).flatMap icCells = (l.flatMap icCells).drop (v * 3) := by
 induction v generalizing l with
 | zero => simp
 | succ v ih =>
   cases l with
   | nil => simp
   | cons x l =>
     rw [List.drop_succ_cons, ih, List.flatMap_cons, show (v + 1) * 3 = 3 + v * 3 by omega, ← List.drop_drop];rfl
theorem ic_take (l : List IC) (v : Nat) : (l.take v).flatMap icCells = (l.flatMap icCells).take (v * 3) := by
 induction v generalizing l with
 | zero => simp
 | succ v ih =>
   cases l with
   | nil => simp
   | cons x l =>
     rw [List.take_succ_cons, List.flatMap_cons, ih, List.flatMap_cons, show (v + 1) * 3 = (icCells x).length + v * 3 by show _ = 3 + v * 3; omega, List.take_length_add_append]
theorem splice_put (l new : List IC) (v : Nat) : splice (l.flatMap icCells) (v * 3) (new.flatMap icCells) = (iPut l v new).flatMap icCells := by
 unfold splice iPut;rw [List.flatMap_append, List.flatMap_append, ic_take, ic_drop, ic_len, List.append_assoc, show (v + new.length) * 3 = v * 3 + new.length * 3 by omega]
theorem ic_part (l : List IC) (v n : Nat) (j : Nat) (u : Value) (h : ((iPart l v n).flatMap icCells)[j]? = some u) : (l.flatMap icCells)[v * 3 + j]? = some u := by
 unfold iPart at h;rw [ic_take, ic_drop, List.getElem?_take] at h
 split at h
 ·rw [List.getElem?_drop] at h; exact h
 ·cases h
theorem copy_cells (w : World) (cb off dl dcap lg sl scap : Nat) (cur cs : List Value) (hg : Blk w cb 115 cur) (hn : cs.length = Nat.min sl dl * 3) (hsrc : ∀ j v, cs[j]? = some v → w.cell? ((⟨lg, 0, none⟩ : Addr).add j) = some v) (hfit : off + cs.length ≤ cur.length) (h1 : ∀ v ∈ cs, v.oneCell' = true) :
 ∃ w', (Builtin.copy_ #[111, 111] 3 #[.slice (some ⟨cb, off, none⟩) dl dcap, .slice (some ⟨lg, 0, none⟩) sl scap]).run Tryz.prog w = .ok (goInt (Nat.min sl dl)) w' ∧ Blk w' cb 115 (splice cur off cs) ∧ Kept w w' (· = cb) := by
 refine ⟨_, run_copy_rowW (P := Tryz.prog) w _ _ _ 115 3 cb off dl dcap ⟨lg, 0, none⟩ sl scap cur.toArray 115 cs Tryz.underlying111 size_cell hg hn hsrc (by simpa using hfit) h1, ?_, ⟨rfl, rfl, rfl, by simp [World.setRow], fun k _ hs => setRow_other w cb k _ hs⟩⟩;unfold Blk
 simpa [splice] using setRow_heap w cb _ _ 115 _ hg
end Go.Proofs.YtjikemhmnkckcabGreat
