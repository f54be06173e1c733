import Derived.Test.YtjikemhmnkckcabGreatJ35
namespace Go.Proofs.YtjikemhmnkckcabGreat
open Go.RowKit
attribute [local go_sem ↓] Go.wp_at_zero Go.wp_at_succ
section
variable (F : IFix) (wB : World) (vT vF : Value) (V : List Value) (col : Nat → Nat) (S : IS) (w : World)
set_option maxRecDepth 100000 in
set_option maxHeartbeats 6400000 in
theorem itouch_load (h : IRep F wB w vT vF V col S) (hg : IGood F S) (ka kb : Nat) (c : Int) (hka : ka < 8) (hkb : kb < 8) (hlen : S.T.length ≤ 900000) :
 Calls Tryz.prog 71 #[.pointer (some ⟨F.mb, 0, none⟩), .agg #[.int .i64 15, .int .i64 (ka : Int), .int .i64 (kb : Int), .int .i64 c]] w fun e w' => e = .returned (.tuple #[]) ∧ IDone F wB w' (iLoad S ka kb c) := by
 obtain ⟨wa, hwa⟩ : ∃ wa, wa = w.alloc (.cells #[.int .i64 15, .int .i64 (ka : Int), .int .i64 (kb : Int), .int .i64 c] 60) := ⟨_, rfl⟩
 have HB : Hid (Below w.heap.size w wa) := by show Below _ _ _; rw [hwa]; exact (Below.refl _ _).alloc (Nat.le_refl _) _
 have HX : Hid (Blk wa w.heap.size 60 [.int .i64 15, .int .i64 (ka : Int), .int .i64 (kb : Int), .int .i64 c]) := by show Blk _ _ _ _; rw [hwa]; exact Blk.alloc _ _ _
 have HRa := hide2 (h.under HB.out);have HG := hide2 hg;have HOW : Hid (∀ b, IOwn F.mb vT vF V b → b < w.heap.size) := fun b hb => h.own_lt hb
 have hl2 := hg.len;have x0 := HX.out.cell (j := 0) rfl;have x1 := HX.out.cell (j := 1) rfl;have x2 := HX.out.cell (j := 2) rfl;have x3 := HX.out.cell (j := 3) rfl;have hxl := HX.out.lt;have c7 := HRa.out.cOf kb hkb;have c8 := HRa.out.cN kb hkb;have kaI : (ka : Int) < 8 := by omega
 have kbI : (kb : Int) < 8 := by omega
 have hmbw := HOW.out F.mb (.inl rfl);have hbs := HB.out.size;have hnm : w.heap.size ≠ F.mb := by omega
 have hnm' : F.mb ≠ w.heap.size := by omega
 have hnm2 : wa.heap.size ≠ F.mb := by omega
 have hnm2' : F.mb ≠ wa.heap.size := by omega
 have hwx : w.heap.size ≠ wa.heap.size := by omega
 have hwx' : wa.heap.size ≠ w.heap.size := by omega
 have hNO2 : Hid (¬ IOwn F.mb vT vF V wa.heap.size) := fun x => by have := HOW.out _ x; omega
 clear h hg;obtain ⟨bo, hbo⟩ : ∃ bo, bo = (iv S.r kb).of := ⟨_, rfl⟩
 obtain ⟨bn, hbn⟩ : ∃ bn, bn = (iv S.r kb).n := ⟨_, rfl⟩
 rw [← hbo] at c7;rw [← hbn] at c8;have HEB : Hid (iv S.r kb = ⟨bo, bn⟩) := by show _ = _; rw [hbo, hbn]
 clear hbo hbn;go_enter Tryz.func71, Tryz.ntmps71;go_upto_region 1 with (fail);rw [← hwa];clear hwa;go_upto_region 6 with (fail)
 go_region_held3 (fun w' => w'.cell? ⟨w.heap.size, 2, none⟩ = some (.int .i64 (kb : Int)) ∧ w'.cell? ⟨F.mb, 7 + kb * 2, none⟩ = some (.int .i64 (bo : Int)) ∧ w'.cell? ⟨F.mb, 7 + kb * 2 + 1, none⟩ = some (.int .i64 bn)) (go_keep) (first | fail)
 rename_i hold
 clear hold;obtain ⟨wb, hwb⟩ : ∃ wb, wb = (wa.alloc (.cells #[.int .i64 (bo : Int), .int .i64 bn] 107)).drew := ⟨_, rfl⟩
 rw [← hwb];have HBb : Hid (Below wa.heap.size wa wb) := by show Below _ _ _; rw [hwb]; exact ((Below.refl _ _).alloc (Nat.le_refl _) _).drew
 have HY : Hid (Blk wb wa.heap.size 107 [.int .i64 (bo : Int), .int .i64 bn]) := by show Blk _ _ _ _; rw [hwb]; exact Blk.alloc _ _ _
 have HXb := hide2 (HX.out.below HBb.out hxl);have HRb := hide2 (HRa.out.under HBb.out);clear x0 x1 x2 x3 c7 c8 hwb HX HRa HBb;have x0 := HXb.out.cell (j := 0) rfl;have x1 := HXb.out.cell (j := 1) rfl;have x2 := HXb.out.cell (j := 2) rfl;have x3 := HXb.out.cell (j := 3) rfl;have y0 := HY.out.cell (j := 0) rfl;have y1 := HY.out.cell (j := 1) rfl;have f0 := HY.out.frozen 0;have f1 := HY.out.frozen 1;obtain ⟨vo, hvo⟩ : ∃ vo, vo = bo := ⟨_, rfl⟩
 subst hvo;obtain ⟨vn, hvn⟩ : ∃ vn, vn = bn := ⟨_, rfl⟩
 subst hvn;have HEV : Hid (iv S.r kb = ⟨vo, vn⟩) := HEB;have HVG := hide2 (HG.out.rv kb hkb);clear HEB;have HAT : Hid (iAt S kb c = ⟨vo, wrap64 (vn + c)⟩) := by show _ = _; unfold iAt; rw [HEV.out]
 have hvo : vo < S.T.length := by have := HVG.out.1; rw [HEV.out] at this; exact this
 have hmb1 : -9223372036854775808 ≤ wrap64 (vn + c) ∧ wrap64 (vn + c) ≤ 9223372036854775807 := by unfold wrap64; omega
 clear HEV HVG;obtain ⟨m, hm⟩ : ∃ m, m = wrap64 (vn + c) := ⟨_, rfl⟩
 have HM := hide2 hm;rw [← hm] at HAT hmb1;clear hm;go_upto_region 10 with (fail);obtain ⟨wd, hwd⟩ : ∃ wd, wd = wb.setCell ⟨wa.heap.size, 1, none⟩ (.int .i64 (wrap64 (vn + c))) := ⟨_, rfl⟩
 rw [← hwd];rw [← HM.out] at hwd;have HKd : Hid (Kept wb wd (· = wa.heap.size)) := by show Kept _ _ _; rw [hwd]; exact (Kept.refl wb (· = wa.heap.size)).setCell _ _ rfl
 have HYd : Hid (Blk wd wa.heap.size 107 [.int .i64 (vo : Int), .int .i64 m]) := by show Blk _ _ _ _; rw [hwd]; exact HY.out.setCell 1 _
 have HXd := hide2 (HKd.out.blk HXb.out hwx);have HRd := hide2 (HRb.out.aside HKd.out (fun b e => ⟨fun x => hNO2.out (by rw [← e]; exact x), by have := HRb.out.hm; omega⟩));clear x0 x1 x2 x3 y0 y1 f0 f1 hwd HY HXb HRb HKd HM;have y0 := HYd.out.cell (j := 0) rfl;have y1 := HYd.out.cell (j := 1) rfl
 go_wp2_with fail
 refine (ireach_any F wB vT vF V col S wd HRd.out HG.out ⟨vo, m⟩ hvo hmb1.1 hmb1.2 (by omega) 8 (by omega) (by omega)).mono ?_;rintro e1 w1 ⟨⟨r, rfl, hs⟩, hb1⟩;have HR1 := hide2 (HRd.out.under hb1);have HX1 := hide2 (HXd.out.below hb1 HXd.out.lt);have HY1 := hide2 (HYd.out.below hb1 HYd.out.lt);clear y0 y1 hb1 HRd HXd HYd
 rcases hs with ⟨ho, rfl⟩ | ⟨ho, hr⟩
 ·have hfi := of_decide_eq_true ho;have HO := hide2 ho;clear ho
  go_wp2_with fail
  refine (istop_no F wB vT vF V col S w1 HR1.out).mono ?_;rintro e2 w2 ⟨rfl, hR2, hb2⟩;have HX2 := hide2 (HX1.out.below hb2 HX1.out.lt);have HY2 := hide2 (HY1.out.below hb2 HY1.out.lt);have HR2 := hide2 hR2;clear hb2 HR1 HX1 HY1;have hv1 : 1 ≤ vo := hfi.1;have hm0 : 0 ≤ m := hfi.2.2.1;have hm1 : m ≤ ((S.T.getD vo IT.no).cells.length : Int) - 8 := hfi.2.2.2;have hsm := HG.out.sm vo;obtain ⟨cb, en, hbn, hcn1, hcn2⟩ := (hR2.vn vo hv1 hvo).ex;obtain ⟨gt, cap, e5, hcap, hmax, hgl, -, hcell⟩ := hR2.things (by omega);have c5 := hR2.c5;rw [e5] at c5;obtain ⟨-, -, -, d3⟩ := hcell vo hvo;rw [en] at d3;have HBN := hide2 hbn;have HEN := hide2 en;have hvI : (vo : Int) < (S.T.length : Int) := by omega
  unfold maxLen at hmax;clear hmb1 hfi hbn en hcell e5 hR2;obtain ⟨mn, rfl⟩ : ∃ mn : Nat, m = (mn : Int) := ⟨m.toNat, by omega⟩
  have HMN : Hid ((mn : Int).toNat = mn) := Int.toNat_natCast mn;obtain ⟨cells, hcells⟩ : ∃ cells, cells = (S.T.getD vo IT.no).cells := ⟨_, rfl⟩
  have HCL : Hid ((S.th vo).cells = cells) := hcells.symm;rw [← hcells] at hm1 hsm d3 HBN HEN;clear hcells;have hml : mn + 8 ≤ cells.length := by omega
  have y0 := HY2.out.cell (j := 0) rfl;have y1 := HY2.out.cell (j := 1) rfl;have x0 := HX2.out.cell (j := 0) rfl;go_upto_region 13 with (fail)
  go_quiet (fail)
  obtain ⟨w3, hw3⟩ : ∃ w3, w3 = w2.drewN nq := ⟨_, rfl⟩
  rw [← hw3];have HB3 : Hid (Below w2.heap.size w2 w3) := by show Below _ _ _; rw [hw3]; exact below_drewN (Below.refl _ _) _
  have HX3 := hide2 (HX2.out.below HB3.out HX2.out.lt);have HR3 := hide2 (HR2.out.under HB3.out);have HBN3 := hide2 (HBN.out.below HB3.out HBN.out.lt);clear hw3 y0 y1 x0 c5 d3 HR2 HX2 HY2 HB3 HBN
  (try rw [show mn + 8 - mn = 8 by omega])
  have x0 := HX3.out.cell (j := 0) rfl;have x1 := HX3.out.cell (j := 1) rfl;have x2 := HX3.out.cell (j := 2) rfl
  have HC8 : Hid (Cells8 w3 cb (mn * 3) (iPart cells mn 8)) := fun i hi => by
   have hp : ∀ j, j < 3 → (cells.flatMap icCells)[(mn + i) * 3 + j]? = (icCells (cells.getD (mn + i) IC.no))[j]? := fun j hj => by
    rw [flat_get icCells 3 (fun _ => rfl) cells (mn + i) j hj, List.getElem?_eq_getElem (by omega)];simp [List.getD_eq_getElem?_getD, List.getElem?_eq_getElem (show mn + i < cells.length by omega)]
   rw [iPart_getD _ _ _ _ hi];refine ⟨?_, ?_, ?_⟩
   ·rw [show mn * 3 + i * 3 = (mn + i) * 3 + 0 by omega]; exact HBN3.out.cell (by rw [hp 0 (by omega)]; rfl)
   ·rw [show mn * 3 + i * 3 + 1 = (mn + i) * 3 + 1 by omega]; exact HBN3.out.cell (by rw [hp 1 (by omega)]; rfl)
   ·rw [show mn * 3 + i * 3 + 2 = (mn + i) * 3 + 2 by omega]; exact HBN3.out.cell (by rw [hp 2 (by omega)]; rfl)
  have HS : Hid (iLoad S ka kb c = match iKept (iPart cells mn 8) with | some w => S.reg ka w | none => (S.ends 102).reg ka ⟨0, 0⟩) := by
   show _ = _;unfold iLoad;rw [HAT.out, if_pos HO.out];show (match iKept (iPart (S.th vo).cells (mn : Int).toNat 8) with | some w => S.reg ka w | none => (S.ends 102).reg ka ⟨0, 0⟩) = _;rw [HCL.out, HMN.out]
  have hcbl := HBN3.out.lt
  go_wp2_with fail
  refine (ikept_any (iPart cells mn 8) cb (mn * 3) (cells.length - mn) w3 HC8.out hcbl).mono ?_;rintro e4 w4 ⟨rfl, hb4⟩;have HX4 := hide2 (HX3.out.below hb4 HX3.out.lt);have HR4 := hide2 (HR3.out.under hb4);clear x0 x1 x2 hb4 HX3 HR3;obtain ⟨kr, hkr⟩ : ∃ kr, kr = iKept (iPart cells mn 8) := ⟨_, rfl⟩
  rw [← hkr] at HS;rw [← hkr];clear hkr
  cases kr
  ·rw [show (none : Option IV).isSome = false from rfl, show vV (kvOf none) = .agg #[.int .i64 0, .int .i64 0] from rfl];go_upto_region 18 with (fail);obtain ⟨w5, hw5⟩ : ∃ w5, w5 = w4.alloc (.cells #[.int .i64 0, .int .i64 0] 107) := ⟨_, rfl⟩
   rw [← hw5];have HB5 : Hid (Below w4.heap.size w4 w5) := by show Below _ _ _; rw [hw5]; exact (Below.refl _ _).alloc (Nat.le_refl _) _
   have HZ5 : Hid (Blk w5 w4.heap.size 107 [.int .i64 0, .int .i64 0]) := by show Blk _ _ _ _; rw [hw5]; exact Blk.alloc _ _ _
   have HX5 := hide2 (HX4.out.below HB5.out HX4.out.lt);have HR5 := hide2 (HR4.out.under HB5.out);have hzm : w4.heap.size ≠ F.mb := by have := HR4.out.blk.lt; omega
   clear hw5 HB5 HX4 HR4;have c26 := HR5.out.c26;have f26 := HR5.out.blk.frozen 26;go_upto_region 20 with (fail);obtain ⟨w6, hw6⟩ : ∃ w6, w6 = w5.setCell ⟨F.mb, 26, none⟩ (.int .i64 102) := ⟨_, rfl⟩
   rw [← hw6];have HR6 : Hid (IRep F wB w6 vT vF V col (S.ends 102)) := by show IRep _ _ _ _ _ _ _ _; rw [hw6]; exact HR5.out.setEn 102
   have HX6 : Hid (Blk w6 w.heap.size 60 [.int .i64 15, .int .i64 (ka : Int), .int .i64 (kb : Int), .int .i64 c]) := by show Blk _ _ _ _; rw [hw6]; exact HX5.out.setCell_other _ _ hnm
   have HZ6 : Hid (Blk w6 w4.heap.size 107 [.int .i64 0, .int .i64 0]) := by show Blk _ _ _ _; rw [hw6]; exact HZ5.out.setCell_other _ _ hzm
   clear hw6 c26 f26 HR5 HX5 HZ5;have x1 := HX6.out.cell (j := 1) rfl;have z0 := HZ6.out.cell (j := 0) rfl;have z1 := HZ6.out.cell (j := 1) rfl;have q7 := HR6.out.cOf ka hka;have q8 := HR6.out.cN ka hka;have f7 := HR6.out.blk.frozen (7 + ka * 2);have f8 := HR6.out.blk.frozen (7 + ka * 2 + 1);have HFIN := hide2 ((HR6.out.setReg ka hka ⟨0, 0⟩).under ((Below.refl _ _).drew));refine wp_region_still_tail 7 (by kernel_rfl) (by kernel_rfl) ?_
   repeat still_step
   refine wpStill_nil ?_;go_wp2;go_end0;exact ⟨rfl, _, _, _, _, _, HFIN.out, .inl HS.out.symm⟩
  ·rename_i kv
   obtain ⟨ko, kn⟩ := kv;rw [show (some (⟨ko, kn⟩ : IV)).isSome = true from rfl, show vV (kvOf (some ⟨ko, kn⟩)) = .agg #[.int .i64 (ko : Int), .int .i64 kn] from rfl];go_upto_region 20 with (fail);obtain ⟨w5, hw5⟩ : ∃ w5, w5 = w4.alloc (.cells #[.int .i64 (ko : Int), .int .i64 kn] 107) := ⟨_, rfl⟩
   rw [← hw5];have HB5 : Hid (Below w4.heap.size w4 w5) := by show Below _ _ _; rw [hw5]; exact (Below.refl _ _).alloc (Nat.le_refl _) _
   have HZ5 : Hid (Blk w5 w4.heap.size 107 [.int .i64 (ko : Int), .int .i64 kn]) := by show Blk _ _ _ _; rw [hw5]; exact Blk.alloc _ _ _
   have HX5 := hide2 (HX4.out.below HB5.out HX4.out.lt);have HR5 := hide2 (HR4.out.under HB5.out);clear hw5 HB5 HX4 HR4;have x1 := HX5.out.cell (j := 1) rfl;have z0 := HZ5.out.cell (j := 0) rfl;have z1 := HZ5.out.cell (j := 1) rfl;have q7 := HR5.out.cOf ka hka;have q8 := HR5.out.cN ka hka;have f7 := HR5.out.blk.frozen (7 + ka * 2);have f8 := HR5.out.blk.frozen (7 + ka * 2 + 1);have HFIN := hide2 ((HR5.out.setReg ka hka ⟨ko, kn⟩).under ((Below.refl _ _).drew));refine wp_region_still_tail 7 (by kernel_rfl) (by kernel_rfl) ?_
   repeat still_step
   refine wpStill_nil ?_;go_wp2;go_end0;exact ⟨rfl, _, _, _, _, _, HFIN.out, .inl HS.out.symm⟩
 ·have HS : Hid (iLoad S ka kb c = S.ends 102) := by
   show _ = _;unfold iLoad;rw [HAT.out, if_neg (by rw [ho]; decide)]
  clear ho
  go_wp2_with fail
  refine (istop_yes F wB vT vF V col S w1 HR1.out r hr).mono ?_;rintro e2 w2 ⟨rfl, hR2, -⟩;have HR2 := hide2 hR2;clear hR2;go_wp2
  (try simp only [Exit.inBlock, Exit.then])
  refine bodyPost_ret (results_none rfl _ _ _) rfl ?_;exact ⟨rfl, _, _, _, _, _, HR2.out, .inr ⟨by rw [HS.out]; rfl, hr⟩⟩
end
section
variable (F : IFix) (wB : World) (vT vF : Value) (V : List Value) (col : Nat → Nat) (S : IS) (w : World)
set_option maxRecDepth 100000 in
set_option maxHeartbeats 6400000 in
theorem itouch_byte (h : IRep F wB w vT vF V col S) (hg : IGood F S) (ka kb : Nat) (c : Int) (hka : ka < 8) (hkb : kb < 8) (hlen : S.T.length ≤ 900000) :
 Calls Tryz.prog 71 #[.pointer (some ⟨F.mb, 0, none⟩), .agg #[.int .i64 16, .int .i64 (ka : Int), .int .i64 (kb : Int), .int .i64 c]] w fun e w' => e = .returned (.tuple #[]) ∧ IDone F wB w' (iByte S ka kb c) := by
 obtain ⟨wa, hwa⟩ : ∃ wa, wa = w.alloc (.cells #[.int .i64 16, .int .i64 (ka : Int), .int .i64 (kb : Int), .int .i64 c] 60) := ⟨_, rfl⟩
 have HB : Hid (Below w.heap.size w wa) := by show Below _ _ _; rw [hwa]; exact (Below.refl _ _).alloc (Nat.le_refl _) _
 have HX : Hid (Blk wa w.heap.size 60 [.int .i64 16, .int .i64 (ka : Int), .int .i64 (kb : Int), .int .i64 c]) := by show Blk _ _ _ _; rw [hwa]; exact Blk.alloc _ _ _
 have HRa := hide2 (h.under HB.out);have HG := hide2 hg;have HOW : Hid (∀ b, IOwn F.mb vT vF V b → b < w.heap.size) := fun b hb => h.own_lt hb
 have hl2 := hg.len;have x0 := HX.out.cell (j := 0) rfl;have x1 := HX.out.cell (j := 1) rfl;have x2 := HX.out.cell (j := 2) rfl;have x3 := HX.out.cell (j := 3) rfl;have hxl := HX.out.lt;have c7 := HRa.out.cOf kb hkb;have c8 := HRa.out.cN kb hkb;have kaI : (ka : Int) < 8 := by omega
 have kbI : (kb : Int) < 8 := by omega
 have hmbw := HOW.out F.mb (.inl rfl);have hbs := HB.out.size;have hnm : w.heap.size ≠ F.mb := by omega
 have hnm' : F.mb ≠ w.heap.size := by omega
 have hnm2 : wa.heap.size ≠ F.mb := by omega
 have hnm2' : F.mb ≠ wa.heap.size := by omega
 have hwx : w.heap.size ≠ wa.heap.size := by omega
 have hwx' : wa.heap.size ≠ w.heap.size := by omega
 have hNO2 : Hid (¬ IOwn F.mb vT vF V wa.heap.size) := fun x => by have := HOW.out _ x; omega
 clear h hg;obtain ⟨bo, hbo⟩ : ∃ bo, bo = (iv S.r kb).of := ⟨_, rfl⟩
 obtain ⟨bn, hbn⟩ : ∃ bn, bn = (iv S.r kb).n := ⟨_, rfl⟩
 rw [← hbo] at c7;rw [← hbn] at c8;have HEB : Hid (iv S.r kb = ⟨bo, bn⟩) := by show _ = _; rw [hbo, hbn]
 clear hbo hbn;go_enter Tryz.func71, Tryz.ntmps71;go_upto_region 1 with (fail);rw [← hwa];clear hwa;go_upto_region 6 with (fail)
 go_region_held3 (fun w' => w'.cell? ⟨w.heap.size, 2, none⟩ = some (.int .i64 (kb : Int)) ∧ w'.cell? ⟨F.mb, 7 + kb * 2, none⟩ = some (.int .i64 (bo : Int)) ∧ w'.cell? ⟨F.mb, 7 + kb * 2 + 1, none⟩ = some (.int .i64 bn)) (go_keep) (first | fail)
 rename_i hold
 clear hold;obtain ⟨wb, hwb⟩ : ∃ wb, wb = (wa.alloc (.cells #[.int .i64 (bo : Int), .int .i64 bn] 107)).drew := ⟨_, rfl⟩
 rw [← hwb];have HBb : Hid (Below wa.heap.size wa wb) := by show Below _ _ _; rw [hwb]; exact ((Below.refl _ _).alloc (Nat.le_refl _) _).drew
 have HY : Hid (Blk wb wa.heap.size 107 [.int .i64 (bo : Int), .int .i64 bn]) := by show Blk _ _ _ _; rw [hwb]; exact Blk.alloc _ _ _
 have HXb := hide2 (HX.out.below HBb.out hxl);have HRb := hide2 (HRa.out.under HBb.out);clear x0 x1 x2 x3 c7 c8 hwb HX HRa HBb;have x0 := HXb.out.cell (j := 0) rfl;have x1 := HXb.out.cell (j := 1) rfl;have x2 := HXb.out.cell (j := 2) rfl;have x3 := HXb.out.cell (j := 3) rfl;have y0 := HY.out.cell (j := 0) rfl;have y1 := HY.out.cell (j := 1) rfl;have f0 := HY.out.frozen 0;have f1 := HY.out.frozen 1;obtain ⟨vo, hvo⟩ : ∃ vo, vo = bo := ⟨_, rfl⟩
 subst hvo;obtain ⟨vn, hvn⟩ : ∃ vn, vn = bn := ⟨_, rfl⟩
 subst hvn;have HEV : Hid (iv S.r kb = ⟨vo, vn⟩) := HEB;have HVG := hide2 (HG.out.rv kb hkb);clear HEB;have HAT : Hid (iAt S kb c = ⟨vo, wrap64 (vn + c)⟩) := by show _ = _; unfold iAt; rw [HEV.out]
 have hvo : vo < S.T.length := by have := HVG.out.1; rw [HEV.out] at this; exact this
 have hmb1 : -9223372036854775808 ≤ wrap64 (vn + c) ∧ wrap64 (vn + c) ≤ 9223372036854775807 := by unfold wrap64; omega
 clear HEV HVG;obtain ⟨m, hm⟩ : ∃ m, m = wrap64 (vn + c) := ⟨_, rfl⟩
 have HM := hide2 hm;rw [← hm] at HAT hmb1;clear hm;go_upto_region 10 with (fail);obtain ⟨wd, hwd⟩ : ∃ wd, wd = wb.setCell ⟨wa.heap.size, 1, none⟩ (.int .i64 (wrap64 (vn + c))) := ⟨_, rfl⟩
 rw [← hwd];rw [← HM.out] at hwd;have HKd : Hid (Kept wb wd (· = wa.heap.size)) := by show Kept _ _ _; rw [hwd]; exact (Kept.refl wb (· = wa.heap.size)).setCell _ _ rfl
 have HYd : Hid (Blk wd wa.heap.size 107 [.int .i64 (vo : Int), .int .i64 m]) := by show Blk _ _ _ _; rw [hwd]; exact HY.out.setCell 1 _
 have HXd := hide2 (HKd.out.blk HXb.out hwx);have HRd := hide2 (HRb.out.aside HKd.out (fun b e => ⟨fun x => hNO2.out (by rw [← e]; exact x), by have := HRb.out.hm; omega⟩));clear x0 x1 x2 x3 y0 y1 f0 f1 hwd HY HXb HRb HKd HM;have y0 := HYd.out.cell (j := 0) rfl;have y1 := HYd.out.cell (j := 1) rfl
 go_wp2_with fail
 refine (ireach_any F wB vT vF V col S wd HRd.out HG.out ⟨vo, m⟩ hvo hmb1.1 hmb1.2 (by omega) 1 (by omega) (by omega)).mono ?_;rintro e1 w1 ⟨⟨r, rfl, hs⟩, hb1⟩;have HR1 := hide2 (HRd.out.under hb1);have HX1 := hide2 (HXd.out.below hb1 HXd.out.lt);have HY1 := hide2 (HYd.out.below hb1 HYd.out.lt);clear y0 y1 hb1 HRd HXd HYd
 rcases hs with ⟨ho, rfl⟩ | ⟨ho, hr⟩
 ·have hfi := of_decide_eq_true ho;have HO := hide2 ho;clear ho
  go_wp2_with fail
  refine (istop_no F wB vT vF V col S w1 HR1.out).mono ?_;rintro e2 w2 ⟨rfl, hR2, hb2⟩;have HX2 := hide2 (HX1.out.below hb2 HX1.out.lt);have HY2 := hide2 (HY1.out.below hb2 HY1.out.lt);have HR2 := hide2 hR2;clear hb2 HR1 HX1 HY1;have hv1 : 1 ≤ vo := hfi.1;have hm0 : 0 ≤ m := hfi.2.2.1;have hm1 : m ≤ ((S.T.getD vo IT.no).cells.length : Int) - 1 := hfi.2.2.2;have hsm := HG.out.sm vo;obtain ⟨cb, en, hbn, hcn1, hcn2⟩ := (hR2.vn vo hv1 hvo).ex;obtain ⟨gt, cap, e5, hcap, hmax, hgl, -, hcell⟩ := hR2.things (by omega);have c5 := hR2.c5;rw [e5] at c5;obtain ⟨-, -, -, d3⟩ := hcell vo hvo;rw [en] at d3;have HBN := hide2 hbn;have HEN := hide2 en;have hvI : (vo : Int) < (S.T.length : Int) := by omega
  unfold maxLen at hmax;clear hmb1 hfi hbn en hcell e5 hR2;obtain ⟨mn, rfl⟩ : ∃ mn : Nat, m = (mn : Int) := ⟨m.toNat, by omega⟩
  have HMN : Hid ((mn : Int).toNat = mn) := Int.toNat_natCast mn;obtain ⟨cells, hcells⟩ : ∃ cells, cells = (S.T.getD vo IT.no).cells := ⟨_, rfl⟩
  have HCL : Hid ((S.th vo).cells = cells) := hcells.symm;rw [← hcells] at hm1 hsm d3 HBN HEN;clear hcells;have hml : mn + 1 ≤ cells.length := by omega
  have y0 := HY2.out.cell (j := 0) rfl;have y1 := HY2.out.cell (j := 1) rfl;have x0 := HX2.out.cell (j := 0) rfl;go_upto_region 13 with (fail)
  go_quiet (fail)
  obtain ⟨w3, hw3⟩ : ∃ w3, w3 = w2.drewN nq := ⟨_, rfl⟩
  rw [← hw3];have HB3 : Hid (Below w2.heap.size w2 w3) := by show Below _ _ _; rw [hw3]; exact below_drewN (Below.refl _ _) _
  have HX3 := hide2 (HX2.out.below HB3.out HX2.out.lt);have HR3 := hide2 (HR2.out.under HB3.out);have HBN3 := hide2 (HBN.out.below HB3.out HBN.out.lt);clear hw3 y0 y1 x0 c5 d3 HR2 HX2 HY2 HB3 HBN
  (try rw [show mn + 1 - mn = 1 by omega])
  have x0 := HX3.out.cell (j := 0) rfl;have x1 := HX3.out.cell (j := 1) rfl;have x2 := HX3.out.cell (j := 2) rfl
  have hp : ∀ j, j < 3 → (cells.flatMap icCells)[mn * 3 + j]? = (icCells (cells.getD mn IC.no))[j]? := fun j hj => by
   rw [flat_get icCells 3 (fun _ => rfl) cells mn j hj, List.getElem?_eq_getElem (by omega)];simp [List.getD_eq_getElem?_getD, List.getElem?_eq_getElem (show mn < cells.length by omega)]
  have b0 : w3.cell? ⟨cb, mn * 3, none⟩ = some (.int .i64 ((cells.getD mn IC.no).v.of : Int)) := HBN3.out.cell (j := mn * 3 + 0) (by rw [hp 0 (by omega)]; rfl);have b1 : w3.cell? ⟨cb, mn * 3 + 1, none⟩ = some (.int .i64 (cells.getD mn IC.no).v.n) := HBN3.out.cell (j := mn * 3 + 1) (by rw [hp 1 (by omega)]; rfl);clear hp
  have HS : Hid (iByte S ka kb c = (if 0 < (cells.getD mn IC.no).v.of then S.ends 102 else S).reg ka ⟨0, (cells.getD mn IC.no).v.n⟩) := by
   show _ = _;unfold iByte;rw [HAT.out, if_pos HO.out];show (if 0 < ((S.th vo).cells.getD (mn : Int).toNat IC.no).v.of then S.ends 102 else S).reg ka ⟨0, ((S.th vo).cells.getD (mn : Int).toNat IC.no).v.n⟩ = _;rw [HCL.out, HMN.out]
  have hcm : cb ≠ F.mb := fun e => by have h1 := HR3.out.sep.mb; rw [← e, hcn2] at h1; omega
  have hcm' : F.mb ≠ cb := fun e => hcm e.symm
  generalize (cells.getD mn IC.no).v.of = co at *;generalize (cells.getD mn IC.no).v.n = cn at *
  by_cases q : 0 < co
  ·have HS1 : Hid (iByte S ka kb c = (S.ends 102).reg ka ⟨0, cn⟩) := by show _ = _; rw [HS.out, if_pos q]
   have qI : (0 : Int) < (co : Int) := by omega
   have c26 := HR3.out.c26;have f26 := HR3.out.blk.frozen 26;go_upto_region 24 with (fail);obtain ⟨w6, hw6⟩ : ∃ w6, w6 = w3.setCell ⟨F.mb, 26, none⟩ (.int .i64 102) := ⟨_, rfl⟩
   rw [← hw6];have HR6 : Hid (IRep F wB w6 vT vF V col (S.ends 102)) := by show IRep _ _ _ _ _ _ _ _; rw [hw6]; exact HR3.out.setEn 102
   have HX6 : Hid (Blk w6 w.heap.size 60 [.int .i64 16, .int .i64 (ka : Int), .int .i64 (kb : Int), .int .i64 c]) := by show Blk _ _ _ _; rw [hw6]; exact HX3.out.setCell_other _ _ hnm
   have b16 : w6.cell? ⟨cb, mn * 3 + 1, none⟩ = some (.int .i64 cn) := by rw [hw6]; exact (World.cell?_of_block (w := w3) (Below.heap_setCell w3 _ _ cb hcm)).trans b1
   clear hw6 c26 f26 x0 x1 x2 b0 b1;have x1 := HX6.out.cell (j := 1) rfl;have q7 := HR6.out.cOf ka hka;have q8 := HR6.out.cN ka hka;have f7 := HR6.out.blk.frozen (7 + ka * 2);have f8 := HR6.out.blk.frozen (7 + ka * 2 + 1);have HFIN := hide2 ((HR6.out.setReg ka hka ⟨0, cn⟩).under ((Below.refl _ _).drew));refine wp_region_still_tail 12 (by kernel_rfl) (by kernel_rfl) ?_
   repeat still_step
   refine wpStill_nil ?_;go_wp2;go_end0;exact ⟨rfl, _, _, _, _, _, HFIN.out, .inl HS1.out.symm⟩
  ·have HS1 : Hid (iByte S ka kb c = S.reg ka ⟨0, cn⟩) := by show _ = _; rw [HS.out, if_neg q]
   have qI : ¬ (0 : Int) < (co : Int) := by omega
   have q7 := HR3.out.cOf ka hka;have q8 := HR3.out.cN ka hka;have f7 := HR3.out.blk.frozen (7 + ka * 2);have f8 := HR3.out.blk.frozen (7 + ka * 2 + 1);have HFIN := hide2 ((HR3.out.setReg ka hka ⟨0, cn⟩).under ((Below.refl _ _).drew));go_upto_region 24 with (fail);refine wp_region_still_tail 12 (by kernel_rfl) (by kernel_rfl) ?_
   repeat still_step
   refine wpStill_nil ?_;go_wp2;go_end0;exact ⟨rfl, _, _, _, _, _, HFIN.out, .inl HS1.out.symm⟩
 ·have HS : Hid (iByte S ka kb c = S.ends 102) := by
   show _ = _;unfold iByte;rw [HAT.out, if_neg (by rw [ho]; decide)]
  clear ho
  go_wp2_with fail
  refine (istop_yes F wB vT vF V col S w1 HR1.out r hr).mono ?_;rintro e2 w2 ⟨rfl, hR2, -⟩;have HR2 := hide2 hR2;clear hR2;go_wp2
  (try simp only [Exit.inBlock, Exit.then])
  refine bodyPost_ret (results_none rfl _ _ _) rfl ?_;exact ⟨rfl, _, _, _, _, _, HR2.out, .inr ⟨by rw [HS.out]; rfl, hr⟩⟩
end
end Go.Proofs.YtjikemhmnkckcabGreat
