import Derived.Test.YtjikemhmnkckcabGreatJ35
namespace Go.Proofs.YtjikemhmnkckcabGreat
open Go.RowKit
attribute [local go_sem ↓] Go.wp_at_zero Go.wp_at_succ
theorem getD_setC (l : List IC) (i j : Nat) (x : IC) (hi : i < l.length) : (l.set i x).getD j IC.no = if j = i then x else l.getD j IC.no := by
 simp only [List.getD_eq_getElem?_getD, List.getElem?_set]
 by_cases h : i = j
 ·subst h; simp [hi]
 ·rw [if_neg h, if_neg (fun e => h e.symm)]
theorem IS.num0 {S : IS} (k : Nat) (h : (iv S.r k).of = 0) : S.num k = S := if_pos h
section
variable (F : IFix) (wB : World) (vT vF : Value) (V : List Value) (col : Nat → Nat) (S : IS) (w : World)
set_option maxRecDepth 100000 in
set_option maxHeartbeats 6400000 in
theorem itouch_store (h : IRep F wB w vT vF V col S) (hg : IGood F S) (ka kb : Nat) (c : Int) (hka : ka < 8) (hkb : kb < 8) (hlen : S.T.length ≤ 900000) :
 Calls Tryz.prog 71 #[.pointer (some ⟨F.mb, 0, none⟩), .agg #[.int .i64 17, .int .i64 (ka : Int), .int .i64 (kb : Int), .int .i64 c]] w fun e w' => e = .returned (.tuple #[]) ∧ IDone F wB w' (iStore S ka kb c) := by
 obtain ⟨wa, hwa⟩ : ∃ wa, wa = w.alloc (.cells #[.int .i64 17, .int .i64 (ka : Int), .int .i64 (kb : Int), .int .i64 c] 60) := ⟨_, rfl⟩
 have HB : Hid (Below w.heap.size w wa) := by show Below _ _ _; rw [hwa]; exact (Below.refl _ _).alloc (Nat.le_refl _) _
 have HX : Hid (Blk wa w.heap.size 60 [.int .i64 17, .int .i64 (ka : Int), .int .i64 (kb : Int), .int .i64 c]) := by show Blk _ _ _ _; rw [hwa]; exact Blk.alloc _ _ _
 have HRa := hide2 (h.under HB.out);have HG := hide2 hg;have HOW : Hid (∀ b, IOwn F.mb vT vF V b → b < w.heap.size) := fun b hb => h.own_lt hb
 have hl2 := hg.len;have x0 := HX.out.cell (j := 0) rfl;have x1 := HX.out.cell (j := 1) rfl;have x2 := HX.out.cell (j := 2) rfl;have x3 := HX.out.cell (j := 3) rfl;have hxl := HX.out.lt;have c7 := HRa.out.cOf kb hkb;have c8 := HRa.out.cN kb hkb;have kaI : (ka : Int) < 8 := by omega
 have kbI : (kb : Int) < 8 := by omega
 have hmbw := HOW.out F.mb (.inl rfl);have hbs := HB.out.size;have hnm : w.heap.size ≠ F.mb := by omega
 have hnm' : F.mb ≠ w.heap.size := by omega
 have hnm2 : wa.heap.size ≠ F.mb := by omega
 have hnm2' : F.mb ≠ wa.heap.size := by omega
 have hwx : w.heap.size ≠ wa.heap.size := by omega
 have hwx' : wa.heap.size ≠ w.heap.size := by omega
 have hNO2 : Hid (¬ IOwn F.mb vT vF V wa.heap.size) := fun x => by have := HOW.out _ x; omega
 clear h hg;obtain ⟨bo, hbo⟩ : ∃ bo, bo = (iv S.r kb).of := ⟨_, rfl⟩
 obtain ⟨bn, hbn⟩ : ∃ bn, bn = (iv S.r kb).n := ⟨_, rfl⟩
 rw [← hbo] at c7;rw [← hbn] at c8;have HEB : Hid (iv S.r kb = ⟨bo, bn⟩) := by show _ = _; rw [hbo, hbn]
 clear hbo hbn;go_enter Tryz.func71, Tryz.ntmps71;go_upto_region 1 with (fail);rw [← hwa];clear hwa;go_upto_region 6 with (fail)
 go_region_held3 (fun w' => w'.cell? ⟨w.heap.size, 2, none⟩ = some (.int .i64 (kb : Int)) ∧ w'.cell? ⟨F.mb, 7 + kb * 2, none⟩ = some (.int .i64 (bo : Int)) ∧ w'.cell? ⟨F.mb, 7 + kb * 2 + 1, none⟩ = some (.int .i64 bn)) (go_keep) (first | fail)
 rename_i hold
 clear hold;obtain ⟨wb, hwb⟩ : ∃ wb, wb = (wa.alloc (.cells #[.int .i64 (bo : Int), .int .i64 bn] 107)).drew := ⟨_, rfl⟩
 rw [← hwb];have HBb : Hid (Below wa.heap.size wa wb) := by show Below _ _ _; rw [hwb]; exact ((Below.refl _ _).alloc (Nat.le_refl _) _).drew
 have HY : Hid (Blk wb wa.heap.size 107 [.int .i64 (bo : Int), .int .i64 bn]) := by show Blk _ _ _ _; rw [hwb]; exact Blk.alloc _ _ _
 have HXb := hide2 (HX.out.below HBb.out hxl);have HRb := hide2 (HRa.out.under HBb.out);clear x0 x1 x2 x3 c7 c8 hwb HX HRa HBb;have x0 := HXb.out.cell (j := 0) rfl;have x1 := HXb.out.cell (j := 1) rfl;have x2 := HXb.out.cell (j := 2) rfl;have x3 := HXb.out.cell (j := 3) rfl;have y0 := HY.out.cell (j := 0) rfl;have y1 := HY.out.cell (j := 1) rfl;have f0 := HY.out.frozen 0;have f1 := HY.out.frozen 1;have c7 := HRb.out.cOf ka hka;have c8 := HRb.out.cN ka hka;obtain ⟨vo, hvo⟩ : ∃ vo, vo = (iv S.r ka).of := ⟨_, rfl⟩
 obtain ⟨vn, hvn⟩ : ∃ vn, vn = (iv S.r ka).n := ⟨_, rfl⟩
 rw [← hvo] at c7;rw [← hvn] at c8;have HEV : Hid (iv S.r ka = ⟨vo, vn⟩) := by show _ = _; rw [hvo, hvn]
 have HVG := hide2 (HG.out.rv ka hka);clear hvo hvn;go_upto_region 8 with (fail)
 go_region_held3 (fun w' => w'.cell? ⟨w.heap.size, 1, none⟩ = some (.int .i64 (ka : Int)) ∧ w'.cell? ⟨F.mb, 7 + ka * 2, none⟩ = some (.int .i64 (vo : Int)) ∧ w'.cell? ⟨F.mb, 7 + ka * 2 + 1, none⟩ = some (.int .i64 vn)) (go_keep) (first | fail)
 rename_i hold
 clear hold;obtain ⟨wc, hwc⟩ : ∃ wc, wc = ((wb.setCell ⟨wa.heap.size, 0, none⟩ (.int .i64 (vo : Int))).setCell ⟨wa.heap.size, 1, none⟩ (.int .i64 vn)).drew := ⟨_, rfl⟩
 rw [← hwc];have HKc : Hid (Kept wb wc (· = wa.heap.size)) := by show Kept _ _ _; rw [hwc]; exact ((((Kept.refl wb (· = wa.heap.size)).setCell _ _ rfl).setCell _ _ rfl).drewN 1)
 have HYc : Hid (Blk wc wa.heap.size 107 [.int .i64 (vo : Int), .int .i64 vn]) := by show Blk _ _ _ _; rw [hwc]; exact (HY.out.setCell 0 _).setCell 1 _
 have HXc := hide2 (HKc.out.blk HXb.out hwx);have HRc := hide2 (HRb.out.aside HKc.out (fun b e => ⟨fun x => hNO2.out (by rw [← e]; exact x), by have := HRb.out.hm; omega⟩));clear x0 x1 x2 x3 y0 y1 f0 f1 c7 c8 hwc HY HXb HRb;have x0 := HXc.out.cell (j := 0) rfl;have x1 := HXc.out.cell (j := 1) rfl;have x3 := HXc.out.cell (j := 3) rfl;have y0 := HYc.out.cell (j := 0) rfl;have y1 := HYc.out.cell (j := 1) rfl;have f1 := HYc.out.frozen 1;have HAT : Hid (iAt S ka c = ⟨vo, wrap64 (vn + c)⟩) := by show _ = _; unfold iAt; rw [HEV.out]
 have hvo : vo < S.T.length := by have := HVG.out.1; rw [HEV.out] at this; exact this
 have hmb1 : -9223372036854775808 ≤ wrap64 (vn + c) ∧ wrap64 (vn + c) ≤ 9223372036854775807 := by unfold wrap64; omega
 clear HEV HVG;obtain ⟨m, hm⟩ : ∃ m, m = wrap64 (vn + c) := ⟨_, rfl⟩
 have HM := hide2 hm;rw [← hm] at HAT hmb1;clear hm;go_upto_region 10 with (fail);obtain ⟨wd, hwd⟩ : ∃ wd, wd = wc.setCell ⟨wa.heap.size, 1, none⟩ (.int .i64 (wrap64 (vn + c))) := ⟨_, rfl⟩
 rw [← hwd];rw [← HM.out] at hwd;have HKd : Hid (Kept wc wd (· = wa.heap.size)) := by show Kept _ _ _; rw [hwd]; exact (Kept.refl wc (· = wa.heap.size)).setCell _ _ rfl
 have HYd : Hid (Blk wd wa.heap.size 107 [.int .i64 (vo : Int), .int .i64 m]) := by show Blk _ _ _ _; rw [hwd]; exact HYc.out.setCell 1 _
 have HXd := hide2 (HKd.out.blk HXc.out hwx);have HRd := hide2 (HRc.out.aside HKd.out (fun b e => ⟨fun x => hNO2.out (by rw [← e]; exact x), by have := HRc.out.hm; omega⟩));clear x0 x1 x3 y0 y1 f1 hwd HYc HXc HRc HKd HM;have y0 := HYd.out.cell (j := 0) rfl;have y1 := HYd.out.cell (j := 1) rfl
 go_wp2_with fail
 refine (ireach_any F wB vT vF V col S wd HRd.out HG.out ⟨vo, m⟩ hvo hmb1.1 hmb1.2 (by omega) 8 (by omega) (by omega)).mono ?_;rintro e1 w1 ⟨⟨r, rfl, hs⟩, hb1⟩;have HR1 := hide2 (HRd.out.under hb1);have HX1 := hide2 (HXd.out.below hb1 HXd.out.lt);have HY1 := hide2 (HYd.out.below hb1 HYd.out.lt);clear y0 y1 hb1 HRd HXd HYd
 rcases hs with ⟨ho, rfl⟩ | ⟨ho, hr⟩
 ·have hfi := of_decide_eq_true ho;have HO := hide2 ho;clear ho
  go_wp2_with fail
  refine (istop_no F wB vT vF V col S w1 HR1.out).mono ?_;rintro e2 w2 ⟨rfl, hR2, hb2⟩;have HX2 := hide2 (HX1.out.below hb2 HX1.out.lt);have HY2 := hide2 (HY1.out.below hb2 HY1.out.lt);have HR2 := hide2 hR2;clear hb2 HR1 HX1 HY1;have hv1 : 1 ≤ vo := hfi.1;have hm0 : 0 ≤ m := hfi.2.2.1;have hm1 : m ≤ ((S.T.getD vo IT.no).cells.length : Int) - 8 := hfi.2.2.2;have hsm := HG.out.sm vo;obtain ⟨cb, en, hbn, hcn1, hcn2⟩ := (hR2.vn vo hv1 hvo).ex;obtain ⟨gt, cap, e5, hcap, hmax, hgl, -, hcell⟩ := hR2.things (by omega);have c5 := hR2.c5;rw [e5] at c5;obtain ⟨-, -, -, d3⟩ := hcell vo hvo;rw [en] at d3;have HBN := hide2 hbn;have HEN := hide2 en;have hvI : (vo : Int) < (S.T.length : Int) := by omega
  unfold maxLen at hmax;clear hmb1 hfi hbn en hcell e5 hR2;obtain ⟨mn, rfl⟩ : ∃ mn : Nat, m = (mn : Int) := ⟨m.toNat, by omega⟩
  have HMN : Hid ((mn : Int).toNat = mn) := Int.toNat_natCast mn;obtain ⟨cells, hcells⟩ : ∃ cells, cells = (S.T.getD vo IT.no).cells := ⟨_, rfl⟩
  have HCL : Hid ((S.th vo).cells = cells) := hcells.symm;rw [← hcells] at hm1 hsm d3 HBN HEN;clear hcells;have hml : mn + 8 ≤ cells.length := by omega
  have y0 := HY2.out.cell (j := 0) rfl;have y1 := HY2.out.cell (j := 1) rfl;have x0 := HX2.out.cell (j := 0) rfl;go_upto_region 13 with (fail)
  go_quiet (fail)
  obtain ⟨w3, hw3⟩ : ∃ w3, w3 = w2.drewN nq := ⟨_, rfl⟩
  rw [← hw3];have HB3 : Hid (Below w2.heap.size w2 w3) := by show Below _ _ _; rw [hw3]; exact below_drewN (Below.refl _ _) _
  have HX3 := hide2 (HX2.out.below HB3.out HX2.out.lt);have HR3 := hide2 (HR2.out.under HB3.out);have HBN3 := hide2 (HBN.out.below HB3.out HBN.out.lt);clear hw3 y0 y1 x0 c5 d3 HR2 HX2 HY2 HB3 HBN
  (try rw [show mn + 8 - mn = 8 by omega])
  have x0 := HX3.out.cell (j := 0) rfl;have x1 := HX3.out.cell (j := 1) rfl;have x2 := HX3.out.cell (j := 2) rfl;have HNT := hide2 (num_T S kb)
  have HS : Hid (iStore S ka kb c = S.turn vo (iPut cells mn (if 0 < bo then iParts ⟨bo, bn⟩ else iLaid bn 8))) := by
   show _ = _;unfold iStore;rw [HAT.out, if_pos HO.out, HEB.out];show S.turn vo (iPut (S.th vo).cells (mn : Int).toNat (if 0 < bo then iParts ⟨bo, bn⟩ else iLaid bn 8)) = _;rw [HCL.out, HMN.out]
  have c7 := HR3.out.cOf kb hkb;rw [HEB.out] at c7;have c7b : w3.cell? ⟨F.mb, 7 + kb * 2, none⟩ = some (.int .i64 (bo : Int)) := c7;clear c7
  by_cases q : 0 < bo
  ·have qI : (0 : Int) < (bo : Int) := by omega
   rw [if_pos q] at HS;have HQ := hide2 (decide_eq_true q);clear q;go_upto_region 25 with (fail)
   go_quiet (fail)
   obtain ⟨w4, hw4⟩ : ∃ w4, w4 = w3.drewN nq := ⟨_, rfl⟩
   rw [← hw4];have HB4 : Hid (Below w3.heap.size w3 w4) := by show Below _ _ _; rw [hw4]; exact below_drewN (Below.refl _ _) _
   have HX4 := hide2 (HX3.out.below HB4.out HX3.out.lt);have HR4 := hide2 (HR3.out.under HB4.out);have HBN4 := hide2 (HBN3.out.below HB4.out HBN3.out.lt);clear hw4 x0 x1 x2 c7b HR3 HX3 HB4 HBN3
   (try rw [HQ.out])
   have c7 := HR4.out.cOf kb hkb;rw [HEB.out] at c7
   replace c7 : w4.cell? ⟨F.mb, 7 + kb * 2, none⟩ = some (.int .i64 (bo : Int)) := c7
   have c8 := HR4.out.cN kb hkb;rw [HEB.out] at c8
   replace c8 : w4.cell? ⟨F.mb, 7 + kb * 2 + 1, none⟩ = some (.int .i64 bn) := c8
   have hcm : cb ≠ F.mb := fun e => by have h1 := HR4.out.sep.mb; rw [← e, hcn2] at h1; omega
   have hcx : w.heap.size ≠ cb := HX4.out.ne HBN4.out (by decide);have hmb4 := HR4.out.blk.lt;have hx4 := HX4.out.lt;have x2 := HX4.out.cell (j := 2) rfl;have HTRN := hide2 (fun (w' : World) (c : List IC) hc hk hb => HR4.out.turnC (w' := w') vo hv1 hvo c hc cb (by rw [show (S.T.getD vo IT.no).cells = cells from HCL.out]; exact HEN.out) hk hb);have hCL : (S.T.getD vo IT.no).cells = cells := HCL.out;have HCL2 := hide2 hCL;clear hCL;go_wp2
   go_loopw [11] (fun i wr => ∃ (k : Nat) (l : List IC), k ≤ 8 ∧ i = .int .i64 (k : Int) ∧ Hid (l.length = cells.length ∧ ∀ t, l.getD t IC.no = if mn ≤ t ∧ t < mn + k then ⟨⟨bo, bn⟩, t - mn⟩ else cells.getD t IC.no) ∧ Hid (Blk wr cb 115 (l.flatMap icCells)) ∧ Hid (Kept w4 wr (· = cb))) (fun i _ => 8 - (intOf i).toNat)
   case atStart => exact ⟨0, cells, by omega, rfl, ⟨rfl, fun t => by rw [if_neg (by omega)]⟩, HBN4.out, Kept.refl _ _⟩
   case round =>
    obtain ⟨k, l, hk, rfl, hl, hbk, hkk⟩ := hrel;have x2' := (World.cell?_of_block (w := w4) (hkk.out.block w.heap.size hx4 hcx)).trans x2;have c7' := (World.cell?_of_block (w := w4) (hkk.out.block F.mb hmb4 (fun e => hcm e.symm))).trans c7;have c8' := (World.cell?_of_block (w := w4) (hkk.out.block F.mb hmb4 (fun e => hcm e.symm))).trans c8
    by_cases hlt : k < 8
    ·have kI : (k : Int) < 8 := by omega
     have hp : ∀ j, j < 3 → (l.flatMap icCells)[(mn + k) * 3 + j]? = (icCells (l.getD (mn + k) IC.no))[j]? := fun j hj => by
      have hll := hl.out.1;rw [flat_get icCells 3 (fun _ => rfl) l (mn + k) j hj, List.getElem?_eq_getElem (by omega)];simp [List.getD_eq_getElem?_getD, List.getElem?_eq_getElem (show mn + k < l.length by omega)]
     have e0 : mn * 3 + k * 3 = (mn + k) * 3 + 0 := by omega
     have b0 : wr.cell? ⟨cb, mn * 3 + k * 3, none⟩ = some (.int .i64 ((l.getD (mn + k) IC.no).v.of : Int)) := by rw [e0]; exact hbk.out.cell (by rw [hp 0 (by omega)]; rfl)
     have b1 : wr.cell? ⟨cb, mn * 3 + k * 3 + 1, none⟩ = some (.int .i64 (l.getD (mn + k) IC.no).v.n) := by rw [show mn * 3 + k * 3 + 1 = (mn + k) * 3 + 1 by omega]; exact hbk.out.cell (by rw [hp 1 (by omega)]; rfl)
     have b2 : wr.cell? ⟨cb, mn * 3 + k * 3 + 2, none⟩ = some (.int .i64 ((l.getD (mn + k) IC.no).part : Int)) := by rw [show mn * 3 + k * 3 + 2 = (mn + k) * 3 + 2 by omega]; exact hbk.out.cell (by rw [hp 2 (by omega)]; rfl)
     have g0 := hbk.out.frozen (mn * 3 + k * 3);have g1 := hbk.out.frozen (mn * 3 + k * 3 + 1);have g2 := hbk.out.frozen (mn * 3 + k * 3 + 2)
     have HNB : Hid (Blk ((((wr.setCell ⟨cb, mn * 3 + k * 3, none⟩ (.int .i64 (bo : Int))).setCell ⟨cb, mn * 3 + k * 3 + 1, none⟩ (.int .i64 bn)).setCell ⟨cb, mn * 3 + k * 3 + 2, none⟩ (.int .i64 (k : Int))).drew) cb 115 ((l.set (mn + k) ⟨⟨bo, bn⟩, k⟩).flatMap icCells)) := by
      have hll := hl.out.1;have h3 := ((hbk.out.setCell (mn * 3 + k * 3) (.int .i64 (bo : Int))).setCell (mn * 3 + k * 3 + 1) (.int .i64 bn)).setCell (mn * 3 + k * 3 + 2) (.int .i64 (k : Int));rw [show mn * 3 + k * 3 = (mn + k) * 3 + 0 by omega, show (mn + k) * 3 + 0 + 1 = (mn + k) * 3 + 1 by omega, show (mn + k) * 3 + 0 + 2 = (mn + k) * 3 + 2 by omega] at h3;rw [flat_set icCells 3 (fun _ => rfl) l IC.no (mn + k) 0 (by omega) (by omega) ⟨⟨bo, (l.getD (mn + k) IC.no).v.n⟩, (l.getD (mn + k) IC.no).part⟩ (.int .i64 (bo : Int)) rfl] at h3;rw [flat_set icCells 3 (fun _ => rfl) _ IC.no (mn + k) 1 (by rw [List.length_set]; omega) (by omega) ⟨⟨bo, bn⟩, (l.getD (mn + k) IC.no).part⟩ (.int .i64 bn) (by rw [getD_setC _ _ _ _ (by omega), if_pos rfl]; rfl)] at h3;rw [flat_set icCells 3 (fun _ => rfl) _ IC.no (mn + k) 2 (by rw [List.length_set, List.length_set]; omega) (by omega) ⟨⟨bo, bn⟩, k⟩ (.int .i64 (k : Int)) (by rw [getD_setC _ _ _ _ (by rw [List.length_set]; omega), if_pos rfl]; rfl)] at h3;rw [List.set_set, List.set_set] at h3;show Blk _ _ _ _;rw [show mn * 3 + k * 3 + 1 = (mn + k) * 3 + 1 by omega, show mn * 3 + k * 3 + 2 = (mn + k) * 3 + 2 by omega, show mn * 3 + k * 3 = (mn + k) * 3 + 0 by omega];exact h3
     have HNL : Hid ((l.set (mn + k) ⟨⟨bo, bn⟩, k⟩).length = cells.length ∧ ∀ t, (l.set (mn + k) ⟨⟨bo, bn⟩, k⟩).getD t IC.no = if mn ≤ t ∧ t < mn + (k + 1) then ⟨⟨bo, bn⟩, t - mn⟩ else cells.getD t IC.no) := by
      obtain ⟨hll, hlt2⟩ := hl.out;refine ⟨by rw [List.length_set]; exact hll, fun t => ?_⟩;rw [getD_setC _ _ _ _ (by omega)]
      by_cases e : t = mn + k
      ·rw [if_pos e, if_pos (by omega), show t - mn = k by omega]
      ·rw [if_neg e, hlt2 t]
       by_cases c1 : mn ≤ t ∧ t < mn + k
       ·rw [if_pos c1, if_pos (by omega)]
       ·rw [if_neg c1, if_neg (by omega)]
     have HNK : Hid (Kept w4 ((((wr.setCell ⟨cb, mn * 3 + k * 3, none⟩ (.int .i64 (bo : Int))).setCell ⟨cb, mn * 3 + k * 3 + 1, none⟩ (.int .i64 bn)).setCell ⟨cb, mn * 3 + k * 3 + 2, none⟩ (.int .i64 (k : Int))).drew) (· = cb)) := (((hkk.out.setCell _ _ rfl).setCell _ _ rfl).setCell _ _ rfl).drewN 1;clear hp e0;generalize (l.getD (mn + k) IC.no).v.of = u0 at *;generalize (l.getD (mn + k) IC.no).v.n = u1 at *;generalize (l.getD (mn + k) IC.no).part = u2 at *
     go_wp2_with fail
     refine wp_region_still_tail 12 (by kernel_rfl) (by kernel_rfl) ?_
     repeat still_step
     refine wpStill_nil ?_;go_wp2
     go_roundw
     case rel => exact ⟨k + 1, l.set (mn + k) ⟨⟨bo, bn⟩, k⟩, by omega, by go_num, HNL, HNB, HNK⟩
     case measure => simp [intOf]; omega
    ·obtain rfl : k = 8 := by omega
     have hll : l = iPut cells mn (iParts ⟨bo, bn⟩) := by
      obtain ⟨h1, h2⟩ := hl.out;have hpl : (iParts (⟨bo, bn⟩ : IV)).length = 8 := by unfold iParts; simp
      have hil := iPut_len cells mn (iParts ⟨bo, bn⟩) (by rw [hpl]; exact hml);apply List.ext_getElem?;intro t
      by_cases ht : t < cells.length
      ·have e1 := h2 t;have e2 := iPut_getD cells mn (iParts ⟨bo, bn⟩) (by rw [hpl]; exact hml) t;rw [hpl] at e2
       have e3 : l.getD t IC.no = (iPut cells mn (iParts ⟨bo, bn⟩)).getD t IC.no := by
        rw [e1, e2]
        by_cases c1 : mn ≤ t ∧ t < mn + 8
        ·rw [if_pos c1, if_pos c1];unfold iParts;rw [List.getD_eq_getElem?_getD, List.getElem?_map, List.getElem?_range (by omega)]; rfl
        ·rw [if_neg c1, if_neg c1]
       rw [List.getD_eq_getElem?_getD, List.getD_eq_getElem?_getD, List.getElem?_eq_getElem (by omega), List.getElem?_eq_getElem (by omega)] at e3;rw [List.getElem?_eq_getElem (by omega), List.getElem?_eq_getElem (by omega)];exact congrArg some e3
      ·rw [List.getElem?_eq_none (by omega), List.getElem?_eq_none (by omega)]
     have HT7 := hide2 (HTRN.out _ l (by rw [hl.out.1, HCL2.out]) hkk.out hbk.out);have HLL := hide2 hll;clear hll;go_wp2;go_end0;exact ⟨rfl, _, _, _, _, _, HT7.out.1, .inl (by rw [HS.out, HLL.out])⟩
  ·have qI : ¬ (0 : Int) < (bo : Int) := by omega
   rw [if_neg q] at HS;have HNS : Hid (S.num kb = S) := IS.num0 kb (by rw [HEB.out]; show bo = 0; omega)
   replace HS : Hid (iStore S ka kb c = (S.num kb).turn vo (iPut cells mn (iLaid bn 8))) := by show _ = _; rw [HNS.out]; exact HS.out
   clear q;go_upto_region 25 with (fail)
   go_quiet (fail)
   obtain ⟨w4, hw4⟩ : ∃ w4, w4 = w3.drewN nq := ⟨_, rfl⟩
   rw [← hw4];have HB4 : Hid (Below w3.heap.size w3 w4) := by show Below _ _ _; rw [hw4]; exact below_drewN (Below.refl _ _) _
   have HX4 := hide2 (HX3.out.below HB4.out HX3.out.lt);have HR4 := hide2 (HR3.out.under HB4.out);have HBN4 := hide2 (HBN3.out.below HB4.out HBN3.out.lt);clear hw4 x0 x1 x2 c7b HR3 HX3 HB4 HBN3;have x2 := HX4.out.cell (j := 2) rfl
   go_wp2_with fail
   refine (inumber_any F wB vT vF V col S w4 HR4.out kb hkb).mono ?_;rintro e5 w5 ⟨rfl, hR5, hk5⟩;have hcm : cb ≠ F.mb := fun e => by have h1 := HR4.out.sep.mb; rw [← e, hcn2] at h1; omega
   have HR5 := hide2 hR5;have HBN5 := hide2 (hk5.blk HBN4.out hcm);rw [HEB.out];clear hR5 hk5 HX4 HR4 HBN4 x2
   go_wp2_with fail
   refine (ilaid_any bn 8 w5 (by omega)).mono ?_;rintro e6 w6 ⟨lv, rfl, hl6⟩;have HR6 := hide2 (HR5.out.under hl6.bel);have HBN6 := hide2 (HBN5.out.below hl6.bel HBN5.out.lt);obtain ⟨la, lcap, elv, hlc, -, hlrow⟩ := row_open hl6.row;obtain ⟨lg, rfl, hlg, hlcell, -⟩ := hlrow (by omega);subst elv;obtain ⟨cs, hcs⟩ : ∃ cs, cs = (iLaid bn 8).flatMap icCells := ⟨_, rfl⟩
   have HCS := hide2 hcs;have hcl : cs.length = Nat.min 8 8 * 3 := by rw [hcs, ic_len]; unfold iLaid; simp
   have HCELL : Hid (∀ j u, cs[j]? = some u → w6.cell? ((⟨lg, 0, none⟩ : Addr).add j) = some u) := fun j u hj => by
    rw [show (⟨lg, 0, none⟩ : Addr).add j = ⟨lg, j, none⟩ by rw [add_lit, Nat.zero_add]];exact hlcell j u (by rw [← hcs]; exact hj)
   have HONE : Hid (∀ u ∈ cs, u.oneCell' = true) := by show ∀ u ∈ cs, _; rw [hcs]; exact ic_one _
   have hfit : mn * 3 + cs.length ≤ (cells.flatMap icCells).length := by rw [ic_len, hcl, show Nat.min 8 8 = 8 from rfl]; omega
   have HTRN := hide2 (fun (w' : World) (c : List IC) hc hk hb => HR6.out.turnC (w' := w') vo hv1 (by rw [HNT.out.1]; exact hvo) c hc cb (by rw [HNT.out.1, show (S.T.getD vo IT.no).cells = cells from HCL.out]; exact HEN.out) hk hb);clear hlcell hlrow hcs hl6 HR5 HBN5;obtain ⟨w7, hrun, hb7, hk7⟩ := copy_cells w6 cb (mn * 3) 8 (cells.length - mn) lg 8 lcap (cells.flatMap icCells) cs HBN6.out hcl HCELL.out hfit HONE.out;have HBB7 := hide2 hb7;have HKK7 := hide2 hk7;clear hb7 hk7;go_wp2
   have HB7 : Hid (Blk w7 cb 115 ((iPut cells mn (iLaid bn 8)).flatMap icCells)) := by
    show Blk _ _ _ _;rw [← splice_put, ← HCS.out];exact HBB7.out
   have HT7 := hide2 (HTRN.out w7 (iPut cells mn (iLaid bn 8)) (by rw [iPut_len _ _ _ (by unfold iLaid; simp; omega), HNT.out.1, show (S.T.getD vo IT.no).cells = cells from HCL.out]) HKK7.out HB7.out);go_end0;exact ⟨rfl, _, _, _, _, _, HT7.out.1, .inl HS.out.symm⟩
 ·have HS : Hid (iStore S ka kb c = S.ends 102) := by
   show _ = _;unfold iStore;rw [HAT.out, if_neg (by rw [ho]; decide)]
  clear ho
  go_wp2_with fail
  refine (istop_yes F wB vT vF V col S w1 HR1.out r hr).mono ?_;rintro e2 w2 ⟨rfl, hR2, -⟩;have HR2 := hide2 hR2;clear hR2;go_wp2
  (try simp only [Exit.inBlock, Exit.then])
  refine bodyPost_ret (results_none rfl _ _ _) rfl ?_;exact ⟨rfl, _, _, _, _, _, HR2.out, .inr ⟨by rw [HS.out]; rfl, hr⟩⟩
end
section
variable (F : IFix) (wB : World) (vT vF : Value) (V : List Value) (col : Nat → Nat) (S : IS) (w : World)
set_option maxRecDepth 100000 in
set_option maxHeartbeats 6400000 in
theorem itouch_put (h : IRep F wB w vT vF V col S) (hg : IGood F S) (ka kb : Nat) (c : Int) (hka : ka < 8) (hkb : kb < 8) (hlen : S.T.length ≤ 900000) :
 Calls Tryz.prog 71 #[.pointer (some ⟨F.mb, 0, none⟩), .agg #[.int .i64 18, .int .i64 (ka : Int), .int .i64 (kb : Int), .int .i64 c]] w fun e w' => e = .returned (.tuple #[]) ∧ IDone F wB w' (iPut1 S ka kb c) := by
 obtain ⟨wa, hwa⟩ : ∃ wa, wa = w.alloc (.cells #[.int .i64 18, .int .i64 (ka : Int), .int .i64 (kb : Int), .int .i64 c] 60) := ⟨_, rfl⟩
 have HB : Hid (Below w.heap.size w wa) := by show Below _ _ _; rw [hwa]; exact (Below.refl _ _).alloc (Nat.le_refl _) _
 have HX : Hid (Blk wa w.heap.size 60 [.int .i64 18, .int .i64 (ka : Int), .int .i64 (kb : Int), .int .i64 c]) := by show Blk _ _ _ _; rw [hwa]; exact Blk.alloc _ _ _
 have HRa := hide2 (h.under HB.out);have HG := hide2 hg;have HOW : Hid (∀ b, IOwn F.mb vT vF V b → b < w.heap.size) := fun b hb => h.own_lt hb
 have hl2 := hg.len;have x0 := HX.out.cell (j := 0) rfl;have x1 := HX.out.cell (j := 1) rfl;have x2 := HX.out.cell (j := 2) rfl;have x3 := HX.out.cell (j := 3) rfl;have hxl := HX.out.lt;have c7 := HRa.out.cOf kb hkb;have c8 := HRa.out.cN kb hkb;have kaI : (ka : Int) < 8 := by omega
 have kbI : (kb : Int) < 8 := by omega
 have hmbw := HOW.out F.mb (.inl rfl);have hbs := HB.out.size;have hnm : w.heap.size ≠ F.mb := by omega
 have hnm' : F.mb ≠ w.heap.size := by omega
 have hnm2 : wa.heap.size ≠ F.mb := by omega
 have hnm2' : F.mb ≠ wa.heap.size := by omega
 have hwx : w.heap.size ≠ wa.heap.size := by omega
 have hwx' : wa.heap.size ≠ w.heap.size := by omega
 have hNO2 : Hid (¬ IOwn F.mb vT vF V wa.heap.size) := fun x => by have := HOW.out _ x; omega
 clear h hg;obtain ⟨bo, hbo⟩ : ∃ bo, bo = (iv S.r kb).of := ⟨_, rfl⟩
 obtain ⟨bn, hbn⟩ : ∃ bn, bn = (iv S.r kb).n := ⟨_, rfl⟩
 rw [← hbo] at c7;rw [← hbn] at c8;have HEB : Hid (iv S.r kb = ⟨bo, bn⟩) := by show _ = _; rw [hbo, hbn]
 clear hbo hbn;go_enter Tryz.func71, Tryz.ntmps71;go_upto_region 1 with (fail);rw [← hwa];clear hwa;go_upto_region 6 with (fail)
 go_region_held3 (fun w' => w'.cell? ⟨w.heap.size, 2, none⟩ = some (.int .i64 (kb : Int)) ∧ w'.cell? ⟨F.mb, 7 + kb * 2, none⟩ = some (.int .i64 (bo : Int)) ∧ w'.cell? ⟨F.mb, 7 + kb * 2 + 1, none⟩ = some (.int .i64 bn)) (go_keep) (first | fail)
 rename_i hold
 clear hold;obtain ⟨wb, hwb⟩ : ∃ wb, wb = (wa.alloc (.cells #[.int .i64 (bo : Int), .int .i64 bn] 107)).drew := ⟨_, rfl⟩
 rw [← hwb];have HBb : Hid (Below wa.heap.size wa wb) := by show Below _ _ _; rw [hwb]; exact ((Below.refl _ _).alloc (Nat.le_refl _) _).drew
 have HY : Hid (Blk wb wa.heap.size 107 [.int .i64 (bo : Int), .int .i64 bn]) := by show Blk _ _ _ _; rw [hwb]; exact Blk.alloc _ _ _
 have HXb := hide2 (HX.out.below HBb.out hxl);have HRb := hide2 (HRa.out.under HBb.out);clear x0 x1 x2 x3 c7 c8 hwb HX HRa HBb;have x0 := HXb.out.cell (j := 0) rfl;have x1 := HXb.out.cell (j := 1) rfl;have x2 := HXb.out.cell (j := 2) rfl;have x3 := HXb.out.cell (j := 3) rfl;have y0 := HY.out.cell (j := 0) rfl;have y1 := HY.out.cell (j := 1) rfl;have f0 := HY.out.frozen 0;have f1 := HY.out.frozen 1;have c7 := HRb.out.cOf ka hka;have c8 := HRb.out.cN ka hka;obtain ⟨vo, hvo⟩ : ∃ vo, vo = (iv S.r ka).of := ⟨_, rfl⟩
 obtain ⟨vn, hvn⟩ : ∃ vn, vn = (iv S.r ka).n := ⟨_, rfl⟩
 rw [← hvo] at c7;rw [← hvn] at c8;have HEV : Hid (iv S.r ka = ⟨vo, vn⟩) := by show _ = _; rw [hvo, hvn]
 have HVG := hide2 (HG.out.rv ka hka);clear hvo hvn;go_upto_region 8 with (fail)
 go_region_held3 (fun w' => w'.cell? ⟨w.heap.size, 1, none⟩ = some (.int .i64 (ka : Int)) ∧ w'.cell? ⟨F.mb, 7 + ka * 2, none⟩ = some (.int .i64 (vo : Int)) ∧ w'.cell? ⟨F.mb, 7 + ka * 2 + 1, none⟩ = some (.int .i64 vn)) (go_keep) (first | fail)
 rename_i hold
 clear hold;obtain ⟨wc, hwc⟩ : ∃ wc, wc = ((wb.setCell ⟨wa.heap.size, 0, none⟩ (.int .i64 (vo : Int))).setCell ⟨wa.heap.size, 1, none⟩ (.int .i64 vn)).drew := ⟨_, rfl⟩
 rw [← hwc];have HKc : Hid (Kept wb wc (· = wa.heap.size)) := by show Kept _ _ _; rw [hwc]; exact ((((Kept.refl wb (· = wa.heap.size)).setCell _ _ rfl).setCell _ _ rfl).drewN 1)
 have HYc : Hid (Blk wc wa.heap.size 107 [.int .i64 (vo : Int), .int .i64 vn]) := by show Blk _ _ _ _; rw [hwc]; exact (HY.out.setCell 0 _).setCell 1 _
 have HXc := hide2 (HKc.out.blk HXb.out hwx);have HRc := hide2 (HRb.out.aside HKc.out (fun b e => ⟨fun x => hNO2.out (by rw [← e]; exact x), by have := HRb.out.hm; omega⟩));clear x0 x1 x2 x3 y0 y1 f0 f1 c7 c8 hwc HY HXb HRb;have x0 := HXc.out.cell (j := 0) rfl;have x1 := HXc.out.cell (j := 1) rfl;have x3 := HXc.out.cell (j := 3) rfl;have y0 := HYc.out.cell (j := 0) rfl;have y1 := HYc.out.cell (j := 1) rfl;have f1 := HYc.out.frozen 1;have HAT : Hid (iAt S ka c = ⟨vo, wrap64 (vn + c)⟩) := by show _ = _; unfold iAt; rw [HEV.out]
 have hvo : vo < S.T.length := by have := HVG.out.1; rw [HEV.out] at this; exact this
 have hmb1 : -9223372036854775808 ≤ wrap64 (vn + c) ∧ wrap64 (vn + c) ≤ 9223372036854775807 := by unfold wrap64; omega
 clear HEV HVG;obtain ⟨m, hm⟩ : ∃ m, m = wrap64 (vn + c) := ⟨_, rfl⟩
 have HM := hide2 hm;rw [← hm] at HAT hmb1;clear hm;go_upto_region 10 with (fail);obtain ⟨wd, hwd⟩ : ∃ wd, wd = wc.setCell ⟨wa.heap.size, 1, none⟩ (.int .i64 (wrap64 (vn + c))) := ⟨_, rfl⟩
 rw [← hwd];rw [← HM.out] at hwd;have HKd : Hid (Kept wc wd (· = wa.heap.size)) := by show Kept _ _ _; rw [hwd]; exact (Kept.refl wc (· = wa.heap.size)).setCell _ _ rfl
 have HYd : Hid (Blk wd wa.heap.size 107 [.int .i64 (vo : Int), .int .i64 m]) := by show Blk _ _ _ _; rw [hwd]; exact HYc.out.setCell 1 _
 have HXd := hide2 (HKd.out.blk HXc.out hwx);have HRd := hide2 (HRc.out.aside HKd.out (fun b e => ⟨fun x => hNO2.out (by rw [← e]; exact x), by have := HRc.out.hm; omega⟩));clear x0 x1 x3 y0 y1 f1 hwd HYc HXc HRc HKd HM;have y0 := HYd.out.cell (j := 0) rfl;have y1 := HYd.out.cell (j := 1) rfl
 go_wp2_with fail
 refine (ireach_any F wB vT vF V col S wd HRd.out HG.out ⟨vo, m⟩ hvo hmb1.1 hmb1.2 (by omega) 1 (by omega) (by omega)).mono ?_;rintro e1 w1 ⟨⟨r, rfl, hs⟩, hb1⟩;have HR1 := hide2 (HRd.out.under hb1);have HX1 := hide2 (HXd.out.below hb1 HXd.out.lt);have HY1 := hide2 (HYd.out.below hb1 HYd.out.lt);clear y0 y1 hb1 HRd HXd HYd
 rcases hs with ⟨ho, rfl⟩ | ⟨ho, hr⟩
 ·have hfi := of_decide_eq_true ho;have HO := hide2 ho;clear ho
  go_wp2_with fail
  refine (istop_no F wB vT vF V col S w1 HR1.out).mono ?_;rintro e2 w2 ⟨rfl, hR2, hb2⟩;have HX2 := hide2 (HX1.out.below hb2 HX1.out.lt);have HY2 := hide2 (HY1.out.below hb2 HY1.out.lt);have HR2 := hide2 hR2;clear hb2 HR1 HX1 HY1;have hv1 : 1 ≤ vo := hfi.1;have hm0 : 0 ≤ m := hfi.2.2.1;have hm1 : m ≤ ((S.T.getD vo IT.no).cells.length : Int) - 1 := hfi.2.2.2;have hsm := HG.out.sm vo;obtain ⟨cb, en, hbn, hcn1, hcn2⟩ := (hR2.vn vo hv1 hvo).ex;obtain ⟨gt, cap, e5, hcap, hmax, hgl, -, hcell⟩ := hR2.things (by omega);have c5 := hR2.c5;rw [e5] at c5;obtain ⟨-, -, -, d3⟩ := hcell vo hvo;rw [en] at d3;have HBN := hide2 hbn;have HEN := hide2 en;have hvI : (vo : Int) < (S.T.length : Int) := by omega
  unfold maxLen at hmax;clear hmb1 hfi hbn en hcell e5 hR2;obtain ⟨mn, rfl⟩ : ∃ mn : Nat, m = (mn : Int) := ⟨m.toNat, by omega⟩
  have HMN : Hid ((mn : Int).toNat = mn) := Int.toNat_natCast mn;obtain ⟨cells, hcells⟩ : ∃ cells, cells = (S.T.getD vo IT.no).cells := ⟨_, rfl⟩
  have HCL : Hid ((S.th vo).cells = cells) := hcells.symm;rw [← hcells] at hm1 hsm d3 HBN HEN;clear hcells;have hml : mn + 1 ≤ cells.length := by omega
  have y0 := HY2.out.cell (j := 0) rfl;have y1 := HY2.out.cell (j := 1) rfl;have x0 := HX2.out.cell (j := 0) rfl;go_upto_region 13 with (fail)
  go_quiet (fail)
  obtain ⟨w3, hw3⟩ : ∃ w3, w3 = w2.drewN nq := ⟨_, rfl⟩
  rw [← hw3];have HB3 : Hid (Below w2.heap.size w2 w3) := by show Below _ _ _; rw [hw3]; exact below_drewN (Below.refl _ _) _
  have HX3 := hide2 (HX2.out.below HB3.out HX2.out.lt);have HR3 := hide2 (HR2.out.under HB3.out);have HBN3 := hide2 (HBN.out.below HB3.out HBN.out.lt);clear hw3 y0 y1 x0 c5 d3 HR2 HX2 HY2 HB3 HBN
  (try rw [show mn + 1 - mn = 1 by omega])
  have x0 := HX3.out.cell (j := 0) rfl;have x1 := HX3.out.cell (j := 1) rfl;have x2 := HX3.out.cell (j := 2) rfl;have HNT := hide2 (num_T S kb)
  have HS : Hid (iPut1 S ka kb c = (S.num kb).turn vo (iPut cells mn (iLaid bn 1))) := by
   show _ = _;unfold iPut1;rw [HAT.out, if_pos HO.out, HEB.out];show (S.num kb).turn vo (iPut (S.th vo).cells (mn : Int).toNat (iLaid bn 1)) = _;rw [HCL.out, HMN.out]
  have c7 := HR3.out.cOf kb hkb;rw [HEB.out] at c7;go_upto_region 25 with (fail)
  go_quiet (fail)
  obtain ⟨w4, hw4⟩ : ∃ w4, w4 = w3.drewN nq := ⟨_, rfl⟩
  rw [← hw4];have HB4 : Hid (Below w3.heap.size w3 w4) := by show Below _ _ _; rw [hw4]; exact below_drewN (Below.refl _ _) _
  have HX4 := hide2 (HX3.out.below HB4.out HX3.out.lt);have HR4 := hide2 (HR3.out.under HB4.out);have HBN4 := hide2 (HBN3.out.below HB4.out HBN3.out.lt);clear hw4 x0 x1 x2 c7 HR3 HX3 HB4 HBN3;have x2 := HX4.out.cell (j := 2) rfl
  go_wp2_with fail
  refine (inumber_any F wB vT vF V col S w4 HR4.out kb hkb).mono ?_;rintro e5 w5 ⟨rfl, hR5, hk5⟩;have hcm : cb ≠ F.mb := fun e => by have h1 := HR4.out.sep.mb; rw [← e, hcn2] at h1; omega
  have HR5 := hide2 hR5;have HBN5 := hide2 (hk5.blk HBN4.out hcm);rw [HEB.out];clear hR5 hk5 HX4 HR4 HBN4 x2
  go_wp2_with fail
  refine (ilaid_any bn 1 w5 (by omega)).mono ?_;rintro e6 w6 ⟨lv, rfl, hl6⟩;have HR6 := hide2 (HR5.out.under hl6.bel);have HBN6 := hide2 (HBN5.out.below hl6.bel HBN5.out.lt);obtain ⟨la, lcap, elv, hlc, -, hlrow⟩ := row_open hl6.row;obtain ⟨lg, rfl, hlg, hlcell, -⟩ := hlrow (by omega);subst elv;obtain ⟨cs, hcs⟩ : ∃ cs, cs = (iLaid bn 1).flatMap icCells := ⟨_, rfl⟩
  have HCS := hide2 hcs;have hcl : cs.length = Nat.min 1 1 * 3 := by rw [hcs, ic_len]; unfold iLaid; simp
  have HCELL : Hid (∀ j u, cs[j]? = some u → w6.cell? ((⟨lg, 0, none⟩ : Addr).add j) = some u) := fun j u hj => by
   rw [show (⟨lg, 0, none⟩ : Addr).add j = ⟨lg, j, none⟩ by rw [add_lit, Nat.zero_add]];exact hlcell j u (by rw [← hcs]; exact hj)
  have HONE : Hid (∀ u ∈ cs, u.oneCell' = true) := by show ∀ u ∈ cs, _; rw [hcs]; exact ic_one _
  have hfit : mn * 3 + cs.length ≤ (cells.flatMap icCells).length := by rw [ic_len, hcl, show Nat.min 1 1 = 1 from rfl]; omega
  have HTRN := hide2 (fun (w' : World) (c : List IC) hc hk hb => HR6.out.turnC (w' := w') vo hv1 (by rw [HNT.out.1]; exact hvo) c hc cb (by rw [HNT.out.1, show (S.T.getD vo IT.no).cells = cells from HCL.out]; exact HEN.out) hk hb);clear hlcell hlrow hcs hl6 HR5 HBN5;obtain ⟨w7, hrun, hb7, hk7⟩ := copy_cells w6 cb (mn * 3) 1 (cells.length - mn) lg 1 lcap (cells.flatMap icCells) cs HBN6.out hcl HCELL.out hfit HONE.out;have HBB7 := hide2 hb7;have HKK7 := hide2 hk7;clear hb7 hk7;go_wp2
  have HB7 : Hid (Blk w7 cb 115 ((iPut cells mn (iLaid bn 1)).flatMap icCells)) := by
   show Blk _ _ _ _;rw [← splice_put, ← HCS.out];exact HBB7.out
  have HT7 := hide2 (HTRN.out w7 (iPut cells mn (iLaid bn 1)) (by rw [iPut_len _ _ _ (by unfold iLaid; simp; omega), HNT.out.1, show (S.T.getD vo IT.no).cells = cells from HCL.out]) HKK7.out HB7.out);go_end0;exact ⟨rfl, _, _, _, _, _, HT7.out.1, .inl HS.out.symm⟩
 ·have HS : Hid (iPut1 S ka kb c = S.ends 102) := by
   show _ = _;unfold iPut1;rw [HAT.out, if_neg (by rw [ho]; decide)]
  clear ho
  go_wp2_with fail
  refine (istop_yes F wB vT vF V col S w1 HR1.out r hr).mono ?_;rintro e2 w2 ⟨rfl, hR2, -⟩;have HR2 := hide2 hR2;clear hR2;go_wp2
  (try simp only [Exit.inBlock, Exit.then])
  refine bodyPost_ret (results_none rfl _ _ _) rfl ?_;exact ⟨rfl, _, _, _, _, _, HR2.out, .inr ⟨by rw [HS.out]; rfl, hr⟩⟩
end
end Go.Proofs.YtjikemhmnkckcabGreat
