import Derived.Test.YtjikemhmnkckcabGreatJ39
namespace Go.Proofs.YtjikemhmnkckcabGreat
open Go.RowKit
attribute [local go_sem ↓] Go.wp_at_zero Go.wp_at_succ
section
variable (F : IFix) (wB : World) (vT vF : Value) (V : List Value) (col : Nat → Nat) (S : IS) (w : World)
set_option maxRecDepth 100000 in
set_option maxHeartbeats 6400000 in
theorem ido_halt (h : IRep F wB w vT vF V col S) (hg : IGood F S) (ka : Nat) (b c : Int) (hka : ka < 8) :
 Calls Tryz.prog 46 #[.pointer (some ⟨F.mb, 0, none⟩), .agg #[.int .i64 0, .int .i64 (ka : Int), .int .i64 b, .int .i64 c]] w fun e w' => e = .returned (.tuple #[]) ∧ IDone F wB w' (iHalt S ka) := by
 obtain ⟨wa, hwa⟩ : ∃ wa, wa = w.alloc (.cells #[.int .i64 0, .int .i64 (ka : Int), .int .i64 b, .int .i64 c] 60) := ⟨_, rfl⟩
 have HB : Hid (Below w.heap.size w wa) := by show Below _ _ _; rw [hwa]; exact (Below.refl _ _).alloc (Nat.le_refl _) _
 have HX : Hid (Blk wa w.heap.size 60 [.int .i64 0, .int .i64 (ka : Int), .int .i64 b, .int .i64 c]) := by show Blk _ _ _ _; rw [hwa]; exact Blk.alloc _ _ _
 have HRa := hide2 (h.under HB.out);have HG := hide2 hg;have x0 := HX.out.cell (j := 0) rfl;have x1 := HX.out.cell (j := 1) rfl;have x2 := HX.out.cell (j := 2) rfl;have x3 := HX.out.cell (j := 3) rfl;have hxl := HX.out.lt;have hmbw := h.blk.lt;have hnm : w.heap.size ≠ F.mb := by omega
 have hnm' : F.mb ≠ w.heap.size := by omega
 clear h hg;go_enter Tryz.func46, Tryz.ntmps46;go_upto_region 1 with (fail);rw [← hwa];clear hwa;have kaI : (ka : Int) < 8 := by omega
 have c26 := HRa.out.c26;have f26 := HRa.out.blk.frozen 26;go_upto_region 5 with (fail);obtain ⟨wb, hwb⟩ : ∃ wb, wb = wa.setCell ⟨F.mb, 26, none⟩ (.int .i64 2) := ⟨_, rfl⟩
 rw [← hwb];have HRb : Hid (IRep F wB wb vT vF V col (S.ends 2)) := by show IRep _ _ _ _ _ _ _ _; rw [hwb]; exact HRa.out.setEn 2
 have HXb : Hid (Blk wb w.heap.size 60 [.int .i64 0, .int .i64 (ka : Int), .int .i64 b, .int .i64 c]) := by show Blk _ _ _ _; rw [hwb]; exact HX.out.setCell_other _ _ hnm
 clear hwb c26 f26 x0 x1 x2 x3 HX HRa;have x1 := HXb.out.cell (j := 1) rfl
 go_wp2_with fail
 refine (inumber_any F wB vT vF V col (S.ends 2) wb HRb.out ka hka).mono ?_;rintro e1 w1 ⟨rfl, hR1, hk1⟩;have c27 := hR1.c27;have f27 := hR1.blk.frozen 27;have HFIN := hide2 (hR1.setEx (iv (S.ends 2).r ka).n);clear hR1 hk1 x1;go_wp2;go_end0;exact ⟨rfl, _, _, _, _, _, HFIN.out, .inl rfl⟩
set_option maxRecDepth 100000 in
set_option maxHeartbeats 6400000 in
theorem ido_set (h : IRep F wB w vT vF V col S) (hg : IGood F S) (ka : Nat) (b c : Int) (hka : ka < 8) (b0 : 0 ≤ b) (b1 : b ≤ 255) (c0 : 0 ≤ c) (c1 : c ≤ 255) :
 Calls Tryz.prog 46 #[.pointer (some ⟨F.mb, 0, none⟩), .agg #[.int .i64 1, .int .i64 (ka : Int), .int .i64 b, .int .i64 c]] w fun e w' => e = .returned (.tuple #[]) ∧ IDone F wB w' (S.reg ka ⟨0, 256 * b + c⟩) := by
 obtain ⟨wa, hwa⟩ : ∃ wa, wa = w.alloc (.cells #[.int .i64 1, .int .i64 (ka : Int), .int .i64 b, .int .i64 c] 60) := ⟨_, rfl⟩
 have HB : Hid (Below w.heap.size w wa) := by show Below _ _ _; rw [hwa]; exact (Below.refl _ _).alloc (Nat.le_refl _) _
 have HX : Hid (Blk wa w.heap.size 60 [.int .i64 1, .int .i64 (ka : Int), .int .i64 b, .int .i64 c]) := by show Blk _ _ _ _; rw [hwa]; exact Blk.alloc _ _ _
 have HRa := hide2 (h.under HB.out);have HG := hide2 hg;have x0 := HX.out.cell (j := 0) rfl;have x1 := HX.out.cell (j := 1) rfl;have x2 := HX.out.cell (j := 2) rfl;have x3 := HX.out.cell (j := 3) rfl;have hxl := HX.out.lt;have hmbw := h.blk.lt;have hnm : w.heap.size ≠ F.mb := by omega
 have hnm' : F.mb ≠ w.heap.size := by omega
 clear h hg;go_enter Tryz.func46, Tryz.ntmps46;go_upto_region 1 with (fail);rw [← hwa];clear hwa;have kaI : (ka : Int) < 8 := by omega
 go_upto_region 7 with (fail);have q7 := HRa.out.cOf ka hka;have q8 := HRa.out.cN ka hka;have f7 := HRa.out.blk.frozen (7 + ka * 2);have f8 := HRa.out.blk.frozen (7 + ka * 2 + 1);have HFIN := hide2 ((HRa.out.setReg ka hka ⟨0, 256 * b + c⟩).under ((Below.refl _ _).drew));refine wp_region_still_tail 13 (by kernel_rfl) (by kernel_rfl) ?_
 repeat still_step
 refine wpStill_nil ?_;go_wp2;go_end0;exact ⟨rfl, _, _, _, _, _, HFIN.out, .inl rfl⟩
set_option maxRecDepth 100000 in
set_option maxHeartbeats 6400000 in
theorem ido_base (h : IRep F wB w vT vF V col S) (hg : IGood F S) (ka : Nat) (b c : Int) (hka : ka < 8) (b0 : 0 ≤ b) (b1 : b ≤ 255) (c0 : 0 ≤ c) (c1 : c ≤ 255) :
 Calls Tryz.prog 46 #[.pointer (some ⟨F.mb, 0, none⟩), .agg #[.int .i64 10, .int .i64 (ka : Int), .int .i64 b, .int .i64 c]] w fun e w' => e = .returned (.tuple #[]) ∧ IDone F wB w' (S.reg ka ⟨1, 256 * b + c⟩) := by
 obtain ⟨wa, hwa⟩ : ∃ wa, wa = w.alloc (.cells #[.int .i64 10, .int .i64 (ka : Int), .int .i64 b, .int .i64 c] 60) := ⟨_, rfl⟩
 have HB : Hid (Below w.heap.size w wa) := by show Below _ _ _; rw [hwa]; exact (Below.refl _ _).alloc (Nat.le_refl _) _
 have HX : Hid (Blk wa w.heap.size 60 [.int .i64 10, .int .i64 (ka : Int), .int .i64 b, .int .i64 c]) := by show Blk _ _ _ _; rw [hwa]; exact Blk.alloc _ _ _
 have HRa := hide2 (h.under HB.out);have HG := hide2 hg;have x0 := HX.out.cell (j := 0) rfl;have x1 := HX.out.cell (j := 1) rfl;have x2 := HX.out.cell (j := 2) rfl;have x3 := HX.out.cell (j := 3) rfl;have hxl := HX.out.lt;have hmbw := h.blk.lt;have hnm : w.heap.size ≠ F.mb := by omega
 have hnm' : F.mb ≠ w.heap.size := by omega
 clear h hg;go_enter Tryz.func46, Tryz.ntmps46;go_upto_region 1 with (fail);rw [← hwa];clear hwa;have kaI : (ka : Int) < 8 := by omega
 go_upto_region 9 with (fail);have q7 := HRa.out.cOf ka hka;have q8 := HRa.out.cN ka hka;have f7 := HRa.out.blk.frozen (7 + ka * 2);have f8 := HRa.out.blk.frozen (7 + ka * 2 + 1);have HFIN := hide2 ((HRa.out.setReg ka hka ⟨1, 256 * b + c⟩).under ((Below.refl _ _).drew));refine wp_region_still_tail 13 (by kernel_rfl) (by kernel_rfl) ?_
 repeat still_step
 refine wpStill_nil ?_;go_wp2;go_end0;exact ⟨rfl, _, _, _, _, _, HFIN.out, .inl rfl⟩
set_option maxRecDepth 100000 in
set_option maxHeartbeats 6400000 in
theorem ido_jump (h : IRep F wB w vT vF V col S) (hg : IGood F S) (ka : Nat) (b c : Int) :
 Calls Tryz.prog 46 #[.pointer (some ⟨F.mb, 0, none⟩), .agg #[.int .i64 6, .int .i64 (ka : Int), .int .i64 b, .int .i64 c]] w fun e w' => e = .returned (.tuple #[]) ∧ IDone F wB w' (S.goes ka) := by
 obtain ⟨wa, hwa⟩ : ∃ wa, wa = w.alloc (.cells #[.int .i64 6, .int .i64 (ka : Int), .int .i64 b, .int .i64 c] 60) := ⟨_, rfl⟩
 have HB : Hid (Below w.heap.size w wa) := by show Below _ _ _; rw [hwa]; exact (Below.refl _ _).alloc (Nat.le_refl _) _
 have HX : Hid (Blk wa w.heap.size 60 [.int .i64 6, .int .i64 (ka : Int), .int .i64 b, .int .i64 c]) := by show Blk _ _ _ _; rw [hwa]; exact Blk.alloc _ _ _
 have HRa := hide2 (h.under HB.out);have HG := hide2 hg;have x0 := HX.out.cell (j := 0) rfl;have x1 := HX.out.cell (j := 1) rfl;have x2 := HX.out.cell (j := 2) rfl;have x3 := HX.out.cell (j := 3) rfl;have hxl := HX.out.lt;have hmbw := h.blk.lt;have hnm : w.heap.size ≠ F.mb := by omega
 have hnm' : F.mb ≠ w.heap.size := by omega
 clear h hg;go_enter Tryz.func46, Tryz.ntmps46;go_upto_region 1 with (fail);rw [← hwa];clear hwa;have c25 := HRa.out.c25;have f25 := HRa.out.blk.frozen 25;have HFIN := hide2 (HRa.out.setNext ka);go_wp2;go_end0;exact ⟨rfl, _, _, _, _, _, HFIN.out, .inl rfl⟩
set_option maxRecDepth 100000 in
set_option maxHeartbeats 6400000 in
theorem ido_zero (h : IRep F wB w vT vF V col S) (hg : IGood F S) (ka kb : Nat) (c : Int) (hka : ka < 8) :
 Calls Tryz.prog 46 #[.pointer (some ⟨F.mb, 0, none⟩), .agg #[.int .i64 7, .int .i64 (ka : Int), .int .i64 (kb : Int), .int .i64 c]] w fun e w' => e = .returned (.tuple #[]) ∧ IDone F wB w' (iZero S ka kb) := by
 obtain ⟨wa, hwa⟩ : ∃ wa, wa = w.alloc (.cells #[.int .i64 7, .int .i64 (ka : Int), .int .i64 (kb : Int), .int .i64 c] 60) := ⟨_, rfl⟩
 have HB : Hid (Below w.heap.size w wa) := by show Below _ _ _; rw [hwa]; exact (Below.refl _ _).alloc (Nat.le_refl _) _
 have HX : Hid (Blk wa w.heap.size 60 [.int .i64 7, .int .i64 (ka : Int), .int .i64 (kb : Int), .int .i64 c]) := by show Blk _ _ _ _; rw [hwa]; exact Blk.alloc _ _ _
 have HRa := hide2 (h.under HB.out);have HG := hide2 hg;have x0 := HX.out.cell (j := 0) rfl;have x1 := HX.out.cell (j := 1) rfl;have x2 := HX.out.cell (j := 2) rfl;have x3 := HX.out.cell (j := 3) rfl;have hxl := HX.out.lt;have hmbw := h.blk.lt;have hnm : w.heap.size ≠ F.mb := by omega
 have hnm' : F.mb ≠ w.heap.size := by omega
 clear h hg;go_enter Tryz.func46, Tryz.ntmps46;go_upto_region 1 with (fail);rw [← hwa];clear hwa;have kaI : (ka : Int) < 8 := by omega
 have c7 := HRa.out.cOf ka hka;have c8 := HRa.out.cN ka hka;have HVG := hide2 (HG.out.rv ka hka);obtain ⟨vo, hvo⟩ : ∃ v, v = (iv S.r ka).of := ⟨_, rfl⟩
 obtain ⟨vn, hvn⟩ : ∃ v, v = (iv S.r ka).n := ⟨_, rfl⟩
 have HEV : Hid (iv S.r ka = ⟨vo, vn⟩) := by show _ = _; rw [hvo, hvn]
 rw [← hvo] at c7;rw [← hvn] at c8;clear hvo hvn;have hv : (⟨vo, vn⟩ : IV).of < S.T.length := by rw [← HEV.out]; exact HVG.out.1
 have HRD : Hid (IRep F wB wa.drew vT vF V col S) := HRa.out.under ((Below.refl _ _).drew);have hmba := HRa.out.blk.lt;go_upto_region 21 with (fail)
 go_region_held3 (fun w' => w'.cell? ⟨w.heap.size, 1, none⟩ = some (.int .i64 (ka : Int)) ∧ w'.cell? ⟨F.mb, 7 + ka * 2, none⟩ = some (.int .i64 (vo : Int)) ∧ w'.cell? ⟨F.mb, 7 + ka * 2 + 1, none⟩ = some (.int .i64 vn)) (go_keep)
  (first | (go_at_call 69; refine (iwithin_any F wB vT vF V col S wa.drew HRD.out ⟨vo, vn⟩ HG.out hv).mono ?_; rintro e1 w1 ⟨rfl, hb1⟩; have HB1 := hide2 hb1; have k1 : w1.cell? ⟨w.heap.size, 1, none⟩ = some (.int .i64 (ka : Int)) := (hb1.cell (p := ⟨w.heap.size, 1, none⟩) hxl).trans x1; have k7 : w1.cell? ⟨F.mb, 7 + ka * 2, none⟩ = some (.int .i64 (vo : Int)) := (hb1.cell (p := ⟨F.mb, 7 + ka * 2, none⟩) hmba).trans c7; have k8 : w1.cell? ⟨F.mb, 7 + ka * 2 + 1, none⟩ = some (.int .i64 vn) := (hb1.cell (p := ⟨F.mb, 7 + ka * 2 + 1, none⟩) hmba).trans c8; clear hb1))
 have HR1 := hide2 (HRD.out.under HB1.out);have HX1 : Hid (Blk w1 w.heap.size 60 [.int .i64 7, .int .i64 (ka : Int), .int .i64 (kb : Int), .int .i64 c]) := HX.out.below (w := wa.drew) HB1.out hxl;clear k1 k7 k8 c7 c8 x0 x1 x2 x3 HRa HX HVG;have x1 := HX1.out.cell (j := 1) rfl
 cases hw : iWithin S.T ⟨vo, vn⟩
 ·have HS0 : Hid (iZero S ka kb = if vn = 0 then (S.num ka).goes kb else S.num ka) := by
   show _ = _;unfold iZero;rw [HEV.out, if_neg (by rw [hw]; decide)]
  clear hw
  go_wp2_with fail
  refine (inumber_any F wB vT vF V col S w1 HR1.out ka hka).mono ?_;rintro e2 w2 ⟨rfl, hR2, hk2⟩;have HX2 := hide2 (hk2.blk HX1.out hnm);have HR2 := hide2 hR2;have x2 := HX2.out.cell (j := 2) rfl;rw [HEV.out];clear x1 hR2 hk2
  by_cases q : vn = 0
  ·have HS : Hid (iZero S ka kb = (S.num ka).goes kb) := by show _ = _; rw [HS0.out, if_pos q]
   have qb : (vn == 0) = true := by simp [q]
   have c25 := HR2.out.c25;have f25 := HR2.out.blk.frozen 25;have HFIN := hide2 (HR2.out.setNext kb);clear q HS0;go_wp2;go_end0;exact ⟨rfl, _, _, _, _, _, HFIN.out, .inl HS.out.symm⟩
  ·have HS : Hid (iZero S ka kb = S.num ka) := by show _ = _; rw [HS0.out, if_neg q]
   have qb : (vn == 0) = false := by simp [q]
   have HFIN := HR2;clear q HS0;go_wp2;go_end0;exact ⟨rfl, _, _, _, _, _, HFIN.out, .inl HS.out.symm⟩
 ·have HS : Hid (iZero S ka kb = S) := by
   show _ = _;unfold iZero;rw [HEV.out, if_pos hw]
  have HFIN := HR1;clear hw;go_wp2;go_end0;exact ⟨rfl, _, _, _, _, _, HFIN.out, .inl HS.out.symm⟩
set_option maxRecDepth 100000 in
set_option maxHeartbeats 6400000 in
theorem ido_sum (h : IRep F wB w vT vF V col S) (hg : IGood F S) (op : Int) (hop : op = 2 ∨ op = 3 ∨ op = 4 ∨ op = 5) (ka kb kc : Nat) (hka : ka < 8) (hkb : kb < 8) (hkc : kc < 8) (hlen : S.T.length ≤ 900000) :
 Calls Tryz.prog 46 #[.pointer (some ⟨F.mb, 0, none⟩), .agg #[.int .i64 op, .int .i64 (ka : Int), .int .i64 (kb : Int), .int .i64 (kc : Int)]] w fun e w' => e = .returned (.tuple #[]) ∧ IDone F wB w' (iSums S op ka kb kc) := by
 obtain ⟨wa, hwa⟩ : ∃ wa, wa = w.alloc (.cells #[.int .i64 op, .int .i64 (ka : Int), .int .i64 (kb : Int), .int .i64 (kc : Int)] 60) := ⟨_, rfl⟩
 have HB : Hid (Below w.heap.size w wa) := by show Below _ _ _; rw [hwa]; exact (Below.refl _ _).alloc (Nat.le_refl _) _
 have HX : Hid (Blk wa w.heap.size 60 [.int .i64 op, .int .i64 (ka : Int), .int .i64 (kb : Int), .int .i64 (kc : Int)]) := by show Blk _ _ _ _; rw [hwa]; exact Blk.alloc _ _ _
 have HRa := hide2 (h.under HB.out);have HG := hide2 hg;have x0 := HX.out.cell (j := 0) rfl;have x1 := HX.out.cell (j := 1) rfl;have x2 := HX.out.cell (j := 2) rfl;have x3 := HX.out.cell (j := 3) rfl;have hxl := HX.out.lt;have hmbw := h.blk.lt;have hnm : w.heap.size ≠ F.mb := by omega
 have hnm' : F.mb ≠ w.heap.size := by omega
 clear h hg;go_enter Tryz.func46, Tryz.ntmps46;go_upto_region 1 with (fail);rw [← hwa];clear hwa;have kaI : (ka : Int) < 8 := by omega
 have kbI : (kb : Int) < 8 := by omega
 have kcI : (kc : Int) < 8 := by omega
 have c7 := HRa.out.cOf kb hkb;have c8 := HRa.out.cN kb hkb;have d7 := HRa.out.cOf kc hkc;have d8 := HRa.out.cN kc hkc;obtain ⟨bo, hbo⟩ : ∃ v, v = (iv S.r kb).of := ⟨_, rfl⟩
 obtain ⟨bn, hbn⟩ : ∃ v, v = (iv S.r kb).n := ⟨_, rfl⟩
 obtain ⟨co, hco⟩ : ∃ v, v = (iv S.r kc).of := ⟨_, rfl⟩
 obtain ⟨cn, hcn⟩ : ∃ v, v = (iv S.r kc).n := ⟨_, rfl⟩
 have HEB : Hid (iv S.r kb = ⟨bo, bn⟩) := by show _ = _; rw [hbo, hbn]
 have HEC : Hid (iv S.r kc = ⟨co, cn⟩) := by show _ = _; rw [hco, hcn]
 rw [← hbo] at c7;rw [← hbn] at c8;rw [← hco] at d7;rw [← hcn] at d8;clear hbo hbn hco hcn;have hvb : (⟨bo, bn⟩ : IV).of < S.T.length := by rw [← HEB.out]; exact (HG.out.rv kb hkb).1
 have hvc : (⟨co, cn⟩ : IV).of < S.T.length := by rw [← HEC.out]; exact (HG.out.rv kc hkc).1
 have HS0 : Hid (iSums S op ka kb kc = match iSum S.T op ⟨bo, bn⟩ ⟨co, cn⟩ with | some v => S.reg ka v | none => (S.ends 102).reg ka ⟨0, 0⟩) := by show _ = _; unfold iSums; rw [HEB.out, HEC.out]; rfl
 obtain ⟨wz, hwz⟩ : ∃ wz, wz = (wa.alloc (.cells #[.int .i64 0, .int .i64 0] 107)).drew := ⟨_, rfl⟩
 have HBz : Hid (Below wa.heap.size wa wz) := by show Below _ _ _; rw [hwz]; exact ((Below.refl _ _).alloc (Nat.le_refl _) _).drew
 have HZz : Hid (Blk wz wa.heap.size 107 [.int .i64 0, .int .i64 0]) := by show Blk _ _ _ _; rw [hwz]; exact Blk.alloc _ _ _
 have HRD : Hid (IRep F wB wz vT vF V col S) := HRa.out.under HBz.out;have hmba : F.mb < wz.heap.size := HRD.out.blk.lt;have hxlz : w.heap.size < wz.heap.size := Nat.lt_of_lt_of_le hxl HBz.out.size;have hzl := HZz.out.lt;have hzx : w.heap.size ≠ wa.heap.size := by omega
 have hzx' : wa.heap.size ≠ w.heap.size := by omega
 have hzm : wa.heap.size ≠ F.mb := by have := HRa.out.blk.lt; omega
 have hzm' : F.mb ≠ wa.heap.size := fun e => hzm e.symm
 have X0 := (HBz.out.cell (p := ⟨w.heap.size, 0, none⟩) hxl).trans x0;have X2 := (HBz.out.cell (p := ⟨w.heap.size, 2, none⟩) hxl).trans x2;have X3 := (HBz.out.cell (p := ⟨w.heap.size, 3, none⟩) hxl).trans x3;have C7 := (HBz.out.cell (p := ⟨F.mb, 7 + kb * 2, none⟩) HRa.out.blk.lt).trans c7;have C8 := (HBz.out.cell (p := ⟨F.mb, 7 + kb * 2 + 1, none⟩) HRa.out.blk.lt).trans c8;have D7 := (HBz.out.cell (p := ⟨F.mb, 7 + kc * 2, none⟩) HRa.out.blk.lt).trans d7;have D8 := (HBz.out.cell (p := ⟨F.mb, 7 + kc * 2 + 1, none⟩) HRa.out.blk.lt).trans d8;have HCZ := hide2 (And.intro X0 (And.intro X2 (And.intro X3 (And.intro C7 (And.intro C8 (And.intro D7 D8))))));clear X0 X2 X3 C7 C8 D7 D8;have HCA := hide2 (isum_any F wB vT vF V col S wz HRD.out HG.out op hop ⟨bo, bn⟩ ⟨co, cn⟩ hvb hvc (by omega));obtain ⟨kr, hkr⟩ : ∃ kr, kr = iSum S.T op ⟨bo, bn⟩ ⟨co, cn⟩ := ⟨_, rfl⟩
 rw [← hkr] at HCA HS0;obtain ⟨rv, hrv⟩ : ∃ rv, rv = kvOf kr := ⟨_, rfl⟩
 obtain ⟨rb, hrb⟩ : ∃ rb, rb = kr.isSome := ⟨_, rfl⟩
 rw [← hrv, ← hrb] at HCA;obtain ⟨ro, rn⟩ := rv
 have HS1 : Hid (rb = true → iSums S op ka kb kc = S.reg ka ⟨ro, rn⟩) := fun e => by
  rw [hrb] at e;rw [HS0.out]
  cases kr with
  | none => cases e
  | some v => rw [hrv]; rfl
 have HS2 : Hid (rb = false → iSums S op ka kb kc = (S.ends 102).reg ka ⟨ro, rn⟩) := fun e => by
  rw [hrb] at e;rw [HS0.out]
  cases kr with
  | none => rw [hrv]; rfl
  | some v => cases e
 have HRE : Hid (IRep F wB wa.drew vT vF V col S) := HRa.out.under ((Below.refl _ _).drew);have HCA0 := hide2 (isum_any F wB vT vF V col S wa.drew HRE.out HG.out op hop ⟨bo, bn⟩ ⟨co, cn⟩ hvb hvc (by omega));rw [← hkr, ← hrv, ← hrb] at HCA0;have HCC : Hid (Calls Tryz.prog 68 #[.pointer (some ⟨F.mb, 0, none⟩), .int .i64 op, .agg #[.int .i64 (bo : Int), .int .i64 bn], .agg #[.int .i64 (co : Int), .int .i64 cn]] wa.drew fun e w' => e = .returned (.tuple #[.agg #[.int .i64 (ro : Int), .int .i64 rn], .bool rb]) ∧ Below wa.drew.heap.size wa.drew w') := HCA0.out;have hmbq : F.mb < wa.heap.size := HRa.out.blk.lt;have HCB : Hid (Calls Tryz.prog 68 #[.pointer (some ⟨F.mb, 0, none⟩), .int .i64 op, .agg #[.int .i64 (bo : Int), .int .i64 bn], .agg #[.int .i64 (co : Int), .int .i64 cn]] wz fun e w' => e = .returned (.tuple #[.agg #[.int .i64 (ro : Int), .int .i64 rn], .bool rb]) ∧ Below wz.heap.size wz w') := HCA.out;clear hkr hrv hrb HS0 HCA HCA0 HEB HEC;rw [hwz] at HCB
 rcases hop with rfl | rfl | rfl | rfl
 ·go_upto_region 14 with (fail)
  go_region_held3 (fun w' => w'.cell? ⟨w.heap.size, 0, none⟩ = some (.int .i64 2) ∧ w'.cell? ⟨w.heap.size, 2, none⟩ = some (.int .i64 (kb : Int)) ∧ w'.cell? ⟨w.heap.size, 3, none⟩ = some (.int .i64 (kc : Int)) ∧ w'.cell? ⟨F.mb, 7 + kb * 2, none⟩ = some (.int .i64 (bo : Int)) ∧ w'.cell? ⟨F.mb, 7 + kb * 2 + 1, none⟩ = some (.int .i64 bn) ∧ w'.cell? ⟨F.mb, 7 + kc * 2, none⟩ = some (.int .i64 (co : Int)) ∧ w'.cell? ⟨F.mb, 7 + kc * 2 + 1, none⟩ = some (.int .i64 cn)) (go_keep)
   (first | (go_at_call 68; refine HCC.out.mono ?_; rintro e1 w1 ⟨rfl, hb1⟩; have HB1A := hide2 hb1; have k0 : w1.cell? ⟨w.heap.size, 0, none⟩ = some (.int .i64 2) := (hb1.cell (p := ⟨w.heap.size, 0, none⟩) hxl).trans x0; have k2 : w1.cell? ⟨w.heap.size, 2, none⟩ = some (.int .i64 (kb : Int)) := (hb1.cell (p := ⟨w.heap.size, 2, none⟩) hxl).trans x2; have k3 : w1.cell? ⟨w.heap.size, 3, none⟩ = some (.int .i64 (kc : Int)) := (hb1.cell (p := ⟨w.heap.size, 3, none⟩) hxl).trans x3; have k7 : w1.cell? ⟨F.mb, 7 + kb * 2, none⟩ = some (.int .i64 (bo : Int)) := (hb1.cell (p := ⟨F.mb, 7 + kb * 2, none⟩) hmbq).trans c7; have k8 : w1.cell? ⟨F.mb, 7 + kb * 2 + 1, none⟩ = some (.int .i64 bn) := (hb1.cell (p := ⟨F.mb, 7 + kb * 2 + 1, none⟩) hmbq).trans c8; have l7 : w1.cell? ⟨F.mb, 7 + kc * 2, none⟩ = some (.int .i64 (co : Int)) := (hb1.cell (p := ⟨F.mb, 7 + kc * 2, none⟩) hmbq).trans d7; have l8 : w1.cell? ⟨F.mb, 7 + kc * 2 + 1, none⟩ = some (.int .i64 cn) := (hb1.cell (p := ⟨F.mb, 7 + kc * 2 + 1, none⟩) hmbq).trans d8; clear hb1) | (go_at_call 68; refine HCB.out.mono ?_; rw [← hwz]; rintro e1 w1 ⟨rfl, hb1⟩; have HB1 := hide2 hb1; have z0 := (HZz.out.below hb1 hzl).cell (j := 0) rfl; have z1 := (HZz.out.below hb1 hzl).cell (j := 1) rfl; have zf0 := (HZz.out.below hb1 hzl).frozen 0; have zf1 := (HZz.out.below hb1 hzl).frozen 1; have k0 : w1.cell? ⟨w.heap.size, 0, none⟩ = some (.int .i64 2) := (hb1.cell (p := ⟨w.heap.size, 0, none⟩) hxlz).trans HCZ.out.1; have k2 : w1.cell? ⟨w.heap.size, 2, none⟩ = some (.int .i64 (kb : Int)) := (hb1.cell (p := ⟨w.heap.size, 2, none⟩) hxlz).trans HCZ.out.2.1; have k3 : w1.cell? ⟨w.heap.size, 3, none⟩ = some (.int .i64 (kc : Int)) := (hb1.cell (p := ⟨w.heap.size, 3, none⟩) hxlz).trans HCZ.out.2.2.1; have k7 : w1.cell? ⟨F.mb, 7 + kb * 2, none⟩ = some (.int .i64 (bo : Int)) := (hb1.cell (p := ⟨F.mb, 7 + kb * 2, none⟩) hmba).trans HCZ.out.2.2.2.1; have k8 : w1.cell? ⟨F.mb, 7 + kb * 2 + 1, none⟩ = some (.int .i64 bn) := (hb1.cell (p := ⟨F.mb, 7 + kb * 2 + 1, none⟩) hmba).trans HCZ.out.2.2.2.2.1; have l7 : w1.cell? ⟨F.mb, 7 + kc * 2, none⟩ = some (.int .i64 (co : Int)) := (hb1.cell (p := ⟨F.mb, 7 + kc * 2, none⟩) hmba).trans HCZ.out.2.2.2.2.2.1; have l8 : w1.cell? ⟨F.mb, 7 + kc * 2 + 1, none⟩ = some (.int .i64 cn) := (hb1.cell (p := ⟨F.mb, 7 + kc * 2 + 1, none⟩) hmba).trans HCZ.out.2.2.2.2.2.2; clear hb1))
  all_goals
   first
    | (rename_i hold
       clear hold;obtain ⟨w2, hw2⟩ : ∃ v, v = w1.alloc (.cells #[.int .i64 (ro : Int), .int .i64 rn] 107) := ⟨_, rfl⟩
       rw [← hw2];have HB2 : Hid (Below w1.heap.size w1 w2) := by show Below _ _ _; rw [hw2]; exact (Below.refl _ _).alloc (Nat.le_refl _) _
       have HZ2 : Hid (Blk w2 w1.heap.size 107 [.int .i64 (ro : Int), .int .i64 rn]) := by show Blk _ _ _ _; rw [hw2]; exact Blk.alloc _ _ _
       have HX2 : Hid (Blk w2 w.heap.size 60 [.int .i64 2, .int .i64 (ka : Int), .int .i64 (kb : Int), .int .i64 (kc : Int)]) := (HX.out.below (w := wa.drew) HB1A.out hxl).below HB2.out (Nat.lt_of_lt_of_le hxl HB1A.out.size);have HR2 := hide2 ((HRE.out.under HB1A.out).under HB2.out)
       replace hzm : w1.heap.size ≠ F.mb := by have := HB1A.out.size; have : wa.drew.heap.size = wa.heap.size := rfl; omega
       clear hw2 k0 k2 k3 k7 k8 l7 l8 x0 x1 x2 x3 c7 c8 d7 d8 HRa HX HRD HZz HRE
       cases rb
       ·have HS : Hid (iSums S 2 ka kb kc = (S.ends 102).reg ka ⟨ro, rn⟩) := HS2.out rfl;have c26 := HR2.out.c26;have f26 := HR2.out.blk.frozen 26;go_upto_region 17 with (fail);obtain ⟨w3, hw3⟩ : ∃ v, v = w2.setCell ⟨F.mb, 26, none⟩ (.int .i64 102) := ⟨_, rfl⟩
        rw [← hw3];have HR3 : Hid (IRep F wB w3 vT vF V col (S.ends 102)) := by show IRep _ _ _ _ _ _ _ _; rw [hw3]; exact HR2.out.setEn 102
        have HX3 : Hid (Blk w3 w.heap.size 60 [.int .i64 2, .int .i64 (ka : Int), .int .i64 (kb : Int), .int .i64 (kc : Int)]) := by show Blk _ _ _ _; rw [hw3]; exact HX2.out.setCell_other _ _ hnm
        have HZ3 : Hid (Blk w3 w1.heap.size 107 [.int .i64 (ro : Int), .int .i64 rn]) := by show Blk _ _ _ _; rw [hw3]; exact HZ2.out.setCell_other _ _ hzm
        clear hw3 c26 f26;have x1 := HX3.out.cell (j := 1) rfl;have z0 := HZ3.out.cell (j := 0) rfl;have z1 := HZ3.out.cell (j := 1) rfl;have q7 := HR3.out.cOf ka hka;have q8 := HR3.out.cN ka hka;have f7 := HR3.out.blk.frozen (7 + ka * 2);have f8 := HR3.out.blk.frozen (7 + ka * 2 + 1);have HFIN := hide2 ((HR3.out.setReg ka hka ⟨ro, rn⟩).under ((Below.refl _ _).drew));refine wp_region_still_tail 7 (by kernel_rfl) (by kernel_rfl) ?_
        repeat still_step
        refine wpStill_nil ?_;go_wp2;go_end0;exact ⟨rfl, _, _, _, _, _, HFIN.out, .inl HS.out.symm⟩
       ·have HS : Hid (iSums S 2 ka kb kc = S.reg ka ⟨ro, rn⟩) := HS1.out rfl;have x1 := HX2.out.cell (j := 1) rfl;have z0 := HZ2.out.cell (j := 0) rfl;have z1 := HZ2.out.cell (j := 1) rfl;go_upto_region 17 with (fail);have q7 := HR2.out.cOf ka hka;have q8 := HR2.out.cN ka hka;have f7 := HR2.out.blk.frozen (7 + ka * 2);have f8 := HR2.out.blk.frozen (7 + ka * 2 + 1);have HFIN := hide2 ((HR2.out.setReg ka hka ⟨ro, rn⟩).under ((Below.refl _ _).drew));refine wp_region_still_tail 7 (by kernel_rfl) (by kernel_rfl) ?_
        repeat still_step
        refine wpStill_nil ?_;go_wp2;go_end0;exact ⟨rfl, _, _, _, _, _, HFIN.out, .inl HS.out.symm⟩)
    | (rename_i hold
       clear hold;obtain ⟨w2, hw2⟩ : ∃ v, v = (w1.setCell ⟨wa.heap.size, 0, none⟩ (.int .i64 (ro : Int))).setCell ⟨wa.heap.size, 1, none⟩ (.int .i64 rn) := ⟨_, rfl⟩
       rw [← hw2];have HK2 : Hid (Kept w1 w2 (· = wa.heap.size)) := by show Kept _ _ _; rw [hw2]; exact ((Kept.refl w1 (· = wa.heap.size)).setCell _ _ rfl).setCell _ _ rfl
       have HZ2 : Hid (Blk w2 wa.heap.size 107 [.int .i64 (ro : Int), .int .i64 rn]) := by show Blk _ _ _ _; rw [hw2]; exact ((HZz.out.below HB1.out hzl).setCell 0 _).setCell 1 _
       have HX2 := hide2 (HK2.out.blk ((HX.out.below HBz.out hxl).below HB1.out hxlz) hzx);have HNOw : Hid (¬ IOwn F.mb vT vF V wa.heap.size) := fun x => by have := HRa.out.own_lt x; omega
       have HR2 := hide2 ((HRD.out.under HB1.out).aside HK2.out (fun b e => ⟨fun x => HNOw.out (by rw [← e]; exact x), by have := HRa.out.hm; have := HRa.out.blk.lt; omega⟩));clear hw2 k0 k2 k3 k7 k8 l7 l8 x0 x1 x2 x3 c7 c8 d7 d8 z0 z1 zf0 zf1 HRa HX HRD HZz HRE
       cases rb
       ·have HS : Hid (iSums S 2 ka kb kc = (S.ends 102).reg ka ⟨ro, rn⟩) := HS2.out rfl;have c26 := HR2.out.c26;have f26 := HR2.out.blk.frozen 26;go_upto_region 17 with (fail);obtain ⟨w3, hw3⟩ : ∃ v, v = w2.setCell ⟨F.mb, 26, none⟩ (.int .i64 102) := ⟨_, rfl⟩
        rw [← hw3];have HR3 : Hid (IRep F wB w3 vT vF V col (S.ends 102)) := by show IRep _ _ _ _ _ _ _ _; rw [hw3]; exact HR2.out.setEn 102
        have HX3 : Hid (Blk w3 w.heap.size 60 [.int .i64 2, .int .i64 (ka : Int), .int .i64 (kb : Int), .int .i64 (kc : Int)]) := by show Blk _ _ _ _; rw [hw3]; exact HX2.out.setCell_other _ _ hnm
        have HZ3 : Hid (Blk w3 wa.heap.size 107 [.int .i64 (ro : Int), .int .i64 rn]) := by show Blk _ _ _ _; rw [hw3]; exact HZ2.out.setCell_other _ _ hzm
        clear hw3 c26 f26;have x1 := HX3.out.cell (j := 1) rfl;have z0 := HZ3.out.cell (j := 0) rfl;have z1 := HZ3.out.cell (j := 1) rfl;have q7 := HR3.out.cOf ka hka;have q8 := HR3.out.cN ka hka;have f7 := HR3.out.blk.frozen (7 + ka * 2);have f8 := HR3.out.blk.frozen (7 + ka * 2 + 1);have HFIN := hide2 ((HR3.out.setReg ka hka ⟨ro, rn⟩).under ((Below.refl _ _).drew));refine wp_region_still_tail 7 (by kernel_rfl) (by kernel_rfl) ?_
        repeat still_step
        refine wpStill_nil ?_;go_wp2;go_end0;exact ⟨rfl, _, _, _, _, _, HFIN.out, .inl HS.out.symm⟩
       ·have HS : Hid (iSums S 2 ka kb kc = S.reg ka ⟨ro, rn⟩) := HS1.out rfl;have x1 := HX2.out.cell (j := 1) rfl;have z0 := HZ2.out.cell (j := 0) rfl;have z1 := HZ2.out.cell (j := 1) rfl;go_upto_region 17 with (fail);have q7 := HR2.out.cOf ka hka;have q8 := HR2.out.cN ka hka;have f7 := HR2.out.blk.frozen (7 + ka * 2);have f8 := HR2.out.blk.frozen (7 + ka * 2 + 1);have HFIN := hide2 ((HR2.out.setReg ka hka ⟨ro, rn⟩).under ((Below.refl _ _).drew));refine wp_region_still_tail 7 (by kernel_rfl) (by kernel_rfl) ?_
        repeat still_step
        refine wpStill_nil ?_;go_wp2;go_end0;exact ⟨rfl, _, _, _, _, _, HFIN.out, .inl HS.out.symm⟩)
 ·go_upto_region 14 with (fail)
  go_region_held3 (fun w' => w'.cell? ⟨w.heap.size, 0, none⟩ = some (.int .i64 3) ∧ w'.cell? ⟨w.heap.size, 2, none⟩ = some (.int .i64 (kb : Int)) ∧ w'.cell? ⟨w.heap.size, 3, none⟩ = some (.int .i64 (kc : Int)) ∧ w'.cell? ⟨F.mb, 7 + kb * 2, none⟩ = some (.int .i64 (bo : Int)) ∧ w'.cell? ⟨F.mb, 7 + kb * 2 + 1, none⟩ = some (.int .i64 bn) ∧ w'.cell? ⟨F.mb, 7 + kc * 2, none⟩ = some (.int .i64 (co : Int)) ∧ w'.cell? ⟨F.mb, 7 + kc * 2 + 1, none⟩ = some (.int .i64 cn)) (go_keep)
   (first | (go_at_call 68; refine HCC.out.mono ?_; rintro e1 w1 ⟨rfl, hb1⟩; have HB1A := hide2 hb1; have k0 : w1.cell? ⟨w.heap.size, 0, none⟩ = some (.int .i64 3) := (hb1.cell (p := ⟨w.heap.size, 0, none⟩) hxl).trans x0; have k2 : w1.cell? ⟨w.heap.size, 2, none⟩ = some (.int .i64 (kb : Int)) := (hb1.cell (p := ⟨w.heap.size, 2, none⟩) hxl).trans x2; have k3 : w1.cell? ⟨w.heap.size, 3, none⟩ = some (.int .i64 (kc : Int)) := (hb1.cell (p := ⟨w.heap.size, 3, none⟩) hxl).trans x3; have k7 : w1.cell? ⟨F.mb, 7 + kb * 2, none⟩ = some (.int .i64 (bo : Int)) := (hb1.cell (p := ⟨F.mb, 7 + kb * 2, none⟩) hmbq).trans c7; have k8 : w1.cell? ⟨F.mb, 7 + kb * 2 + 1, none⟩ = some (.int .i64 bn) := (hb1.cell (p := ⟨F.mb, 7 + kb * 2 + 1, none⟩) hmbq).trans c8; have l7 : w1.cell? ⟨F.mb, 7 + kc * 2, none⟩ = some (.int .i64 (co : Int)) := (hb1.cell (p := ⟨F.mb, 7 + kc * 2, none⟩) hmbq).trans d7; have l8 : w1.cell? ⟨F.mb, 7 + kc * 2 + 1, none⟩ = some (.int .i64 cn) := (hb1.cell (p := ⟨F.mb, 7 + kc * 2 + 1, none⟩) hmbq).trans d8; clear hb1) | (go_at_call 68; refine HCB.out.mono ?_; rw [← hwz]; rintro e1 w1 ⟨rfl, hb1⟩; have HB1 := hide2 hb1; have z0 := (HZz.out.below hb1 hzl).cell (j := 0) rfl; have z1 := (HZz.out.below hb1 hzl).cell (j := 1) rfl; have zf0 := (HZz.out.below hb1 hzl).frozen 0; have zf1 := (HZz.out.below hb1 hzl).frozen 1; have k0 : w1.cell? ⟨w.heap.size, 0, none⟩ = some (.int .i64 3) := (hb1.cell (p := ⟨w.heap.size, 0, none⟩) hxlz).trans HCZ.out.1; have k2 : w1.cell? ⟨w.heap.size, 2, none⟩ = some (.int .i64 (kb : Int)) := (hb1.cell (p := ⟨w.heap.size, 2, none⟩) hxlz).trans HCZ.out.2.1; have k3 : w1.cell? ⟨w.heap.size, 3, none⟩ = some (.int .i64 (kc : Int)) := (hb1.cell (p := ⟨w.heap.size, 3, none⟩) hxlz).trans HCZ.out.2.2.1; have k7 : w1.cell? ⟨F.mb, 7 + kb * 2, none⟩ = some (.int .i64 (bo : Int)) := (hb1.cell (p := ⟨F.mb, 7 + kb * 2, none⟩) hmba).trans HCZ.out.2.2.2.1; have k8 : w1.cell? ⟨F.mb, 7 + kb * 2 + 1, none⟩ = some (.int .i64 bn) := (hb1.cell (p := ⟨F.mb, 7 + kb * 2 + 1, none⟩) hmba).trans HCZ.out.2.2.2.2.1; have l7 : w1.cell? ⟨F.mb, 7 + kc * 2, none⟩ = some (.int .i64 (co : Int)) := (hb1.cell (p := ⟨F.mb, 7 + kc * 2, none⟩) hmba).trans HCZ.out.2.2.2.2.2.1; have l8 : w1.cell? ⟨F.mb, 7 + kc * 2 + 1, none⟩ = some (.int .i64 cn) := (hb1.cell (p := ⟨F.mb, 7 + kc * 2 + 1, none⟩) hmba).trans HCZ.out.2.2.2.2.2.2; clear hb1))
  all_goals
   first
    | (rename_i hold
       clear hold;obtain ⟨w2, hw2⟩ : ∃ v, v = w1.alloc (.cells #[.int .i64 (ro : Int), .int .i64 rn] 107) := ⟨_, rfl⟩
       rw [← hw2];have HB2 : Hid (Below w1.heap.size w1 w2) := by show Below _ _ _; rw [hw2]; exact (Below.refl _ _).alloc (Nat.le_refl _) _
       have HZ2 : Hid (Blk w2 w1.heap.size 107 [.int .i64 (ro : Int), .int .i64 rn]) := by show Blk _ _ _ _; rw [hw2]; exact Blk.alloc _ _ _
       have HX2 : Hid (Blk w2 w.heap.size 60 [.int .i64 3, .int .i64 (ka : Int), .int .i64 (kb : Int), .int .i64 (kc : Int)]) := (HX.out.below (w := wa.drew) HB1A.out hxl).below HB2.out (Nat.lt_of_lt_of_le hxl HB1A.out.size);have HR2 := hide2 ((HRE.out.under HB1A.out).under HB2.out)
       replace hzm : w1.heap.size ≠ F.mb := by have := HB1A.out.size; have : wa.drew.heap.size = wa.heap.size := rfl; omega
       clear hw2 k0 k2 k3 k7 k8 l7 l8 x0 x1 x2 x3 c7 c8 d7 d8 HRa HX HRD HZz HRE
       cases rb
       ·have HS : Hid (iSums S 3 ka kb kc = (S.ends 102).reg ka ⟨ro, rn⟩) := HS2.out rfl;have c26 := HR2.out.c26;have f26 := HR2.out.blk.frozen 26;go_upto_region 17 with (fail);obtain ⟨w3, hw3⟩ : ∃ v, v = w2.setCell ⟨F.mb, 26, none⟩ (.int .i64 102) := ⟨_, rfl⟩
        rw [← hw3];have HR3 : Hid (IRep F wB w3 vT vF V col (S.ends 102)) := by show IRep _ _ _ _ _ _ _ _; rw [hw3]; exact HR2.out.setEn 102
        have HX3 : Hid (Blk w3 w.heap.size 60 [.int .i64 3, .int .i64 (ka : Int), .int .i64 (kb : Int), .int .i64 (kc : Int)]) := by show Blk _ _ _ _; rw [hw3]; exact HX2.out.setCell_other _ _ hnm
        have HZ3 : Hid (Blk w3 w1.heap.size 107 [.int .i64 (ro : Int), .int .i64 rn]) := by show Blk _ _ _ _; rw [hw3]; exact HZ2.out.setCell_other _ _ hzm
        clear hw3 c26 f26;have x1 := HX3.out.cell (j := 1) rfl;have z0 := HZ3.out.cell (j := 0) rfl;have z1 := HZ3.out.cell (j := 1) rfl;have q7 := HR3.out.cOf ka hka;have q8 := HR3.out.cN ka hka;have f7 := HR3.out.blk.frozen (7 + ka * 2);have f8 := HR3.out.blk.frozen (7 + ka * 2 + 1);have HFIN := hide2 ((HR3.out.setReg ka hka ⟨ro, rn⟩).under ((Below.refl _ _).drew));refine wp_region_still_tail 7 (by kernel_rfl) (by kernel_rfl) ?_
        repeat still_step
        refine wpStill_nil ?_;go_wp2;go_end0;exact ⟨rfl, _, _, _, _, _, HFIN.out, .inl HS.out.symm⟩
       ·have HS : Hid (iSums S 3 ka kb kc = S.reg ka ⟨ro, rn⟩) := HS1.out rfl;have x1 := HX2.out.cell (j := 1) rfl;have z0 := HZ2.out.cell (j := 0) rfl;have z1 := HZ2.out.cell (j := 1) rfl;go_upto_region 17 with (fail);have q7 := HR2.out.cOf ka hka;have q8 := HR2.out.cN ka hka;have f7 := HR2.out.blk.frozen (7 + ka * 2);have f8 := HR2.out.blk.frozen (7 + ka * 2 + 1);have HFIN := hide2 ((HR2.out.setReg ka hka ⟨ro, rn⟩).under ((Below.refl _ _).drew));refine wp_region_still_tail 7 (by kernel_rfl) (by kernel_rfl) ?_
        repeat still_step
        refine wpStill_nil ?_;go_wp2;go_end0;exact ⟨rfl, _, _, _, _, _, HFIN.out, .inl HS.out.symm⟩)
    | (rename_i hold
       clear hold;obtain ⟨w2, hw2⟩ : ∃ v, v = (w1.setCell ⟨wa.heap.size, 0, none⟩ (.int .i64 (ro : Int))).setCell ⟨wa.heap.size, 1, none⟩ (.int .i64 rn) := ⟨_, rfl⟩
       rw [← hw2];have HK2 : Hid (Kept w1 w2 (· = wa.heap.size)) := by show Kept _ _ _; rw [hw2]; exact ((Kept.refl w1 (· = wa.heap.size)).setCell _ _ rfl).setCell _ _ rfl
       have HZ2 : Hid (Blk w2 wa.heap.size 107 [.int .i64 (ro : Int), .int .i64 rn]) := by show Blk _ _ _ _; rw [hw2]; exact ((HZz.out.below HB1.out hzl).setCell 0 _).setCell 1 _
       have HX2 := hide2 (HK2.out.blk ((HX.out.below HBz.out hxl).below HB1.out hxlz) hzx);have HNOw : Hid (¬ IOwn F.mb vT vF V wa.heap.size) := fun x => by have := HRa.out.own_lt x; omega
       have HR2 := hide2 ((HRD.out.under HB1.out).aside HK2.out (fun b e => ⟨fun x => HNOw.out (by rw [← e]; exact x), by have := HRa.out.hm; have := HRa.out.blk.lt; omega⟩));clear hw2 k0 k2 k3 k7 k8 l7 l8 x0 x1 x2 x3 c7 c8 d7 d8 z0 z1 zf0 zf1 HRa HX HRD HZz HRE
       cases rb
       ·have HS : Hid (iSums S 3 ka kb kc = (S.ends 102).reg ka ⟨ro, rn⟩) := HS2.out rfl;have c26 := HR2.out.c26;have f26 := HR2.out.blk.frozen 26;go_upto_region 17 with (fail);obtain ⟨w3, hw3⟩ : ∃ v, v = w2.setCell ⟨F.mb, 26, none⟩ (.int .i64 102) := ⟨_, rfl⟩
        rw [← hw3];have HR3 : Hid (IRep F wB w3 vT vF V col (S.ends 102)) := by show IRep _ _ _ _ _ _ _ _; rw [hw3]; exact HR2.out.setEn 102
        have HX3 : Hid (Blk w3 w.heap.size 60 [.int .i64 3, .int .i64 (ka : Int), .int .i64 (kb : Int), .int .i64 (kc : Int)]) := by show Blk _ _ _ _; rw [hw3]; exact HX2.out.setCell_other _ _ hnm
        have HZ3 : Hid (Blk w3 wa.heap.size 107 [.int .i64 (ro : Int), .int .i64 rn]) := by show Blk _ _ _ _; rw [hw3]; exact HZ2.out.setCell_other _ _ hzm
        clear hw3 c26 f26;have x1 := HX3.out.cell (j := 1) rfl;have z0 := HZ3.out.cell (j := 0) rfl;have z1 := HZ3.out.cell (j := 1) rfl;have q7 := HR3.out.cOf ka hka;have q8 := HR3.out.cN ka hka;have f7 := HR3.out.blk.frozen (7 + ka * 2);have f8 := HR3.out.blk.frozen (7 + ka * 2 + 1);have HFIN := hide2 ((HR3.out.setReg ka hka ⟨ro, rn⟩).under ((Below.refl _ _).drew));refine wp_region_still_tail 7 (by kernel_rfl) (by kernel_rfl) ?_
        repeat still_step
        refine wpStill_nil ?_;go_wp2;go_end0;exact ⟨rfl, _, _, _, _, _, HFIN.out, .inl HS.out.symm⟩
       ·have HS : Hid (iSums S 3 ka kb kc = S.reg ka ⟨ro, rn⟩) := HS1.out rfl;have x1 := HX2.out.cell (j := 1) rfl;have z0 := HZ2.out.cell (j := 0) rfl;have z1 := HZ2.out.cell (j := 1) rfl;go_upto_region 17 with (fail);have q7 := HR2.out.cOf ka hka;have q8 := HR2.out.cN ka hka;have f7 := HR2.out.blk.frozen (7 + ka * 2);have f8 := HR2.out.blk.frozen (7 + ka * 2 + 1);have HFIN := hide2 ((HR2.out.setReg ka hka ⟨ro, rn⟩).under ((Below.refl _ _).drew));refine wp_region_still_tail 7 (by kernel_rfl) (by kernel_rfl) ?_
        repeat still_step
        refine wpStill_nil ?_;go_wp2;go_end0;exact ⟨rfl, _, _, _, _, _, HFIN.out, .inl HS.out.symm⟩)
 ·go_upto_region 14 with (fail)
  go_region_held3 (fun w' => w'.cell? ⟨w.heap.size, 0, none⟩ = some (.int .i64 4) ∧ w'.cell? ⟨w.heap.size, 2, none⟩ = some (.int .i64 (kb : Int)) ∧ w'.cell? ⟨w.heap.size, 3, none⟩ = some (.int .i64 (kc : Int)) ∧ w'.cell? ⟨F.mb, 7 + kb * 2, none⟩ = some (.int .i64 (bo : Int)) ∧ w'.cell? ⟨F.mb, 7 + kb * 2 + 1, none⟩ = some (.int .i64 bn) ∧ w'.cell? ⟨F.mb, 7 + kc * 2, none⟩ = some (.int .i64 (co : Int)) ∧ w'.cell? ⟨F.mb, 7 + kc * 2 + 1, none⟩ = some (.int .i64 cn)) (go_keep)
   (first | (go_at_call 68; refine HCC.out.mono ?_; rintro e1 w1 ⟨rfl, hb1⟩; have HB1A := hide2 hb1; have k0 : w1.cell? ⟨w.heap.size, 0, none⟩ = some (.int .i64 4) := (hb1.cell (p := ⟨w.heap.size, 0, none⟩) hxl).trans x0; have k2 : w1.cell? ⟨w.heap.size, 2, none⟩ = some (.int .i64 (kb : Int)) := (hb1.cell (p := ⟨w.heap.size, 2, none⟩) hxl).trans x2; have k3 : w1.cell? ⟨w.heap.size, 3, none⟩ = some (.int .i64 (kc : Int)) := (hb1.cell (p := ⟨w.heap.size, 3, none⟩) hxl).trans x3; have k7 : w1.cell? ⟨F.mb, 7 + kb * 2, none⟩ = some (.int .i64 (bo : Int)) := (hb1.cell (p := ⟨F.mb, 7 + kb * 2, none⟩) hmbq).trans c7; have k8 : w1.cell? ⟨F.mb, 7 + kb * 2 + 1, none⟩ = some (.int .i64 bn) := (hb1.cell (p := ⟨F.mb, 7 + kb * 2 + 1, none⟩) hmbq).trans c8; have l7 : w1.cell? ⟨F.mb, 7 + kc * 2, none⟩ = some (.int .i64 (co : Int)) := (hb1.cell (p := ⟨F.mb, 7 + kc * 2, none⟩) hmbq).trans d7; have l8 : w1.cell? ⟨F.mb, 7 + kc * 2 + 1, none⟩ = some (.int .i64 cn) := (hb1.cell (p := ⟨F.mb, 7 + kc * 2 + 1, none⟩) hmbq).trans d8; clear hb1) | (go_at_call 68; refine HCB.out.mono ?_; rw [← hwz]; rintro e1 w1 ⟨rfl, hb1⟩; have HB1 := hide2 hb1; have z0 := (HZz.out.below hb1 hzl).cell (j := 0) rfl; have z1 := (HZz.out.below hb1 hzl).cell (j := 1) rfl; have zf0 := (HZz.out.below hb1 hzl).frozen 0; have zf1 := (HZz.out.below hb1 hzl).frozen 1; have k0 : w1.cell? ⟨w.heap.size, 0, none⟩ = some (.int .i64 4) := (hb1.cell (p := ⟨w.heap.size, 0, none⟩) hxlz).trans HCZ.out.1; have k2 : w1.cell? ⟨w.heap.size, 2, none⟩ = some (.int .i64 (kb : Int)) := (hb1.cell (p := ⟨w.heap.size, 2, none⟩) hxlz).trans HCZ.out.2.1; have k3 : w1.cell? ⟨w.heap.size, 3, none⟩ = some (.int .i64 (kc : Int)) := (hb1.cell (p := ⟨w.heap.size, 3, none⟩) hxlz).trans HCZ.out.2.2.1; have k7 : w1.cell? ⟨F.mb, 7 + kb * 2, none⟩ = some (.int .i64 (bo : Int)) := (hb1.cell (p := ⟨F.mb, 7 + kb * 2, none⟩) hmba).trans HCZ.out.2.2.2.1; have k8 : w1.cell? ⟨F.mb, 7 + kb * 2 + 1, none⟩ = some (.int .i64 bn) := (hb1.cell (p := ⟨F.mb, 7 + kb * 2 + 1, none⟩) hmba).trans HCZ.out.2.2.2.2.1; have l7 : w1.cell? ⟨F.mb, 7 + kc * 2, none⟩ = some (.int .i64 (co : Int)) := (hb1.cell (p := ⟨F.mb, 7 + kc * 2, none⟩) hmba).trans HCZ.out.2.2.2.2.2.1; have l8 : w1.cell? ⟨F.mb, 7 + kc * 2 + 1, none⟩ = some (.int .i64 cn) := (hb1.cell (p := ⟨F.mb, 7 + kc * 2 + 1, none⟩) hmba).trans HCZ.out.2.2.2.2.2.2; clear hb1))
  all_goals
   first
    | (rename_i hold
       clear hold;obtain ⟨w2, hw2⟩ : ∃ v, v = w1.alloc (.cells #[.int .i64 (ro : Int), .int .i64 rn] 107) := ⟨_, rfl⟩
       rw [← hw2];have HB2 : Hid (Below w1.heap.size w1 w2) := by show Below _ _ _; rw [hw2]; exact (Below.refl _ _).alloc (Nat.le_refl _) _
       have HZ2 : Hid (Blk w2 w1.heap.size 107 [.int .i64 (ro : Int), .int .i64 rn]) := by show Blk _ _ _ _; rw [hw2]; exact Blk.alloc _ _ _
       have HX2 : Hid (Blk w2 w.heap.size 60 [.int .i64 4, .int .i64 (ka : Int), .int .i64 (kb : Int), .int .i64 (kc : Int)]) := (HX.out.below (w := wa.drew) HB1A.out hxl).below HB2.out (Nat.lt_of_lt_of_le hxl HB1A.out.size);have HR2 := hide2 ((HRE.out.under HB1A.out).under HB2.out)
       replace hzm : w1.heap.size ≠ F.mb := by have := HB1A.out.size; have : wa.drew.heap.size = wa.heap.size := rfl; omega
       clear hw2 k0 k2 k3 k7 k8 l7 l8 x0 x1 x2 x3 c7 c8 d7 d8 HRa HX HRD HZz HRE
       cases rb
       ·have HS : Hid (iSums S 4 ka kb kc = (S.ends 102).reg ka ⟨ro, rn⟩) := HS2.out rfl;have c26 := HR2.out.c26;have f26 := HR2.out.blk.frozen 26;go_upto_region 17 with (fail);obtain ⟨w3, hw3⟩ : ∃ v, v = w2.setCell ⟨F.mb, 26, none⟩ (.int .i64 102) := ⟨_, rfl⟩
        rw [← hw3];have HR3 : Hid (IRep F wB w3 vT vF V col (S.ends 102)) := by show IRep _ _ _ _ _ _ _ _; rw [hw3]; exact HR2.out.setEn 102
        have HX3 : Hid (Blk w3 w.heap.size 60 [.int .i64 4, .int .i64 (ka : Int), .int .i64 (kb : Int), .int .i64 (kc : Int)]) := by show Blk _ _ _ _; rw [hw3]; exact HX2.out.setCell_other _ _ hnm
        have HZ3 : Hid (Blk w3 w1.heap.size 107 [.int .i64 (ro : Int), .int .i64 rn]) := by show Blk _ _ _ _; rw [hw3]; exact HZ2.out.setCell_other _ _ hzm
        clear hw3 c26 f26;have x1 := HX3.out.cell (j := 1) rfl;have z0 := HZ3.out.cell (j := 0) rfl;have z1 := HZ3.out.cell (j := 1) rfl;have q7 := HR3.out.cOf ka hka;have q8 := HR3.out.cN ka hka;have f7 := HR3.out.blk.frozen (7 + ka * 2);have f8 := HR3.out.blk.frozen (7 + ka * 2 + 1);have HFIN := hide2 ((HR3.out.setReg ka hka ⟨ro, rn⟩).under ((Below.refl _ _).drew));refine wp_region_still_tail 7 (by kernel_rfl) (by kernel_rfl) ?_
        repeat still_step
        refine wpStill_nil ?_;go_wp2;go_end0;exact ⟨rfl, _, _, _, _, _, HFIN.out, .inl HS.out.symm⟩
       ·have HS : Hid (iSums S 4 ka kb kc = S.reg ka ⟨ro, rn⟩) := HS1.out rfl;have x1 := HX2.out.cell (j := 1) rfl;have z0 := HZ2.out.cell (j := 0) rfl;have z1 := HZ2.out.cell (j := 1) rfl;go_upto_region 17 with (fail);have q7 := HR2.out.cOf ka hka;have q8 := HR2.out.cN ka hka;have f7 := HR2.out.blk.frozen (7 + ka * 2);have f8 := HR2.out.blk.frozen (7 + ka * 2 + 1);have HFIN := hide2 ((HR2.out.setReg ka hka ⟨ro, rn⟩).under ((Below.refl _ _).drew));refine wp_region_still_tail 7 (by kernel_rfl) (by kernel_rfl) ?_
        repeat still_step
        refine wpStill_nil ?_;go_wp2;go_end0;exact ⟨rfl, _, _, _, _, _, HFIN.out, .inl HS.out.symm⟩)
    | (rename_i hold
       clear hold;obtain ⟨w2, hw2⟩ : ∃ v, v = (w1.setCell ⟨wa.heap.size, 0, none⟩ (.int .i64 (ro : Int))).setCell ⟨wa.heap.size, 1, none⟩ (.int .i64 rn) := ⟨_, rfl⟩
       rw [← hw2];have HK2 : Hid (Kept w1 w2 (· = wa.heap.size)) := by show Kept _ _ _; rw [hw2]; exact ((Kept.refl w1 (· = wa.heap.size)).setCell _ _ rfl).setCell _ _ rfl
       have HZ2 : Hid (Blk w2 wa.heap.size 107 [.int .i64 (ro : Int), .int .i64 rn]) := by show Blk _ _ _ _; rw [hw2]; exact ((HZz.out.below HB1.out hzl).setCell 0 _).setCell 1 _
       have HX2 := hide2 (HK2.out.blk ((HX.out.below HBz.out hxl).below HB1.out hxlz) hzx);have HNOw : Hid (¬ IOwn F.mb vT vF V wa.heap.size) := fun x => by have := HRa.out.own_lt x; omega
       have HR2 := hide2 ((HRD.out.under HB1.out).aside HK2.out (fun b e => ⟨fun x => HNOw.out (by rw [← e]; exact x), by have := HRa.out.hm; have := HRa.out.blk.lt; omega⟩));clear hw2 k0 k2 k3 k7 k8 l7 l8 x0 x1 x2 x3 c7 c8 d7 d8 z0 z1 zf0 zf1 HRa HX HRD HZz HRE
       cases rb
       ·have HS : Hid (iSums S 4 ka kb kc = (S.ends 102).reg ka ⟨ro, rn⟩) := HS2.out rfl;have c26 := HR2.out.c26;have f26 := HR2.out.blk.frozen 26;go_upto_region 17 with (fail);obtain ⟨w3, hw3⟩ : ∃ v, v = w2.setCell ⟨F.mb, 26, none⟩ (.int .i64 102) := ⟨_, rfl⟩
        rw [← hw3];have HR3 : Hid (IRep F wB w3 vT vF V col (S.ends 102)) := by show IRep _ _ _ _ _ _ _ _; rw [hw3]; exact HR2.out.setEn 102
        have HX3 : Hid (Blk w3 w.heap.size 60 [.int .i64 4, .int .i64 (ka : Int), .int .i64 (kb : Int), .int .i64 (kc : Int)]) := by show Blk _ _ _ _; rw [hw3]; exact HX2.out.setCell_other _ _ hnm
        have HZ3 : Hid (Blk w3 wa.heap.size 107 [.int .i64 (ro : Int), .int .i64 rn]) := by show Blk _ _ _ _; rw [hw3]; exact HZ2.out.setCell_other _ _ hzm
        clear hw3 c26 f26;have x1 := HX3.out.cell (j := 1) rfl;have z0 := HZ3.out.cell (j := 0) rfl;have z1 := HZ3.out.cell (j := 1) rfl;have q7 := HR3.out.cOf ka hka;have q8 := HR3.out.cN ka hka;have f7 := HR3.out.blk.frozen (7 + ka * 2);have f8 := HR3.out.blk.frozen (7 + ka * 2 + 1);have HFIN := hide2 ((HR3.out.setReg ka hka ⟨ro, rn⟩).under ((Below.refl _ _).drew));refine wp_region_still_tail 7 (by kernel_rfl) (by kernel_rfl) ?_
        repeat still_step
        refine wpStill_nil ?_;go_wp2;go_end0;exact ⟨rfl, _, _, _, _, _, HFIN.out, .inl HS.out.symm⟩
       ·have HS : Hid (iSums S 4 ka kb kc = S.reg ka ⟨ro, rn⟩) := HS1.out rfl;have x1 := HX2.out.cell (j := 1) rfl;have z0 := HZ2.out.cell (j := 0) rfl;have z1 := HZ2.out.cell (j := 1) rfl;go_upto_region 17 with (fail);have q7 := HR2.out.cOf ka hka;have q8 := HR2.out.cN ka hka;have f7 := HR2.out.blk.frozen (7 + ka * 2);have f8 := HR2.out.blk.frozen (7 + ka * 2 + 1);have HFIN := hide2 ((HR2.out.setReg ka hka ⟨ro, rn⟩).under ((Below.refl _ _).drew));refine wp_region_still_tail 7 (by kernel_rfl) (by kernel_rfl) ?_
        repeat still_step
        refine wpStill_nil ?_;go_wp2;go_end0;exact ⟨rfl, _, _, _, _, _, HFIN.out, .inl HS.out.symm⟩)
 ·go_upto_region 14 with (fail)
  go_region_held3 (fun w' => w'.cell? ⟨w.heap.size, 0, none⟩ = some (.int .i64 5) ∧ w'.cell? ⟨w.heap.size, 2, none⟩ = some (.int .i64 (kb : Int)) ∧ w'.cell? ⟨w.heap.size, 3, none⟩ = some (.int .i64 (kc : Int)) ∧ w'.cell? ⟨F.mb, 7 + kb * 2, none⟩ = some (.int .i64 (bo : Int)) ∧ w'.cell? ⟨F.mb, 7 + kb * 2 + 1, none⟩ = some (.int .i64 bn) ∧ w'.cell? ⟨F.mb, 7 + kc * 2, none⟩ = some (.int .i64 (co : Int)) ∧ w'.cell? ⟨F.mb, 7 + kc * 2 + 1, none⟩ = some (.int .i64 cn)) (go_keep)
   (first | (go_at_call 68; refine HCC.out.mono ?_; rintro e1 w1 ⟨rfl, hb1⟩; have HB1A := hide2 hb1; have k0 : w1.cell? ⟨w.heap.size, 0, none⟩ = some (.int .i64 5) := (hb1.cell (p := ⟨w.heap.size, 0, none⟩) hxl).trans x0; have k2 : w1.cell? ⟨w.heap.size, 2, none⟩ = some (.int .i64 (kb : Int)) := (hb1.cell (p := ⟨w.heap.size, 2, none⟩) hxl).trans x2; have k3 : w1.cell? ⟨w.heap.size, 3, none⟩ = some (.int .i64 (kc : Int)) := (hb1.cell (p := ⟨w.heap.size, 3, none⟩) hxl).trans x3; have k7 : w1.cell? ⟨F.mb, 7 + kb * 2, none⟩ = some (.int .i64 (bo : Int)) := (hb1.cell (p := ⟨F.mb, 7 + kb * 2, none⟩) hmbq).trans c7; have k8 : w1.cell? ⟨F.mb, 7 + kb * 2 + 1, none⟩ = some (.int .i64 bn) := (hb1.cell (p := ⟨F.mb, 7 + kb * 2 + 1, none⟩) hmbq).trans c8; have l7 : w1.cell? ⟨F.mb, 7 + kc * 2, none⟩ = some (.int .i64 (co : Int)) := (hb1.cell (p := ⟨F.mb, 7 + kc * 2, none⟩) hmbq).trans d7; have l8 : w1.cell? ⟨F.mb, 7 + kc * 2 + 1, none⟩ = some (.int .i64 cn) := (hb1.cell (p := ⟨F.mb, 7 + kc * 2 + 1, none⟩) hmbq).trans d8; clear hb1) | (go_at_call 68; refine HCB.out.mono ?_; rw [← hwz]; rintro e1 w1 ⟨rfl, hb1⟩; have HB1 := hide2 hb1; have z0 := (HZz.out.below hb1 hzl).cell (j := 0) rfl; have z1 := (HZz.out.below hb1 hzl).cell (j := 1) rfl; have zf0 := (HZz.out.below hb1 hzl).frozen 0; have zf1 := (HZz.out.below hb1 hzl).frozen 1; have k0 : w1.cell? ⟨w.heap.size, 0, none⟩ = some (.int .i64 5) := (hb1.cell (p := ⟨w.heap.size, 0, none⟩) hxlz).trans HCZ.out.1; have k2 : w1.cell? ⟨w.heap.size, 2, none⟩ = some (.int .i64 (kb : Int)) := (hb1.cell (p := ⟨w.heap.size, 2, none⟩) hxlz).trans HCZ.out.2.1; have k3 : w1.cell? ⟨w.heap.size, 3, none⟩ = some (.int .i64 (kc : Int)) := (hb1.cell (p := ⟨w.heap.size, 3, none⟩) hxlz).trans HCZ.out.2.2.1; have k7 : w1.cell? ⟨F.mb, 7 + kb * 2, none⟩ = some (.int .i64 (bo : Int)) := (hb1.cell (p := ⟨F.mb, 7 + kb * 2, none⟩) hmba).trans HCZ.out.2.2.2.1; have k8 : w1.cell? ⟨F.mb, 7 + kb * 2 + 1, none⟩ = some (.int .i64 bn) := (hb1.cell (p := ⟨F.mb, 7 + kb * 2 + 1, none⟩) hmba).trans HCZ.out.2.2.2.2.1; have l7 : w1.cell? ⟨F.mb, 7 + kc * 2, none⟩ = some (.int .i64 (co : Int)) := (hb1.cell (p := ⟨F.mb, 7 + kc * 2, none⟩) hmba).trans HCZ.out.2.2.2.2.2.1; have l8 : w1.cell? ⟨F.mb, 7 + kc * 2 + 1, none⟩ = some (.int .i64 cn) := (hb1.cell (p := ⟨F.mb, 7 + kc * 2 + 1, none⟩) hmba).trans HCZ.out.2.2.2.2.2.2; clear hb1))
  all_goals
   first
    | (rename_i hold
       clear hold;obtain ⟨w2, hw2⟩ : ∃ v, v = w1.alloc (.cells #[.int .i64 (ro : Int), .int .i64 rn] 107) := ⟨_, rfl⟩
       rw [← hw2];have HB2 : Hid (Below w1.heap.size w1 w2) := by show Below _ _ _; rw [hw2]; exact (Below.refl _ _).alloc (Nat.le_refl _) _
       have HZ2 : Hid (Blk w2 w1.heap.size 107 [.int .i64 (ro : Int), .int .i64 rn]) := by show Blk _ _ _ _; rw [hw2]; exact Blk.alloc _ _ _
       have HX2 : Hid (Blk w2 w.heap.size 60 [.int .i64 5, .int .i64 (ka : Int), .int .i64 (kb : Int), .int .i64 (kc : Int)]) := (HX.out.below (w := wa.drew) HB1A.out hxl).below HB2.out (Nat.lt_of_lt_of_le hxl HB1A.out.size);have HR2 := hide2 ((HRE.out.under HB1A.out).under HB2.out)
       replace hzm : w1.heap.size ≠ F.mb := by have := HB1A.out.size; have : wa.drew.heap.size = wa.heap.size := rfl; omega
       clear hw2 k0 k2 k3 k7 k8 l7 l8 x0 x1 x2 x3 c7 c8 d7 d8 HRa HX HRD HZz HRE
       cases rb
       ·have HS : Hid (iSums S 5 ka kb kc = (S.ends 102).reg ka ⟨ro, rn⟩) := HS2.out rfl;have c26 := HR2.out.c26;have f26 := HR2.out.blk.frozen 26;go_upto_region 17 with (fail);obtain ⟨w3, hw3⟩ : ∃ v, v = w2.setCell ⟨F.mb, 26, none⟩ (.int .i64 102) := ⟨_, rfl⟩
        rw [← hw3];have HR3 : Hid (IRep F wB w3 vT vF V col (S.ends 102)) := by show IRep _ _ _ _ _ _ _ _; rw [hw3]; exact HR2.out.setEn 102
        have HX3 : Hid (Blk w3 w.heap.size 60 [.int .i64 5, .int .i64 (ka : Int), .int .i64 (kb : Int), .int .i64 (kc : Int)]) := by show Blk _ _ _ _; rw [hw3]; exact HX2.out.setCell_other _ _ hnm
        have HZ3 : Hid (Blk w3 w1.heap.size 107 [.int .i64 (ro : Int), .int .i64 rn]) := by show Blk _ _ _ _; rw [hw3]; exact HZ2.out.setCell_other _ _ hzm
        clear hw3 c26 f26;have x1 := HX3.out.cell (j := 1) rfl;have z0 := HZ3.out.cell (j := 0) rfl;have z1 := HZ3.out.cell (j := 1) rfl;have q7 := HR3.out.cOf ka hka;have q8 := HR3.out.cN ka hka;have f7 := HR3.out.blk.frozen (7 + ka * 2);have f8 := HR3.out.blk.frozen (7 + ka * 2 + 1);have HFIN := hide2 ((HR3.out.setReg ka hka ⟨ro, rn⟩).under ((Below.refl _ _).drew));refine wp_region_still_tail 7 (by kernel_rfl) (by kernel_rfl) ?_
        repeat still_step
        refine wpStill_nil ?_;go_wp2;go_end0;exact ⟨rfl, _, _, _, _, _, HFIN.out, .inl HS.out.symm⟩
       ·have HS : Hid (iSums S 5 ka kb kc = S.reg ka ⟨ro, rn⟩) := HS1.out rfl;have x1 := HX2.out.cell (j := 1) rfl;have z0 := HZ2.out.cell (j := 0) rfl;have z1 := HZ2.out.cell (j := 1) rfl;go_upto_region 17 with (fail);have q7 := HR2.out.cOf ka hka;have q8 := HR2.out.cN ka hka;have f7 := HR2.out.blk.frozen (7 + ka * 2);have f8 := HR2.out.blk.frozen (7 + ka * 2 + 1);have HFIN := hide2 ((HR2.out.setReg ka hka ⟨ro, rn⟩).under ((Below.refl _ _).drew));refine wp_region_still_tail 7 (by kernel_rfl) (by kernel_rfl) ?_
        repeat still_step
        refine wpStill_nil ?_;go_wp2;go_end0;exact ⟨rfl, _, _, _, _, _, HFIN.out, .inl HS.out.symm⟩)
    | (rename_i hold
       clear hold;obtain ⟨w2, hw2⟩ : ∃ v, v = (w1.setCell ⟨wa.heap.size, 0, none⟩ (.int .i64 (ro : Int))).setCell ⟨wa.heap.size, 1, none⟩ (.int .i64 rn) := ⟨_, rfl⟩
       rw [← hw2];have HK2 : Hid (Kept w1 w2 (· = wa.heap.size)) := by show Kept _ _ _; rw [hw2]; exact ((Kept.refl w1 (· = wa.heap.size)).setCell _ _ rfl).setCell _ _ rfl
       have HZ2 : Hid (Blk w2 wa.heap.size 107 [.int .i64 (ro : Int), .int .i64 rn]) := by show Blk _ _ _ _; rw [hw2]; exact ((HZz.out.below HB1.out hzl).setCell 0 _).setCell 1 _
       have HX2 := hide2 (HK2.out.blk ((HX.out.below HBz.out hxl).below HB1.out hxlz) hzx);have HNOw : Hid (¬ IOwn F.mb vT vF V wa.heap.size) := fun x => by have := HRa.out.own_lt x; omega
       have HR2 := hide2 ((HRD.out.under HB1.out).aside HK2.out (fun b e => ⟨fun x => HNOw.out (by rw [← e]; exact x), by have := HRa.out.hm; have := HRa.out.blk.lt; omega⟩));clear hw2 k0 k2 k3 k7 k8 l7 l8 x0 x1 x2 x3 c7 c8 d7 d8 z0 z1 zf0 zf1 HRa HX HRD HZz HRE
       cases rb
       ·have HS : Hid (iSums S 5 ka kb kc = (S.ends 102).reg ka ⟨ro, rn⟩) := HS2.out rfl;have c26 := HR2.out.c26;have f26 := HR2.out.blk.frozen 26;go_upto_region 17 with (fail);obtain ⟨w3, hw3⟩ : ∃ v, v = w2.setCell ⟨F.mb, 26, none⟩ (.int .i64 102) := ⟨_, rfl⟩
        rw [← hw3];have HR3 : Hid (IRep F wB w3 vT vF V col (S.ends 102)) := by show IRep _ _ _ _ _ _ _ _; rw [hw3]; exact HR2.out.setEn 102
        have HX3 : Hid (Blk w3 w.heap.size 60 [.int .i64 5, .int .i64 (ka : Int), .int .i64 (kb : Int), .int .i64 (kc : Int)]) := by show Blk _ _ _ _; rw [hw3]; exact HX2.out.setCell_other _ _ hnm
        have HZ3 : Hid (Blk w3 wa.heap.size 107 [.int .i64 (ro : Int), .int .i64 rn]) := by show Blk _ _ _ _; rw [hw3]; exact HZ2.out.setCell_other _ _ hzm
        clear hw3 c26 f26;have x1 := HX3.out.cell (j := 1) rfl;have z0 := HZ3.out.cell (j := 0) rfl;have z1 := HZ3.out.cell (j := 1) rfl;have q7 := HR3.out.cOf ka hka;have q8 := HR3.out.cN ka hka;have f7 := HR3.out.blk.frozen (7 + ka * 2);have f8 := HR3.out.blk.frozen (7 + ka * 2 + 1);have HFIN := hide2 ((HR3.out.setReg ka hka ⟨ro, rn⟩).under ((Below.refl _ _).drew));refine wp_region_still_tail 7 (by kernel_rfl) (by kernel_rfl) ?_
        repeat still_step
        refine wpStill_nil ?_;go_wp2;go_end0;exact ⟨rfl, _, _, _, _, _, HFIN.out, .inl HS.out.symm⟩
       ·have HS : Hid (iSums S 5 ka kb kc = S.reg ka ⟨ro, rn⟩) := HS1.out rfl;have x1 := HX2.out.cell (j := 1) rfl;have z0 := HZ2.out.cell (j := 0) rfl;have z1 := HZ2.out.cell (j := 1) rfl;go_upto_region 17 with (fail);have q7 := HR2.out.cOf ka hka;have q8 := HR2.out.cN ka hka;have f7 := HR2.out.blk.frozen (7 + ka * 2);have f8 := HR2.out.blk.frozen (7 + ka * 2 + 1);have HFIN := hide2 ((HR2.out.setReg ka hka ⟨ro, rn⟩).under ((Below.refl _ _).drew));refine wp_region_still_tail 7 (by kernel_rfl) (by kernel_rfl) ?_
        repeat still_step
        refine wpStill_nil ?_;go_wp2;go_end0;exact ⟨rfl, _, _, _, _, _, HFIN.out, .inl HS.out.symm⟩)
end
end Go.Proofs.YtjikemhmnkckcabGreat
