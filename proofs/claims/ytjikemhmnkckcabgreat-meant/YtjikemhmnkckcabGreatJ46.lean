import Derived.Test.YtjikemhmnkckcabGreatJ45
namespace Go.Proofs.YtjikemhmnkckcabGreat
open Go.RowKit
attribute [local go_sem ↓] Go.wp_at_zero Go.wp_at_succ
theorem hearV_bd (inp : ByteArray) (n : Nat) : -1 ≤ hearV inp n ∧ hearV inp n ≤ 255 := by
 unfold hearV
 split
 ·have := byteAt_bd inp n; omega
 ·omega
theorem sumV_bd (op b c : Int) : -9223372036854775808 ≤ sumV op b c ∧ sumV op b c ≤ 9223372036854775807 := by
 unfold sumV;have h1 := wrap64_i64 (b + c);have h2 := wrap64_i64 (b - c)
 repeat' split
 all_goals omega
set_option maxRecDepth 100000 in
set_option maxHeartbeats 3200000 in
theorem do_in (F : MFix) (wB w : World) (G : GSt) (vo vn : Value) (S : MS) (ka : Nat) (b c : Int) (h : MRep F wB w G vo vn S) (hka : ka < 8) (hi : (F.inp.size : Int) ≤ 9223372036854775807) :
 Calls Tryz.prog 56 #[.pointer (some ⟨F.mb, 0, none⟩), .agg #[.int .i64 8, .int .i64 (ka : Int), .int .i64 b, .int .i64 c]] w fun e w' => e = .returned (.tuple #[]) ∧ ∃ G' vo' vn', MRep F wB w' G' vo' vn' ((S.hears F.inp).reg ka (hearV F.inp S.heard)) := by
 obtain ⟨wa, hwa⟩ : ∃ wa, wa = w.alloc (.cells #[.int .i64 8, .int .i64 (ka : Int), .int .i64 b, .int .i64 c] 60) := ⟨_, rfl⟩
 have hbl : Below w.heap.size w wa := by rw [hwa]; exact (Below.refl _ _).alloc (Nat.le_refl _) _
 have HX : Hid (Blk wa w.heap.size 60 [.int .i64 8, .int .i64 (ka : Int), .int .i64 b, .int .i64 c]) := by show Blk _ _ _ _; rw [hwa]; exact Blk.alloc _ _ _
 have HM := hide2 (h.under hbl);have hxmb : w.heap.size ≠ F.mb := by have := h.blk.lt; omega
 have hkI : (ka : Int) < 8 := by omega
 have x0 := HX.out.cell (j := 0) rfl;have hub := hearV_bd F.inp S.heard;clear h hbl;go_enter Tryz.func56, Tryz.ntmps56;go_upto_region 1 with (fail);rw [← hwa];clear hwa;go_upto_region 15 with (go_at_call 78; refine (HM.out.hearing hi).mono ?_; rintro e1 w1 ⟨rfl, hm1, hk1⟩; have HM1 := hide2 hm1; have HX1 := hide2 (HX.out.kept hk1 hxmb); clear hm1 hk1);generalize hv : hearV F.inp S.heard = u at *;clear x0 HM HX;have x1 := HX1.out.cell (j := 1) rfl;have ra := m_reg HM1.out.blk HM1.out.r8 ka hka;have raf := HM1.out.blk.frozen (2 + ka);go_wp2
 go_region
 go_end0;refine ⟨rfl, G, vo, vn, ?_⟩;rw [hv];exact (HM1.out.setReg ka hka u (by omega) (by omega)).under ((Below.refl _ _).drew)
set_option maxRecDepth 100000 in
set_option maxHeartbeats 3200000 in
theorem do_set (F : MFix) (wB w : World) (G : GSt) (vo vn : Value) (S : MS) (ka : Nat) (b c : Int) (h : MRep F wB w G vo vn S) (hka : ka < 8) (b0 : 0 ≤ b) (b1 : b ≤ 255) (c0 : 0 ≤ c) (c1 : c ≤ 255) :
 Calls Tryz.prog 56 #[.pointer (some ⟨F.mb, 0, none⟩), .agg #[.int .i64 1, .int .i64 (ka : Int), .int .i64 b, .int .i64 c]] w fun e w' => e = .returned (.tuple #[]) ∧ ∃ G' vo' vn', MRep F wB w' G' vo' vn' (S.reg ka (256 * b + c)) := by
 obtain ⟨wa, hwa⟩ : ∃ wa, wa = w.alloc (.cells #[.int .i64 1, .int .i64 (ka : Int), .int .i64 b, .int .i64 c] 60) := ⟨_, rfl⟩
 have hbl : Below w.heap.size w wa := by rw [hwa]; exact (Below.refl _ _).alloc (Nat.le_refl _) _
 have HX : Hid (Blk wa w.heap.size 60 [.int .i64 1, .int .i64 (ka : Int), .int .i64 b, .int .i64 c]) := by show Blk _ _ _ _; rw [hwa]; exact Blk.alloc _ _ _
 have HM := hide2 (h.under hbl);have hkI : (ka : Int) < 8 := by omega
 have x0 := HX.out.cell (j := 0) rfl;have x1 := HX.out.cell (j := 1) rfl;have x2 := HX.out.cell (j := 2) rfl;have x3 := HX.out.cell (j := 3) rfl;have ra := m_reg HM.out.blk HM.out.r8 ka hka;have raf := HM.out.blk.frozen (2 + ka);have hu : -9223372036854775808 ≤ 256 * b + c ∧ 256 * b + c ≤ 9223372036854775807 := by omega
 obtain ⟨u, HU⟩ : ∃ u, Hid (256 * b + c = u) := ⟨_, hide2 rfl⟩
 rw [HU.out] at hu;rw [HU.out]
 have HC : ∀ wx, wx = wa.drew → Calls Tryz.prog 77 #[.pointer (some ⟨F.mb, 0, none⟩), .agg #[.int .i64 1, .int .i64 (ka : Int), .int .i64 b, .int .i64 c]] wx fun e w' => e = .returned (.int .i64 u) ∧ Below wx.heap.size wx w' := by
  rintro wx rfl;rw [← HU.out];exact result_set F.mb (ka : Int) b c _ b0 b1 c0 c1
 replace HC := hide2 HC
 clear h hbl;go_enter Tryz.func56, Tryz.ntmps56;go_upto_region 1 with (fail);rw [← hwa];clear hwa;go_upto_region 12 with (fail)
 go_region_with (go_at_call 77; refine (HC.out _ rfl).mono ?_; rintro e1 w1 ⟨rfl, hb1⟩; have HM1 := hide2 ((HM.out.under ((Below.refl _ _).drew)).under hb1); have y1 : w1.cell? ⟨w.heap.size, 1, none⟩ = some (.int .i64 (ka : Int)) := (hb1.cell (p := ⟨w.heap.size, 1, none⟩) HX.out.lt).trans x1; clear hb1; have ra1 := m_reg HM1.out.blk HM1.out.r8 ka hka; have raf1 := HM1.out.blk.frozen (2 + ka))
 all_goals go_end0
 all_goals exact ⟨rfl, G, vo, vn, HM1.out.setReg ka hka u hu.1 hu.2⟩
set_option maxRecDepth 100000 in
set_option maxHeartbeats 3200000 in
theorem do_base (F : MFix) (wB w : World) (G : GSt) (vo vn : Value) (S : MS) (ka : Nat) (b c : Int) (h : MRep F wB w G vo vn S) (hka : ka < 8) (b0 : 0 ≤ b) (b1 : b ≤ 255) (c0 : 0 ≤ c) (c1 : c ≤ 255) :
 Calls Tryz.prog 56 #[.pointer (some ⟨F.mb, 0, none⟩), .agg #[.int .i64 10, .int .i64 (ka : Int), .int .i64 b, .int .i64 c]] w fun e w' => e = .returned (.tuple #[]) ∧ ∃ G' vo' vn', MRep F wB w' G' vo' vn' (S.reg ka (16 + 256 * b + c)) := by
 obtain ⟨wa, hwa⟩ : ∃ wa, wa = w.alloc (.cells #[.int .i64 10, .int .i64 (ka : Int), .int .i64 b, .int .i64 c] 60) := ⟨_, rfl⟩
 have hbl : Below w.heap.size w wa := by rw [hwa]; exact (Below.refl _ _).alloc (Nat.le_refl _) _
 have HX : Hid (Blk wa w.heap.size 60 [.int .i64 10, .int .i64 (ka : Int), .int .i64 b, .int .i64 c]) := by show Blk _ _ _ _; rw [hwa]; exact Blk.alloc _ _ _
 have HM := hide2 (h.under hbl);have hkI : (ka : Int) < 8 := by omega
 have x0 := HX.out.cell (j := 0) rfl;have x1 := HX.out.cell (j := 1) rfl;have x2 := HX.out.cell (j := 2) rfl;have x3 := HX.out.cell (j := 3) rfl;have ra := m_reg HM.out.blk HM.out.r8 ka hka;have raf := HM.out.blk.frozen (2 + ka);have hu : -9223372036854775808 ≤ 16 + 256 * b + c ∧ 16 + 256 * b + c ≤ 9223372036854775807 := by omega
 obtain ⟨u, HU⟩ : ∃ u, Hid (16 + 256 * b + c = u) := ⟨_, hide2 rfl⟩
 rw [HU.out] at hu;rw [HU.out]
 have HC : ∀ wx, wx = wa.drew → Calls Tryz.prog 77 #[.pointer (some ⟨F.mb, 0, none⟩), .agg #[.int .i64 10, .int .i64 (ka : Int), .int .i64 b, .int .i64 c]] wx fun e w' => e = .returned (.int .i64 u) ∧ Below wx.heap.size wx w' := by
  rintro wx rfl;rw [← HU.out];exact result_base F.mb (ka : Int) b c _ b0 b1 c0 c1
 replace HC := hide2 HC
 clear h hbl;go_enter Tryz.func56, Tryz.ntmps56;go_upto_region 1 with (fail);rw [← hwa];clear hwa;go_upto_region 12 with (fail)
 go_region_with (go_at_call 77; refine (HC.out _ rfl).mono ?_; rintro e1 w1 ⟨rfl, hb1⟩; have HM1 := hide2 ((HM.out.under ((Below.refl _ _).drew)).under hb1); have y1 : w1.cell? ⟨w.heap.size, 1, none⟩ = some (.int .i64 (ka : Int)) := (hb1.cell (p := ⟨w.heap.size, 1, none⟩) HX.out.lt).trans x1; clear hb1; have ra1 := m_reg HM1.out.blk HM1.out.r8 ka hka; have raf1 := HM1.out.blk.frozen (2 + ka))
 all_goals go_end0
 all_goals exact ⟨rfl, G, vo, vn, HM1.out.setReg ka hka u hu.1 hu.2⟩
set_option maxRecDepth 100000 in
set_option maxHeartbeats 3200000 in
theorem do_add (F : MFix) (wB w : World) (G : GSt) (vo vn : Value) (S : MS) (ka : Nat) (kb kc : Nat) (h : MRep F wB w G vo vn S) (hka : ka < 8) (hkb : kb < 8) (hkc : kc < 8) :
 Calls Tryz.prog 56 #[.pointer (some ⟨F.mb, 0, none⟩), .agg #[.int .i64 2, .int .i64 (ka : Int), .int .i64 (kb : Int), .int .i64 (kc : Int)]] w fun e w' => e = .returned (.tuple #[]) ∧ ∃ G' vo' vn', MRep F wB w' G' vo' vn' (S.reg ka (sumV 2 (rg S.r kb) (rg S.r kc))) := by
 obtain ⟨wa, hwa⟩ : ∃ wa, wa = w.alloc (.cells #[.int .i64 2, .int .i64 (ka : Int), .int .i64 (kb : Int), .int .i64 (kc : Int)] 60) := ⟨_, rfl⟩
 have hbl : Below w.heap.size w wa := by rw [hwa]; exact (Below.refl _ _).alloc (Nat.le_refl _) _
 have HX : Hid (Blk wa w.heap.size 60 [.int .i64 2, .int .i64 (ka : Int), .int .i64 (kb : Int), .int .i64 (kc : Int)]) := by show Blk _ _ _ _; rw [hwa]; exact Blk.alloc _ _ _
 have HM := hide2 (h.under hbl);have hkI : (ka : Int) < 8 := by omega
 have x0 := HX.out.cell (j := 0) rfl;have x1 := HX.out.cell (j := 1) rfl;have x2 := HX.out.cell (j := 2) rfl;have x3 := HX.out.cell (j := 3) rfl;have ra := m_reg HM.out.blk HM.out.r8 ka hka;have raf := HM.out.blk.frozen (2 + ka);have hu : -9223372036854775808 ≤ sumV 2 (rg S.r kb) (rg S.r kc) ∧ sumV 2 (rg S.r kb) (rg S.r kc) ≤ 9223372036854775807 := sumV_bd _ _ _;obtain ⟨u, HU⟩ : ∃ u, Hid (sumV 2 (rg S.r kb) (rg S.r kc) = u) := ⟨_, hide2 rfl⟩
 rw [HU.out] at hu;rw [HU.out]
 have HC : ∀ wx, wx = wa.drew → Calls Tryz.prog 77 #[.pointer (some ⟨F.mb, 0, none⟩), .agg #[.int .i64 2, .int .i64 (ka : Int), .int .i64 (kb : Int), .int .i64 (kc : Int)]] wx fun e w' => e = .returned (.int .i64 u) ∧ Below wx.heap.size wx w' := by
  rintro wx rfl;rw [← HU.out];exact result_sum F.mb _ _ S.r F.inp _ _ _ vo _ _ _ _ _ _ 2 (ka : Int) kb kc _ (HM.out.under ((Below.refl _ _).drew)).blk HM.out.r8 hkb hkc (by omega)
 replace HC := hide2 HC
 clear h hbl;go_enter Tryz.func56, Tryz.ntmps56;go_upto_region 1 with (fail);rw [← hwa];clear hwa;go_upto_region 12 with (fail)
 go_region_with (go_at_call 77; refine (HC.out _ rfl).mono ?_; rintro e1 w1 ⟨rfl, hb1⟩; have HM1 := hide2 ((HM.out.under ((Below.refl _ _).drew)).under hb1); have y1 : w1.cell? ⟨w.heap.size, 1, none⟩ = some (.int .i64 (ka : Int)) := (hb1.cell (p := ⟨w.heap.size, 1, none⟩) HX.out.lt).trans x1; clear hb1; have ra1 := m_reg HM1.out.blk HM1.out.r8 ka hka; have raf1 := HM1.out.blk.frozen (2 + ka))
 all_goals go_end0
 all_goals exact ⟨rfl, G, vo, vn, HM1.out.setReg ka hka u hu.1 hu.2⟩
set_option maxRecDepth 100000 in
set_option maxHeartbeats 3200000 in
theorem do_sub (F : MFix) (wB w : World) (G : GSt) (vo vn : Value) (S : MS) (ka : Nat) (kb kc : Nat) (h : MRep F wB w G vo vn S) (hka : ka < 8) (hkb : kb < 8) (hkc : kc < 8) :
 Calls Tryz.prog 56 #[.pointer (some ⟨F.mb, 0, none⟩), .agg #[.int .i64 3, .int .i64 (ka : Int), .int .i64 (kb : Int), .int .i64 (kc : Int)]] w fun e w' => e = .returned (.tuple #[]) ∧ ∃ G' vo' vn', MRep F wB w' G' vo' vn' (S.reg ka (sumV 3 (rg S.r kb) (rg S.r kc))) := by
 obtain ⟨wa, hwa⟩ : ∃ wa, wa = w.alloc (.cells #[.int .i64 3, .int .i64 (ka : Int), .int .i64 (kb : Int), .int .i64 (kc : Int)] 60) := ⟨_, rfl⟩
 have hbl : Below w.heap.size w wa := by rw [hwa]; exact (Below.refl _ _).alloc (Nat.le_refl _) _
 have HX : Hid (Blk wa w.heap.size 60 [.int .i64 3, .int .i64 (ka : Int), .int .i64 (kb : Int), .int .i64 (kc : Int)]) := by show Blk _ _ _ _; rw [hwa]; exact Blk.alloc _ _ _
 have HM := hide2 (h.under hbl);have hkI : (ka : Int) < 8 := by omega
 have x0 := HX.out.cell (j := 0) rfl;have x1 := HX.out.cell (j := 1) rfl;have x2 := HX.out.cell (j := 2) rfl;have x3 := HX.out.cell (j := 3) rfl;have ra := m_reg HM.out.blk HM.out.r8 ka hka;have raf := HM.out.blk.frozen (2 + ka);have hu : -9223372036854775808 ≤ sumV 3 (rg S.r kb) (rg S.r kc) ∧ sumV 3 (rg S.r kb) (rg S.r kc) ≤ 9223372036854775807 := sumV_bd _ _ _;obtain ⟨u, HU⟩ : ∃ u, Hid (sumV 3 (rg S.r kb) (rg S.r kc) = u) := ⟨_, hide2 rfl⟩
 rw [HU.out] at hu;rw [HU.out]
 have HC : ∀ wx, wx = wa.drew → Calls Tryz.prog 77 #[.pointer (some ⟨F.mb, 0, none⟩), .agg #[.int .i64 3, .int .i64 (ka : Int), .int .i64 (kb : Int), .int .i64 (kc : Int)]] wx fun e w' => e = .returned (.int .i64 u) ∧ Below wx.heap.size wx w' := by
  rintro wx rfl;rw [← HU.out];exact result_sum F.mb _ _ S.r F.inp _ _ _ vo _ _ _ _ _ _ 3 (ka : Int) kb kc _ (HM.out.under ((Below.refl _ _).drew)).blk HM.out.r8 hkb hkc (by omega)
 replace HC := hide2 HC
 clear h hbl;go_enter Tryz.func56, Tryz.ntmps56;go_upto_region 1 with (fail);rw [← hwa];clear hwa;go_upto_region 12 with (fail)
 go_region_with (go_at_call 77; refine (HC.out _ rfl).mono ?_; rintro e1 w1 ⟨rfl, hb1⟩; have HM1 := hide2 ((HM.out.under ((Below.refl _ _).drew)).under hb1); have y1 : w1.cell? ⟨w.heap.size, 1, none⟩ = some (.int .i64 (ka : Int)) := (hb1.cell (p := ⟨w.heap.size, 1, none⟩) HX.out.lt).trans x1; clear hb1; have ra1 := m_reg HM1.out.blk HM1.out.r8 ka hka; have raf1 := HM1.out.blk.frozen (2 + ka))
 all_goals go_end0
 all_goals exact ⟨rfl, G, vo, vn, HM1.out.setReg ka hka u hu.1 hu.2⟩
set_option maxRecDepth 100000 in
set_option maxHeartbeats 3200000 in
theorem do_less (F : MFix) (wB w : World) (G : GSt) (vo vn : Value) (S : MS) (ka : Nat) (kb kc : Nat) (h : MRep F wB w G vo vn S) (hka : ka < 8) (hkb : kb < 8) (hkc : kc < 8) :
 Calls Tryz.prog 56 #[.pointer (some ⟨F.mb, 0, none⟩), .agg #[.int .i64 4, .int .i64 (ka : Int), .int .i64 (kb : Int), .int .i64 (kc : Int)]] w fun e w' => e = .returned (.tuple #[]) ∧ ∃ G' vo' vn', MRep F wB w' G' vo' vn' (S.reg ka (sumV 4 (rg S.r kb) (rg S.r kc))) := by
 obtain ⟨wa, hwa⟩ : ∃ wa, wa = w.alloc (.cells #[.int .i64 4, .int .i64 (ka : Int), .int .i64 (kb : Int), .int .i64 (kc : Int)] 60) := ⟨_, rfl⟩
 have hbl : Below w.heap.size w wa := by rw [hwa]; exact (Below.refl _ _).alloc (Nat.le_refl _) _
 have HX : Hid (Blk wa w.heap.size 60 [.int .i64 4, .int .i64 (ka : Int), .int .i64 (kb : Int), .int .i64 (kc : Int)]) := by show Blk _ _ _ _; rw [hwa]; exact Blk.alloc _ _ _
 have HM := hide2 (h.under hbl);have hkI : (ka : Int) < 8 := by omega
 have x0 := HX.out.cell (j := 0) rfl;have x1 := HX.out.cell (j := 1) rfl;have x2 := HX.out.cell (j := 2) rfl;have x3 := HX.out.cell (j := 3) rfl;have ra := m_reg HM.out.blk HM.out.r8 ka hka;have raf := HM.out.blk.frozen (2 + ka);have hu : -9223372036854775808 ≤ sumV 4 (rg S.r kb) (rg S.r kc) ∧ sumV 4 (rg S.r kb) (rg S.r kc) ≤ 9223372036854775807 := sumV_bd _ _ _;obtain ⟨u, HU⟩ : ∃ u, Hid (sumV 4 (rg S.r kb) (rg S.r kc) = u) := ⟨_, hide2 rfl⟩
 rw [HU.out] at hu;rw [HU.out]
 have HC : ∀ wx, wx = wa.drew → Calls Tryz.prog 77 #[.pointer (some ⟨F.mb, 0, none⟩), .agg #[.int .i64 4, .int .i64 (ka : Int), .int .i64 (kb : Int), .int .i64 (kc : Int)]] wx fun e w' => e = .returned (.int .i64 u) ∧ Below wx.heap.size wx w' := by
  rintro wx rfl;rw [← HU.out];exact result_sum F.mb _ _ S.r F.inp _ _ _ vo _ _ _ _ _ _ 4 (ka : Int) kb kc _ (HM.out.under ((Below.refl _ _).drew)).blk HM.out.r8 hkb hkc (by omega)
 replace HC := hide2 HC
 clear h hbl;go_enter Tryz.func56, Tryz.ntmps56;go_upto_region 1 with (fail);rw [← hwa];clear hwa;go_upto_region 12 with (fail)
 go_region_with (go_at_call 77; refine (HC.out _ rfl).mono ?_; rintro e1 w1 ⟨rfl, hb1⟩; have HM1 := hide2 ((HM.out.under ((Below.refl _ _).drew)).under hb1); have y1 : w1.cell? ⟨w.heap.size, 1, none⟩ = some (.int .i64 (ka : Int)) := (hb1.cell (p := ⟨w.heap.size, 1, none⟩) HX.out.lt).trans x1; clear hb1; have ra1 := m_reg HM1.out.blk HM1.out.r8 ka hka; have raf1 := HM1.out.blk.frozen (2 + ka))
 all_goals go_end0
 all_goals exact ⟨rfl, G, vo, vn, HM1.out.setReg ka hka u hu.1 hu.2⟩
set_option maxRecDepth 100000 in
set_option maxHeartbeats 3200000 in
theorem do_same (F : MFix) (wB w : World) (G : GSt) (vo vn : Value) (S : MS) (ka : Nat) (kb kc : Nat) (h : MRep F wB w G vo vn S) (hka : ka < 8) (hkb : kb < 8) (hkc : kc < 8) :
 Calls Tryz.prog 56 #[.pointer (some ⟨F.mb, 0, none⟩), .agg #[.int .i64 5, .int .i64 (ka : Int), .int .i64 (kb : Int), .int .i64 (kc : Int)]] w fun e w' => e = .returned (.tuple #[]) ∧ ∃ G' vo' vn', MRep F wB w' G' vo' vn' (S.reg ka (sumV 5 (rg S.r kb) (rg S.r kc))) := by
 obtain ⟨wa, hwa⟩ : ∃ wa, wa = w.alloc (.cells #[.int .i64 5, .int .i64 (ka : Int), .int .i64 (kb : Int), .int .i64 (kc : Int)] 60) := ⟨_, rfl⟩
 have hbl : Below w.heap.size w wa := by rw [hwa]; exact (Below.refl _ _).alloc (Nat.le_refl _) _
 have HX : Hid (Blk wa w.heap.size 60 [.int .i64 5, .int .i64 (ka : Int), .int .i64 (kb : Int), .int .i64 (kc : Int)]) := by show Blk _ _ _ _; rw [hwa]; exact Blk.alloc _ _ _
 have HM := hide2 (h.under hbl);have hkI : (ka : Int) < 8 := by omega
 have x0 := HX.out.cell (j := 0) rfl;have x1 := HX.out.cell (j := 1) rfl;have x2 := HX.out.cell (j := 2) rfl;have x3 := HX.out.cell (j := 3) rfl;have ra := m_reg HM.out.blk HM.out.r8 ka hka;have raf := HM.out.blk.frozen (2 + ka);have hu : -9223372036854775808 ≤ sumV 5 (rg S.r kb) (rg S.r kc) ∧ sumV 5 (rg S.r kb) (rg S.r kc) ≤ 9223372036854775807 := sumV_bd _ _ _;obtain ⟨u, HU⟩ : ∃ u, Hid (sumV 5 (rg S.r kb) (rg S.r kc) = u) := ⟨_, hide2 rfl⟩
 rw [HU.out] at hu;rw [HU.out]
 have HC : ∀ wx, wx = wa.drew → Calls Tryz.prog 77 #[.pointer (some ⟨F.mb, 0, none⟩), .agg #[.int .i64 5, .int .i64 (ka : Int), .int .i64 (kb : Int), .int .i64 (kc : Int)]] wx fun e w' => e = .returned (.int .i64 u) ∧ Below wx.heap.size wx w' := by
  rintro wx rfl;rw [← HU.out];exact result_sum F.mb _ _ S.r F.inp _ _ _ vo _ _ _ _ _ _ 5 (ka : Int) kb kc _ (HM.out.under ((Below.refl _ _).drew)).blk HM.out.r8 hkb hkc (by omega)
 replace HC := hide2 HC
 clear h hbl;go_enter Tryz.func56, Tryz.ntmps56;go_upto_region 1 with (fail);rw [← hwa];clear hwa;go_upto_region 12 with (fail)
 go_region_with (go_at_call 77; refine (HC.out _ rfl).mono ?_; rintro e1 w1 ⟨rfl, hb1⟩; have HM1 := hide2 ((HM.out.under ((Below.refl _ _).drew)).under hb1); have y1 : w1.cell? ⟨w.heap.size, 1, none⟩ = some (.int .i64 (ka : Int)) := (hb1.cell (p := ⟨w.heap.size, 1, none⟩) HX.out.lt).trans x1; clear hb1; have ra1 := m_reg HM1.out.blk HM1.out.r8 ka hka; have raf1 := HM1.out.blk.frozen (2 + ka))
 all_goals go_end0
 all_goals exact ⟨rfl, G, vo, vn, HM1.out.setReg ka hka u hu.1 hu.2⟩
def dOut (S : MS) (ka : Nat) : MS := S.says (S.out ++ bOne (rg S.r ka % 256))
theorem MRep.grown_cell {F : MFix} {wB w wx w2 : World} {G : GSt} {vo vn : Value} {S : MS} (h : MRep F wB w G vo vn S) (hx : Below w.heap.size w wx) (hgrow : wx.grownBy w2 vo.ownBlock) : w2.cell? ⟨F.mb, 14, none⟩ = some vo ∧ w2.frozen? ⟨F.mb, 14, none⟩ = false := by
 have hl := h.blk.lt;have hs := hx.size;have hb : Blk w2 F.mb 81 (mC F S vo vn) := (hgrow.block F.mb (by omega) (fun e => (h.ho _ e.symm).2.1 rfl)).trans ((hx.block F.mb hl).trans h.blk);refine ⟨?_, hb.frozen 14⟩;obtain ⟨r0, r1, r2, r3, r4, r5, r6, r7, hr⟩ := eight h.r8;unfold mC at hb;rw [hr] at hb;exact hb.cell (j := 14) rfl
set_option maxRecDepth 100000 in
set_option maxHeartbeats 3200000 in
theorem do_out (F : MFix) (wB w : World) (G : GSt) (vo vn : Value) (S : MS) (ka : Nat) (b c : Int) (h : MRep F wB w G vo vn S) (hka : ka < 8) (ho : S.out.size ≤ 1048576) :
 Calls Tryz.prog 56 #[.pointer (some ⟨F.mb, 0, none⟩), .agg #[.int .i64 9, .int .i64 (ka : Int), .int .i64 b, .int .i64 c]] w fun e w' => e = .returned (.tuple #[]) ∧ ∃ G' vo' vn', MRep F wB w' G' vo' vn' (dOut S ka) := by
 obtain ⟨i0, hi0, hz0, hz1, hz2⟩ := info_parts info_byte;obtain ⟨wa, hwa⟩ : ∃ wa, wa = w.alloc (.cells #[.int .i64 9, .int .i64 (ka : Int), .int .i64 b, .int .i64 c] 60) := ⟨_, rfl⟩
 have hbl : Below w.heap.size w wa := by rw [hwa]; exact (Below.refl _ _).alloc (Nat.le_refl _) _
 have HX : Hid (Blk wa w.heap.size 60 [.int .i64 9, .int .i64 (ka : Int), .int .i64 b, .int .i64 c]) := by show Blk _ _ _ _; rw [hwa]; exact Blk.alloc _ _ _
 have HM := hide2 (h.under hbl);have hkI : (ka : Int) < 8 := by omega
 have x0 := HX.out.cell (j := 0) rfl;have x1 := HX.out.cell (j := 1) rfl;have c14 := HM.out.c14;have f14 := HM.out.blk.frozen 14;have ra := m_reg HM.out.blk HM.out.r8 ka hka;have hmb := HM.out.blk.lt;generalize hq : rg S.r ka = q at *;clear h hbl;go_enter Tryz.func56, Tryz.ntmps56;go_upto_region 1 with (fail);rw [← hwa];clear hwa;go_upto_region 17 with (fail);have HR : Hid (wa.drew.ownsRow 0 5 1 vo S.out.size (bytesV S.out)) := row_below HM.out.out ((Below.refl _ _).drew) (own_lt HM.out.out);have hbo : vo.ownBlock ≠ some F.mb := fun e => (HM.out.ho _ e).2.1 rfl
 go_region_law (refine step_append_lies _ rfl _ _ _ rfl 0 5 i0 _ 1 1 Tryz.underlying77 hi0 hz0 hz1 hz2 rfl (by omega) vo S.out.size (bytesV S.out) rfl (HR.out.alloc _) ⟨wa.heap.size, 0, none⟩ 1 1 [.int .u8 (q % 256)] rfl rfl (World.news_of_block (cs := #[.int .u8 (q % 256)]) (t := 5) (fr := (0, 0)) (heap_alloc_new wa.drew _)) (by simp [Value.oneCell']) (by omega) (by simp [maxLen]; omega) (by omega) (by simp) (wa.heap.size + 1) (by simp) ?_; intro gg cap2 w2 hown hgrow hat hlt2; obtain ⟨g14, h14⟩ := HM.out.grown_cell (((Below.refl wa.heap.size wa).alloc (Nat.le_refl _) _).drew) hgrow)
 all_goals go_end0
 all_goals (
  have hN : S.out.size + 1 = (S.out ++ bOne (q % 256)).size := by simp [ByteArray.size_append, bOne_size]
  have hL : bytesV S.out ++ [Value.int .u8 (q % 256)] = bytesV (S.out ++ bOne (q % 256)) := by rw [bytesV_append, bytesV_one (by omega) (by omega)]
  refine ⟨rfl, G, .slice (some ⟨gg, 0, none⟩) (S.out.size + 1) cap2, vn, ?_⟩;unfold dOut;rw [hq];exact HM.out.grows (((Below.refl wa.heap.size wa).alloc (Nat.le_refl _) _).drew) hgrow hown hN hL (fun g hg => by simp only [Value.ownBlock, Option.some.injEq] at hg; subst hg; rcases hat with e | e; exact Or.inl e; exact Or.inr (by omega)))
def mDo (inp : ByteArray) (ds : List Int) (S : MS) (x : Ins) : MS :=
 if x.op = 0 then (S.ends 2).exits (rg S.r x.a.toNat)
 else if x.op = 1 then S.reg x.a.toNat (256 * x.b + x.c)
 else if x.op = 6 then S.goes x.a.toNat
 else if x.op = 7 then dZero S x.a.toNat x.b.toNat
 else if x.op = 8 then (S.hears inp).reg x.a.toNat (hearV inp S.heard)
 else if x.op = 9 then dOut S x.a.toNat
 else if x.op = 10 then S.reg x.a.toNat (16 + 256 * x.b + x.c)
 else if x.op = 11 then dMalloc ds S x.a.toNat x.b.toNat
 else if x.op = 12 then dFree S x.a.toNat
 else if x.op = 13 then dRealloc ds S x.a.toNat x.b.toNat x.c.toNat
 else if x.op = 14 then dUsable S x.a.toNat x.b.toNat
 else if x.op = 15 then dLoad S x.a.toNat x.b.toNat x.c 8
 else if x.op = 16 then dLoad S x.a.toNat x.b.toNat x.c 1
 else if x.op = 17 then dStore S x.a.toNat x.b.toNat x.c 8
 else if x.op = 18 then dStore S x.a.toNat x.b.toNat x.c 1
 else if x.op = 19 then dMove S x.a.toNat x.b.toNat x.c.toNat
 else S.reg x.a.toNat (sumV x.op (rg S.r x.b.toNat) (rg S.r x.c.toNat))
theorem ite_of {A : Type} {P : A → Prop} {c : Prop} [Decidable c] {a b : A} (h1 : c → P a) (h2 : ¬ c → P b) : P (if c then a else b) := by
 by_cases h : c
 ·rw [if_pos h]; exact h1 h
 ·rw [if_neg h]; exact h2 h
theorem mDo_pc (inp : ByteArray) (ds : List Int) (S : MS) (x : Ins) : (mDo inp ds S x).pc = S.pc := by
 unfold mDo dZero dOut dMalloc dFree dRealloc dUsable dLoad dStore dMove
 repeat' (refine ite_of (P := fun S' : MS => S'.pc = S.pc) (fun _ => ?_) (fun _ => ?_))
 all_goals rfl
theorem mDo_steps (inp : ByteArray) (ds : List Int) (S : MS) (x : Ins) : (mDo inp ds S x).steps = S.steps := by
 unfold mDo dZero dOut dMalloc dFree dRealloc dUsable dLoad dStore dMove
 repeat' (refine ite_of (P := fun S' : MS => S'.steps = S.steps) (fun _ => ?_) (fun _ => ?_))
 all_goals rfl
theorem may_op {x : Ins} {n : Int} (h : x.may n = true) : ¬ (x.op < 0 ∨ 19 < x.op) := fun e => by
 unfold Ins.may mayB at h;rw [opKinds_none e] at h
 cases h
theorem nat_of {a : Int} (h : 0 ≤ a) : ∃ k : Nat, a = (k : Int) := ⟨a.toNat, by omega⟩
set_option maxRecDepth 100000 in
set_option maxHeartbeats 3200000 in
theorem do_any (F : MFix) (wB w : World) (G : GSt) (vo vn : Value) (S : MS) (x : Ins) (n : Int) (h : MRep F wB w G vo vn S) (hx : x.may n = true) (hi : (F.inp.size : Int) ≤ 9223372036854775807) (ho : S.out.size ≤ 1048576) :
 Calls Tryz.prog 56 #[.pointer (some ⟨F.mb, 0, none⟩), .agg #[.int .i64 x.op, .int .i64 x.a, .int .i64 x.b, .int .i64 x.c]] w fun e w' => e = .returned (.tuple #[]) ∧ ∃ G' vo' vn', MRep F wB w' G' vo' vn' (mDo F.inp F.ds S x) := by
 have hop := op_cases (may_op hx);obtain ⟨o, a, b, c⟩ := x;simp only at hop
 rcases hop with rfl | rfl | rfl | rfl | rfl | rfl | rfl | rfl | rfl | rfl | rfl | rfl | rfl | rfl | rfl | rfl | rfl | rfl | rfl | rfl
 all_goals simp [Ins.may, mayB, opKinds, kindB, withinB] at hx
 all_goals obtain ⟨ka, rfl⟩ := nat_of (a := a) (by omega)
 all_goals simp only [mDo, Int.toNat_natCast]
 all_goals simp
 ·exact do_halt F wB w G vo vn S ka b c h (by omega)
 ·exact do_set F wB w G vo vn S ka b c h (by omega) (by omega) (by omega) (by omega) (by omega)
 all_goals try obtain ⟨kb, rfl⟩ := nat_of (a := b) (by omega)
 ·obtain ⟨kc, rfl⟩ := nat_of (a := c) (by omega);exact do_add F wB w G vo vn S ka kb kc h (by omega) (by omega) (by omega)
 ·obtain ⟨kc, rfl⟩ := nat_of (a := c) (by omega);exact do_sub F wB w G vo vn S ka kb kc h (by omega) (by omega) (by omega)
 ·obtain ⟨kc, rfl⟩ := nat_of (a := c) (by omega);exact do_less F wB w G vo vn S ka kb kc h (by omega) (by omega) (by omega)
 ·obtain ⟨kc, rfl⟩ := nat_of (a := c) (by omega);exact do_same F wB w G vo vn S ka kb kc h (by omega) (by omega) (by omega)
 ·exact do_jump F wB w G vo vn S ka _ c h
 ·exact do_zero F wB w G vo vn S ka kb c h (by omega)
 ·exact do_in F wB w G vo vn S ka _ c h (by omega) hi
 ·exact do_out F wB w G vo vn S ka _ c h (by omega) ho
 ·exact do_base F wB w G vo vn S ka _ c h (by omega) (by omega) (by omega) (by omega) (by omega)
 ·exact do_malloc F wB w G vo vn S ka kb c h (by omega) (by omega)
 ·exact do_free F wB w G vo vn S ka _ c h (by omega)
 ·obtain ⟨kc, rfl⟩ := nat_of (a := c) (by omega);exact do_realloc F wB w G vo vn S ka kb kc h (by omega) (by omega) (by omega)
 ·exact do_usable F wB w G vo vn S ka kb c h (by omega) (by omega)
 ·exact do_load F wB w G vo vn S ka kb c h (by omega) (by omega)
 ·exact do_byte F wB w G vo vn S ka kb c h (by omega) (by omega)
 ·exact do_store F wB w G vo vn S ka kb c h (by omega) (by omega)
 ·exact do_put F wB w G vo vn S ka kb c h (by omega) (by omega)
 ·obtain ⟨kc, rfl⟩ := nat_of (a := c) (by omega);exact do_move F wB w G vo vn S ka kb kc h (by omega) (by omega) (by omega)
def mStep (inp : ByteArray) (ds : List Int) (code : List Ins) (S : MS) : MS :=
 if (mDo inp ds (S.stepped.goes (S.pc + 1)) (code.getD S.pc Ins.no)).en = 0 then (mDo inp ds (S.stepped.goes (S.pc + 1)) (code.getD S.pc Ins.no)).stands (mDo inp ds (S.stepped.goes (S.pc + 1)) (code.getD S.pc Ins.no)).next
 else mDo inp ds (S.stepped.goes (S.pc + 1)) (code.getD S.pc Ins.no)
set_option maxRecDepth 100000 in
set_option maxHeartbeats 3200000 in
theorem mstep_any (F : MFix) (wB w : World) (G : GSt) (vo vn : Value) (S : MS) (n : Int) (h : MRep F wB w G vo vn S) (hpc : S.pc < F.code.length) (hx : (F.code.getD S.pc Ins.no).may n = true) (hi : (F.inp.size : Int) ≤ 9223372036854775807) (ho : S.out.size ≤ 1048576) (hs : S.steps ≤ 1048576) (hl : F.code.length ≤ 1048576) :
 Calls Tryz.prog 29 #[.pointer (some ⟨F.mb, 0, none⟩)] w fun e w' => e = .returned (.tuple #[]) ∧ ∃ G' vo' vn', MRep F wB w' G' vo' vn' (mStep F.inp F.ds F.code S) := by
 have HD : Hid (mStep F.inp F.ds F.code S = if (mDo F.inp F.ds (S.stepped.goes (S.pc + 1)) (F.code.getD S.pc Ins.no)).en = 0 then (mDo F.inp F.ds (S.stepped.goes (S.pc + 1)) (F.code.getD S.pc Ins.no)).stands (mDo F.inp F.ds (S.stepped.goes (S.pc + 1)) (F.code.getD S.pc Ins.no)).next else mDo F.inp F.ds (S.stepped.goes (S.pc + 1)) (F.code.getD S.pc Ins.no)) := rfl;generalize mStep F.inp F.ds F.code S = S' at *;have HM := hide2 h;obtain ⟨g, off, ea, hg, hc⟩ := h.codeR.cells (by omega);obtain ⟨d0, d1, d2, d3⟩ := hc S.pc hpc;generalize F.code.getD S.pc Ins.no = x at *;obtain ⟨xo, xa, xb, xc⟩ := x;simp only at d0 d1 d2 d3;have HD0 := hide2 d0;have HD1 := hide2 d1;have HD2 := hide2 d2;have HD3 := hide2 d3;have hgm : g ≠ F.mb := by have := h.hm; omega
 have hgl : g < w.heap.size := by have := h.below.size; omega
 have e0 : w.cell? ⟨g, off + S.pc * 4, none⟩ = some (.int .i64 xo) := (h.below.cell (p := ⟨g, off + S.pc * 4, none⟩) hg).trans d0;have e1 : w.cell? ⟨g, off + S.pc * 4 + 1, none⟩ = some (.int .i64 xa) := (h.below.cell (p := ⟨g, off + S.pc * 4 + 1, none⟩) hg).trans d1;have e2 : w.cell? ⟨g, off + S.pc * 4 + 2, none⟩ = some (.int .i64 xb) := (h.below.cell (p := ⟨g, off + S.pc * 4 + 2, none⟩) hg).trans d2;have e3 : w.cell? ⟨g, off + S.pc * 4 + 3, none⟩ = some (.int .i64 xc) := (h.below.cell (p := ⟨g, off + S.pc * 4 + 3, none⟩) hg).trans d3;have c15 := HM.out.c15;have c16 := HM.out.c16;have c17 := HM.out.c17;have f17 := HM.out.blk.frozen 17;have f16 := HM.out.blk.frozen 16;have hpI : (S.pc : Int) < (F.code.length : Int) := by omega
 clear hc d0 d1 d2 d3 h;go_enter Tryz.func29, Tryz.ntmps29;go_upto_region 2 with (fail);obtain ⟨wb, hwb⟩ : ∃ wb, wb = (w.setCell ⟨F.mb, 17, none⟩ (.int .i64 ((S.steps : Int) + 1))).setCell ⟨F.mb, 16, none⟩ (.int .i64 ((S.pc : Int) + 1)) := ⟨_, rfl⟩
 rw [← hwb]
 have HM1 : Hid (MRep F wB wb G vo vn (S.stepped.goes (S.pc + 1))) := by
  show MRep _ _ _ _ _ _ _;have := (HM.out.setSteps).setNext (S.pc + 1);rw [hwb];exact this
 have hk : Kept w wb (· = F.mb) := by rw [hwb]; exact ((Kept.refl w (· = F.mb)).setCell _ _ rfl).setCell _ _ rfl
 replace e0 := (World.cell?_of_block (a := ⟨g, off + S.pc * 4, none⟩) (hk.block g hgl hgm)).trans e0
 replace e1 := (World.cell?_of_block (a := ⟨g, off + S.pc * 4 + 1, none⟩) (hk.block g hgl hgm)).trans e1
 replace e2 := (World.cell?_of_block (a := ⟨g, off + S.pc * 4 + 2, none⟩) (hk.block g hgl hgm)).trans e2
 replace e3 := (World.cell?_of_block (a := ⟨g, off + S.pc * 4 + 3, none⟩) (hk.block g hgl hgm)).trans e3
 clear hk c15 c16 c17 f17 f16 hwb HM;have c15 : wb.cell? ⟨F.mb, 15, none⟩ = some (.int .i64 S.pc) := HM1.out.c15;have c1 : wb.cell? ⟨F.mb, 1, none⟩ = some (.slice (some ⟨g, off, none⟩) F.code.length F.icap) := by rw [← ea]; exact HM1.out.c1
 have hp1 : (mDo F.inp F.ds (S.stepped.goes (S.pc + 1)) ⟨xo, xa, xb, xc⟩).pc = S.pc := mDo_pc ..;generalize hS1 : mDo F.inp F.ds (S.stepped.goes (S.pc + 1)) ⟨xo, xa, xb, xc⟩ = S1 at *;generalize S.pc = pc at *
 go_region_held3 (fun w' => w'.cell? ⟨F.mb, 1, none⟩ = some (.slice (some ⟨g, off, none⟩) F.code.length F.icap) ∧ w'.cell? ⟨F.mb, 15, none⟩ = some (.int .i64 pc) ∧ w'.cell? ⟨g, off + pc * 4, none⟩ = some (.int .i64 xo) ∧ w'.cell? ⟨g, off + pc * 4 + 1, none⟩ = some (.int .i64 xa) ∧ w'.cell? ⟨g, off + pc * 4 + 2, none⟩ = some (.int .i64 xb) ∧ w'.cell? ⟨g, off + pc * 4 + 3, none⟩ = some (.int .i64 xc)) (go_keep)
  (first | (go_at_call 56; refine (do_any F wB wb.drew G vo vn _ ⟨xo, xa, xb, xc⟩ n (HM1.out.under ((Below.refl _ _).drew)) hx hi ho).mono ?_; rintro e4 w2 ⟨rfl, G2, vo2, vn2, hm2⟩; rw [hS1] at hm2; have HM2 := hide2 hm2; clear hm2; have k1 : w2.cell? ⟨F.mb, 1, none⟩ = some (.slice (some ⟨g, off, none⟩) F.code.length F.icap) := (by rw [← ea]; exact HM2.out.c1); have k15 : w2.cell? ⟨F.mb, 15, none⟩ = some (.int .i64 pc) := (by rw [← hp1]; exact HM2.out.c15); have k0 := (HM2.out.below.cell (p := ⟨g, off + pc * 4, none⟩) hg).trans HD0.out; have k2 := (HM2.out.below.cell (p := ⟨g, off + pc * 4 + 1, none⟩) hg).trans HD1.out; have k3 := (HM2.out.below.cell (p := ⟨g, off + pc * 4 + 2, none⟩) hg).trans HD2.out; have k4 := (HM2.out.below.cell (p := ⟨g, off + pc * 4 + 3, none⟩) hg).trans HD3.out))
 clear c1 c15 e0 e1 e2 e3 k0 k1 k2 k3 k4;have c18 := HM2.out.c18;have c16 := HM2.out.c16;have f15 := HM2.out.blk.frozen 15
 by_cases he : S1.en = 0
 ·rw [if_pos he] at HD;rw [he] at c18;clear he;go_wp2;go_end0;exact ⟨rfl, G2, vo2, vn2, by rw [HD.out]; exact HM2.out.setPc S1.next⟩
 ·rw [if_neg he] at HD;have hne : (S1.en == 0) = false := by rw [beq_eq_false_iff_ne]; exact he
  clear he;go_wp2;go_end0;exact ⟨rfl, G2, vo2, vn2, by rw [HD.out]; exact HM2.out⟩
end Go.Proofs.YtjikemhmnkckcabGreat
