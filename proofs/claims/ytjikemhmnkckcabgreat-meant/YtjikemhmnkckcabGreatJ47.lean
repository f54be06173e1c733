import Derived.Test.YtjikemhmnkckcabGreatJ36
import Derived.Test.YtjikemhmnkckcabGreatJ37
import Derived.Test.YtjikemhmnkckcabGreatJ38
import Derived.Test.YtjikemhmnkckcabGreatJ40
import Derived.Test.YtjikemhmnkckcabGreatJ46
namespace Go.Proofs.YtjikemhmnkckcabGreat
open Go.RowKit
attribute [local go_sem ↓] Go.wp_at_zero Go.wp_at_succ
section
variable (F : IFix) (wB : World) (vT vF : Value) (V : List Value) (col : Nat → Nat) (S : IS) (w : World)
set_option maxRecDepth 100000 in
set_option maxHeartbeats 3200000 in
theorem itouch_move (h : IRep F wB w vT vF V col S) (hg : IGood F S) (hen : S.en = 0) (ka kb kc : Nat) (hka : ka < 8) (hkb : kb < 8) (hkc : kc < 8) (hlen : S.T.length ≤ 900000) :
 Calls Tryz.prog 71 #[.pointer (some ⟨F.mb, 0, none⟩), .agg #[.int .i64 19, .int .i64 (ka : Int), .int .i64 (kb : Int), .int .i64 (kc : Int)]] w fun e w' => e = .returned (.tuple #[]) ∧ IDone F wB w' (iMove S ka kb kc) := by
 obtain ⟨wa, hwa⟩ : ∃ wa, wa = w.alloc (.cells #[.int .i64 19, .int .i64 (ka : Int), .int .i64 (kb : Int), .int .i64 (kc : Int)] 60) := ⟨_, rfl⟩
 have HB : Hid (Below w.heap.size w wa) := by show Below _ _ _; rw [hwa]; exact (Below.refl _ _).alloc (Nat.le_refl _) _
 have HX : Hid (Blk wa w.heap.size 60 [.int .i64 19, .int .i64 (ka : Int), .int .i64 (kb : Int), .int .i64 (kc : Int)]) := by show Blk _ _ _ _; rw [hwa]; exact Blk.alloc _ _ _
 have HRa := hide2 (h.under HB.out);have HG := hide2 hg;have x0 := HX.out.cell (j := 0) rfl;have x1 := HX.out.cell (j := 1) rfl;have x2 := HX.out.cell (j := 2) rfl;have x3 := HX.out.cell (j := 3) rfl;clear h hg;go_enter Tryz.func71, Tryz.ntmps71;go_upto_region 1 with (fail);rw [← hwa];clear hwa
 go_wp2_with fail
 refine (imove_any F wB vT vF V col S wa HRa.out HG.out hen ka kb kc hka hkb hkc hlen).mono ?_;rintro e1 w1 ⟨rfl, hD⟩;have HD := hide2 hD;clear hD;go_wp2
 (try simp only [Exit.inBlock, Exit.then])
 refine bodyPost_ret (results_none rfl _ _ _) rfl ?_;exact ⟨rfl, HD.out⟩
set_option maxRecDepth 100000 in
set_option maxHeartbeats 6400000 in
theorem ido_malloc (h : IRep F wB w vT vF V col S) (hg : IGood F S) (ka kb : Nat) (c : Int) (hka : ka < 8) (hkb : kb < 8) (hlen : S.T.length ≤ 900000) (hnd : (F.nd : Int) ≤ 9223372036854775807) :
 Calls Tryz.prog 46 #[.pointer (some ⟨F.mb, 0, none⟩), .agg #[.int .i64 11, .int .i64 (ka : Int), .int .i64 (kb : Int), .int .i64 c]] w fun e w' => e = .returned (.tuple #[]) ∧ IDone F wB w' (iMalloc F S ka kb) := by
 obtain ⟨wa, hwa⟩ : ∃ wa, wa = w.alloc (.cells #[.int .i64 11, .int .i64 (ka : Int), .int .i64 (kb : Int), .int .i64 c] 60) := ⟨_, rfl⟩
 have HB : Hid (Below w.heap.size w wa) := by show Below _ _ _; rw [hwa]; exact (Below.refl _ _).alloc (Nat.le_refl _) _
 have HX : Hid (Blk wa w.heap.size 60 [.int .i64 11, .int .i64 (ka : Int), .int .i64 (kb : Int), .int .i64 c]) := by show Blk _ _ _ _; rw [hwa]; exact Blk.alloc _ _ _
 have HRa := hide2 (h.under HB.out);have HG := hide2 hg;have x0 := HX.out.cell (j := 0) rfl;have x1 := HX.out.cell (j := 1) rfl;have x2 := HX.out.cell (j := 2) rfl;have x3 := HX.out.cell (j := 3) rfl;have hxl := HX.out.lt;have hmbw := h.blk.lt;have hnm : w.heap.size ≠ F.mb := by omega
 have hnm' : F.mb ≠ w.heap.size := by omega
 clear h hg;go_enter Tryz.func46, Tryz.ntmps46;go_upto_region 1 with (fail);rw [← hwa];clear hwa
 go_wp2_with fail
 refine (iblock_malloc F wB vT vF V col S wa HRa.out HG.out ka kb c hka hkb (by omega) hnd).mono ?_;rintro e1 w1 ⟨rfl, hD⟩;have HD := hide2 hD;clear hD;go_wp2;go_end0;exact ⟨rfl, HD.out⟩
set_option maxRecDepth 100000 in
set_option maxHeartbeats 6400000 in
theorem ido_free (h : IRep F wB w vT vF V col S) (hg : IGood F S) (ka kb : Nat) (c : Int) (hka : ka < 8) (hkb : kb < 8) (hlen : S.T.length ≤ 900000) (hfl : S.F.length ≤ 1000000) :
 Calls Tryz.prog 46 #[.pointer (some ⟨F.mb, 0, none⟩), .agg #[.int .i64 12, .int .i64 (ka : Int), .int .i64 (kb : Int), .int .i64 c]] w fun e w' => e = .returned (.tuple #[]) ∧ IDone F wB w' (iFree S ka) := by
 obtain ⟨wa, hwa⟩ : ∃ wa, wa = w.alloc (.cells #[.int .i64 12, .int .i64 (ka : Int), .int .i64 (kb : Int), .int .i64 c] 60) := ⟨_, rfl⟩
 have HB : Hid (Below w.heap.size w wa) := by show Below _ _ _; rw [hwa]; exact (Below.refl _ _).alloc (Nat.le_refl _) _
 have HX : Hid (Blk wa w.heap.size 60 [.int .i64 12, .int .i64 (ka : Int), .int .i64 (kb : Int), .int .i64 c]) := by show Blk _ _ _ _; rw [hwa]; exact Blk.alloc _ _ _
 have HRa := hide2 (h.under HB.out);have HG := hide2 hg;have x0 := HX.out.cell (j := 0) rfl;have x1 := HX.out.cell (j := 1) rfl;have x2 := HX.out.cell (j := 2) rfl;have x3 := HX.out.cell (j := 3) rfl;have hxl := HX.out.lt;have hmbw := h.blk.lt;have hnm : w.heap.size ≠ F.mb := by omega
 have hnm' : F.mb ≠ w.heap.size := by omega
 clear h hg;go_enter Tryz.func46, Tryz.ntmps46;go_upto_region 1 with (fail);rw [← hwa];clear hwa
 go_wp2_with fail
 refine (iblock_free F wB vT vF V col S wa HRa.out HG.out ka kb c hka hkb (by omega) hfl).mono ?_;rintro e1 w1 ⟨rfl, hD⟩;have HD := hide2 hD;clear hD;go_wp2;go_end0;exact ⟨rfl, HD.out⟩
set_option maxRecDepth 100000 in
set_option maxHeartbeats 6400000 in
theorem ido_realloc (h : IRep F wB w vT vF V col S) (hg : IGood F S) (ka kb kc : Nat) (hka : ka < 8) (hkb : kb < 8) (hkc : kc < 8) (hlen : S.T.length ≤ 900000) (hfl : S.F.length ≤ 1000000) (hnd : (F.nd : Int) ≤ 9223372036854775807) :
 Calls Tryz.prog 46 #[.pointer (some ⟨F.mb, 0, none⟩), .agg #[.int .i64 13, .int .i64 (ka : Int), .int .i64 (kb : Int), .int .i64 (kc : Int)]] w fun e w' => e = .returned (.tuple #[]) ∧ IDone F wB w' (iRealloc F S ka kb kc) := by
 obtain ⟨wa, hwa⟩ : ∃ wa, wa = w.alloc (.cells #[.int .i64 13, .int .i64 (ka : Int), .int .i64 (kb : Int), .int .i64 (kc : Int)] 60) := ⟨_, rfl⟩
 have HB : Hid (Below w.heap.size w wa) := by show Below _ _ _; rw [hwa]; exact (Below.refl _ _).alloc (Nat.le_refl _) _
 have HX : Hid (Blk wa w.heap.size 60 [.int .i64 13, .int .i64 (ka : Int), .int .i64 (kb : Int), .int .i64 (kc : Int)]) := by show Blk _ _ _ _; rw [hwa]; exact Blk.alloc _ _ _
 have HRa := hide2 (h.under HB.out);have HG := hide2 hg;have x0 := HX.out.cell (j := 0) rfl;have x1 := HX.out.cell (j := 1) rfl;have x2 := HX.out.cell (j := 2) rfl;have x3 := HX.out.cell (j := 3) rfl;have hxl := HX.out.lt;have hmbw := h.blk.lt;have hnm : w.heap.size ≠ F.mb := by omega
 have hnm' : F.mb ≠ w.heap.size := by omega
 clear h hg;go_enter Tryz.func46, Tryz.ntmps46;go_upto_region 1 with (fail);rw [← hwa];clear hwa
 go_wp2_with fail
 refine (iblock_realloc F wB vT vF V col S wa HRa.out HG.out ka kb kc hka hkb hkc hlen hfl hnd).mono ?_;rintro e1 w1 ⟨rfl, hD⟩;have HD := hide2 hD;clear hD;go_wp2;go_end0;exact ⟨rfl, HD.out⟩
set_option maxRecDepth 100000 in
set_option maxHeartbeats 6400000 in
theorem ido_usable (h : IRep F wB w vT vF V col S) (hg : IGood F S) (ka kb : Nat) (c : Int) (hka : ka < 8) (hkb : kb < 8) (hlen : S.T.length ≤ 900000) :
 Calls Tryz.prog 46 #[.pointer (some ⟨F.mb, 0, none⟩), .agg #[.int .i64 14, .int .i64 (ka : Int), .int .i64 (kb : Int), .int .i64 c]] w fun e w' => e = .returned (.tuple #[]) ∧ IDone F wB w' (iUsable S ka kb) := by
 obtain ⟨wa, hwa⟩ : ∃ wa, wa = w.alloc (.cells #[.int .i64 14, .int .i64 (ka : Int), .int .i64 (kb : Int), .int .i64 c] 60) := ⟨_, rfl⟩
 have HB : Hid (Below w.heap.size w wa) := by show Below _ _ _; rw [hwa]; exact (Below.refl _ _).alloc (Nat.le_refl _) _
 have HX : Hid (Blk wa w.heap.size 60 [.int .i64 14, .int .i64 (ka : Int), .int .i64 (kb : Int), .int .i64 c]) := by show Blk _ _ _ _; rw [hwa]; exact Blk.alloc _ _ _
 have HRa := hide2 (h.under HB.out);have HG := hide2 hg;have x0 := HX.out.cell (j := 0) rfl;have x1 := HX.out.cell (j := 1) rfl;have x2 := HX.out.cell (j := 2) rfl;have x3 := HX.out.cell (j := 3) rfl;have hxl := HX.out.lt;have hmbw := h.blk.lt;have hnm : w.heap.size ≠ F.mb := by omega
 have hnm' : F.mb ≠ w.heap.size := by omega
 clear h hg;go_enter Tryz.func46, Tryz.ntmps46;go_upto_region 1 with (fail);rw [← hwa];clear hwa
 go_wp2_with fail
 refine (iblock_usable F wB vT vF V col S wa HRa.out HG.out ka kb c hka hkb (by omega)).mono ?_;rintro e1 w1 ⟨rfl, hD⟩;have HD := hide2 hD;clear hD;go_wp2;go_end0;exact ⟨rfl, HD.out⟩
set_option maxRecDepth 100000 in
set_option maxHeartbeats 6400000 in
theorem ido_load (h : IRep F wB w vT vF V col S) (hg : IGood F S) (ka kb : Nat) (c : Int) (hka : ka < 8) (hkb : kb < 8) (hlen : S.T.length ≤ 900000) :
 Calls Tryz.prog 46 #[.pointer (some ⟨F.mb, 0, none⟩), .agg #[.int .i64 15, .int .i64 (ka : Int), .int .i64 (kb : Int), .int .i64 c]] w fun e w' => e = .returned (.tuple #[]) ∧ IDone F wB w' (iLoad S ka kb c) := by
 obtain ⟨wa, hwa⟩ : ∃ wa, wa = w.alloc (.cells #[.int .i64 15, .int .i64 (ka : Int), .int .i64 (kb : Int), .int .i64 c] 60) := ⟨_, rfl⟩
 have HB : Hid (Below w.heap.size w wa) := by show Below _ _ _; rw [hwa]; exact (Below.refl _ _).alloc (Nat.le_refl _) _
 have HX : Hid (Blk wa w.heap.size 60 [.int .i64 15, .int .i64 (ka : Int), .int .i64 (kb : Int), .int .i64 c]) := by show Blk _ _ _ _; rw [hwa]; exact Blk.alloc _ _ _
 have HRa := hide2 (h.under HB.out);have HG := hide2 hg;have x0 := HX.out.cell (j := 0) rfl;have x1 := HX.out.cell (j := 1) rfl;have x2 := HX.out.cell (j := 2) rfl;have x3 := HX.out.cell (j := 3) rfl;have hxl := HX.out.lt;have hmbw := h.blk.lt;have hnm : w.heap.size ≠ F.mb := by omega
 have hnm' : F.mb ≠ w.heap.size := by omega
 clear h hg;go_enter Tryz.func46, Tryz.ntmps46;go_upto_region 1 with (fail);rw [← hwa];clear hwa
 go_wp2_with fail
 refine (itouch_load F wB vT vF V col S wa HRa.out HG.out ka kb c hka hkb hlen).mono ?_;rintro e1 w1 ⟨rfl, hD⟩;have HD := hide2 hD;clear hD;go_wp2;go_end0;exact ⟨rfl, HD.out⟩
set_option maxRecDepth 100000 in
set_option maxHeartbeats 6400000 in
theorem ido_byte (h : IRep F wB w vT vF V col S) (hg : IGood F S) (ka kb : Nat) (c : Int) (hka : ka < 8) (hkb : kb < 8) (hlen : S.T.length ≤ 900000) :
 Calls Tryz.prog 46 #[.pointer (some ⟨F.mb, 0, none⟩), .agg #[.int .i64 16, .int .i64 (ka : Int), .int .i64 (kb : Int), .int .i64 c]] w fun e w' => e = .returned (.tuple #[]) ∧ IDone F wB w' (iByte S ka kb c) := by
 obtain ⟨wa, hwa⟩ : ∃ wa, wa = w.alloc (.cells #[.int .i64 16, .int .i64 (ka : Int), .int .i64 (kb : Int), .int .i64 c] 60) := ⟨_, rfl⟩
 have HB : Hid (Below w.heap.size w wa) := by show Below _ _ _; rw [hwa]; exact (Below.refl _ _).alloc (Nat.le_refl _) _
 have HX : Hid (Blk wa w.heap.size 60 [.int .i64 16, .int .i64 (ka : Int), .int .i64 (kb : Int), .int .i64 c]) := by show Blk _ _ _ _; rw [hwa]; exact Blk.alloc _ _ _
 have HRa := hide2 (h.under HB.out);have HG := hide2 hg;have x0 := HX.out.cell (j := 0) rfl;have x1 := HX.out.cell (j := 1) rfl;have x2 := HX.out.cell (j := 2) rfl;have x3 := HX.out.cell (j := 3) rfl;have hxl := HX.out.lt;have hmbw := h.blk.lt;have hnm : w.heap.size ≠ F.mb := by omega
 have hnm' : F.mb ≠ w.heap.size := by omega
 clear h hg;go_enter Tryz.func46, Tryz.ntmps46;go_upto_region 1 with (fail);rw [← hwa];clear hwa
 go_wp2_with fail
 refine (itouch_byte F wB vT vF V col S wa HRa.out HG.out ka kb c hka hkb hlen).mono ?_;rintro e1 w1 ⟨rfl, hD⟩;have HD := hide2 hD;clear hD;go_wp2;go_end0;exact ⟨rfl, HD.out⟩
set_option maxRecDepth 100000 in
set_option maxHeartbeats 6400000 in
theorem ido_store (h : IRep F wB w vT vF V col S) (hg : IGood F S) (ka kb : Nat) (c : Int) (hka : ka < 8) (hkb : kb < 8) (hlen : S.T.length ≤ 900000) :
 Calls Tryz.prog 46 #[.pointer (some ⟨F.mb, 0, none⟩), .agg #[.int .i64 17, .int .i64 (ka : Int), .int .i64 (kb : Int), .int .i64 c]] w fun e w' => e = .returned (.tuple #[]) ∧ IDone F wB w' (iStore S ka kb c) := by
 obtain ⟨wa, hwa⟩ : ∃ wa, wa = w.alloc (.cells #[.int .i64 17, .int .i64 (ka : Int), .int .i64 (kb : Int), .int .i64 c] 60) := ⟨_, rfl⟩
 have HB : Hid (Below w.heap.size w wa) := by show Below _ _ _; rw [hwa]; exact (Below.refl _ _).alloc (Nat.le_refl _) _
 have HX : Hid (Blk wa w.heap.size 60 [.int .i64 17, .int .i64 (ka : Int), .int .i64 (kb : Int), .int .i64 c]) := by show Blk _ _ _ _; rw [hwa]; exact Blk.alloc _ _ _
 have HRa := hide2 (h.under HB.out);have HG := hide2 hg;have x0 := HX.out.cell (j := 0) rfl;have x1 := HX.out.cell (j := 1) rfl;have x2 := HX.out.cell (j := 2) rfl;have x3 := HX.out.cell (j := 3) rfl;have hxl := HX.out.lt;have hmbw := h.blk.lt;have hnm : w.heap.size ≠ F.mb := by omega
 have hnm' : F.mb ≠ w.heap.size := by omega
 clear h hg;go_enter Tryz.func46, Tryz.ntmps46;go_upto_region 1 with (fail);rw [← hwa];clear hwa
 go_wp2_with fail
 refine (itouch_store F wB vT vF V col S wa HRa.out HG.out ka kb c hka hkb hlen).mono ?_;rintro e1 w1 ⟨rfl, hD⟩;have HD := hide2 hD;clear hD;go_wp2;go_end0;exact ⟨rfl, HD.out⟩
set_option maxRecDepth 100000 in
set_option maxHeartbeats 6400000 in
theorem ido_put (h : IRep F wB w vT vF V col S) (hg : IGood F S) (ka kb : Nat) (c : Int) (hka : ka < 8) (hkb : kb < 8) (hlen : S.T.length ≤ 900000) :
 Calls Tryz.prog 46 #[.pointer (some ⟨F.mb, 0, none⟩), .agg #[.int .i64 18, .int .i64 (ka : Int), .int .i64 (kb : Int), .int .i64 c]] w fun e w' => e = .returned (.tuple #[]) ∧ IDone F wB w' (iPut1 S ka kb c) := by
 obtain ⟨wa, hwa⟩ : ∃ wa, wa = w.alloc (.cells #[.int .i64 18, .int .i64 (ka : Int), .int .i64 (kb : Int), .int .i64 c] 60) := ⟨_, rfl⟩
 have HB : Hid (Below w.heap.size w wa) := by show Below _ _ _; rw [hwa]; exact (Below.refl _ _).alloc (Nat.le_refl _) _
 have HX : Hid (Blk wa w.heap.size 60 [.int .i64 18, .int .i64 (ka : Int), .int .i64 (kb : Int), .int .i64 c]) := by show Blk _ _ _ _; rw [hwa]; exact Blk.alloc _ _ _
 have HRa := hide2 (h.under HB.out);have HG := hide2 hg;have x0 := HX.out.cell (j := 0) rfl;have x1 := HX.out.cell (j := 1) rfl;have x2 := HX.out.cell (j := 2) rfl;have x3 := HX.out.cell (j := 3) rfl;have hxl := HX.out.lt;have hmbw := h.blk.lt;have hnm : w.heap.size ≠ F.mb := by omega
 have hnm' : F.mb ≠ w.heap.size := by omega
 clear h hg;go_enter Tryz.func46, Tryz.ntmps46;go_upto_region 1 with (fail);rw [← hwa];clear hwa
 go_wp2_with fail
 refine (itouch_put F wB vT vF V col S wa HRa.out HG.out ka kb c hka hkb hlen).mono ?_;rintro e1 w1 ⟨rfl, hD⟩;have HD := hide2 hD;clear hD;go_wp2;go_end0;exact ⟨rfl, HD.out⟩
set_option maxRecDepth 100000 in
set_option maxHeartbeats 6400000 in
theorem ido_move (h : IRep F wB w vT vF V col S) (hg : IGood F S) (ka kb kc : Nat) (hen : S.en = 0) (hka : ka < 8) (hkb : kb < 8) (hkc : kc < 8) (hlen : S.T.length ≤ 900000) :
 Calls Tryz.prog 46 #[.pointer (some ⟨F.mb, 0, none⟩), .agg #[.int .i64 19, .int .i64 (ka : Int), .int .i64 (kb : Int), .int .i64 (kc : Int)]] w fun e w' => e = .returned (.tuple #[]) ∧ IDone F wB w' (iMove S ka kb kc) := by
 obtain ⟨wa, hwa⟩ : ∃ wa, wa = w.alloc (.cells #[.int .i64 19, .int .i64 (ka : Int), .int .i64 (kb : Int), .int .i64 (kc : Int)] 60) := ⟨_, rfl⟩
 have HB : Hid (Below w.heap.size w wa) := by show Below _ _ _; rw [hwa]; exact (Below.refl _ _).alloc (Nat.le_refl _) _
 have HX : Hid (Blk wa w.heap.size 60 [.int .i64 19, .int .i64 (ka : Int), .int .i64 (kb : Int), .int .i64 (kc : Int)]) := by show Blk _ _ _ _; rw [hwa]; exact Blk.alloc _ _ _
 have HRa := hide2 (h.under HB.out);have HG := hide2 hg;have x0 := HX.out.cell (j := 0) rfl;have x1 := HX.out.cell (j := 1) rfl;have x2 := HX.out.cell (j := 2) rfl;have x3 := HX.out.cell (j := 3) rfl;have hxl := HX.out.lt;have hmbw := h.blk.lt;have hnm : w.heap.size ≠ F.mb := by omega
 have hnm' : F.mb ≠ w.heap.size := by omega
 clear h hg;go_enter Tryz.func46, Tryz.ntmps46;go_upto_region 1 with (fail);rw [← hwa];clear hwa
 go_wp2_with fail
 refine (itouch_move F wB vT vF V col S wa HRa.out HG.out hen ka kb kc hka hkb hkc hlen).mono ?_;rintro e1 w1 ⟨rfl, hD⟩;have HD := hide2 hD;clear hD;go_wp2;go_end0;exact ⟨rfl, HD.out⟩
set_option maxRecDepth 100000 in
set_option maxHeartbeats 3200000 in
theorem ido_any (h : IRep F wB w vT vF V col S) (hg : IGood F S) (hen : S.en = 0) (x : Ins) (n : Int) (hx : x.may n = true) (hlen : S.T.length ≤ 900000) (hfl : S.F.length ≤ 1000000) (hnd : (F.nd : Int) ≤ 9223372036854775807) (hi : (F.inp.size : Int) ≤ 9223372036854775807) (ho : S.out.size ≤ 1048576) :
 Calls Tryz.prog 46 #[.pointer (some ⟨F.mb, 0, none⟩), .agg #[.int .i64 x.op, .int .i64 x.a, .int .i64 x.b, .int .i64 x.c]] w fun e w' => e = .returned (.tuple #[]) ∧ IDone F wB w' (iDo F S x) := by
 have hop := op_cases (may_op hx);obtain ⟨o, a, b, c⟩ := x;simp only at hop
 rcases hop with rfl | rfl | rfl | rfl | rfl | rfl | rfl | rfl | rfl | rfl | rfl | rfl | rfl | rfl | rfl | rfl | rfl | rfl | rfl | rfl
 all_goals simp [Ins.may, mayB, opKinds, kindB, withinB] at hx
 all_goals obtain ⟨ka, rfl⟩ := nat_of (a := a) (by omega)
 all_goals simp only [iDo, Int.toNat_natCast]
 all_goals simp
 ·exact ido_halt F wB vT vF V col S w h hg ka b c (by omega)
 ·exact ido_set F wB vT vF V col S w h hg ka b c (by omega) (by omega) (by omega) (by omega) (by omega)
 all_goals try obtain ⟨kb, rfl⟩ := nat_of (a := b) (by omega)
 ·obtain ⟨kc, rfl⟩ := nat_of (a := c) (by omega);exact ido_sum F wB vT vF V col S w h hg 2 (by omega) ka kb kc (by omega) (by omega) (by omega) hlen
 ·obtain ⟨kc, rfl⟩ := nat_of (a := c) (by omega);exact ido_sum F wB vT vF V col S w h hg 3 (by omega) ka kb kc (by omega) (by omega) (by omega) hlen
 ·obtain ⟨kc, rfl⟩ := nat_of (a := c) (by omega);exact ido_sum F wB vT vF V col S w h hg 4 (by omega) ka kb kc (by omega) (by omega) (by omega) hlen
 ·obtain ⟨kc, rfl⟩ := nat_of (a := c) (by omega);exact ido_sum F wB vT vF V col S w h hg 5 (by omega) ka kb kc (by omega) (by omega) (by omega) hlen
 ·exact ido_jump F wB vT vF V col S w h hg ka _ c
 ·exact ido_zero F wB vT vF V col S w h hg ka kb c (by omega)
 ·exact ido_in F wB vT vF V col S w h hg ka _ c (by omega) hi
 ·exact ido_out F wB vT vF V col S w h hg ka _ c (by omega) ho
 ·exact ido_base F wB vT vF V col S w h hg ka _ c (by omega) (by omega) (by omega) (by omega) (by omega)
 ·exact ido_malloc F wB vT vF V col S w h hg ka kb c (by omega) (by omega) hlen hnd
 ·exact ido_free F wB vT vF V col S w h hg ka kb c (by omega) (by omega) hlen hfl
 ·obtain ⟨kc, rfl⟩ := nat_of (a := c) (by omega);exact ido_realloc F wB vT vF V col S w h hg ka kb kc (by omega) (by omega) (by omega) hlen hfl hnd
 ·exact ido_usable F wB vT vF V col S w h hg ka kb c (by omega) (by omega) hlen
 ·exact ido_load F wB vT vF V col S w h hg ka kb c (by omega) (by omega) hlen
 ·exact ido_byte F wB vT vF V col S w h hg ka kb c (by omega) (by omega) hlen
 ·exact ido_store F wB vT vF V col S w h hg ka kb c (by omega) (by omega) hlen
 ·exact ido_put F wB vT vF V col S w h hg ka kb c (by omega) (by omega) hlen
 ·obtain ⟨kc, rfl⟩ := nat_of (a := c) (by omega);exact ido_move F wB vT vF V col S w h hg ka kb kc hen (by omega) (by omega) (by omega) hlen
end
end Go.Proofs.YtjikemhmnkckcabGreat
namespace Go.Proofs.YtjikemhmnkckcabGreat
open Go.RowKit
structure LH (F : IFix) (S : IS) (M : MS) (B : KSt) (G : GSt) : Prop where
 en : S.en = M.en
 ex : S.ex = M.ex
 steps : S.steps = M.steps
 pc : S.pc = M.pc
 next : S.next = M.next
 drawn : S.drawn = M.drawn
 out : S.out = M.out
 heard : S.heard = M.heard
 all : KAll B G M.R
 tok : TOk S.T B
 fr : B.F = S.F
 st : B.st = F.st
 re : B.rest = F.rest
 cl : B.cls = F.cls
 r8 : S.r.length = 8
 m8 : M.r.length = 8
 rv : ∀ k, k < 8 → VOk S.T B (iv S.r k) (rg M.r k)
 cv : ∀ of, 1 ≤ of → of < S.T.length → (S.T.getD of IT.no).live = true → CellsOk S.T B M.R of
def Comes (F : IFix) (S : IS) (M : MS) : Prop := S.en = 102 ∨ ∃ B G, LH F S M B G
theorem iv_set (r : List IV) (k j : Nat) (v : IV) (hk : k < r.length) : iv (r.set k v) j = if j = k then v else iv r j := by
 unfold iv;rw [List.getD_eq_getElem?_getD, List.getD_eq_getElem?_getD]
 by_cases e : j = k
 ·subst e; rw [List.getElem?_set_self hk, if_pos rfl]; rfl
 ·rw [List.getElem?_set_ne (fun h => e h.symm), if_neg e]
section
variable {F : IFix} {S : IS} {M : MS} {B : KSt} {G : GSt}
theorem LH.reg (h : LH F S M B G) (k : Nat) (hk : k < 8) {v : IV} {x : Int} (hv : VOk S.T B v x) : LH F (S.reg k v) (M.reg k x) B G := by
 have h8 := h.r8;have m8 := h.m8;refine ⟨h.en, h.ex, h.steps, h.pc, h.next, h.drawn, h.out, h.heard, h.all, h.tok, h.fr, h.st, h.re, h.cl, ?_, ?_, fun j hj => ?_, h.cv⟩
 ·show (S.r.set k v).length = 8; rw [List.length_set]; exact h8
 ·show (M.r.set k x).length = 8; rw [List.length_set]; exact m8
 ·show VOk S.T B (iv (S.r.set k v) j) (rg (M.r.set k x) j);rw [iv_set _ _ _ _ (by omega), rg_set _ _ _ _ (by omega)]
  by_cases e : j = k
  ·rw [if_pos e, if_pos e]; exact hv
  ·rw [if_neg e, if_neg e]; exact h.rv j hj
theorem LH.goes (h : LH F S M B G) (n : Nat) : LH F (S.goes n) (M.goes n) B G := ⟨h.en, h.ex, h.steps, h.pc, rfl, h.drawn, h.out, h.heard, h.all, h.tok, h.fr, h.st, h.re, h.cl, h.r8, h.m8, h.rv, h.cv⟩
theorem LH.drew (h : LH F S M B G) : LH F S.drew M.drew B G := ⟨h.en, h.ex, h.steps, h.pc, h.next, by show S.drawn + 1 = M.drawn + 1; rw [h.drawn], h.out, h.heard, h.all, h.tok, h.fr, h.st, h.re, h.cl, h.r8, h.m8, h.rv, h.cv⟩
theorem LH.ends (h : LH F S M B G) (e : Int) : LH F (S.ends e) (M.ends e) B G := ⟨rfl, h.ex, h.steps, h.pc, h.next, h.drawn, h.out, h.heard, h.all, h.tok, h.fr, h.st, h.re, h.cl, h.r8, h.m8, h.rv, h.cv⟩
theorem IS.num_pos (k : Nat) (h : (iv S.r k).of = 0) : S.num k = S := if_pos h
theorem IS.num_neg (k : Nat) (h : (iv S.r k).of ≠ 0) : S.num k = S.ends 102 := if_neg h
theorem like_halt (h : LH F S M B G) (a : Nat) (ha : a < 8) : Comes F (iHalt S a) ((M.ends 2).exits (rg M.r a)) := by
 unfold iHalt
 by_cases e : (iv S.r a).of = 0
 ·rw [IS.num_pos (S := S.ends 2) a e];have hx := (h.rv a ha).isNum e;exact .inr ⟨B, G, rfl, hx.symm, h.steps, h.pc, h.next, h.drawn, h.out, h.heard, h.all, h.tok, h.fr, h.st, h.re, h.cl, h.r8, h.m8, h.rv, h.cv⟩
 ·rw [IS.num_neg (S := S.ends 2) a e]; exact .inl rfl
theorem like_set (h : LH F S M B G) (a : Nat) (ha : a < 8) (v : Int) (v0 : 0 ≤ v) (v1 : v ≤ 1000000) : Comes F (S.reg a ⟨0, v⟩) (M.reg a v) :=
 .inr ⟨B, G, h.reg a ha (VOk.num (by omega) (by omega) h.tok)⟩
theorem like_base (h : LH F S M B G) (a : Nat) (ha : a < 8) (b c : Int) (b0 : 0 ≤ b) (b1 : b ≤ 255) (c0 : 0 ≤ c) (c1 : c ≤ 255) : Comes F (S.reg a ⟨1, 256 * b + c⟩) (M.reg a (16 + 256 * b + c)) := by
 have hl := h.tok.len;refine .inr ⟨B, G, h.reg a ha ⟨by show 1 < _; omega, by show _ ≤ 256 * b + c; omega, by show 256 * b + c ≤ _; omega, ?_⟩⟩;show 16 + 256 * b + c = wrap64 (16 + (256 * b + c));unfold wrap64; omega
theorem like_sums (h : LH F S M B G) (op : Int) (a b c : Nat) (ha : a < 8) (hb : b < 8) (hc : c < 8) : Comes F (iSums S op a b c) (M.reg a (sumV op (rg M.r b) (rg M.r c))) := by
 unfold iSums
 cases e : iSum S.T op (iv S.r b) (iv S.r c)
 ·exact .inl rfl
 ·exact .inr ⟨B, G, h.reg a ha (h.all.sum h.tok (h.rv b hb) (h.rv c hc) e)⟩
theorem like_zero (h : LH F S M B G) (a b : Nat) (ha : a < 8) : Comes F (iZero S a b) (dZero M a b) := by
 unfold iZero dZero
 by_cases w : iWithin S.T (iv S.r a) = true
 ·rw [if_pos w];have := (h.rv a ha).inside h.all h.tok w;rw [if_neg (by omega)];exact .inr ⟨B, G, h⟩
 ·rw [if_neg w]
  by_cases e : (iv S.r a).of = 0
  ·rw [IS.num_pos a e, (h.rv a ha).isNum e]
   by_cases z : (iv S.r a).n = 0
   ·rw [if_pos z, if_pos z]; exact .inr ⟨B, G, h.goes b⟩
   ·rw [if_neg z, if_neg z]; exact .inr ⟨B, G, h⟩
  ·rw [IS.num_neg a e];refine .inl ?_
   by_cases z : (iv S.r a).n = 0
   ·rw [if_pos z]; rfl
   ·rw [if_neg z]; rfl
theorem like_in (h : LH F S M B G) (a : Nat) (ha : a < 8) : Comes F ((S.hears F.inp).reg a ⟨0, hearV F.inp S.heard⟩) ((M.hears F.inp).reg a (hearV F.inp M.heard)) := by
 have hh : LH F (S.hears F.inp) (M.hears F.inp) B G := ⟨h.en, h.ex, h.steps, h.pc, h.next, h.drawn, h.out, by show hearN F.inp S.heard = hearN F.inp M.heard; rw [h.heard], h.all, h.tok, h.fr, h.st, h.re, h.cl, h.r8, h.m8, h.rv, h.cv⟩
 refine .inr ⟨B, G, hh.reg a ha ?_⟩;rw [h.heard];have hb := byteAt_bd F.inp M.heard;have : -1 ≤ hearV F.inp M.heard ∧ hearV F.inp M.heard ≤ 255 := by unfold hearV; split <;> omega
 exact VOk.num (by omega) (by omega) h.tok
theorem like_out (h : LH F S M B G) (a : Nat) (ha : a < 8) : Comes F (iOut S a) (dOut M a) := by
 unfold iOut dOut
 by_cases e : (iv S.r a).of = 0
 ·rw [IS.num_pos a e, (h.rv a ha).isNum e, h.out];exact .inr ⟨B, G, h.en, h.ex, h.steps, h.pc, h.next, h.drawn, rfl, h.heard, h.all, h.tok, h.fr, h.st, h.re, h.cl, h.r8, h.m8, h.rv, h.cv⟩
 ·rw [IS.num_neg a e]; exact .inl rfl
theorem LH.owns (h : LH F S M B G) (k : Nat) (hk : k < 8) (ho : iOwns S.T (iv S.r k) = true) : 2 ≤ (iv S.r k).of ∧ (iv S.r k).of < S.T.length ∧ (S.T.getD (iv S.r k).of IT.no).live = true ∧ (iv S.r k).of - 2 < B.L.length ∧ (B.L.getD ((iv S.r k).of - 2) KBlk.no).live = true ∧ rg M.r k = (B.L.getD ((iv S.r k).of - 2) KBlk.no).p := by
 obtain ⟨h1, h2, h3⟩ := of_decide_eq_true ho;have hv := h.rv k hk;have hlen := h.tok.len;have hof := hv.of;have hb := h.all.bp_bd h.tok (iv S.r k).of (by omega) hof;have htn := (h.tok.tn ((iv S.r k).of - 2) (by omega)).2.2.1;rw [show (iv S.r k).of - 2 + 2 = (iv S.r k).of by omega] at htn;have e := hv.x;rw [h3] at e;have hbp : bp B (iv S.r k).of = (B.L.getD ((iv S.r k).of - 2) KBlk.no).p := by unfold bp; rw [if_neg (by omega), if_neg (by omega)]
 refine ⟨by omega, hof, h2, by omega, by rw [← htn]; exact h2, ?_⟩;rw [e, ← hbp];unfold wrap64; omega
theorem LH.nothing (h : LH F S M B G) (k : Nat) (hk : k < 8) (ho : iNothing (iv S.r k) = true) : rg M.r k = 0 := by
 obtain ⟨h1, h2⟩ := of_decide_eq_true ho;rw [(h.rv k hk).isNum h1, h2]
theorem like_usable (h : LH F S M B G) (a b : Nat) (ha : a < 8) (hb : b < 8) : Comes F (iUsable S a b) (dUsable M a b) := by
 unfold iUsable
 by_cases c : iOwns S.T (iv S.r b) = true
 ·rw [if_pos c];obtain ⟨o1, o2, o3, o4, o5, o6⟩ := h.owns b hb c;obtain ⟨k, s, hli⟩ := h.all.ok.live _ o4 o5;have hbk := hli.block h.all.ok.simb;have hbd := hli.bd h.all.ok.simb;have htn := (h.tok.tn ((iv S.r b).of - 2) o4).2.2.2;rw [show (iv S.r b).of - 2 + 2 = (iv S.r b).of by omega] at htn
  have hu : M.R.usable (rg M.r b) = (((S.th (iv S.r b).of).cells.length : Int), 0) := by
   unfold RSt.usable IS.th;rw [o6, hbk, if_neg (fun x => x rfl), htn, hli.len]
  unfold dUsable;rw [hu, if_pos rfl];refine .inr ⟨B, G, h.reg a ha (VOk.num ?_ ?_ h.tok)⟩
  ·show _ ≤ (((S.th (iv S.r b).of).cells.length : Nat) : Int); omega
  ·show (((S.th (iv S.r b).of).cells.length : Nat) : Int) ≤ _;have : (S.th (iv S.r b).of).cells.length ≤ 1000 := h.tok.sm _;omega
 ·rw [if_neg c]; exact .inl rfl
theorem LH.fine_at (h : LH F S M B G) (k : Nat) (hk : k < 8) (c : Int) (n : Nat) (hf : iFine S.T (iAt S k c) n = true) : 1 ≤ (iAt S k c).of ∧ (iAt S k c).of < S.T.length ∧ (S.T.getD (iAt S k c).of IT.no).live = true ∧ (iAt S k c).n.toNat + n ≤ (S.T.getD (iAt S k c).of IT.no).cells.length ∧ wrap64 (rg M.r k + c) = bp B (iAt S k c).of + ((iAt S k c).n.toNat : Int) := by
 obtain ⟨h1, h2, h3, h4⟩ := of_decide_eq_true hf;have hv := h.rv k hk;have hof : (iAt S k c).of < S.T.length := hv.of;have hb := h.all.bp_bd h.tok (iAt S k c).of (by omega) hof;have hs := h.tok.sm (iAt S k c).of;refine ⟨by omega, hof, h2, by omega, ?_⟩;have e := hv.x;have ea : (iAt S k c).n = wrap64 ((iv S.r k).n + c) := rfl;have eo : bp B (iAt S k c).of = bp B (iv S.r k).of := rfl;rw [eo] at hb ⊢;unfold wrap64 at e ea ⊢;omega
theorem like_load (h : LH F S M B G) (a b : Nat) (c : Int) (ha : a < 8) (hb : b < 8) : Comes F (iLoad S a b c) (dLoad M a b c 8) := by
 unfold iLoad
 by_cases f : iFine S.T (iAt S b c) 8 = true
 ·rw [if_pos f]
  cases e : iKept (iPart (S.th (iAt S b c).of).cells (iAt S b c).n.toNat 8)
  ·exact .inl rfl
  ·rename_i v
   obtain ⟨f1, f2, f3, f4, f5⟩ := h.fine_at b hb c 8 f;obtain ⟨l1, l2⟩ := h.all.load8 h.tok _ f1 f2 f3 (h.cv _ f1 f2 f3) _ f4 v e;unfold dLoad;rw [f5, if_pos l1];exact .inr ⟨B, G, h.reg a ha l2⟩
 ·rw [if_neg f]; exact .inl rfl
theorem like_byte (h : LH F S M B G) (a b : Nat) (c : Int) (ha : a < 8) (hb : b < 8) : Comes F (iByte S a b c) (dLoad M a b c 1) := by
 unfold iByte
 by_cases f : iFine S.T (iAt S b c) 1 = true
 ·rw [if_pos f]
  by_cases p : 0 < ((S.th (iAt S b c).of).cells.getD (iAt S b c).n.toNat IC.no).v.of
  ·rw [if_pos p]; exact .inl rfl
  ·rw [if_neg p];obtain ⟨f1, f2, f3, f4, f5⟩ := h.fine_at b hb c 1 f;obtain ⟨l1, l2⟩ := h.all.load1 h.tok _ f1 f2 f3 (h.cv _ f1 f2 f3) _ f4 (show ((S.th (iAt S b c).of).cells.getD (iAt S b c).n.toNat IC.no).v.of = 0 by omega);unfold dLoad;rw [f5, if_pos l1];exact .inr ⟨B, G, h.reg a ha l2⟩
 ·rw [if_neg f]; exact .inl rfl
end
section
variable {F : IFix} {S : IS} {M : MS} {B : KSt} {G : GSt}
theorem LH.turned (h : LH F S M B G) (of : Nat) (h1 : 1 ≤ of) (h2 : of < S.T.length) (hl : (S.T.getD of IT.no).live = true) {G' : GSt} {R' : RSt} (hs : SimB G' R') (e1 : R'.st = M.R.st) (e2 : R'.rest = M.R.rest) (e3 : R'.cls = M.R.cls) (e4 : R'.log = M.R.log)
 (hout : ∀ a : Int, ¬ (iBase M.R.st M.R.cls S.T of ≤ a ∧ a < iBase M.R.st M.R.cls S.T of + (S.T.getD of IT.no).cells.length) → R'.byte a = M.R.byte a)
 (c : List IC) (hc : c.length = (S.T.getD of IT.no).cells.length) (hnew : ∀ B' : KSt, (∀ o, bp B' o = bp B o) → CellsOk (S.T.set of ((S.T.getD of IT.no).withCells c)) B' R' of) : ∃ B', LH F (S.turn of c) (M.heap R') B' G' := by
 obtain ⟨B', hK, hbp, hF, -, g1, g2, g3, hT⟩ := h.all.turned h.tok of h1 h2 hl hs e1 e2 e3 e4 hout;refine ⟨B', h.en, h.ex, h.steps, h.pc, h.next, h.drawn, h.out, h.heard, hK, hT c hc, hF.trans h.fr, g1.trans h.st, g2.trans h.re, g3.trans h.cl, h.r8, h.m8, fun k hk => ?_, fun o o1 o2 ol => ?_⟩
 ·exact (h.rv k hk).to_ (by show _ ≤ (S.T.set _ _).length; simp) (fun o _ => hbp o)
 ·change o < (S.T.set of _).length at o2;rw [List.length_set] at o2
  by_cases e : o = of
  ·subst e; exact hnew B' hbp
  ·have hg : (S.T.set of ((S.T.getD of IT.no).withCells c)).getD o IT.no = S.T.getD o IT.no := by rw [getD_setT _ _ _ _ h2, if_neg e]
   change ((S.T.set of ((S.T.getD of IT.no).withCells c)).getD o IT.no).live = true at ol;rw [hg] at ol;exact h.all.others h.tok of h1 h2 hl e1 e3 hout hbp _ o o1 o2 ol e (h.cv o o1 o2 ol)
theorem iLaid_len (n : Int) (w : Nat) : (iLaid n w).length = w := by unfold iLaid; simp
theorem iLaid_getD (n : Int) (w i : Nat) (hi : i < w) : (iLaid n w).getD i IC.no = ⟨⟨0, Ref.stV n i % 256⟩, 0⟩ := by
 unfold iLaid;rw [List.getD_eq_getElem?_getD, List.getElem?_map, List.getElem?_range hi]; rfl
theorem iParts_len (v : IV) : (iParts v).length = 8 := by unfold iParts; simp
theorem iParts_getD (v : IV) (i : Nat) (hi : i < 8) : (iParts v).getD i IC.no = ⟨v, i⟩ := by
 unfold iParts;rw [List.getD_eq_getElem?_getD, List.getElem?_map, List.getElem?_range hi]; rfl
theorem COk.byte (T : List IT) (B : KSt) (n : Int) (i : Nat) : COk T B ⟨⟨0, Ref.stV n i % 256⟩, 0⟩ (Ref.stV n i % 256) :=
 ⟨by omega, by omega, fun _ => rfl, fun x => absurd rfl x⟩
theorem COk.part {T : List IT} {v : IV} {x : Int} (hv : VOk T B v x) (h0 : 0 < v.of) (i : Nat) (hi : i < 8) : COk T B ⟨v, i⟩ (Ref.stV x i % 256) := by
 have e := hv.x;refine ⟨by omega, by omega, fun y => ?_, fun _ => ⟨hi, ?_, ?_⟩⟩
 ·change v.of = 0 at y; omega
 ·show VOk T B v (wrap64 (bp B v.of + v.n)); rw [← e]; exact hv
 ·show _ = Ref.stV (wrap64 (bp B v.of + v.n)) i % 256; rw [← e]
theorem LH.stores (h : LH F S M B G) (of : Nat) (h1 : 1 ≤ of) (h2 : of < S.T.length) (hl : (S.T.getD of IT.no).live = true) (v n : Nat) (hn : n = 1 ∨ n = 8) (v1 : v + n ≤ (S.T.getD of IT.no).cells.length) (x q : Int) (hq : q = bp B of + (v : Int)) (new : List IC) (hnl : new.length = n)
 (hnew : ∀ i : Nat, i < n → COk S.T B (new.getD i IC.no) (Ref.stV x i % 256)) : M.R.storeErr q n = 0 ∧ ∃ B' G', LH F (S.turn of (iPut (S.T.getD of IT.no).cells v new)) (M.heap (M.R.store q n x)) B' G' := by
 subst hnl;obtain ⟨s1, s2⟩ := h.all.store h.tok of h1 h2 hl v new.length hn v1 x;have hsim := h.all.ok.simb.store_any q new.length x;rw [hq] at hsim ⊢;refine ⟨s1, ?_⟩;rw [s2] at hsim ⊢;obtain ⟨e1, e2, e3, e4, _⟩ := RSt.stores_same M.R (iBase M.R.st M.R.cls S.T of + v) x new.length
 obtain ⟨B', hL⟩ := h.turned of h1 h2 hl hsim e1 e2 e3 e4 (fun a ha => by
  rw [RSt.stores_byte, if_neg (fun y => ha (by omega))]) (iPut (S.T.getD of IT.no).cells v new) (iPut_len _ _ _ v1)
  (fun B' hb => CellsOk.stored of h2 (h.cv of h1 h2 hl) v new v1 x hb hnew)
 exact ⟨B', _, hL⟩
theorem like_store (h : LH F S M B G) (a b : Nat) (c : Int) (ha : a < 8) (hb : b < 8) : Comes F (iStore S a b c) (dStore M a b c 8) := by
 unfold iStore
 by_cases f : iFine S.T (iAt S a c) 8 = true
 ·rw [if_pos f];obtain ⟨f1, f2, f3, f4, f5⟩ := h.fine_at a ha c 8 f;have hv := h.rv b hb
  have key : M.R.storeErr (wrap64 (rg M.r a + c)) ((8 : Nat) : Int) = 0 ∧ ∃ B' G', LH F (S.turn (iAt S a c).of (iPut (S.T.getD (iAt S a c).of IT.no).cells (iAt S a c).n.toNat (if 0 < (iv S.r b).of then iParts (iv S.r b) else iLaid (iv S.r b).n 8))) (M.heap (M.R.store (wrap64 (rg M.r a + c)) ((8 : Nat) : Int) (rg M.r b))) B' G' := by
   by_cases p : 0 < (iv S.r b).of
   ·rw [if_pos p];exact h.stores _ f1 f2 f3 _ 8 (.inr rfl) f4 (rg M.r b) _ f5 (iParts (iv S.r b)) (iParts_len _) (fun i hi => by rw [iParts_getD _ _ hi]; exact COk.part hv p i hi)
   ·rw [if_neg p];refine h.stores _ f1 f2 f3 _ 8 (.inr rfl) f4 (rg M.r b) _ f5 (iLaid (iv S.r b).n 8) (iLaid_len _ _) (fun i hi => ?_);rw [iLaid_getD _ _ _ hi, hv.isNum (by omega)];exact COk.byte _ _ _ _
  obtain ⟨k1, k2⟩ := key;unfold dStore;rw [if_pos (show M.R.storeErr (wrap64 (rg M.r a + c)) 8 = 0 from k1)];exact .inr k2
 ·rw [if_neg f]; exact .inl rfl
theorem like_put (h : LH F S M B G) (a b : Nat) (c : Int) (ha : a < 8) (hb : b < 8) : Comes F (iPut1 S a b c) (dStore M a b c 1) := by
 unfold iPut1
 by_cases f : iFine S.T (iAt S a c) 1 = true
 ·rw [if_pos f]
  by_cases p : (iv S.r b).of = 0
  ·rw [IS.num_pos b p];obtain ⟨f1, f2, f3, f4, f5⟩ := h.fine_at a ha c 1 f;have hv := h.rv b hb
   obtain ⟨k1, k2⟩ := h.stores _ f1 f2 f3 _ 1 (.inl rfl) f4 (rg M.r b) _ f5 (iLaid (iv S.r b).n 1) (iLaid_len _ _) (fun i hi => by
    rw [iLaid_getD _ _ _ hi, hv.isNum p];exact COk.byte _ _ _ _)
   unfold dStore;rw [if_pos (show M.R.storeErr (wrap64 (rg M.r a + c)) 1 = 0 from k1)];exact .inr k2
  ·rw [IS.num_neg b p]; exact .inl rfl
 ·rw [if_neg f]; exact .inl rfl
theorem LH.fine_reg (h : LH F S M B G) (k : Nat) (hk : k < 8) (n : Nat) (hn : 1 ≤ n) (hf : iFine S.T (iv S.r k) n = true) : 1 ≤ (iv S.r k).of ∧ (iv S.r k).of < S.T.length ∧ (S.T.getD (iv S.r k).of IT.no).live = true ∧ (iv S.r k).n.toNat + n ≤ (S.T.getD (iv S.r k).of IT.no).cells.length ∧ rg M.r k = bp B (iv S.r k).of + ((iv S.r k).n.toNat : Int) ∧ (M.R.access (rg M.r k) n).1 = 0 ∧ rg M.r k % 72057594037927936 = iBase M.R.st M.R.cls S.T (iv S.r k).of + ((iv S.r k).n.toNat : Int) := by
 obtain ⟨h1, h2, h3, h4⟩ := of_decide_eq_true hf;have hv := h.rv k hk;have hb := h.all.bp_bd h.tok (iv S.r k).of (by omega) hv.of;have hs := h.tok.sm (iv S.r k).of
 have e : rg M.r k = bp B (iv S.r k).of + ((iv S.r k).n.toNat : Int) := by
  have e := hv.x;unfold wrap64 at e;omega
 refine ⟨by omega, hv.of, h2, by omega, e, ?_, ?_⟩
 ·rw [e]; exact h.all.fine h.tok _ (by omega) hv.of h2 _ _ (by omega) (by omega) (by omega)
 ·rw [e]; exact h.all.place h.tok _ (by omega) hv.of _ n (by omega) (by omega) (by omega)
theorem like_move (h : LH F S M B G) (a b c : Nat) (ha : a < 8) (hb : b < 8) (hc : c < 8) : Comes F (iMove S a b c) (dMove M a b c) := by
 unfold iMove
 by_cases p : (iv S.r c).of = 0
 ·rw [if_neg (fun x => x p)];have hn := (h.rv c hc).isNum p
  by_cases z : (iv S.r c).n = 0
  ·rw [if_pos z]
   have hacc : ∀ q, M.R.access q 0 = (0, 0) ∨ (M.R.access q 0).1 = 0 := fun q => by
    right; unfold RSt.access; rw [if_neg (by omega), if_pos rfl]
   have ha0 : ∀ q, (M.R.access q 0).1 = 0 := fun q => by
    rcases hacc q with e | e
    ·rw [e]
    ·exact e
   unfold dMove;rw [hn, z];have he : M.R.moveErr (rg M.r a) (rg M.r b) 0 = 0 := by unfold RSt.moveErr; rw [if_neg (fun x => x (ha0 _))]; exact ha0 _
   rw [if_pos he];have hm : M.R.move (rg M.r a) (rg M.r b) 0 = M.R := by unfold RSt.move; rw [if_pos he]; rfl
   rw [hm];exact .inr ⟨B, G, h⟩
  ·rw [if_neg z]
   by_cases o : (iv S.r c).n < 0 ∨ 65536 < (iv S.r c).n
   ·rw [if_pos o]; exact .inl rfl
   ·rw [if_neg o]
    by_cases f : iFine S.T (iv S.r b) (iv S.r c).n = true ∧ iFine S.T (iv S.r a) (iv S.r c).n = true
    ·rw [if_pos f];obtain ⟨m, hm⟩ : ∃ m : Nat, (iv S.r c).n = (m : Int) := ⟨(iv S.r c).n.toNat, by omega⟩
     rw [hm] at f hn z o;obtain ⟨f1, f2, f3, f4, f5, f6, f7⟩ := h.fine_reg b hb m (by omega) f.1;obtain ⟨g1, g2, g3, g4, g5, g6, g7⟩ := h.fine_reg a ha m (by omega) f.2;have he : M.R.moveErr (rg M.r a) (rg M.r b) (m : Int) = 0 := by unfold RSt.moveErr; rw [if_neg (fun x => x f6)]; exact g6
     have hmv : M.R.move (rg M.r a) (rg M.r b) (m : Int) = M.R.moves (iBase M.R.st M.R.cls S.T (iv S.r a).of + ((iv S.r a).n.toNat : Int)) (iBase M.R.st M.R.cls S.T (iv S.r b).of + ((iv S.r b).n.toNat : Int)) m := by
      unfold RSt.move; rw [if_pos he, f7, g7, Int.toNat_natCast]
     have hsim := h.all.ok.simb.move_any (rg M.r a) (rg M.r b) (m : Int);unfold dMove;rw [hn, if_pos he];rw [hmv] at hsim ⊢;rw [hm, Int.toNat_natCast];obtain ⟨e1, e2, e3, e4, _⟩ := RSt.moves_same M.R (iBase M.R.st M.R.cls S.T (iv S.r a).of + ((iv S.r a).n.toNat : Int)) (iBase M.R.st M.R.cls S.T (iv S.r b).of + ((iv S.r b).n.toNat : Int)) m
     have hpl : (iPart (S.th (iv S.r b).of).cells (iv S.r b).n.toNat m).length = m := by
      unfold iPart IS.th; rw [List.length_take, List.length_drop]; omega
     have hlen : (iv S.r a).n.toNat + (iPart (S.th (iv S.r b).of).cells (iv S.r b).n.toNat m).length ≤ (S.T.getD (iv S.r a).of IT.no).cells.length := by rw [hpl]; exact g4
     have hcb := h.cv _ f1 f2 f3;have hca := h.cv _ g1 g2 g3
     obtain ⟨B', hL⟩ := h.turned (iv S.r a).of g1 g2 g3 hsim e1 e2 e3 e4 (fun x hx => by
      rw [RSt.moves_byte, if_neg (fun y => hx (by omega))]) (iPut (S.T.getD (iv S.r a).of IT.no).cells (iv S.r a).n.toNat (iPart (S.th (iv S.r b).of).cells (iv S.r b).n.toNat m)) (iPut_len _ _ _ hlen) (fun B' hbp => by
       have hg : (S.T.set (iv S.r a).of ((S.T.getD (iv S.r a).of IT.no).withCells (iPut (S.T.getD (iv S.r a).of IT.no).cells (iv S.r a).n.toNat (iPart (S.th (iv S.r b).of).cells (iv S.r b).n.toNat m)))).getD (iv S.r a).of IT.no = (S.T.getD (iv S.r a).of IT.no).withCells (iPut (S.T.getD (iv S.r a).of IT.no).cells (iv S.r a).n.toNat (iPart (S.th (iv S.r b).of).cells (iv S.r b).n.toNat m)) := by rw [getD_setT _ _ _ _ g2, if_pos rfl]
       intro t ht;rw [hg] at ht;change t < (iPut (S.T.getD (iv S.r a).of IT.no).cells (iv S.r a).n.toNat (iPart (S.th (iv S.r b).of).cells (iv S.r b).n.toNat m)).length at ht;rw [iPut_len _ _ _ hlen] at ht
       have hbs : iBase (M.R.moves (iBase M.R.st M.R.cls S.T (iv S.r a).of + ((iv S.r a).n.toNat : Int)) (iBase M.R.st M.R.cls S.T (iv S.r b).of + ((iv S.r b).n.toNat : Int)) m).st (M.R.moves (iBase M.R.st M.R.cls S.T (iv S.r a).of + ((iv S.r a).n.toNat : Int)) (iBase M.R.st M.R.cls S.T (iv S.r b).of + ((iv S.r b).n.toNat : Int)) m).cls (S.T.set (iv S.r a).of ((S.T.getD (iv S.r a).of IT.no).withCells (iPut (S.T.getD (iv S.r a).of IT.no).cells (iv S.r a).n.toNat (iPart (S.th (iv S.r b).of).cells (iv S.r b).n.toNat m)))) (iv S.r a).of = iBase M.R.st M.R.cls S.T (iv S.r a).of := by
        rw [e1, e3]; unfold iBase; rw [hg]; rfl
       rw [hbs, hg, RSt.moves_byte];show COk _ _ ((iPut (S.T.getD (iv S.r a).of IT.no).cells (iv S.r a).n.toNat (iPart (S.th (iv S.r b).of).cells (iv S.r b).n.toNat m)).getD t IC.no) _;rw [iPut_getD _ _ _ hlen, hpl]
       by_cases cc : (iv S.r a).n.toNat ≤ t ∧ t < (iv S.r a).n.toNat + m
       ·rw [if_pos cc, if_pos (by omega), iPart_getD _ _ _ _ (by omega)];have := hcb ((iv S.r b).n.toNat + (t - (iv S.r a).n.toNat)) (by omega);rw [show iBase M.R.st M.R.cls S.T (iv S.r b).of + ((iv S.r b).n.toNat : Int) + (iBase M.R.st M.R.cls S.T (iv S.r a).of + (t : Int) - (iBase M.R.st M.R.cls S.T (iv S.r a).of + ((iv S.r a).n.toNat : Int))) = iBase M.R.st M.R.cls S.T (iv S.r b).of + (((iv S.r b).n.toNat + (t - (iv S.r a).n.toNat) : Nat) : Int) by omega];exact this.of (by simp) (fun o _ => hbp o)
       ·rw [if_neg cc, if_neg (by omega)];exact (hca t ht).of (by simp) (fun o _ => hbp o))
     exact .inr ⟨B', _, hL⟩
    ·rw [if_neg f]; exact .inl rfl
 ·rw [if_pos p]; exact .inl rfl
end
end Go.Proofs.YtjikemhmnkckcabGreat
