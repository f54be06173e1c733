import Derived.Test.YtjikemhmnkckcabGreatJ43
/- The program's machine: an instruction that is one call (written by gendo.py). -/
namespace Go.Proofs.YtjikemhmnkckcabGreat
open Go.RowKit
attribute [local go_sem ↓] Go.wp_at_zero Go.wp_at_succ

set_option maxRecDepth 100000 in
set_option maxHeartbeats 3200000 in
theorem do_halt (F : MFix) (wB w : World) (G : GSt) (vo vn : Value) (S : MS) (ka : Nat) (b c : Int) (h : MRep F wB w G vo vn S) (hka : ka < 8) :
    Calls Tryz.prog 56 #[.pointer (some ⟨F.mb, 0, none⟩), .agg #[.int .i64 0, .int .i64 (ka : Int), .int .i64 b, .int .i64 c]] w fun e w' => e = .returned (.tuple #[]) ∧ ∃ G' vo' vn', MRep F wB w' G' vo' vn' ((S.ends 2).exits (rg S.r ka)) := by
  obtain ⟨wa, hwa⟩ : ∃ wa, wa = w.alloc (.cells #[.int .i64 0, .int .i64 (ka : Int), .int .i64 b, .int .i64 c] 60) := ⟨_, rfl⟩
  have hbl : Below w.heap.size w wa := by rw [hwa]; exact (Below.refl _ _).alloc (Nat.le_refl _) _
  have HX : Hid (Blk wa w.heap.size 60 [.int .i64 0, .int .i64 (ka : Int), .int .i64 b, .int .i64 c]) := by show Blk _ _ _ _; rw [hwa]; exact Blk.alloc _ _ _
  have HM := hide2 (h.under hbl)
  have x0 := HX.out.cell (j := 0) rfl
  have x1 := HX.out.cell (j := 1) rfl
  have x2 := HX.out.cell (j := 2) rfl
  have x3 := HX.out.cell (j := 3) rfl
  clear h hbl
  go_enter Tryz.func56, Tryz.ntmps56
  go_upto_region 1 with (fail)
  rw [← hwa]
  clear hwa
  go_wp2_with (go_at_call 76; refine (doHalt_any F wB wa G vo vn S ka b c HM.out hka).mono ?_; rintro e1 w1 ⟨rfl, hm1⟩; have HM1 := hide2 hm1; clear hm1)
  go_end0
  exact ⟨rfl, G, vo, vn, HM1.out⟩

set_option maxRecDepth 100000 in
set_option maxHeartbeats 3200000 in
theorem do_jump (F : MFix) (wB w : World) (G : GSt) (vo vn : Value) (S : MS) (a : Nat) (b c : Int) (h : MRep F wB w G vo vn S)  :
    Calls Tryz.prog 56 #[.pointer (some ⟨F.mb, 0, none⟩), .agg #[.int .i64 6, .int .i64 (a : Int), .int .i64 b, .int .i64 c]] w fun e w' => e = .returned (.tuple #[]) ∧ ∃ G' vo' vn', MRep F wB w' G' vo' vn' (S.goes a) := by
  obtain ⟨wa, hwa⟩ : ∃ wa, wa = w.alloc (.cells #[.int .i64 6, .int .i64 (a : Int), .int .i64 b, .int .i64 c] 60) := ⟨_, rfl⟩
  have hbl : Below w.heap.size w wa := by rw [hwa]; exact (Below.refl _ _).alloc (Nat.le_refl _) _
  have HX : Hid (Blk wa w.heap.size 60 [.int .i64 6, .int .i64 (a : Int), .int .i64 b, .int .i64 c]) := by show Blk _ _ _ _; rw [hwa]; exact Blk.alloc _ _ _
  have HM := hide2 (h.under hbl)
  have x0 := HX.out.cell (j := 0) rfl
  have x1 := HX.out.cell (j := 1) rfl
  have x2 := HX.out.cell (j := 2) rfl
  have x3 := HX.out.cell (j := 3) rfl
  clear h hbl
  go_enter Tryz.func56, Tryz.ntmps56
  go_upto_region 1 with (fail)
  rw [← hwa]
  clear hwa
  go_wp2_with (go_at_call 76; refine (doJump_any F wB wa G vo vn S a b c HM.out).mono ?_; rintro e1 w1 ⟨rfl, hm1⟩; have HM1 := hide2 hm1; clear hm1)
  go_end0
  exact ⟨rfl, G, vo, vn, HM1.out⟩

set_option maxRecDepth 100000 in
set_option maxHeartbeats 3200000 in
theorem do_zero (F : MFix) (wB w : World) (G : GSt) (vo vn : Value) (S : MS) (ka b : Nat) (c : Int) (h : MRep F wB w G vo vn S) (hka : ka < 8) :
    Calls Tryz.prog 56 #[.pointer (some ⟨F.mb, 0, none⟩), .agg #[.int .i64 7, .int .i64 (ka : Int), .int .i64 (b : Int), .int .i64 c]] w fun e w' => e = .returned (.tuple #[]) ∧ ∃ G' vo' vn', MRep F wB w' G' vo' vn' (dZero S ka b) := by
  obtain ⟨wa, hwa⟩ : ∃ wa, wa = w.alloc (.cells #[.int .i64 7, .int .i64 (ka : Int), .int .i64 (b : Int), .int .i64 c] 60) := ⟨_, rfl⟩
  have hbl : Below w.heap.size w wa := by rw [hwa]; exact (Below.refl _ _).alloc (Nat.le_refl _) _
  have HX : Hid (Blk wa w.heap.size 60 [.int .i64 7, .int .i64 (ka : Int), .int .i64 (b : Int), .int .i64 c]) := by show Blk _ _ _ _; rw [hwa]; exact Blk.alloc _ _ _
  have HM := hide2 (h.under hbl)
  have x0 := HX.out.cell (j := 0) rfl
  have x1 := HX.out.cell (j := 1) rfl
  have x2 := HX.out.cell (j := 2) rfl
  have x3 := HX.out.cell (j := 3) rfl
  clear h hbl
  go_enter Tryz.func56, Tryz.ntmps56
  go_upto_region 1 with (fail)
  rw [← hwa]
  clear hwa
  go_wp2_with (go_at_call 76; refine (doZero_any F wB wa G vo vn S ka b c HM.out hka).mono ?_; rintro e1 w1 ⟨rfl, hm1⟩; have HM1 := hide2 hm1; clear hm1)
  go_end0
  exact ⟨rfl, G, vo, vn, HM1.out⟩

set_option maxRecDepth 100000 in
set_option maxHeartbeats 3200000 in
theorem do_malloc (F : MFix) (wB w : World) (G : GSt) (vo vn : Value) (S : MS) (ka kb : Nat) (c : Int) (h : MRep F wB w G vo vn S) (hka : ka < 8) (hkb : kb < 8) :
    Calls Tryz.prog 56 #[.pointer (some ⟨F.mb, 0, none⟩), .agg #[.int .i64 11, .int .i64 (ka : Int), .int .i64 (kb : Int), .int .i64 c]] w fun e w' => e = .returned (.tuple #[]) ∧ ∃ G' vo' vn', MRep F wB w' G' vo' vn' (dMalloc F.ds S ka kb) := by
  obtain ⟨wa, hwa⟩ : ∃ wa, wa = w.alloc (.cells #[.int .i64 11, .int .i64 (ka : Int), .int .i64 (kb : Int), .int .i64 c] 60) := ⟨_, rfl⟩
  have hbl : Below w.heap.size w wa := by rw [hwa]; exact (Below.refl _ _).alloc (Nat.le_refl _) _
  have HX : Hid (Blk wa w.heap.size 60 [.int .i64 11, .int .i64 (ka : Int), .int .i64 (kb : Int), .int .i64 c]) := by show Blk _ _ _ _; rw [hwa]; exact Blk.alloc _ _ _
  have HM := hide2 (h.under hbl)
  have x0 := HX.out.cell (j := 0) rfl
  have x1 := HX.out.cell (j := 1) rfl
  have x2 := HX.out.cell (j := 2) rfl
  have x3 := HX.out.cell (j := 3) rfl
  clear h hbl
  go_enter Tryz.func56, Tryz.ntmps56
  go_upto_region 1 with (fail)
  rw [← hwa]
  clear hwa
  go_wp2_with (go_at_call 79; refine (doMalloc_any F wB wa G vo vn S 11 c ka kb HM.out hka hkb).mono ?_; rintro e1 w1 ⟨rfl, G2, vn2, hm1⟩; have HM1 := hide2 hm1; clear hm1)
  go_end0
  exact ⟨rfl, G2, vo, vn2, HM1.out⟩

set_option maxRecDepth 100000 in
set_option maxHeartbeats 3200000 in
theorem do_free (F : MFix) (wB w : World) (G : GSt) (vo vn : Value) (S : MS) (ka : Nat) (b c : Int) (h : MRep F wB w G vo vn S) (hka : ka < 8) :
    Calls Tryz.prog 56 #[.pointer (some ⟨F.mb, 0, none⟩), .agg #[.int .i64 12, .int .i64 (ka : Int), .int .i64 b, .int .i64 c]] w fun e w' => e = .returned (.tuple #[]) ∧ ∃ G' vo' vn', MRep F wB w' G' vo' vn' (dFree S ka) := by
  obtain ⟨wa, hwa⟩ : ∃ wa, wa = w.alloc (.cells #[.int .i64 12, .int .i64 (ka : Int), .int .i64 b, .int .i64 c] 60) := ⟨_, rfl⟩
  have hbl : Below w.heap.size w wa := by rw [hwa]; exact (Below.refl _ _).alloc (Nat.le_refl _) _
  have HX : Hid (Blk wa w.heap.size 60 [.int .i64 12, .int .i64 (ka : Int), .int .i64 b, .int .i64 c]) := by show Blk _ _ _ _; rw [hwa]; exact Blk.alloc _ _ _
  have HM := hide2 (h.under hbl)
  have x0 := HX.out.cell (j := 0) rfl
  have x1 := HX.out.cell (j := 1) rfl
  have x2 := HX.out.cell (j := 2) rfl
  have x3 := HX.out.cell (j := 3) rfl
  clear h hbl
  go_enter Tryz.func56, Tryz.ntmps56
  go_upto_region 1 with (fail)
  rw [← hwa]
  clear hwa
  go_wp2_with (go_at_call 80; refine (doFree_any F wB wa G vo vn S 12 b c ka HM.out hka).mono ?_; rintro e1 w1 ⟨rfl, G2, vn2, hm1⟩; have HM1 := hide2 hm1; clear hm1)
  go_end0
  exact ⟨rfl, G2, vo, vn2, HM1.out⟩

set_option maxRecDepth 100000 in
set_option maxHeartbeats 3200000 in
theorem do_realloc (F : MFix) (wB w : World) (G : GSt) (vo vn : Value) (S : MS) (ka kb kc : Nat) (h : MRep F wB w G vo vn S) (hka : ka < 8) (hkb : kb < 8) (hkc : kc < 8) :
    Calls Tryz.prog 56 #[.pointer (some ⟨F.mb, 0, none⟩), .agg #[.int .i64 13, .int .i64 (ka : Int), .int .i64 (kb : Int), .int .i64 (kc : Int)]] w fun e w' => e = .returned (.tuple #[]) ∧ ∃ G' vo' vn', MRep F wB w' G' vo' vn' (dRealloc F.ds S ka kb kc) := by
  obtain ⟨wa, hwa⟩ : ∃ wa, wa = w.alloc (.cells #[.int .i64 13, .int .i64 (ka : Int), .int .i64 (kb : Int), .int .i64 (kc : Int)] 60) := ⟨_, rfl⟩
  have hbl : Below w.heap.size w wa := by rw [hwa]; exact (Below.refl _ _).alloc (Nat.le_refl _) _
  have HX : Hid (Blk wa w.heap.size 60 [.int .i64 13, .int .i64 (ka : Int), .int .i64 (kb : Int), .int .i64 (kc : Int)]) := by show Blk _ _ _ _; rw [hwa]; exact Blk.alloc _ _ _
  have HM := hide2 (h.under hbl)
  have x0 := HX.out.cell (j := 0) rfl
  have x1 := HX.out.cell (j := 1) rfl
  have x2 := HX.out.cell (j := 2) rfl
  have x3 := HX.out.cell (j := 3) rfl
  clear h hbl
  go_enter Tryz.func56, Tryz.ntmps56
  go_upto_region 1 with (fail)
  rw [← hwa]
  clear hwa
  go_wp2_with (go_at_call 81; refine (doRealloc_any F wB wa G vo vn S 13 ka kb kc HM.out hka hkb hkc).mono ?_; rintro e1 w1 ⟨rfl, G2, vn2, hm1⟩; have HM1 := hide2 hm1; clear hm1)
  go_end0
  exact ⟨rfl, G2, vo, vn2, HM1.out⟩

set_option maxRecDepth 100000 in
set_option maxHeartbeats 3200000 in
theorem do_usable (F : MFix) (wB w : World) (G : GSt) (vo vn : Value) (S : MS) (ka kb : Nat) (c : Int) (h : MRep F wB w G vo vn S) (hka : ka < 8) (hkb : kb < 8) :
    Calls Tryz.prog 56 #[.pointer (some ⟨F.mb, 0, none⟩), .agg #[.int .i64 14, .int .i64 (ka : Int), .int .i64 (kb : Int), .int .i64 c]] w fun e w' => e = .returned (.tuple #[]) ∧ ∃ G' vo' vn', MRep F wB w' G' vo' vn' (dUsable S ka kb) := by
  obtain ⟨wa, hwa⟩ : ∃ wa, wa = w.alloc (.cells #[.int .i64 14, .int .i64 (ka : Int), .int .i64 (kb : Int), .int .i64 c] 60) := ⟨_, rfl⟩
  have hbl : Below w.heap.size w wa := by rw [hwa]; exact (Below.refl _ _).alloc (Nat.le_refl _) _
  have HX : Hid (Blk wa w.heap.size 60 [.int .i64 14, .int .i64 (ka : Int), .int .i64 (kb : Int), .int .i64 c]) := by show Blk _ _ _ _; rw [hwa]; exact Blk.alloc _ _ _
  have HM := hide2 (h.under hbl)
  have x0 := HX.out.cell (j := 0) rfl
  have x1 := HX.out.cell (j := 1) rfl
  have x2 := HX.out.cell (j := 2) rfl
  have x3 := HX.out.cell (j := 3) rfl
  clear h hbl
  go_enter Tryz.func56, Tryz.ntmps56
  go_upto_region 1 with (fail)
  rw [← hwa]
  clear hwa
  go_wp2_with (go_at_call 82; refine (doUsable_any F wB wa G vo vn S 14 c ka kb HM.out hka hkb).mono ?_; rintro e1 w1 ⟨rfl, G2, vn2, hm1⟩; have HM1 := hide2 hm1; clear hm1)
  go_end0
  exact ⟨rfl, G2, vo, vn2, HM1.out⟩

set_option maxRecDepth 100000 in
set_option maxHeartbeats 3200000 in
theorem do_load (F : MFix) (wB w : World) (G : GSt) (vo vn : Value) (S : MS) (ka kb : Nat) (c : Int) (h : MRep F wB w G vo vn S) (hka : ka < 8) (hkb : kb < 8) :
    Calls Tryz.prog 56 #[.pointer (some ⟨F.mb, 0, none⟩), .agg #[.int .i64 15, .int .i64 (ka : Int), .int .i64 (kb : Int), .int .i64 c]] w fun e w' => e = .returned (.tuple #[]) ∧ ∃ G' vo' vn', MRep F wB w' G' vo' vn' (dLoad S ka kb c 8) := by
  obtain ⟨wa, hwa⟩ : ∃ wa, wa = w.alloc (.cells #[.int .i64 15, .int .i64 (ka : Int), .int .i64 (kb : Int), .int .i64 c] 60) := ⟨_, rfl⟩
  have hbl : Below w.heap.size w wa := by rw [hwa]; exact (Below.refl _ _).alloc (Nat.le_refl _) _
  have HX : Hid (Blk wa w.heap.size 60 [.int .i64 15, .int .i64 (ka : Int), .int .i64 (kb : Int), .int .i64 c]) := by show Blk _ _ _ _; rw [hwa]; exact Blk.alloc _ _ _
  have HM := hide2 (h.under hbl)
  have x0 := HX.out.cell (j := 0) rfl
  have x1 := HX.out.cell (j := 1) rfl
  have x2 := HX.out.cell (j := 2) rfl
  have x3 := HX.out.cell (j := 3) rfl
  clear h hbl
  go_enter Tryz.func56, Tryz.ntmps56
  go_upto_region 1 with (fail)
  rw [← hwa]
  clear hwa
  go_wp2_with (go_at_call 83; refine (doLoad_any F wB wa G vo vn S 15 c 8 ka kb HM.out hka hkb).mono ?_; rintro e1 w1 ⟨rfl, G2, vn2, hm1⟩; have HM1 := hide2 hm1; clear hm1)
  go_end0
  exact ⟨rfl, G2, vo, vn2, HM1.out⟩

set_option maxRecDepth 100000 in
set_option maxHeartbeats 3200000 in
theorem do_byte (F : MFix) (wB w : World) (G : GSt) (vo vn : Value) (S : MS) (ka kb : Nat) (c : Int) (h : MRep F wB w G vo vn S) (hka : ka < 8) (hkb : kb < 8) :
    Calls Tryz.prog 56 #[.pointer (some ⟨F.mb, 0, none⟩), .agg #[.int .i64 16, .int .i64 (ka : Int), .int .i64 (kb : Int), .int .i64 c]] w fun e w' => e = .returned (.tuple #[]) ∧ ∃ G' vo' vn', MRep F wB w' G' vo' vn' (dLoad S ka kb c 1) := by
  obtain ⟨wa, hwa⟩ : ∃ wa, wa = w.alloc (.cells #[.int .i64 16, .int .i64 (ka : Int), .int .i64 (kb : Int), .int .i64 c] 60) := ⟨_, rfl⟩
  have hbl : Below w.heap.size w wa := by rw [hwa]; exact (Below.refl _ _).alloc (Nat.le_refl _) _
  have HX : Hid (Blk wa w.heap.size 60 [.int .i64 16, .int .i64 (ka : Int), .int .i64 (kb : Int), .int .i64 c]) := by show Blk _ _ _ _; rw [hwa]; exact Blk.alloc _ _ _
  have HM := hide2 (h.under hbl)
  have x0 := HX.out.cell (j := 0) rfl
  have x1 := HX.out.cell (j := 1) rfl
  have x2 := HX.out.cell (j := 2) rfl
  have x3 := HX.out.cell (j := 3) rfl
  clear h hbl
  go_enter Tryz.func56, Tryz.ntmps56
  go_upto_region 1 with (fail)
  rw [← hwa]
  clear hwa
  go_wp2_with (go_at_call 83; refine (doLoad_any F wB wa G vo vn S 16 c 1 ka kb HM.out hka hkb).mono ?_; rintro e1 w1 ⟨rfl, G2, vn2, hm1⟩; have HM1 := hide2 hm1; clear hm1)
  go_end0
  exact ⟨rfl, G2, vo, vn2, HM1.out⟩

set_option maxRecDepth 100000 in
set_option maxHeartbeats 3200000 in
theorem do_store (F : MFix) (wB w : World) (G : GSt) (vo vn : Value) (S : MS) (ka kb : Nat) (c : Int) (h : MRep F wB w G vo vn S) (hka : ka < 8) (hkb : kb < 8) :
    Calls Tryz.prog 56 #[.pointer (some ⟨F.mb, 0, none⟩), .agg #[.int .i64 17, .int .i64 (ka : Int), .int .i64 (kb : Int), .int .i64 c]] w fun e w' => e = .returned (.tuple #[]) ∧ ∃ G' vo' vn', MRep F wB w' G' vo' vn' (dStore S ka kb c 8) := by
  obtain ⟨wa, hwa⟩ : ∃ wa, wa = w.alloc (.cells #[.int .i64 17, .int .i64 (ka : Int), .int .i64 (kb : Int), .int .i64 c] 60) := ⟨_, rfl⟩
  have hbl : Below w.heap.size w wa := by rw [hwa]; exact (Below.refl _ _).alloc (Nat.le_refl _) _
  have HX : Hid (Blk wa w.heap.size 60 [.int .i64 17, .int .i64 (ka : Int), .int .i64 (kb : Int), .int .i64 c]) := by show Blk _ _ _ _; rw [hwa]; exact Blk.alloc _ _ _
  have HM := hide2 (h.under hbl)
  have x0 := HX.out.cell (j := 0) rfl
  have x1 := HX.out.cell (j := 1) rfl
  have x2 := HX.out.cell (j := 2) rfl
  have x3 := HX.out.cell (j := 3) rfl
  clear h hbl
  go_enter Tryz.func56, Tryz.ntmps56
  go_upto_region 1 with (fail)
  rw [← hwa]
  clear hwa
  go_wp2_with (go_at_call 84; refine (doStore_any F wB wa G vo vn S 17 c 8 ka kb HM.out hka hkb).mono ?_; rintro e1 w1 ⟨rfl, G2, vn2, hm1⟩; have HM1 := hide2 hm1; clear hm1)
  go_end0
  exact ⟨rfl, G2, vo, vn2, HM1.out⟩

set_option maxRecDepth 100000 in
set_option maxHeartbeats 3200000 in
theorem do_put (F : MFix) (wB w : World) (G : GSt) (vo vn : Value) (S : MS) (ka kb : Nat) (c : Int) (h : MRep F wB w G vo vn S) (hka : ka < 8) (hkb : kb < 8) :
    Calls Tryz.prog 56 #[.pointer (some ⟨F.mb, 0, none⟩), .agg #[.int .i64 18, .int .i64 (ka : Int), .int .i64 (kb : Int), .int .i64 c]] w fun e w' => e = .returned (.tuple #[]) ∧ ∃ G' vo' vn', MRep F wB w' G' vo' vn' (dStore S ka kb c 1) := by
  obtain ⟨wa, hwa⟩ : ∃ wa, wa = w.alloc (.cells #[.int .i64 18, .int .i64 (ka : Int), .int .i64 (kb : Int), .int .i64 c] 60) := ⟨_, rfl⟩
  have hbl : Below w.heap.size w wa := by rw [hwa]; exact (Below.refl _ _).alloc (Nat.le_refl _) _
  have HX : Hid (Blk wa w.heap.size 60 [.int .i64 18, .int .i64 (ka : Int), .int .i64 (kb : Int), .int .i64 c]) := by show Blk _ _ _ _; rw [hwa]; exact Blk.alloc _ _ _
  have HM := hide2 (h.under hbl)
  have x0 := HX.out.cell (j := 0) rfl
  have x1 := HX.out.cell (j := 1) rfl
  have x2 := HX.out.cell (j := 2) rfl
  have x3 := HX.out.cell (j := 3) rfl
  clear h hbl
  go_enter Tryz.func56, Tryz.ntmps56
  go_upto_region 1 with (fail)
  rw [← hwa]
  clear hwa
  go_wp2_with (go_at_call 84; refine (doStore_any F wB wa G vo vn S 18 c 1 ka kb HM.out hka hkb).mono ?_; rintro e1 w1 ⟨rfl, G2, vn2, hm1⟩; have HM1 := hide2 hm1; clear hm1)
  go_end0
  exact ⟨rfl, G2, vo, vn2, HM1.out⟩

set_option maxRecDepth 100000 in
set_option maxHeartbeats 3200000 in
theorem do_move (F : MFix) (wB w : World) (G : GSt) (vo vn : Value) (S : MS) (ka kb kc : Nat) (h : MRep F wB w G vo vn S) (hka : ka < 8) (hkb : kb < 8) (hkc : kc < 8) :
    Calls Tryz.prog 56 #[.pointer (some ⟨F.mb, 0, none⟩), .agg #[.int .i64 19, .int .i64 (ka : Int), .int .i64 (kb : Int), .int .i64 (kc : Int)]] w fun e w' => e = .returned (.tuple #[]) ∧ ∃ G' vo' vn', MRep F wB w' G' vo' vn' (dMove S ka kb kc) := by
  obtain ⟨wa, hwa⟩ : ∃ wa, wa = w.alloc (.cells #[.int .i64 19, .int .i64 (ka : Int), .int .i64 (kb : Int), .int .i64 (kc : Int)] 60) := ⟨_, rfl⟩
  have hbl : Below w.heap.size w wa := by rw [hwa]; exact (Below.refl _ _).alloc (Nat.le_refl _) _
  have HX : Hid (Blk wa w.heap.size 60 [.int .i64 19, .int .i64 (ka : Int), .int .i64 (kb : Int), .int .i64 (kc : Int)]) := by show Blk _ _ _ _; rw [hwa]; exact Blk.alloc _ _ _
  have HM := hide2 (h.under hbl)
  have x0 := HX.out.cell (j := 0) rfl
  have x1 := HX.out.cell (j := 1) rfl
  have x2 := HX.out.cell (j := 2) rfl
  have x3 := HX.out.cell (j := 3) rfl
  clear h hbl
  go_enter Tryz.func56, Tryz.ntmps56
  go_upto_region 1 with (fail)
  rw [← hwa]
  clear hwa
  go_wp2_with (go_at_call 85; refine (doMove_any F wB wa G vo vn S 19 ka kb kc HM.out hka hkb hkc).mono ?_; rintro e1 w1 ⟨rfl, G2, vn2, hm1⟩; have HM1 := hide2 hm1; clear hm1)
  go_end0
  exact ⟨rfl, G2, vo, vn2, HM1.out⟩
end Go.Proofs.YtjikemhmnkckcabGreat
/- The program's machine: an instruction that sets a register, or puts a byte out. -/
namespace Go.Proofs.YtjikemhmnkckcabGreat
open Go.RowKit
attribute [local go_sem ↓] Go.wp_at_zero Go.wp_at_succ

theorem hearV_bd (inp : ByteArray) (n : Nat) : -1 ≤ hearV inp n ∧ hearV inp n ≤ 255 := by
  unfold hearV
  split
  · have := byteAt_bd inp n; omega
  · omega

theorem sumV_bd (op b c : Int) : -9223372036854775808 ≤ sumV op b c ∧ sumV op b c ≤ 9223372036854775807 := by
  unfold sumV
  have h1 := wrap64_i64 (b + c)
  have h2 := wrap64_i64 (b - c)
  repeat' split
  all_goals omega

set_option maxRecDepth 100000 in
set_option maxHeartbeats 3200000 in
theorem do_in (F : MFix) (wB w : World) (G : GSt) (vo vn : Value) (S : MS) (ka : Nat) (b c : Int) (h : MRep F wB w G vo vn S) (hka : ka < 8) (hi : (F.inp.size : Int) ≤ 9223372036854775807) :
    Calls Tryz.prog 56 #[.pointer (some ⟨F.mb, 0, none⟩), .agg #[.int .i64 8, .int .i64 (ka : Int), .int .i64 b, .int .i64 c]] w fun e w' => e = .returned (.tuple #[]) ∧ ∃ G' vo' vn', MRep F wB w' G' vo' vn' ((S.hears F.inp).reg ka (hearV F.inp S.heard)) := by
  obtain ⟨wa, hwa⟩ : ∃ wa, wa = w.alloc (.cells #[.int .i64 8, .int .i64 (ka : Int), .int .i64 b, .int .i64 c] 60) := ⟨_, rfl⟩
  have hbl : Below w.heap.size w wa := by rw [hwa]; exact (Below.refl _ _).alloc (Nat.le_refl _) _
  have HX : Hid (Blk wa w.heap.size 60 [.int .i64 8, .int .i64 (ka : Int), .int .i64 b, .int .i64 c]) := by show Blk _ _ _ _; rw [hwa]; exact Blk.alloc _ _ _
  have HM := hide2 (h.under hbl)
  have hxmb : w.heap.size ≠ F.mb := by have := h.blk.lt; omega
  have hkI : (ka : Int) < 8 := by omega
  have x0 := HX.out.cell (j := 0) rfl
  have hub := hearV_bd F.inp S.heard
  clear h hbl
  go_enter Tryz.func56, Tryz.ntmps56
  go_upto_region 1 with (fail)
  rw [← hwa]
  clear hwa
  go_upto_region 15 with (go_at_call 78; refine (HM.out.hearing hi).mono ?_; rintro e1 w1 ⟨rfl, hm1, hk1⟩; have HM1 := hide2 hm1; have HX1 := hide2 (HX.out.kept hk1 hxmb); clear hm1 hk1)
  generalize hv : hearV F.inp S.heard = u at *
  clear x0 HM HX
  have x1 := HX1.out.cell (j := 1) rfl
  have ra := m_reg HM1.out.blk HM1.out.r8 ka hka
  have raf := HM1.out.blk.frozen (2 + ka)
  go_wp2
  go_region
  go_end0
  refine ⟨rfl, G, vo, vn, ?_⟩
  rw [hv]
  exact (HM1.out.setReg ka hka u (by omega) (by omega)).under ((Below.refl _ _).drew)

set_option maxRecDepth 100000 in
set_option maxHeartbeats 3200000 in
theorem do_set (F : MFix) (wB w : World) (G : GSt) (vo vn : Value) (S : MS) (ka : Nat) (b c : Int) (h : MRep F wB w G vo vn S) (hka : ka < 8) (b0 : 0 ≤ b) (b1 : b ≤ 255) (c0 : 0 ≤ c) (c1 : c ≤ 255) :
    Calls Tryz.prog 56 #[.pointer (some ⟨F.mb, 0, none⟩), .agg #[.int .i64 1, .int .i64 (ka : Int), .int .i64 b, .int .i64 c]] w fun e w' => e = .returned (.tuple #[]) ∧ ∃ G' vo' vn', MRep F wB w' G' vo' vn' (S.reg ka (256 * b + c)) := by
  obtain ⟨wa, hwa⟩ : ∃ wa, wa = w.alloc (.cells #[.int .i64 1, .int .i64 (ka : Int), .int .i64 b, .int .i64 c] 60) := ⟨_, rfl⟩
  have hbl : Below w.heap.size w wa := by rw [hwa]; exact (Below.refl _ _).alloc (Nat.le_refl _) _
  have HX : Hid (Blk wa w.heap.size 60 [.int .i64 1, .int .i64 (ka : Int), .int .i64 b, .int .i64 c]) := by show Blk _ _ _ _; rw [hwa]; exact Blk.alloc _ _ _
  have HM := hide2 (h.under hbl)
  have hkI : (ka : Int) < 8 := by omega
  have x0 := HX.out.cell (j := 0) rfl
  have x1 := HX.out.cell (j := 1) rfl
  have x2 := HX.out.cell (j := 2) rfl
  have x3 := HX.out.cell (j := 3) rfl
  have ra := m_reg HM.out.blk HM.out.r8 ka hka
  have raf := HM.out.blk.frozen (2 + ka)
  have hu : -9223372036854775808 ≤ 256 * b + c ∧ 256 * b + c ≤ 9223372036854775807 := by omega
  obtain ⟨u, HU⟩ : ∃ u, Hid (256 * b + c = u) := ⟨_, hide2 rfl⟩
  rw [HU.out] at hu
  rw [HU.out]
  have HC : ∀ wx, wx = wa.drew → Calls Tryz.prog 77 #[.pointer (some ⟨F.mb, 0, none⟩), .agg #[.int .i64 1, .int .i64 (ka : Int), .int .i64 b, .int .i64 c]] wx fun e w' => e = .returned (.int .i64 u) ∧ Below wx.heap.size wx w' := by
    rintro wx rfl
    rw [← HU.out]
    exact result_set F.mb (ka : Int) b c _ b0 b1 c0 c1
  replace HC := hide2 HC
  clear h hbl
  go_enter Tryz.func56, Tryz.ntmps56
  go_upto_region 1 with (fail)
  rw [← hwa]
  clear hwa
  go_upto_region 12 with (fail)
  go_region_with (go_at_call 77; refine (HC.out _ rfl).mono ?_; rintro e1 w1 ⟨rfl, hb1⟩; have HM1 := hide2 ((HM.out.under ((Below.refl _ _).drew)).under hb1); have y1 : w1.cell? ⟨w.heap.size, 1, none⟩ = some (.int .i64 (ka : Int)) := (hb1.cell (p := ⟨w.heap.size, 1, none⟩) HX.out.lt).trans x1; clear hb1; have ra1 := m_reg HM1.out.blk HM1.out.r8 ka hka; have raf1 := HM1.out.blk.frozen (2 + ka))
  all_goals go_end0
  all_goals exact ⟨rfl, G, vo, vn, HM1.out.setReg ka hka u hu.1 hu.2⟩

set_option maxRecDepth 100000 in
set_option maxHeartbeats 3200000 in
theorem do_base (F : MFix) (wB w : World) (G : GSt) (vo vn : Value) (S : MS) (ka : Nat) (b c : Int) (h : MRep F wB w G vo vn S) (hka : ka < 8) (b0 : 0 ≤ b) (b1 : b ≤ 255) (c0 : 0 ≤ c) (c1 : c ≤ 255) :
    Calls Tryz.prog 56 #[.pointer (some ⟨F.mb, 0, none⟩), .agg #[.int .i64 10, .int .i64 (ka : Int), .int .i64 b, .int .i64 c]] w fun e w' => e = .returned (.tuple #[]) ∧ ∃ G' vo' vn', MRep F wB w' G' vo' vn' (S.reg ka (16 + 256 * b + c)) := by
  obtain ⟨wa, hwa⟩ : ∃ wa, wa = w.alloc (.cells #[.int .i64 10, .int .i64 (ka : Int), .int .i64 b, .int .i64 c] 60) := ⟨_, rfl⟩
  have hbl : Below w.heap.size w wa := by rw [hwa]; exact (Below.refl _ _).alloc (Nat.le_refl _) _
  have HX : Hid (Blk wa w.heap.size 60 [.int .i64 10, .int .i64 (ka : Int), .int .i64 b, .int .i64 c]) := by show Blk _ _ _ _; rw [hwa]; exact Blk.alloc _ _ _
  have HM := hide2 (h.under hbl)
  have hkI : (ka : Int) < 8 := by omega
  have x0 := HX.out.cell (j := 0) rfl
  have x1 := HX.out.cell (j := 1) rfl
  have x2 := HX.out.cell (j := 2) rfl
  have x3 := HX.out.cell (j := 3) rfl
  have ra := m_reg HM.out.blk HM.out.r8 ka hka
  have raf := HM.out.blk.frozen (2 + ka)
  have hu : -9223372036854775808 ≤ 16 + 256 * b + c ∧ 16 + 256 * b + c ≤ 9223372036854775807 := by omega
  obtain ⟨u, HU⟩ : ∃ u, Hid (16 + 256 * b + c = u) := ⟨_, hide2 rfl⟩
  rw [HU.out] at hu
  rw [HU.out]
  have HC : ∀ wx, wx = wa.drew → Calls Tryz.prog 77 #[.pointer (some ⟨F.mb, 0, none⟩), .agg #[.int .i64 10, .int .i64 (ka : Int), .int .i64 b, .int .i64 c]] wx fun e w' => e = .returned (.int .i64 u) ∧ Below wx.heap.size wx w' := by
    rintro wx rfl
    rw [← HU.out]
    exact result_base F.mb (ka : Int) b c _ b0 b1 c0 c1
  replace HC := hide2 HC
  clear h hbl
  go_enter Tryz.func56, Tryz.ntmps56
  go_upto_region 1 with (fail)
  rw [← hwa]
  clear hwa
  go_upto_region 12 with (fail)
  go_region_with (go_at_call 77; refine (HC.out _ rfl).mono ?_; rintro e1 w1 ⟨rfl, hb1⟩; have HM1 := hide2 ((HM.out.under ((Below.refl _ _).drew)).under hb1); have y1 : w1.cell? ⟨w.heap.size, 1, none⟩ = some (.int .i64 (ka : Int)) := (hb1.cell (p := ⟨w.heap.size, 1, none⟩) HX.out.lt).trans x1; clear hb1; have ra1 := m_reg HM1.out.blk HM1.out.r8 ka hka; have raf1 := HM1.out.blk.frozen (2 + ka))
  all_goals go_end0
  all_goals exact ⟨rfl, G, vo, vn, HM1.out.setReg ka hka u hu.1 hu.2⟩

set_option maxRecDepth 100000 in
set_option maxHeartbeats 3200000 in
theorem do_add (F : MFix) (wB w : World) (G : GSt) (vo vn : Value) (S : MS) (ka : Nat) (kb kc : Nat) (h : MRep F wB w G vo vn S) (hka : ka < 8) (hkb : kb < 8) (hkc : kc < 8) :
    Calls Tryz.prog 56 #[.pointer (some ⟨F.mb, 0, none⟩), .agg #[.int .i64 2, .int .i64 (ka : Int), .int .i64 (kb : Int), .int .i64 (kc : Int)]] w fun e w' => e = .returned (.tuple #[]) ∧ ∃ G' vo' vn', MRep F wB w' G' vo' vn' (S.reg ka (sumV 2 (rg S.r kb) (rg S.r kc))) := by
  obtain ⟨wa, hwa⟩ : ∃ wa, wa = w.alloc (.cells #[.int .i64 2, .int .i64 (ka : Int), .int .i64 (kb : Int), .int .i64 (kc : Int)] 60) := ⟨_, rfl⟩
  have hbl : Below w.heap.size w wa := by rw [hwa]; exact (Below.refl _ _).alloc (Nat.le_refl _) _
  have HX : Hid (Blk wa w.heap.size 60 [.int .i64 2, .int .i64 (ka : Int), .int .i64 (kb : Int), .int .i64 (kc : Int)]) := by show Blk _ _ _ _; rw [hwa]; exact Blk.alloc _ _ _
  have HM := hide2 (h.under hbl)
  have hkI : (ka : Int) < 8 := by omega
  have x0 := HX.out.cell (j := 0) rfl
  have x1 := HX.out.cell (j := 1) rfl
  have x2 := HX.out.cell (j := 2) rfl
  have x3 := HX.out.cell (j := 3) rfl
  have ra := m_reg HM.out.blk HM.out.r8 ka hka
  have raf := HM.out.blk.frozen (2 + ka)
  have hu : -9223372036854775808 ≤ sumV 2 (rg S.r kb) (rg S.r kc) ∧ sumV 2 (rg S.r kb) (rg S.r kc) ≤ 9223372036854775807 := sumV_bd _ _ _
  obtain ⟨u, HU⟩ : ∃ u, Hid (sumV 2 (rg S.r kb) (rg S.r kc) = u) := ⟨_, hide2 rfl⟩
  rw [HU.out] at hu
  rw [HU.out]
  have HC : ∀ wx, wx = wa.drew → Calls Tryz.prog 77 #[.pointer (some ⟨F.mb, 0, none⟩), .agg #[.int .i64 2, .int .i64 (ka : Int), .int .i64 (kb : Int), .int .i64 (kc : Int)]] wx fun e w' => e = .returned (.int .i64 u) ∧ Below wx.heap.size wx w' := by
    rintro wx rfl
    rw [← HU.out]
    exact result_sum F.mb _ _ S.r F.inp _ _ _ vo _ _ _ _ _ _ 2 (ka : Int) kb kc _ (HM.out.under ((Below.refl _ _).drew)).blk HM.out.r8 hkb hkc (by omega)
  replace HC := hide2 HC
  clear h hbl
  go_enter Tryz.func56, Tryz.ntmps56
  go_upto_region 1 with (fail)
  rw [← hwa]
  clear hwa
  go_upto_region 12 with (fail)
  go_region_with (go_at_call 77; refine (HC.out _ rfl).mono ?_; rintro e1 w1 ⟨rfl, hb1⟩; have HM1 := hide2 ((HM.out.under ((Below.refl _ _).drew)).under hb1); have y1 : w1.cell? ⟨w.heap.size, 1, none⟩ = some (.int .i64 (ka : Int)) := (hb1.cell (p := ⟨w.heap.size, 1, none⟩) HX.out.lt).trans x1; clear hb1; have ra1 := m_reg HM1.out.blk HM1.out.r8 ka hka; have raf1 := HM1.out.blk.frozen (2 + ka))
  all_goals go_end0
  all_goals exact ⟨rfl, G, vo, vn, HM1.out.setReg ka hka u hu.1 hu.2⟩

set_option maxRecDepth 100000 in
set_option maxHeartbeats 3200000 in
theorem do_sub (F : MFix) (wB w : World) (G : GSt) (vo vn : Value) (S : MS) (ka : Nat) (kb kc : Nat) (h : MRep F wB w G vo vn S) (hka : ka < 8) (hkb : kb < 8) (hkc : kc < 8) :
    Calls Tryz.prog 56 #[.pointer (some ⟨F.mb, 0, none⟩), .agg #[.int .i64 3, .int .i64 (ka : Int), .int .i64 (kb : Int), .int .i64 (kc : Int)]] w fun e w' => e = .returned (.tuple #[]) ∧ ∃ G' vo' vn', MRep F wB w' G' vo' vn' (S.reg ka (sumV 3 (rg S.r kb) (rg S.r kc))) := by
  obtain ⟨wa, hwa⟩ : ∃ wa, wa = w.alloc (.cells #[.int .i64 3, .int .i64 (ka : Int), .int .i64 (kb : Int), .int .i64 (kc : Int)] 60) := ⟨_, rfl⟩
  have hbl : Below w.heap.size w wa := by rw [hwa]; exact (Below.refl _ _).alloc (Nat.le_refl _) _
  have HX : Hid (Blk wa w.heap.size 60 [.int .i64 3, .int .i64 (ka : Int), .int .i64 (kb : Int), .int .i64 (kc : Int)]) := by show Blk _ _ _ _; rw [hwa]; exact Blk.alloc _ _ _
  have HM := hide2 (h.under hbl)
  have hkI : (ka : Int) < 8 := by omega
  have x0 := HX.out.cell (j := 0) rfl
  have x1 := HX.out.cell (j := 1) rfl
  have x2 := HX.out.cell (j := 2) rfl
  have x3 := HX.out.cell (j := 3) rfl
  have ra := m_reg HM.out.blk HM.out.r8 ka hka
  have raf := HM.out.blk.frozen (2 + ka)
  have hu : -9223372036854775808 ≤ sumV 3 (rg S.r kb) (rg S.r kc) ∧ sumV 3 (rg S.r kb) (rg S.r kc) ≤ 9223372036854775807 := sumV_bd _ _ _
  obtain ⟨u, HU⟩ : ∃ u, Hid (sumV 3 (rg S.r kb) (rg S.r kc) = u) := ⟨_, hide2 rfl⟩
  rw [HU.out] at hu
  rw [HU.out]
  have HC : ∀ wx, wx = wa.drew → Calls Tryz.prog 77 #[.pointer (some ⟨F.mb, 0, none⟩), .agg #[.int .i64 3, .int .i64 (ka : Int), .int .i64 (kb : Int), .int .i64 (kc : Int)]] wx fun e w' => e = .returned (.int .i64 u) ∧ Below wx.heap.size wx w' := by
    rintro wx rfl
    rw [← HU.out]
    exact result_sum F.mb _ _ S.r F.inp _ _ _ vo _ _ _ _ _ _ 3 (ka : Int) kb kc _ (HM.out.under ((Below.refl _ _).drew)).blk HM.out.r8 hkb hkc (by omega)
  replace HC := hide2 HC
  clear h hbl
  go_enter Tryz.func56, Tryz.ntmps56
  go_upto_region 1 with (fail)
  rw [← hwa]
  clear hwa
  go_upto_region 12 with (fail)
  go_region_with (go_at_call 77; refine (HC.out _ rfl).mono ?_; rintro e1 w1 ⟨rfl, hb1⟩; have HM1 := hide2 ((HM.out.under ((Below.refl _ _).drew)).under hb1); have y1 : w1.cell? ⟨w.heap.size, 1, none⟩ = some (.int .i64 (ka : Int)) := (hb1.cell (p := ⟨w.heap.size, 1, none⟩) HX.out.lt).trans x1; clear hb1; have ra1 := m_reg HM1.out.blk HM1.out.r8 ka hka; have raf1 := HM1.out.blk.frozen (2 + ka))
  all_goals go_end0
  all_goals exact ⟨rfl, G, vo, vn, HM1.out.setReg ka hka u hu.1 hu.2⟩

set_option maxRecDepth 100000 in
set_option maxHeartbeats 3200000 in
theorem do_less (F : MFix) (wB w : World) (G : GSt) (vo vn : Value) (S : MS) (ka : Nat) (kb kc : Nat) (h : MRep F wB w G vo vn S) (hka : ka < 8) (hkb : kb < 8) (hkc : kc < 8) :
    Calls Tryz.prog 56 #[.pointer (some ⟨F.mb, 0, none⟩), .agg #[.int .i64 4, .int .i64 (ka : Int), .int .i64 (kb : Int), .int .i64 (kc : Int)]] w fun e w' => e = .returned (.tuple #[]) ∧ ∃ G' vo' vn', MRep F wB w' G' vo' vn' (S.reg ka (sumV 4 (rg S.r kb) (rg S.r kc))) := by
  obtain ⟨wa, hwa⟩ : ∃ wa, wa = w.alloc (.cells #[.int .i64 4, .int .i64 (ka : Int), .int .i64 (kb : Int), .int .i64 (kc : Int)] 60) := ⟨_, rfl⟩
  have hbl : Below w.heap.size w wa := by rw [hwa]; exact (Below.refl _ _).alloc (Nat.le_refl _) _
  have HX : Hid (Blk wa w.heap.size 60 [.int .i64 4, .int .i64 (ka : Int), .int .i64 (kb : Int), .int .i64 (kc : Int)]) := by show Blk _ _ _ _; rw [hwa]; exact Blk.alloc _ _ _
  have HM := hide2 (h.under hbl)
  have hkI : (ka : Int) < 8 := by omega
  have x0 := HX.out.cell (j := 0) rfl
  have x1 := HX.out.cell (j := 1) rfl
  have x2 := HX.out.cell (j := 2) rfl
  have x3 := HX.out.cell (j := 3) rfl
  have ra := m_reg HM.out.blk HM.out.r8 ka hka
  have raf := HM.out.blk.frozen (2 + ka)
  have hu : -9223372036854775808 ≤ sumV 4 (rg S.r kb) (rg S.r kc) ∧ sumV 4 (rg S.r kb) (rg S.r kc) ≤ 9223372036854775807 := sumV_bd _ _ _
  obtain ⟨u, HU⟩ : ∃ u, Hid (sumV 4 (rg S.r kb) (rg S.r kc) = u) := ⟨_, hide2 rfl⟩
  rw [HU.out] at hu
  rw [HU.out]
  have HC : ∀ wx, wx = wa.drew → Calls Tryz.prog 77 #[.pointer (some ⟨F.mb, 0, none⟩), .agg #[.int .i64 4, .int .i64 (ka : Int), .int .i64 (kb : Int), .int .i64 (kc : Int)]] wx fun e w' => e = .returned (.int .i64 u) ∧ Below wx.heap.size wx w' := by
    rintro wx rfl
    rw [← HU.out]
    exact result_sum F.mb _ _ S.r F.inp _ _ _ vo _ _ _ _ _ _ 4 (ka : Int) kb kc _ (HM.out.under ((Below.refl _ _).drew)).blk HM.out.r8 hkb hkc (by omega)
  replace HC := hide2 HC
  clear h hbl
  go_enter Tryz.func56, Tryz.ntmps56
  go_upto_region 1 with (fail)
  rw [← hwa]
  clear hwa
  go_upto_region 12 with (fail)
  go_region_with (go_at_call 77; refine (HC.out _ rfl).mono ?_; rintro e1 w1 ⟨rfl, hb1⟩; have HM1 := hide2 ((HM.out.under ((Below.refl _ _).drew)).under hb1); have y1 : w1.cell? ⟨w.heap.size, 1, none⟩ = some (.int .i64 (ka : Int)) := (hb1.cell (p := ⟨w.heap.size, 1, none⟩) HX.out.lt).trans x1; clear hb1; have ra1 := m_reg HM1.out.blk HM1.out.r8 ka hka; have raf1 := HM1.out.blk.frozen (2 + ka))
  all_goals go_end0
  all_goals exact ⟨rfl, G, vo, vn, HM1.out.setReg ka hka u hu.1 hu.2⟩

set_option maxRecDepth 100000 in
set_option maxHeartbeats 3200000 in
theorem do_same (F : MFix) (wB w : World) (G : GSt) (vo vn : Value) (S : MS) (ka : Nat) (kb kc : Nat) (h : MRep F wB w G vo vn S) (hka : ka < 8) (hkb : kb < 8) (hkc : kc < 8) :
    Calls Tryz.prog 56 #[.pointer (some ⟨F.mb, 0, none⟩), .agg #[.int .i64 5, .int .i64 (ka : Int), .int .i64 (kb : Int), .int .i64 (kc : Int)]] w fun e w' => e = .returned (.tuple #[]) ∧ ∃ G' vo' vn', MRep F wB w' G' vo' vn' (S.reg ka (sumV 5 (rg S.r kb) (rg S.r kc))) := by
  obtain ⟨wa, hwa⟩ : ∃ wa, wa = w.alloc (.cells #[.int .i64 5, .int .i64 (ka : Int), .int .i64 (kb : Int), .int .i64 (kc : Int)] 60) := ⟨_, rfl⟩
  have hbl : Below w.heap.size w wa := by rw [hwa]; exact (Below.refl _ _).alloc (Nat.le_refl _) _
  have HX : Hid (Blk wa w.heap.size 60 [.int .i64 5, .int .i64 (ka : Int), .int .i64 (kb : Int), .int .i64 (kc : Int)]) := by show Blk _ _ _ _; rw [hwa]; exact Blk.alloc _ _ _
  have HM := hide2 (h.under hbl)
  have hkI : (ka : Int) < 8 := by omega
  have x0 := HX.out.cell (j := 0) rfl
  have x1 := HX.out.cell (j := 1) rfl
  have x2 := HX.out.cell (j := 2) rfl
  have x3 := HX.out.cell (j := 3) rfl
  have ra := m_reg HM.out.blk HM.out.r8 ka hka
  have raf := HM.out.blk.frozen (2 + ka)
  have hu : -9223372036854775808 ≤ sumV 5 (rg S.r kb) (rg S.r kc) ∧ sumV 5 (rg S.r kb) (rg S.r kc) ≤ 9223372036854775807 := sumV_bd _ _ _
  obtain ⟨u, HU⟩ : ∃ u, Hid (sumV 5 (rg S.r kb) (rg S.r kc) = u) := ⟨_, hide2 rfl⟩
  rw [HU.out] at hu
  rw [HU.out]
  have HC : ∀ wx, wx = wa.drew → Calls Tryz.prog 77 #[.pointer (some ⟨F.mb, 0, none⟩), .agg #[.int .i64 5, .int .i64 (ka : Int), .int .i64 (kb : Int), .int .i64 (kc : Int)]] wx fun e w' => e = .returned (.int .i64 u) ∧ Below wx.heap.size wx w' := by
    rintro wx rfl
    rw [← HU.out]
    exact result_sum F.mb _ _ S.r F.inp _ _ _ vo _ _ _ _ _ _ 5 (ka : Int) kb kc _ (HM.out.under ((Below.refl _ _).drew)).blk HM.out.r8 hkb hkc (by omega)
  replace HC := hide2 HC
  clear h hbl
  go_enter Tryz.func56, Tryz.ntmps56
  go_upto_region 1 with (fail)
  rw [← hwa]
  clear hwa
  go_upto_region 12 with (fail)
  go_region_with (go_at_call 77; refine (HC.out _ rfl).mono ?_; rintro e1 w1 ⟨rfl, hb1⟩; have HM1 := hide2 ((HM.out.under ((Below.refl _ _).drew)).under hb1); have y1 : w1.cell? ⟨w.heap.size, 1, none⟩ = some (.int .i64 (ka : Int)) := (hb1.cell (p := ⟨w.heap.size, 1, none⟩) HX.out.lt).trans x1; clear hb1; have ra1 := m_reg HM1.out.blk HM1.out.r8 ka hka; have raf1 := HM1.out.blk.frozen (2 + ka))
  all_goals go_end0
  all_goals exact ⟨rfl, G, vo, vn, HM1.out.setReg ka hka u hu.1 hu.2⟩
end Go.Proofs.YtjikemhmnkckcabGreat
