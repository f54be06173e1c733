import Derived.Test.YtjikemhmnkckcabGreatJ48
import Derived.Test.YtjikemhmnkckcabGreatJ50
import Derived.Test.YtjikemhmnkckcabGreatJ51
import Derived.Test.YtjikemhmnkckcabGreatJ52
import Derived.Test.YtjikemhmnkckcabGreatJ46
import Derived.Deep.MidRow
/- The document's machine: In, Out; any instruction (written by gendoc.py). -/
namespace Go.Proofs.YtjikemhmnkckcabGreat
open Go.RowKit
attribute [local go_sem ↓] Go.wp_at_zero Go.wp_at_succ

set_option maxRecDepth 100000 in
set_option maxHeartbeats 3200000 in
theorem sdo_in (F : SFix) (wB w : World) (vl vm vn : Value) (da : Option Addr) (dcap : Nat) (S : MS) (ka : Nat) (b c : Int) (h : SRep F wB w vl vm vn da dcap S) (hka : ka < 8) (hi : (F.inp.size : Int) ≤ 9223372036854775807) :
    Calls Tryz.prog 20 #[.pointer (some ⟨F.sb, 0, none⟩), .agg #[.int .i64 8, .int .i64 (ka : Int), .int .i64 b, .int .i64 c]] w fun e w' => e = .returned (.tuple #[]) ∧ SDone F wB w' ((S.hears F.inp).reg ka (hearV F.inp S.heard)) := by
  obtain ⟨wa, hwa⟩ : ∃ wa, wa = w.alloc (.cells #[.int .i64 8, .int .i64 (ka : Int), .int .i64 b, .int .i64 c] 60) := ⟨_, rfl⟩
  have hbl : Below w.heap.size w wa := by rw [hwa]; exact (Below.refl _ _).alloc (Nat.le_refl _) _
  have HX : Hid (Blk wa w.heap.size 60 [.int .i64 8, .int .i64 (ka : Int), .int .i64 b, .int .i64 c]) := by show Blk _ _ _ _; rw [hwa]; exact Blk.alloc _ _ _
  have HM := hide2 (h.under hbl)
  have hxsb : w.heap.size ≠ F.sb := by have := h.blk.lt; omega
  have kaI : (ka : Int) < 8 := by omega
  have x0 := HX.out.cell (j := 0) rfl
  have c14 := HM.out.c14
  have hhl := h.hl
  clear h hbl
  go_enter Tryz.func20, Tryz.ntmps20
  go_upto_region 1 with (fail)
  rw [← hwa]
  clear hwa
  by_cases hk : S.heard < F.inp.size
  · have HK := hide2 hk
    have HE : Hid ((S.hears F.inp).reg ka (hearV F.inp S.heard) = (S.reg ka (byteAt F.inp S.heard)).hears F.inp) := by show _ = _; unfold hearV; rw [if_pos hk]; rfl
    have HNX := hide2 (inpFrom_next F.inp S.heard)
    have hsz := inpFrom_size F.inp S.heard
    have h0 : 0 < (inpFrom F.inp S.heard).size := by omega
    have HHD := hide2 (inpFrom_head F.inp S.heard hk h0)
    have HWV : Hid (wrap64 (((inpFrom F.inp S.heard)[0]'h0).toNat : Int) = byteAt F.inp S.heard) := by show _ = _; rw [HHD.out]; have := byteAt_bd F.inp S.heard; unfold wrap64; omega
    have hbb := byteAt_bd F.inp S.heard
    have hne : (inpFrom F.inp S.heard).toList.isEmpty = false := by
      cases he : (inpFrom F.inp S.heard).toList.isEmpty with
      | false => rfl
      | true =>
        rw [ByteArray.toList_eq, List.isEmpty_iff] at he
        have : (inpFrom F.inp S.heard).size = 0 := by rw [← ByteArray.size_data, ← Array.length_toList, he]; rfl
        omega
    have h1 : 1 ≤ (inpFrom F.inp S.heard).size := h0
    have hbig : ((inpFrom F.inp S.heard).size : Int) ≤ 9223372036854775807 := by omega
    generalize hs : inpFrom F.inp S.heard = s at *
    clear hk hsz
    go_upto_region 14 with (fail)
    have x1 := HX.out.cell (j := 1) rfl
    have ra := HM.out.reg ka hka
    have raf := HM.out.blk.frozen (6 + ka)
    go_region
    rw [HWV.out]
    obtain ⟨wb, hwb⟩ : ∃ wb, wb = (wa.setCell ⟨F.sb, 6 + ka, none⟩ (.int .i64 (byteAt F.inp S.heard))).drew := ⟨_, rfl⟩
    rw [← hwb]
    have HM2 : Hid (SRep F wB wb vl vm vn da dcap (S.reg ka (byteAt F.inp S.heard))) := by show SRep _ _ _ _ _ _ _ _ _; rw [hwb]; exact (HM.out.setReg ka hka _ (by omega) (by omega)).under ((Below.refl _ _).drew)
    clear hwb x0 x1 ra raf c14
    have c14 : wb.cell? ⟨F.sb, 14, none⟩ = some (.string s) := HM2.out.c14.trans (by rw [← hs]; rfl)
    have f14 := HM2.out.blk.frozen 14
    go_wp2
    go_end0
    rw [HNX.out]
    exact ⟨rfl, SDone.of (by rw [HE.out]; exact HM2.out.setInp HK.out)⟩
  · have HE : Hid ((S.hears F.inp).reg ka (hearV F.inp S.heard) = S.reg ka (-1)) := by show _ = _; unfold hearV MS.hears hearN; rw [if_neg hk, if_neg hk]
    have hsz := inpFrom_size F.inp S.heard
    have hem : inpFrom F.inp S.heard = ⟨#[]⟩ := by
      apply ByteArray.ext
      apply Array.eq_empty_of_size_eq_zero
      show (inpFrom F.inp S.heard).size = 0
      omega
    rw [hem] at c14
    clear hk hsz hem
    have x1 := HX.out.cell (j := 1) rfl
    have ra := HM.out.reg ka hka
    have raf := HM.out.blk.frozen (6 + ka)
    go_upto_region 13 with (fail)
    go_region
    all_goals go_end0
    all_goals exact ⟨rfl, SDone.of (by rw [HE.out]; exact (HM.out.setReg ka hka (-1) (by omega) (by omega)).under ((Below.refl _ _).drew))⟩

set_option maxRecDepth 100000 in
set_option maxHeartbeats 3200000 in
theorem sdo_out (F : SFix) (wB w : World) (vl vm vn : Value) (da : Option Addr) (dcap : Nat) (S : MS) (ka : Nat) (b c : Int) (h : SRep F wB w vl vm vn da dcap S) (hka : ka < 8) (ho : S.out.size ≤ 1048576) :
    Calls Tryz.prog 20 #[.pointer (some ⟨F.sb, 0, none⟩), .agg #[.int .i64 9, .int .i64 (ka : Int), .int .i64 b, .int .i64 c]] w fun e w' => e = .returned (.tuple #[]) ∧ SDone F wB w' (dOut S ka) := by
  obtain ⟨wa, hwa⟩ : ∃ wa, wa = w.alloc (.cells #[.int .i64 9, .int .i64 (ka : Int), .int .i64 b, .int .i64 c] 60) := ⟨_, rfl⟩
  have hbl : Below w.heap.size w wa := by rw [hwa]; exact (Below.refl _ _).alloc (Nat.le_refl _) _
  have HX : Hid (Blk wa w.heap.size 60 [.int .i64 9, .int .i64 (ka : Int), .int .i64 b, .int .i64 c]) := by show Blk _ _ _ _; rw [hwa]; exact Blk.alloc _ _ _
  have HM := hide2 (h.under hbl)
  have hxsb : w.heap.size ≠ F.sb := by have := h.blk.lt; omega
  have kaI : (ka : Int) < 8 := by omega
  have x0 := HX.out.cell (j := 0) rfl
  have x1 := HX.out.cell (j := 1) rfl
  have c22 := HM.out.c22
  have f22 := HM.out.blk.frozen 22
  have ra := HM.out.reg ka hka
  have hsl := HM.out.blk.lt
  have hol := HX.out.lt
  have hroom : ¬ (9223372036854775807 < S.out.size + 1) := by omega
  generalize hq : rg S.r ka = q at *
  have HE : Hid (dOut S ka = S.says (S.out ++ bOne (q % 256))) := by show _ = _; unfold dOut; rw [hq]
  have HB1 : Hid ((bOne (q % 256)).size = 1) := bOne_size _
  clear h hbl
  go_enter Tryz.func20, Tryz.ntmps20
  go_upto_region 1 with (fail)
  rw [← hwa]
  clear hwa
  go_upto_region 17 with (fail)
  go_region_with (go_at_call 33; refine (one_wide q _).mono ?_; rintro e1 w1 ⟨rfl, hb1⟩; have k22 : w1.cell? ⟨F.sb, 22, none⟩ = some (.string S.out) := (hb1.cell (p := ⟨F.sb, 22, none⟩) hsl).trans c22; have HM1 := hide2 ((HM.out.under ((Below.refl _ _).drew)).under hb1); clear hb1; have kf22 := HM1.out.blk.frozen 22; generalize bOne (q % 256) = ob at *; have hroom2 : ¬ (9223372036854775807 < S.out.size + ob.size) := (by rw [HB1.out]; exact hroom))
  all_goals go_end0
  all_goals exact ⟨rfl, SDone.of (by rw [HE.out]; exact HM1.out.setOut _)⟩

set_option maxRecDepth 100000 in
set_option maxHeartbeats 3200000 in
theorem sdo_malloc (F : SFix) (wB w : World) (vl vm vn : Value) (da : Option Addr) (dcap : Nat) (S : MS) (ka kb : Nat) (c : Int) (h : SRep F wB w vl vm vn da dcap S) (hka : ka < 8) (hkb : kb < 8) (hdn : S.drawn ≤ 1048576) (hL : S.R.log.length ≤ 1048576) (hM : S.R.marks.length ≤ 1099511627776) :
    Calls Tryz.prog 20 #[.pointer (some ⟨F.sb, 0, none⟩), .agg #[.int .i64 11, .int .i64 (ka : Int), .int .i64 (kb : Int), .int .i64 c]] w fun e w' => e = .returned (.tuple #[]) ∧ SDone F wB w' (dMalloc F.ds S ka kb) := by
  obtain ⟨wa, hwa⟩ : ∃ wa, wa = w.alloc (.cells #[.int .i64 11, .int .i64 (ka : Int), .int .i64 (kb : Int), .int .i64 c] 60) := ⟨_, rfl⟩
  have hbl : Below w.heap.size w wa := by rw [hwa]; exact (Below.refl _ _).alloc (Nat.le_refl _) _
  have HX : Hid (Blk wa w.heap.size 60 [.int .i64 11, .int .i64 (ka : Int), .int .i64 (kb : Int), .int .i64 c]) := by show Blk _ _ _ _; rw [hwa]; exact Blk.alloc _ _ _
  have HM := hide2 (h.under hbl)
  have hxsb : w.heap.size ≠ F.sb := by have := h.blk.lt; omega
  have kaI : (ka : Int) < 8 := by omega
  have kbI : (kb : Int) < 8 := by omega
  have x0 := HX.out.cell (j := 0) rfl
  have x1 := HX.out.cell (j := 1) rfl
  have x2 := HX.out.cell (j := 2) rfl
  have x3 := HX.out.cell (j := 3) rfl
  clear h hbl
  go_enter Tryz.func20, Tryz.ntmps20
  go_upto_region 1 with (fail)
  rw [← hwa]
  clear hwa
  go_wp2_with (go_at_call 35; refine (sgive_malloc F wB wa vl vm vn da dcap S ka kb c HM.out hka hkb hdn hL hM).mono ?_; rintro e1 w1 ⟨rfl, hd1⟩; have HD1 := hide2 hd1; clear hd1)
  go_end0
  exact ⟨rfl, HD1.out⟩

set_option maxRecDepth 100000 in
set_option maxHeartbeats 3200000 in
theorem sdo_realloc (F : SFix) (wB w : World) (vl vm vn : Value) (da : Option Addr) (dcap : Nat) (S : MS) (ka kb kc : Nat) (h : SRep F wB w vl vm vn da dcap S) (hka : ka < 8) (hkb : kb < 8) (hkc : kc < 8) (hdn : S.drawn ≤ 1048576) (hL : S.R.log.length ≤ 1048576) (hM : S.R.marks.length ≤ 1099511627776) :
    Calls Tryz.prog 20 #[.pointer (some ⟨F.sb, 0, none⟩), .agg #[.int .i64 13, .int .i64 (ka : Int), .int .i64 (kb : Int), .int .i64 (kc : Int)]] w fun e w' => e = .returned (.tuple #[]) ∧ SDone F wB w' (dRealloc F.ds S ka kb kc) := by
  obtain ⟨wa, hwa⟩ : ∃ wa, wa = w.alloc (.cells #[.int .i64 13, .int .i64 (ka : Int), .int .i64 (kb : Int), .int .i64 (kc : Int)] 60) := ⟨_, rfl⟩
  have hbl : Below w.heap.size w wa := by rw [hwa]; exact (Below.refl _ _).alloc (Nat.le_refl _) _
  have HX : Hid (Blk wa w.heap.size 60 [.int .i64 13, .int .i64 (ka : Int), .int .i64 (kb : Int), .int .i64 (kc : Int)]) := by show Blk _ _ _ _; rw [hwa]; exact Blk.alloc _ _ _
  have HM := hide2 (h.under hbl)
  have hxsb : w.heap.size ≠ F.sb := by have := h.blk.lt; omega
  have kaI : (ka : Int) < 8 := by omega
  have kbI : (kb : Int) < 8 := by omega
  have kcI : (kc : Int) < 8 := by omega
  have x0 := HX.out.cell (j := 0) rfl
  have x1 := HX.out.cell (j := 1) rfl
  have x2 := HX.out.cell (j := 2) rfl
  have x3 := HX.out.cell (j := 3) rfl
  clear h hbl
  go_enter Tryz.func20, Tryz.ntmps20
  go_upto_region 1 with (fail)
  rw [← hwa]
  clear hwa
  go_wp2_with (go_at_call 35; refine (sgive_realloc F wB wa vl vm vn da dcap S ka kb kc HM.out hka hkb hkc hdn hL hM).mono ?_; rintro e1 w1 ⟨rfl, hd1⟩; have HD1 := hide2 hd1; clear hd1)
  go_end0
  exact ⟨rfl, HD1.out⟩

set_option maxRecDepth 100000 in
set_option maxHeartbeats 3200000 in
theorem sdo_load (F : SFix) (wB w : World) (vl vm vn : Value) (da : Option Addr) (dcap : Nat) (S : MS) (ka kb : Nat) (c : Int) (h : SRep F wB w vl vm vn da dcap S) (hka : ka < 8) (hkb : kb < 8) :
    Calls Tryz.prog 20 #[.pointer (some ⟨F.sb, 0, none⟩), .agg #[.int .i64 15, .int .i64 (ka : Int), .int .i64 (kb : Int), .int .i64 c]] w fun e w' => e = .returned (.tuple #[]) ∧ SDone F wB w' (dLoad S ka kb c 8) := by
  obtain ⟨wa, hwa⟩ : ∃ wa, wa = w.alloc (.cells #[.int .i64 15, .int .i64 (ka : Int), .int .i64 (kb : Int), .int .i64 c] 60) := ⟨_, rfl⟩
  have hbl : Below w.heap.size w wa := by rw [hwa]; exact (Below.refl _ _).alloc (Nat.le_refl _) _
  have HX : Hid (Blk wa w.heap.size 60 [.int .i64 15, .int .i64 (ka : Int), .int .i64 (kb : Int), .int .i64 c]) := by show Blk _ _ _ _; rw [hwa]; exact Blk.alloc _ _ _
  have HM := hide2 (h.under hbl)
  have hxsb : w.heap.size ≠ F.sb := by have := h.blk.lt; omega
  have kaI : (ka : Int) < 8 := by omega
  have kbI : (kb : Int) < 8 := by omega
  have x0 := HX.out.cell (j := 0) rfl
  have x1 := HX.out.cell (j := 1) rfl
  have x2 := HX.out.cell (j := 2) rfl
  have x3 := HX.out.cell (j := 3) rfl
  clear h hbl
  go_enter Tryz.func20, Tryz.ntmps20
  go_upto_region 1 with (fail)
  rw [← hwa]
  clear hwa
  go_wp2_with (go_at_call 40; refine (stouch_load F wB wa vl vm vn da dcap S ka kb c HM.out hka hkb).mono ?_; rintro e1 w1 ⟨rfl, hd1⟩; have HD1 := hide2 hd1; clear hd1)
  go_end0
  exact ⟨rfl, HD1.out⟩

set_option maxRecDepth 100000 in
set_option maxHeartbeats 3200000 in
theorem sdo_byte (F : SFix) (wB w : World) (vl vm vn : Value) (da : Option Addr) (dcap : Nat) (S : MS) (ka kb : Nat) (c : Int) (h : SRep F wB w vl vm vn da dcap S) (hka : ka < 8) (hkb : kb < 8) :
    Calls Tryz.prog 20 #[.pointer (some ⟨F.sb, 0, none⟩), .agg #[.int .i64 16, .int .i64 (ka : Int), .int .i64 (kb : Int), .int .i64 c]] w fun e w' => e = .returned (.tuple #[]) ∧ SDone F wB w' (dLoad S ka kb c 1) := by
  obtain ⟨wa, hwa⟩ : ∃ wa, wa = w.alloc (.cells #[.int .i64 16, .int .i64 (ka : Int), .int .i64 (kb : Int), .int .i64 c] 60) := ⟨_, rfl⟩
  have hbl : Below w.heap.size w wa := by rw [hwa]; exact (Below.refl _ _).alloc (Nat.le_refl _) _
  have HX : Hid (Blk wa w.heap.size 60 [.int .i64 16, .int .i64 (ka : Int), .int .i64 (kb : Int), .int .i64 c]) := by show Blk _ _ _ _; rw [hwa]; exact Blk.alloc _ _ _
  have HM := hide2 (h.under hbl)
  have hxsb : w.heap.size ≠ F.sb := by have := h.blk.lt; omega
  have kaI : (ka : Int) < 8 := by omega
  have kbI : (kb : Int) < 8 := by omega
  have x0 := HX.out.cell (j := 0) rfl
  have x1 := HX.out.cell (j := 1) rfl
  have x2 := HX.out.cell (j := 2) rfl
  have x3 := HX.out.cell (j := 3) rfl
  clear h hbl
  go_enter Tryz.func20, Tryz.ntmps20
  go_upto_region 1 with (fail)
  rw [← hwa]
  clear hwa
  go_wp2_with (go_at_call 40; refine (stouch_byte F wB wa vl vm vn da dcap S ka kb c HM.out hka hkb).mono ?_; rintro e1 w1 ⟨rfl, hd1⟩; have HD1 := hide2 hd1; clear hd1)
  go_end0
  exact ⟨rfl, HD1.out⟩

set_option maxRecDepth 100000 in
set_option maxHeartbeats 3200000 in
theorem sdo_store (F : SFix) (wB w : World) (vl vm vn : Value) (da : Option Addr) (dcap : Nat) (S : MS) (ka kb : Nat) (c : Int) (h : SRep F wB w vl vm vn da dcap S) (hka : ka < 8) (hkb : kb < 8) (hL : S.R.log.length ≤ 1048576) (hM : S.R.marks.length ≤ 1099511627776) :
    Calls Tryz.prog 20 #[.pointer (some ⟨F.sb, 0, none⟩), .agg #[.int .i64 17, .int .i64 (ka : Int), .int .i64 (kb : Int), .int .i64 c]] w fun e w' => e = .returned (.tuple #[]) ∧ SDone F wB w' (dStore S ka kb c 8) := by
  obtain ⟨wa, hwa⟩ : ∃ wa, wa = w.alloc (.cells #[.int .i64 17, .int .i64 (ka : Int), .int .i64 (kb : Int), .int .i64 c] 60) := ⟨_, rfl⟩
  have hbl : Below w.heap.size w wa := by rw [hwa]; exact (Below.refl _ _).alloc (Nat.le_refl _) _
  have HX : Hid (Blk wa w.heap.size 60 [.int .i64 17, .int .i64 (ka : Int), .int .i64 (kb : Int), .int .i64 c]) := by show Blk _ _ _ _; rw [hwa]; exact Blk.alloc _ _ _
  have HM := hide2 (h.under hbl)
  have hxsb : w.heap.size ≠ F.sb := by have := h.blk.lt; omega
  have kaI : (ka : Int) < 8 := by omega
  have kbI : (kb : Int) < 8 := by omega
  have x0 := HX.out.cell (j := 0) rfl
  have x1 := HX.out.cell (j := 1) rfl
  have x2 := HX.out.cell (j := 2) rfl
  have x3 := HX.out.cell (j := 3) rfl
  clear h hbl
  go_enter Tryz.func20, Tryz.ntmps20
  go_upto_region 1 with (fail)
  rw [← hwa]
  clear hwa
  go_wp2_with (go_at_call 40; refine (stouch_store F wB wa vl vm vn da dcap S ka kb c HM.out hka hkb hL hM).mono ?_; rintro e1 w1 ⟨rfl, hd1⟩; have HD1 := hide2 hd1; clear hd1)
  go_end0
  exact ⟨rfl, HD1.out⟩

set_option maxRecDepth 100000 in
set_option maxHeartbeats 3200000 in
theorem sdo_put (F : SFix) (wB w : World) (vl vm vn : Value) (da : Option Addr) (dcap : Nat) (S : MS) (ka kb : Nat) (c : Int) (h : SRep F wB w vl vm vn da dcap S) (hka : ka < 8) (hkb : kb < 8) (hL : S.R.log.length ≤ 1048576) (hM : S.R.marks.length ≤ 1099511627776) :
    Calls Tryz.prog 20 #[.pointer (some ⟨F.sb, 0, none⟩), .agg #[.int .i64 18, .int .i64 (ka : Int), .int .i64 (kb : Int), .int .i64 c]] w fun e w' => e = .returned (.tuple #[]) ∧ SDone F wB w' (dStore S ka kb c 1) := by
  obtain ⟨wa, hwa⟩ : ∃ wa, wa = w.alloc (.cells #[.int .i64 18, .int .i64 (ka : Int), .int .i64 (kb : Int), .int .i64 c] 60) := ⟨_, rfl⟩
  have hbl : Below w.heap.size w wa := by rw [hwa]; exact (Below.refl _ _).alloc (Nat.le_refl _) _
  have HX : Hid (Blk wa w.heap.size 60 [.int .i64 18, .int .i64 (ka : Int), .int .i64 (kb : Int), .int .i64 c]) := by show Blk _ _ _ _; rw [hwa]; exact Blk.alloc _ _ _
  have HM := hide2 (h.under hbl)
  have hxsb : w.heap.size ≠ F.sb := by have := h.blk.lt; omega
  have kaI : (ka : Int) < 8 := by omega
  have kbI : (kb : Int) < 8 := by omega
  have x0 := HX.out.cell (j := 0) rfl
  have x1 := HX.out.cell (j := 1) rfl
  have x2 := HX.out.cell (j := 2) rfl
  have x3 := HX.out.cell (j := 3) rfl
  clear h hbl
  go_enter Tryz.func20, Tryz.ntmps20
  go_upto_region 1 with (fail)
  rw [← hwa]
  clear hwa
  go_wp2_with (go_at_call 40; refine (stouch_put F wB wa vl vm vn da dcap S ka kb c HM.out hka hkb hL hM).mono ?_; rintro e1 w1 ⟨rfl, hd1⟩; have HD1 := hide2 hd1; clear hd1)
  go_end0
  exact ⟨rfl, HD1.out⟩

set_option maxRecDepth 100000 in
set_option maxHeartbeats 3200000 in
theorem sdo_move (F : SFix) (wB w : World) (vl vm vn : Value) (da : Option Addr) (dcap : Nat) (S : MS) (ka kb kc : Nat) (h : SRep F wB w vl vm vn da dcap S) (hka : ka < 8) (hkb : kb < 8) (hkc : kc < 8) (hL : S.R.log.length ≤ 1048576) (hM : S.R.marks.length ≤ 1099511627776) :
    Calls Tryz.prog 20 #[.pointer (some ⟨F.sb, 0, none⟩), .agg #[.int .i64 19, .int .i64 (ka : Int), .int .i64 (kb : Int), .int .i64 (kc : Int)]] w fun e w' => e = .returned (.tuple #[]) ∧ SDone F wB w' (dMove S ka kb kc) := by
  obtain ⟨wa, hwa⟩ : ∃ wa, wa = w.alloc (.cells #[.int .i64 19, .int .i64 (ka : Int), .int .i64 (kb : Int), .int .i64 (kc : Int)] 60) := ⟨_, rfl⟩
  have hbl : Below w.heap.size w wa := by rw [hwa]; exact (Below.refl _ _).alloc (Nat.le_refl _) _
  have HX : Hid (Blk wa w.heap.size 60 [.int .i64 19, .int .i64 (ka : Int), .int .i64 (kb : Int), .int .i64 (kc : Int)]) := by show Blk _ _ _ _; rw [hwa]; exact Blk.alloc _ _ _
  have HM := hide2 (h.under hbl)
  have hxsb : w.heap.size ≠ F.sb := by have := h.blk.lt; omega
  have kaI : (ka : Int) < 8 := by omega
  have kbI : (kb : Int) < 8 := by omega
  have kcI : (kc : Int) < 8 := by omega
  have x0 := HX.out.cell (j := 0) rfl
  have x1 := HX.out.cell (j := 1) rfl
  have x2 := HX.out.cell (j := 2) rfl
  have x3 := HX.out.cell (j := 3) rfl
  clear h hbl
  go_enter Tryz.func20, Tryz.ntmps20
  go_upto_region 1 with (fail)
  rw [← hwa]
  clear hwa
  go_wp2_with (go_at_call 40; refine (stouch_move F wB wa vl vm vn da dcap S ka kb kc HM.out hka hkb hkc hL hM).mono ?_; rintro e1 w1 ⟨rfl, hd1⟩; have HD1 := hide2 hd1; clear hd1)
  go_end0
  exact ⟨rfl, HD1.out⟩

set_option maxRecDepth 100000 in
set_option maxHeartbeats 3200000 in
theorem sdo_any (F : SFix) (wB w : World) (vl vm vn : Value) (da : Option Addr) (dcap : Nat) (S : MS) (x : Ins) (n : Int) (h : SRep F wB w vl vm vn da dcap S) (hx : x.may n = true) (hi : (F.inp.size : Int) ≤ 9223372036854775807) (ho : S.out.size ≤ 1048576) (hdn : S.drawn ≤ 1048576) (hL : S.R.log.length ≤ 1048576) (hM : S.R.marks.length ≤ 1099511627776) :
    Calls Tryz.prog 20 #[.pointer (some ⟨F.sb, 0, none⟩), .agg #[.int .i64 x.op, .int .i64 x.a, .int .i64 x.b, .int .i64 x.c]] w fun e w' => e = .returned (.tuple #[]) ∧ SDone F wB w' (mDo F.inp F.ds S x) := by
  have hop := op_cases (may_op hx)
  obtain ⟨o, a, b, c⟩ := x
  simp only at hop
  rcases hop with rfl | rfl | rfl | rfl | rfl | rfl | rfl | rfl | rfl | rfl | rfl | rfl | rfl | rfl | rfl | rfl | rfl | rfl | rfl | rfl
  all_goals simp [Ins.may, mayB, opKinds, kindB, withinB] at hx
  all_goals obtain ⟨ka, rfl⟩ := nat_of (a := a) (by omega)
  all_goals simp only [mDo, Int.toNat_natCast]
  all_goals simp
  · exact sdo_halt F wB w vl vm vn da dcap S ka b c h (by omega)
  · exact sdo_set F wB w vl vm vn da dcap S ka b c h (by omega) (by omega) (by omega) (by omega) (by omega)
  all_goals try obtain ⟨kb, rfl⟩ := nat_of (a := b) (by omega)
  · obtain ⟨kc, rfl⟩ := nat_of (a := c) (by omega)
    exact sdo_add F wB w vl vm vn da dcap S ka kb kc h (by omega) (by omega) (by omega)
  · obtain ⟨kc, rfl⟩ := nat_of (a := c) (by omega)
    exact sdo_sub F wB w vl vm vn da dcap S ka kb kc h (by omega) (by omega) (by omega)
  · obtain ⟨kc, rfl⟩ := nat_of (a := c) (by omega)
    exact sdo_less F wB w vl vm vn da dcap S ka kb kc h (by omega) (by omega) (by omega)
  · obtain ⟨kc, rfl⟩ := nat_of (a := c) (by omega)
    exact sdo_same F wB w vl vm vn da dcap S ka kb kc h (by omega) (by omega) (by omega)
  · exact sdo_jump F wB w vl vm vn da dcap S ka _ c h
  · exact sdo_zero F wB w vl vm vn da dcap S ka kb c h (by omega)
  · exact sdo_in F wB w vl vm vn da dcap S ka _ c h (by omega) hi
  · exact sdo_out F wB w vl vm vn da dcap S ka _ c h (by omega) ho
  · exact sdo_base F wB w vl vm vn da dcap S ka _ c h (by omega) (by omega) (by omega) (by omega) (by omega)
  · exact sdo_malloc F wB w vl vm vn da dcap S ka kb c h (by omega) (by omega) hdn hL hM
  · exact sdo_free F wB w vl vm vn da dcap S ka _ c h (by omega) hL hM
  · obtain ⟨kc, rfl⟩ := nat_of (a := c) (by omega)
    exact sdo_realloc F wB w vl vm vn da dcap S ka kb kc h (by omega) (by omega) (by omega) hdn hL hM
  · exact sdo_usable F wB w vl vm vn da dcap S ka kb c h (by omega) (by omega)
  · exact sdo_load F wB w vl vm vn da dcap S ka kb c h (by omega) (by omega)
  · exact sdo_byte F wB w vl vm vn da dcap S ka kb c h (by omega) (by omega)
  · exact sdo_store F wB w vl vm vn da dcap S ka kb c h (by omega) (by omega) hL hM
  · exact sdo_put F wB w vl vm vn da dcap S ka kb c h (by omega) (by omega) hL hM
  · obtain ⟨kc, rfl⟩ := nat_of (a := c) (by omega)
    exact sdo_move F wB w vl vm vn da dcap S ka kb kc h (by omega) (by omega) (by omega) hL hM
end Go.Proofs.YtjikemhmnkckcabGreat
/- The document's Run: its parts; what is no image. -/
namespace Go.Proofs.YtjikemhmnkckcabGreat
open Go.RowKit
attribute [local go_sem ↓] Go.wp_at_zero Go.wp_at_succ

theorem mDo_next (inp : ByteArray) (ds : List Int) (S : MS) (x : Ins) (n : Nat) (hx : x.may n = true) (hs : S.next ≤ n) : (mDo inp ds S x).next ≤ n := by
  have hop := op_cases (may_op hx)
  obtain ⟨o, a, b, c⟩ := x
  simp only at hop
  rcases hop with rfl | rfl | rfl | rfl | rfl | rfl | rfl | rfl | rfl | rfl | rfl | rfl | rfl | rfl | rfl | rfl | rfl | rfl | rfl | rfl
  all_goals simp [Ins.may, mayB, opKinds, kindB, withinB] at hx
  all_goals simp only [mDo]
  all_goals simp
  case inr.inr.inr.inr.inr.inr.inl => show a.toNat ≤ n; omega
  case inr.inr.inr.inr.inr.inr.inr.inl =>
    unfold dZero
    exact ite_of (P := fun S' : MS => S'.next ≤ n) (fun _ => by show b.toNat ≤ n; omega) (fun _ => hs)
  all_goals (first
    | exact hs
    | (unfold dMalloc; exact ite_of (P := fun S' : MS => S'.next ≤ n) (fun _ => hs) (fun _ => hs))
    | (unfold dFree; exact ite_of (P := fun S' : MS => S'.next ≤ n) (fun _ => hs) (fun _ => hs))
    | (unfold dRealloc; exact ite_of (P := fun S' : MS => S'.next ≤ n) (fun _ => ite_of (P := fun S' : MS => S'.next ≤ n) (fun _ => hs) (fun _ => hs)) (fun _ => hs))
    | (unfold dUsable; exact ite_of (P := fun S' : MS => S'.next ≤ n) (fun _ => hs) (fun _ => hs))
    | (unfold dLoad; exact ite_of (P := fun S' : MS => S'.next ≤ n) (fun _ => hs) (fun _ => hs))
    | (unfold dStore; exact ite_of (P := fun S' : MS => S'.next ≤ n) (fun _ => hs) (fun _ => hs))
    | (unfold dMove; exact ite_of (P := fun S' : MS => S'.next ≤ n) (fun _ => hs) (fun _ => ite_of (P := fun S' : MS => S'.next ≤ n) (fun _ => hs) (fun _ => hs))))
theorem mDo_drawn (inp : ByteArray) (ds : List Int) (S : MS) (x : Ins) : (mDo inp ds S x).drawn ≤ S.drawn + 1 := by
  unfold mDo dZero dOut dMalloc dFree dRealloc dUsable dLoad dStore dMove
  repeat' (refine ite_of (P := fun S' : MS => S'.drawn ≤ S.drawn + 1) (fun _ => ?_) (fun _ => ?_))
  all_goals first | exact Nat.le_succ _ | exact Nat.le_refl _
/-- The outcome in the machine's block. -/
theorem SRep.outcome {F : SFix} {wB w : World} {vl vm vn : Value} {da : Option Addr} {dcap : Nat} {S : MS} (h : SRep F wB w vl vm vn da dcap S) : w.rangeAt F.sb 17 (outOf S vn) := by
  obtain ⟨r0, r1, r2, r3, r4, r5, r6, r7, hr, hb⟩ := h.blk8
  intro j v hv
  refine hb.cell ?_
  have e : sCells F [r0, r1, r2, r3, r4, r5, r6, r7] (inpFrom F.inp S.heard) (.slice da (F.ds.length - S.drawn) dcap) S.next S.en S.ex S.steps S.pc S.drawn S.out (rptCells S.rep vn) =
    [.int .i64 F.st, .int .i64 F.rest, F.vcl, .string F.data, .slice F.ia F.code.length F.icap, .pointer (some ⟨F.ph, 0, none⟩), .int .i64 r0, .int .i64 r1, .int .i64 r2, .int .i64 r3, .int .i64 r4, .int .i64 r5, .int .i64 r6, .int .i64 r7, .string (inpFrom F.inp S.heard), .slice da (F.ds.length - S.drawn) dcap, .int .i64 S.next] ++ outOf S vn := rfl
  rw [e, List.getElem?_append_right (by simp)]
  simp only [List.length_cons, List.length_nil]
  rw [show 17 + j - (0 + 1 + 1 + 1 + 1 + 1 + 1 + 1 + 1 + 1 + 1 + 1 + 1 + 1 + 1 + 1 + 1 + 1) = j by omega]
  exact hv
theorem cls_some (st : Int) (cls : List (Int × Int)) : ∃ cs, ClsOk st cls cls.length cs := by
  refine ⟨(List.range cls.length).map fun k => ⟨16 * Cf.gran st cls k, 16 * Cf.gr cls k, List.replicate (Cf.sl cls k).toNat GSlot.virgin, 0⟩, by simp, ?_, ?_, ?_⟩ <;> (intro k hk; simp [List.getD_eq_getElem?_getD, hk])
/-- A heap with a program's data laid into it. -/
theorem lays_sim {st rest : Int} {cls : List (Int × Int)} (hv : Cf.Valid st rest cls) (dt : ByteArray) (hdt : (dt.size : Int) ≤ 16 * st) : ∃ G, SimB G ((⟨st, rest, cls, [], []⟩ : RSt).lays dt dt.size) := by
  obtain ⟨cs, hcs⟩ := cls_some st cls
  have hgr := gran_lo hv
  exact ⟨_, (simB_start hv hcs).lays dt dt.size (by show 16 + dt.size ≤ (List.replicate _ _).length; rw [List.length_replicate]; omega)⟩
theorem inpFrom_zero (inp : ByteArray) : inpFrom inp 0 = inp := by
  unfold inpFrom
  apply ByteArray.ext
  simp
theorem own_shape2 {w : World} {e : TypeId} {size : Nat} {v : Value} {n : Nat} {xs : List Value} (h : w.ownsRow 0 e size v n xs) : ∃ a cap, v = .slice a n cap := by
  obtain ⟨_, ⟨rfl, rfl⟩ | ⟨g, cap, cur, rfl, _⟩⟩ := h
  · exact ⟨none, 0, rfl⟩
  · exact ⟨_, _, rfl⟩
theorem out_one (S : MS) (a : Option Addr) (n cap : Nat) : (outOf S (.slice a n cap)).toArray.all (·.oneCell') = true := by
  unfold outOf outC rptCells
  simp [Value.oneCell']
/-- The outcome is laid into the result's box. -/
theorem row_done {F : SFix} {w w2 wz : World} {vl vm vn : Value} {da : Option Addr} {dcap : Nat} {S : MS} (h : SRep F w2 wz vl vm vn da dcap S) (ho : Blk w2 w.heap.size 28 (outC 0 0 0 0 0 ⟨#[]⟩ zRep)) (hb : Below w.heap.size w w2) :
    Blk wz w.heap.size 28 (outC 0 0 0 0 0 ⟨#[]⟩ zRep) ∧ NearRel w S.rep.near vn (wz.setRow w.heap.size (outOf S vn).toArray) ∧ (outOf S vn).toArray.all (·.oneCell') = true := by
  have hl := ho.lt
  have hbz : Below w.heap.size w wz := hb.trans (h.below.mono hb.size)
  refine ⟨ho.below h.below hl, ⟨hbz.trans ⟨rfl, rfl, rfl, by simp [World.setRow], fun k hk => setRow_other wz _ k _ (by omega)⟩, row_kept h.near (fun g hg => setRow_other wz _ g _ (by have := (h.hn g hg).1; omega)), fun g hg => by have := (h.hn g hg).1; omega⟩, ?_⟩
  obtain ⟨na, ncap, rfl⟩ := own_shape2 h.near
  exact out_one _ _ _ _
theorem RSt.lays_marks (R : RSt) (d : ByteArray) (m : Nat) (h : R.marks = []) : (R.lays d m).marks.length = m := by
  induction m with
  | zero => show R.marks.length = 0; rw [h]; rfl
  | succ m ih =>
    show ((R.lays d m).mark (16 + m) (byteAt d m)).marks.length = m + 1
    unfold RSt.mark
    simp [ih]
/-- How many steps the document's machine has taken. -/
def sSteps (w : World) (sb : Nat) : Nat := match w.cell? ⟨sb, 19, none⟩ with
  | some (.int _ k) => k.toNat
  | _ => 0
theorem SRep.sSteps {F : SFix} {wB w : World} {vl vm vn : Value} {da : Option Addr} {dcap : Nat} {S : MS} (h : SRep F wB w vl vm vn da dcap S) : sSteps w F.sb = S.steps := by unfold Go.Proofs.YtjikemhmnkckcabGreat.sSteps; rw [h.c19]; simp
/-- A run of the document's machine under way that comes to Sf: S is the program's machine between two steps. -/
structure DIn (F : SFix) (wB w : World) (f : Int) (Sf : MS) (vl vm vn : Value) (da : Option Addr) (dcap : Nat) (S : MS) (k pc0 : Nat) : Prop where
  rep : SRep F wB w vl vm vn da dcap ((S.goes S.pc).stands pc0)
  en : S.en = 0
  s1 : S.steps ≤ 4096
  o1 : S.out.size ≤ S.steps
  k1 : 4097 ≤ S.steps + k
  p1 : S.pc ≤ F.code.length
  d1 : S.drawn ≤ S.steps
  l1 : S.R.log.length ≤ 2 * S.steps
  m1 : S.R.marks.length ≤ 255 + 65536 * S.steps
  comes : mRun F.inp F.ds F.code f k S = Sf
theorem DIn.next {F : SFix} {wB w w' : World} {f : Int} {Sf : MS} {vl vm vn : Value} {da : Option Addr} {dcap : Nat} {S : MS} {k pc0 : Nat} (h : DIn F wB w f Sf vl vm vn da dcap S k pc0) (hp : ¬ F.code.length ≤ S.pc) (hf : ¬ f ≤ S.steps) (hs : S.steps < 4096) (hmay : (F.code.getD S.pc Ins.no).may F.code.length = true)
    (hd : SDone F wB w' (mDo F.inp F.ds (S.stepped.goes (S.pc + 1)) (F.code.getD S.pc Ins.no))) (he : (mDo F.inp F.ds (S.stepped.goes (S.pc + 1)) (F.code.getD S.pc Ins.no)).en = 0) :
    ∃ vl' vm' vn' da' dcap' S' k' pc', DIn F wB w' f Sf vl' vm' vn' da' dcap' S' k' pc' ∧ S'.steps = S.steps + 1 := by
  obtain ⟨vl', vm', vn', da', dcap', r, hrep, hr⟩ := hd
  have hk := h.k1
  obtain ⟨k', rfl⟩ : ∃ k', k = k' + 1 := ⟨k - 1, by omega⟩
  have hst := mStep_steps F.inp F.ds F.code S
  have hou := mStep_out F.inp F.ds F.code S
  have hgd := mStep_good (inp := F.inp) (ds := F.ds) F.code (S := S) h.rep.sim
  have hnx := mDo_next F.inp F.ds (S.stepped.goes (S.pc + 1)) (F.code.getD S.pc Ins.no) F.code.length hmay (by show S.pc + 1 ≤ _; omega)
  have hdr := mDo_drawn F.inp F.ds (S.stepped.goes (S.pc + 1)) (F.code.getD S.pc Ins.no)
  have hms : mStep F.inp F.ds F.code S = (mDo F.inp F.ds (S.stepped.goes (S.pc + 1)) (F.code.getD S.pc Ins.no)).stands (mDo F.inp F.ds (S.stepped.goes (S.pc + 1)) (F.code.getD S.pc Ins.no)).next := by unfold mStep; rw [if_pos he]
  have hc := h.comes
  rw [mRun_step h.en hp hf] at hc
  rw [hr he] at hrep
  have o1 := h.o1
  have l1 := h.l1
  have m1 := h.m1
  have d1 := h.d1
  have hl := hgd.log
  have hm := hgd.marks
  refine ⟨vl', vm', vn', da', dcap', mStep F.inp F.ds F.code S, k', (mDo F.inp F.ds (S.stepped.goes (S.pc + 1)) (F.code.getD S.pc Ins.no)).pc, ⟨?_, ?_, by omega, by omega, by omega, ?_, ?_, by omega, by omega, hc⟩, hst⟩
  · rw [hms]; exact hrep
  · rw [hms]; exact he
  · rw [hms]; exact hnx
  · rw [hst, hms]
    show (mDo F.inp F.ds (S.stepped.goes (S.pc + 1)) (F.code.getD S.pc Ins.no)).drawn ≤ S.steps + 1
    have : (S.stepped.goes (S.pc + 1)).drawn = S.drawn := rfl
    omega

set_option maxRecDepth 100000 in
set_option maxHeartbeats 3200000 in
theorem rrun_no (d inp : ByteArray) (vd : Value) (fuel : Int) (w : World) (hd : (d.size : Int) ≤ 9223372036854775807) (hB : imgB d = false) :
    Calls Tryz.prog 7 #[.string d, .string inp, vd, .int .i64 fuel] w fun e w' => e = .returned (.agg (outC 1 0 0 0 0 ⟨#[]⟩ zRep).toArray) ∧ Below w.heap.size w w' := by
  have HBB := hide2 hB
  clear hB
  go_enter Tryz.func7, Tryz.ntmps7
  go_upto_region 1 with (fail)
  obtain ⟨wa, hwa⟩ : ∃ wa, wa = w.alloc (.cells (outC 0 0 0 0 0 ⟨#[]⟩ zRep).toArray 28) := ⟨_, rfl⟩
  have HBA : Hid (Below w.heap.size w wa) := by show Below _ _ _; rw [hwa]; exact (Below.refl _ _).alloc (Nat.le_refl _) _
  have HO : Hid (Blk wa w.heap.size 28 (outC 0 0 0 0 0 ⟨#[]⟩ zRep)) := by show Blk _ _ _ _; rw [hwa]; exact Blk.alloc _ _ _
  unfold outC zRep at hwa
  simp only [List.cons_append, List.nil_append] at hwa
  rw [← hwa]
  clear hwa
  go_upto_region 2 with (go_at_call 17; refine (rread_any d wa hd).mono ?_; rintro e1 w1 ⟨a, cap, ia, icap, rfl, -, hbel⟩; obtain ⟨y0, y1, y2, y3, y4, y5⟩ := o_no HBB.out; rw [y0, y1, y2, y3, y4, y5]; have HB1 := hide2 hbel; have HO1 := hide2 (HO.out.below hbel HO.out.lt); clear hbel y0 y1 y2 y3 y4 y5)
  obtain ⟨w2, hw2⟩ : ∃ w2, w2 = w1.alloc (.cells #[.int .i64 0, .int .i64 0, .slice a 0 cap, .string ⟨#[]⟩, .slice ia 0 icap] 39) := ⟨_, rfl⟩
  have HX2 : Hid (Below w1.heap.size w1 w2) := by show Below _ _ _; rw [hw2]; exact (Below.refl _ _).alloc (Nat.le_refl _) _
  first
    | rw [← hw2]
    | (simp only [List.length_nil]; rw [← hw2])
  have HO2 := hide2 (HO1.out.below HX2.out HO1.out.lt)
  have hsz := HB1.out.size
  have hsz2 := HBA.out.size
  have HBL : Hid (Below w.heap.size w w2) := (HBA.out.trans (HB1.out.mono hsz2)).trans (HX2.out.mono (by omega))
  clear hw2 HX2 HO1 HB1 HO
  have hbuilt : Tryz.prog.built 28 [(0, .int .i64 1)] = some (outC 1 0 0 0 0 ⟨#[]⟩ zRep).toArray := by kernel_rfl
  go_upto_region 3 with (fail)
  apply wp_region_lit
  refine wpList_build rfl 28 _ rfl (by simp only [List.map_toArray, List.map_cons, List.map_nil, Act.eval]; rw [hbuilt]; rfl) ?_
  simp only [List.map_toArray, List.map_cons, List.map_nil, Act.eval, hbuilt, Option.getD_some]
  refine wpList_store_row rfl 28 _ _ rfl w.heap.size (outC 1 0 0 0 0 ⟨#[]⟩ zRep).toArray rfl rfl 28 _ HO2.out (by kernel_rfl) rfl (by kernel_rfl) ?_
  go_wp2
  refine bodyPost_ret (v := .agg (outC 1 0 0 0 0 ⟨#[]⟩ zRep).toArray) ?_ rfl ⟨rfl, ?_⟩
  · exact results_cell_row Tryz.results7 _ _ w.heap.size 28 (outC 1 0 0 0 0 ⟨#[]⟩ zRep).toArray (0, 0) _ rfl (setRow_heap w2 _ _ _ _ _ HO2.out) Tryz.underlying28 rfl (by kernel_rfl)
  exact HBL.out.trans ⟨rfl, rfl, rfl, by simp [World.setRow], fun k hk => setRow_other w2 _ k _ (by omega)⟩
end Go.Proofs.YtjikemhmnkckcabGreat
