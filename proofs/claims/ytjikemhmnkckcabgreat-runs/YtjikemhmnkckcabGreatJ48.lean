import Derived.Test.YtjikemhmnkckcabGreatJ47
import Derived.Test.YtjikemhmnkckcabGreatJ29
import Derived.StillTail
import Derived.StillTactics
/- The document's machine: a fault; what needs no heap (written by gendoc.py). -/
namespace Go.Proofs.YtjikemhmnkckcabGreat
open Go.RowKit
attribute [local go_sem ↓] Go.wp_at_zero Go.wp_at_succ

/-- The same but for the registers. -/
def MS.regs (S : MS) (r : List Int) : MS := ⟨S.R, r, S.heard, S.drawn, S.out, S.pc, S.next, S.steps, S.en, S.ex, S.rep⟩
/-- Behind an instruction: as the program's machine; where the run has ended the registers count no more. -/
def SDone (F : SFix) (wB w : World) (S : MS) : Prop := ∃ vl vm vn da dcap r, SRep F wB w vl vm vn da dcap (S.regs r) ∧ (S.en = 0 → r = S.r)
theorem SDone.of {F : SFix} {wB w : World} {vl vm vn : Value} {da : Option Addr} {dcap : Nat} {S : MS} (h : SRep F wB w vl vm vn da dcap S) : SDone F wB w S := ⟨vl, vm, vn, da, dcap, S.r, h, fun _ => rfl⟩
theorem SDone.under {F : SFix} {wB w w' : World} {S : MS} (h : SDone F wB w S) (hb : Below w.heap.size w w') : SDone F wB w' S := by
  obtain ⟨vl, vm, vn, da, dcap, r, hS, hr⟩ := h
  exact ⟨vl, vm, vn, da, dcap, r, hS.under hb, hr⟩

set_option maxRecDepth 100000 in
set_option maxHeartbeats 3200000 in
theorem sfault_no (F : SFix) (wB w : World) (vl vm vn : Value) (da : Option Addr) (dcap : Nat) (S : MS) (y : Rpt) (ya : Option Addr) (yn ycap : Nat) (h : SRep F wB w vl vm vn da dcap S) :
    Calls Tryz.prog 38 #[.pointer (some ⟨F.sb, 0, none⟩), .int .i64 0, rptV y (.slice ya yn ycap)] w fun e w' => e = .returned (.tuple #[]) ∧ SRep F wB w' vl vm vn da dcap S ∧ Below w.heap.size w w' := by
  obtain ⟨y0, y1, y2, y3, y4, y5, y6, y7, y8, yl⟩ := y
  unfold rptV rptCells
  simp only
  have HM := hide2 h
  clear h
  go_enter Tryz.func38, Tryz.ntmps38
  go_wp2
  go_end0
  exact ⟨rfl, HM.out.under ((Below.refl _ _).alloc (Nat.le_refl _) _), (Below.refl _ _).alloc (Nat.le_refl _) _⟩

set_option maxRecDepth 100000 in
set_option maxHeartbeats 3200000 in
theorem sfault_yes (F : SFix) (wB w : World) (vl vm vn : Value) (da : Option Addr) (dcap : Nat) (S : MS) (er : Int) (y : Rpt) (ya : Option Addr) (yn ycap : Nat) (h : SRep F wB w vl vm vn da dcap S) (he : er ≠ 0) (hr : w.ownsRow 0 64 3 (.slice ya yn ycap) y.near.length (y.near.flatMap nearCells))
    (hv : ∀ g, (Value.slice ya yn ycap).ownBlock = some g → wB.heap.size ≤ g ∧ g ≠ F.sb ∧ ¬ RFoot F.ph F.vc vl vm g) :
    Calls Tryz.prog 38 #[.pointer (some ⟨F.sb, 0, none⟩), .int .i64 er, rptV y (.slice ya yn ycap)] w fun e w' => e = .returned (.tuple #[]) ∧ SRep F wB w' vl vm (.slice ya yn ycap) da dcap (S.fault y) ∧ Kept w w' (· = F.sb) := by
  obtain ⟨y0, y1, y2, y3, y4, y5, y6, y7, y8, yl⟩ := y
  obtain ⟨r0, r1, r2, r3, r4, r5, r6, r7, hreg, hblk⟩ := h.blk8
  obtain ⟨SR, Sr, Sh, Sd, So, Sp, Sn, Ss, Se, Sx, z0, z1, z2, z3, z4, z5, z6, z7, z8, zl⟩ := S
  simp only at hreg hblk
  subst hreg
  unfold rptV rptCells
  simp only
  have hne : (er != 0) = true := by simpa using he
  go_enter Tryz.func38, Tryz.ntmps38
  go_upto_region 1 with (fail)
  obtain ⟨wa, hwa⟩ : ∃ wa, wa = w.alloc (.cells #[.int .i64 y0, .int .i64 y1, .int .i64 y2, .int .i64 y3, .int .i64 y4, .int .i64 y5, .int .i64 y6, .int .i64 y7, .int .i64 y8, .slice ya yn ycap] 26) := ⟨_, rfl⟩
  have hbl : Below w.heap.size w wa := by rw [hwa]; exact (Below.refl _ _).alloc (Nat.le_refl _) _
  have HX : Hid (Blk wa w.heap.size 26 [.int .i64 y0, .int .i64 y1, .int .i64 y2, .int .i64 y3, .int .i64 y4, .int .i64 y5, .int .i64 y6, .int .i64 y7, .int .i64 y8, .slice ya yn ycap]) := by show Blk _ _ _ _; rw [hwa]; exact Blk.alloc _ _ _
  have HH := hide2 (h.under hbl)
  have HM := hide2 (hblk.below hbl hblk.lt)
  have hsb : w.heap.size ≠ F.sb := by have := hblk.lt; omega
  have HK : Hid (Kept w wa (· = F.sb)) := Kept.of_below hbl _
  have HKW : Hid (Kept wa wa (· = F.sb)) := Kept.refl _ _
  have HRR := hide2 (row_below hr hbl (own_lt hr))
  have HV := hide2 hv
  rw [← hwa]
  clear hwa hbl h hblk hr hv he
  have c17 := HM.out.cell (j := 17) rfl
  have f17 := HM.out.frozen 17
  go_upto_region 3 with (fail)
  obtain ⟨wb, hwb⟩ : ∃ wb, wb = wa.setCell ⟨F.sb, 17, none⟩ (.int .i64 5) := ⟨_, rfl⟩
  rw [← hwb]
  have HM2 := hide2 (HM.out.setCell 17 (.int .i64 5))
  have HX2 := hide2 (HX.out.setCell_other ⟨F.sb, 17, none⟩ (.int .i64 5) hsb)
  have HK2 := hide2 (HK.out.setCell ⟨F.sb, 17, none⟩ (.int .i64 5) rfl)
  have HKW2 := hide2 (HKW.out.setCell ⟨F.sb, 17, none⟩ (.int .i64 5) rfl)
  rw [← hwb] at HM2 HX2 HK2 HKW2
  clear hwb c17 f17 HM HX HK HKW
  have a0 := HX2.out.cell (j := 0) rfl
  have a1 := HX2.out.cell (j := 1) rfl
  have a2 := HX2.out.cell (j := 2) rfl
  have a3 := HX2.out.cell (j := 3) rfl
  have a4 := HX2.out.cell (j := 4) rfl
  have a5 := HX2.out.cell (j := 5) rfl
  have a6 := HX2.out.cell (j := 6) rfl
  have a7 := HX2.out.cell (j := 7) rfl
  have a8 := HX2.out.cell (j := 8) rfl
  have a9 := HX2.out.cell (j := 9) rfl
  have m23 := HM2.out.cell (j := 23) rfl
  have mf23 := HM2.out.frozen 23
  have m24 := HM2.out.cell (j := 24) rfl
  have mf24 := HM2.out.frozen 24
  have m25 := HM2.out.cell (j := 25) rfl
  have mf25 := HM2.out.frozen 25
  have m26 := HM2.out.cell (j := 26) rfl
  have mf26 := HM2.out.frozen 26
  have m27 := HM2.out.cell (j := 27) rfl
  have mf27 := HM2.out.frozen 27
  have m28 := HM2.out.cell (j := 28) rfl
  have mf28 := HM2.out.frozen 28
  have m29 := HM2.out.cell (j := 29) rfl
  have mf29 := HM2.out.frozen 29
  have m30 := HM2.out.cell (j := 30) rfl
  have mf30 := HM2.out.frozen 30
  have m31 := HM2.out.cell (j := 31) rfl
  have mf31 := HM2.out.frozen 31
  have m32 := HM2.out.cell (j := 32) rfl
  have mf32 := HM2.out.frozen 32
  go_wp2
  go_end0
  refine ⟨rfl, ?_, ((((((((((HK2.out.setCell _ _ rfl).setCell _ _ rfl).setCell _ _ rfl).setCell _ _ rfl).setCell _ _ rfl).setCell _ _ rfl).setCell _ _ rfl).setCell _ _ rfl).setCell _ _ rfl).setCell _ _ rfl)⟩
  exact HH.out.faulted (rp := ⟨y0, y1, y2, y3, y4, y5, y6, y7, y8, yl⟩) ((((((((((HKW2.out.setCell _ _ rfl).setCell _ _ rfl).setCell _ _ rfl).setCell _ _ rfl).setCell _ _ rfl).setCell _ _ rfl).setCell _ _ rfl).setCell _ _ rfl).setCell _ _ rfl).setCell _ _ rfl) ((((((((((HM2.out.setCell 23 _).setCell 24 _).setCell 25 _).setCell 26 _).setCell 27 _).setCell 28 _).setCell 29 _).setCell 30 _).setCell 31 _).setCell 32 _) (row_kept HRR.out (fun g hg => (((((((((((HKW2.out.setCell _ _ rfl).setCell _ _ rfl).setCell _ _ rfl).setCell _ _ rfl).setCell _ _ rfl).setCell _ _ rfl).setCell _ _ rfl).setCell _ _ rfl).setCell _ _ rfl).setCell _ _ rfl)).block g (own_lt HRR.out g hg) (HV.out g hg).2.1)) HV.out

set_option maxRecDepth 100000 in
set_option maxHeartbeats 3200000 in
theorem sdo_halt (F : SFix) (wB w : World) (vl vm vn : Value) (da : Option Addr) (dcap : Nat) (S : MS) (ka : Nat) (b c : Int) (h : SRep F wB w vl vm vn da dcap S) (hka : ka < 8) :
    Calls Tryz.prog 20 #[.pointer (some ⟨F.sb, 0, none⟩), .agg #[.int .i64 0, .int .i64 (ka : Int), .int .i64 b, .int .i64 c]] w fun e w' => e = .returned (.tuple #[]) ∧ SDone F wB w' ((S.ends 2).exits (rg S.r ka)) := by
  obtain ⟨wa, hwa⟩ : ∃ wa, wa = w.alloc (.cells #[.int .i64 0, .int .i64 (ka : Int), .int .i64 b, .int .i64 c] 60) := ⟨_, rfl⟩
  have hbl : Below w.heap.size w wa := by rw [hwa]; exact (Below.refl _ _).alloc (Nat.le_refl _) _
  have HX : Hid (Blk wa w.heap.size 60 [.int .i64 0, .int .i64 (ka : Int), .int .i64 b, .int .i64 c]) := by show Blk _ _ _ _; rw [hwa]; exact Blk.alloc _ _ _
  have HM := hide2 (h.under hbl)
  have hxsb : w.heap.size ≠ F.sb := by have := h.blk.lt; omega
  have kaI : (ka : Int) < 8 := by omega
  have x0 := HX.out.cell (j := 0) rfl
  have c17 := HM.out.c17
  have f17 := HM.out.blk.frozen 17
  clear h hbl
  go_enter Tryz.func20, Tryz.ntmps20
  go_upto_region 1 with (fail)
  rw [← hwa]
  clear hwa
  go_upto_region 5 with (fail)
  obtain ⟨wb, hwb⟩ : ∃ wb, wb = wa.setCell ⟨F.sb, 17, none⟩ (.int .i64 2) := ⟨_, rfl⟩
  rw [← hwb]
  have HM2 : Hid (SRep F wB wb vl vm vn da dcap (S.ends 2)) := by show SRep _ _ _ _ _ _ _ _ _; rw [hwb]; exact HM.out.setEn 2
  have HX2 : Hid (Blk wb w.heap.size 60 [.int .i64 0, .int .i64 (ka : Int), .int .i64 b, .int .i64 c]) := by show Blk _ _ _ _; rw [hwb]; exact HX.out.kept ((Kept.refl wa (· = F.sb)).setCell _ _ rfl) hxsb
  clear hwb x0 c17 f17 HM HX
  have ra : wb.cell? ⟨F.sb, 6 + ka, none⟩ = some (.int .i64 (rg S.r ka)) := HM2.out.reg ka hka
  have x1 := HX2.out.cell (j := 1) rfl
  have c18 : ∃ v, wb.cell? ⟨F.sb, 18, none⟩ = some v := by
    obtain ⟨r0, r1, r2, r3, r4, r5, r6, r7, hr, hb⟩ := HM2.out.blk8
    exact ⟨_, hb.cell (j := 18) rfl⟩
  obtain ⟨v18, c18⟩ := c18
  have f18 := HM2.out.blk.frozen 18
  generalize hq : rg S.r ka = q at *
  go_region
  all_goals go_end0
  all_goals exact ⟨rfl, by rw [hq]; exact SDone.of ((HM2.out.setEx q).under ((Below.refl _ _).drew))⟩

set_option maxRecDepth 100000 in
set_option maxHeartbeats 3200000 in
theorem sdo_jump (F : SFix) (wB w : World) (vl vm vn : Value) (da : Option Addr) (dcap : Nat) (S : MS) (a : Nat) (b c : Int) (h : SRep F wB w vl vm vn da dcap S)  :
    Calls Tryz.prog 20 #[.pointer (some ⟨F.sb, 0, none⟩), .agg #[.int .i64 6, .int .i64 (a : Int), .int .i64 b, .int .i64 c]] w fun e w' => e = .returned (.tuple #[]) ∧ SDone F wB w' (S.goes a) := by
  obtain ⟨wa, hwa⟩ : ∃ wa, wa = w.alloc (.cells #[.int .i64 6, .int .i64 (a : Int), .int .i64 b, .int .i64 c] 60) := ⟨_, rfl⟩
  have hbl : Below w.heap.size w wa := by rw [hwa]; exact (Below.refl _ _).alloc (Nat.le_refl _) _
  have HX : Hid (Blk wa w.heap.size 60 [.int .i64 6, .int .i64 (a : Int), .int .i64 b, .int .i64 c]) := by show Blk _ _ _ _; rw [hwa]; exact Blk.alloc _ _ _
  have HM := hide2 (h.under hbl)
  have hxsb : w.heap.size ≠ F.sb := by have := h.blk.lt; omega
  have x0 := HX.out.cell (j := 0) rfl
  have x1 := HX.out.cell (j := 1) rfl
  have c16 := HM.out.c16
  have f16 := HM.out.blk.frozen 16
  clear h hbl
  go_enter Tryz.func20, Tryz.ntmps20
  go_upto_region 1 with (fail)
  rw [← hwa]
  clear hwa
  go_wp2
  go_end0
  exact ⟨rfl, SDone.of (HM.out.setNext a)⟩

set_option maxRecDepth 100000 in
set_option maxHeartbeats 3200000 in
theorem sdo_zero (F : SFix) (wB w : World) (vl vm vn : Value) (da : Option Addr) (dcap : Nat) (S : MS) (ka b : Nat) (c : Int) (h : SRep F wB w vl vm vn da dcap S) (hka : ka < 8) :
    Calls Tryz.prog 20 #[.pointer (some ⟨F.sb, 0, none⟩), .agg #[.int .i64 7, .int .i64 (ka : Int), .int .i64 (b : Int), .int .i64 c]] w fun e w' => e = .returned (.tuple #[]) ∧ SDone F wB w' (dZero S ka b) := by
  obtain ⟨wa, hwa⟩ : ∃ wa, wa = w.alloc (.cells #[.int .i64 7, .int .i64 (ka : Int), .int .i64 (b : Int), .int .i64 c] 60) := ⟨_, rfl⟩
  have hbl : Below w.heap.size w wa := by rw [hwa]; exact (Below.refl _ _).alloc (Nat.le_refl _) _
  have HX : Hid (Blk wa w.heap.size 60 [.int .i64 7, .int .i64 (ka : Int), .int .i64 (b : Int), .int .i64 c]) := by show Blk _ _ _ _; rw [hwa]; exact Blk.alloc _ _ _
  have HM := hide2 (h.under hbl)
  have hxsb : w.heap.size ≠ F.sb := by have := h.blk.lt; omega
  have kaI : (ka : Int) < 8 := by omega
  have x0 := HX.out.cell (j := 0) rfl
  have x1 := HX.out.cell (j := 1) rfl
  have ra := HM.out.reg ka hka
  obtain ⟨S', HS'⟩ : ∃ S', Hid (dZero S ka b = S') := ⟨_, hide2 rfl⟩
  rw [HS'.out]
  unfold dZero at HS'
  generalize rg S.r ka = q at *
  clear h hbl
  go_enter Tryz.func20, Tryz.ntmps20
  go_upto_region 1 with (fail)
  rw [← hwa]
  clear hwa
  go_wp2
  go_quiet (fail)
  obtain ⟨wb, hwb⟩ : ∃ wb, wb = wa.drewN nq := ⟨_, rfl⟩
  rw [← hwb]
  have hbb : Below wa.heap.size wa wb := by rw [hwb]; exact below_drewN (Below.refl _ _) _
  have HM2 := hide2 (HM.out.under hbb)
  have HX2 := hide2 (HX.out.below hbb HX.out.lt)
  clear hwb hbb ra x0 x1 nq HM HX
  have x2 := HX2.out.cell (j := 2) rfl
  have c16 := HM2.out.c16
  have f16 := HM2.out.blk.frozen 16
  by_cases hq : q = 0
  · rw [if_pos hq] at HS'
    go_wp2
    go_end0
    rw [← HS'.out]
    exact ⟨rfl, SDone.of (HM2.out.setNext b)⟩
  · rw [if_neg hq] at HS'
    go_wp2
    go_end0
    rw [← HS'.out]
    exact ⟨rfl, SDone.of HM2.out⟩

set_option maxRecDepth 100000 in
set_option maxHeartbeats 3200000 in
theorem sdo_set (F : SFix) (wB w : World) (vl vm vn : Value) (da : Option Addr) (dcap : Nat) (S : MS) (ka : Nat) (b c : Int) (h : SRep F wB w vl vm vn da dcap S) (hka : ka < 8) (b0 : 0 ≤ b) (b1 : b ≤ 255) (c0 : 0 ≤ c) (c1 : c ≤ 255) :
    Calls Tryz.prog 20 #[.pointer (some ⟨F.sb, 0, none⟩), .agg #[.int .i64 1, .int .i64 (ka : Int), .int .i64 b, .int .i64 c]] w fun e w' => e = .returned (.tuple #[]) ∧ SDone F wB w' (S.reg ka (256 * b + c)) := by
  obtain ⟨wa, hwa⟩ : ∃ wa, wa = w.alloc (.cells #[.int .i64 1, .int .i64 (ka : Int), .int .i64 b, .int .i64 c] 60) := ⟨_, rfl⟩
  have hbl : Below w.heap.size w wa := by rw [hwa]; exact (Below.refl _ _).alloc (Nat.le_refl _) _
  have HX : Hid (Blk wa w.heap.size 60 [.int .i64 1, .int .i64 (ka : Int), .int .i64 b, .int .i64 c]) := by show Blk _ _ _ _; rw [hwa]; exact Blk.alloc _ _ _
  have HM := hide2 (h.under hbl)
  have hxsb : w.heap.size ≠ F.sb := by have := h.blk.lt; omega
  have kaI : (ka : Int) < 8 := by omega
  have x0 := HX.out.cell (j := 0) rfl
  have x1 := HX.out.cell (j := 1) rfl
  have x2 := HX.out.cell (j := 2) rfl
  have x3 := HX.out.cell (j := 3) rfl
  have ra := HM.out.reg ka hka
  have raf := HM.out.blk.frozen (6 + ka)
  have HU : Hid (b * 256 = 256 * b) := by show _ = _; omega
  generalize rg S.r ka = q at *
  clear h hbl
  go_enter Tryz.func20, Tryz.ntmps20
  go_upto_region 1 with (fail)
  rw [← hwa]
  clear hwa
  go_wp2
  go_region
  all_goals go_end0
  all_goals exact ⟨rfl, SDone.of (by rw [← HU.out]; exact (HM.out.setReg ka hka _ (by omega) (by omega)).under ((Below.refl _ _).drew))⟩

set_option maxRecDepth 100000 in
set_option maxHeartbeats 3200000 in
theorem sdo_base (F : SFix) (wB w : World) (vl vm vn : Value) (da : Option Addr) (dcap : Nat) (S : MS) (ka : Nat) (b c : Int) (h : SRep F wB w vl vm vn da dcap S) (hka : ka < 8) (b0 : 0 ≤ b) (b1 : b ≤ 255) (c0 : 0 ≤ c) (c1 : c ≤ 255) :
    Calls Tryz.prog 20 #[.pointer (some ⟨F.sb, 0, none⟩), .agg #[.int .i64 10, .int .i64 (ka : Int), .int .i64 b, .int .i64 c]] w fun e w' => e = .returned (.tuple #[]) ∧ SDone F wB w' (S.reg ka (16 + 256 * b + c)) := by
  obtain ⟨wa, hwa⟩ : ∃ wa, wa = w.alloc (.cells #[.int .i64 10, .int .i64 (ka : Int), .int .i64 b, .int .i64 c] 60) := ⟨_, rfl⟩
  have hbl : Below w.heap.size w wa := by rw [hwa]; exact (Below.refl _ _).alloc (Nat.le_refl _) _
  have HX : Hid (Blk wa w.heap.size 60 [.int .i64 10, .int .i64 (ka : Int), .int .i64 b, .int .i64 c]) := by show Blk _ _ _ _; rw [hwa]; exact Blk.alloc _ _ _
  have HM := hide2 (h.under hbl)
  have hxsb : w.heap.size ≠ F.sb := by have := h.blk.lt; omega
  have kaI : (ka : Int) < 8 := by omega
  have x0 := HX.out.cell (j := 0) rfl
  have x1 := HX.out.cell (j := 1) rfl
  have x2 := HX.out.cell (j := 2) rfl
  have x3 := HX.out.cell (j := 3) rfl
  have ra := HM.out.reg ka hka
  have raf := HM.out.blk.frozen (6 + ka)
  have HU : Hid (b * 256 = 256 * b) := by show _ = _; omega
  generalize rg S.r ka = q at *
  clear h hbl
  go_enter Tryz.func20, Tryz.ntmps20
  go_upto_region 1 with (fail)
  rw [← hwa]
  clear hwa
  go_wp2
  go_region
  all_goals go_end0
  all_goals exact ⟨rfl, SDone.of (by rw [← HU.out]; exact (HM.out.setReg ka hka _ (by omega) (by omega)).under ((Below.refl _ _).drew))⟩
end Go.Proofs.YtjikemhmnkckcabGreat
/- The document's machine: In, Out, Add, Sub, Less, Same (written by gendoc.py). -/
namespace Go.Proofs.YtjikemhmnkckcabGreat
open Go.RowKit
attribute [local go_sem ↓] Go.wp_at_zero Go.wp_at_succ

theorem inpFrom_size (inp : ByteArray) (k : Nat) : (inpFrom inp k).size = inp.size - k := by unfold inpFrom; rw [ByteArray.size_extract]; omega
theorem inpFrom_next (inp : ByteArray) (k : Nat) : (inpFrom inp k).extract 1 (inpFrom inp k).size = inpFrom inp (k + 1) := by
  rw [inpFrom_size]
  unfold inpFrom
  apply ByteArray.ext
  simp only [ByteArray.data_extract, Array.extract_extract]
  congr 1
  all_goals (have : inp.data.size = inp.size := rfl; omega)
theorem inpFrom_head (inp : ByteArray) (k : Nat) (hk : k < inp.size) (h0 : 0 < (inpFrom inp k).size) : (((inpFrom inp k)[0]'h0).toNat : Int) = byteAt inp k := by
  rw [byteAt_lt hk]
  have e : (inpFrom inp k)[0]'h0 = inp[k]'hk := by
    have := ByteArray.getElem_extract (b := inp) (start := k) (stop := inp.size) (i := 0) (h := h0)
    exact this
  rw [e]
theorem SRep.setInp {F : SFix} {wB w : World} {vl vm vn : Value} {da : Option Addr} {dcap : Nat} {S : MS} (h : SRep F wB w vl vm vn da dcap S) (hk : S.heard < F.inp.size) : SRep F wB (w.setCell ⟨F.sb, 14, none⟩ (.string (inpFrom F.inp (S.heard + 1)))) vl vm vn da dcap (S.hears F.inp) := by
  obtain ⟨r0, r1, r2, r3, r4, r5, r6, r7, hr, hb⟩ := h.blk8
  have e : hearN F.inp S.heard = S.heard + 1 := if_pos hk
  refine h.own ((Kept.refl w _).setCell _ _ rfl) ?_ rfl rfl h.r8 h.rbd h.drawR h.dl (by show hearN F.inp S.heard ≤ _; rw [e]; exact hk)
  unfold sC MS.hears
  rw [hr]
  simp only
  rw [e]
  exact hb.setCell 14 (.string (inpFrom F.inp (S.heard + 1)))

set_option maxHeartbeats 1600000 in
theorem rsum_any (op b c : Int) (w : World) (ho : op = 2 ∨ op = 3 ∨ op = 4 ∨ op = 5) : Calls Tryz.prog 34 #[.int .i64 op, .int .i64 b, .int .i64 c] w fun e w' => e = .returned (.int .i64 (sumV op b c)) ∧ w = w' := by
  rcases ho with rfl | rfl | rfl | rfl
  · go_enter Tryz.func34, Tryz.ntmps34
    go_wp2
    go_ret
    exact ⟨rfl, rfl⟩
  · go_enter Tryz.func34, Tryz.ntmps34
    go_wp2
    go_ret
    exact ⟨rfl, rfl⟩
  · by_cases h : b < c
    · have HV : Hid (sumV 4 b c = 1) := by show _ = _; unfold sumV; simp [h]
      rw [HV.out]
      go_enter Tryz.func34, Tryz.ntmps34
      go_wp2
      go_ret
      exact ⟨rfl, rfl⟩
    · have HV : Hid (sumV 4 b c = 0) := by show _ = _; unfold sumV; simp [h]
      rw [HV.out]
      go_enter Tryz.func34, Tryz.ntmps34
      go_wp2
      go_ret
      exact ⟨rfl, rfl⟩
  · by_cases h : b = c
    · have HV : Hid (sumV 5 b c = 1) := by show _ = _; unfold sumV; simp [h]
      rw [HV.out]
      have hb : (b == c) = true := by simpa using h
      clear h
      go_enter Tryz.func34, Tryz.ntmps34
      go_wp2
      go_ret
      exact ⟨rfl, rfl⟩
    · have HV : Hid (sumV 5 b c = 0) := by show _ = _; unfold sumV; simp [h]
      rw [HV.out]
      have hb : (b == c) = false := by simpa using h
      clear h
      go_enter Tryz.func34, Tryz.ntmps34
      go_wp2
      go_ret
      exact ⟨rfl, rfl⟩

set_option maxRecDepth 100000 in
set_option maxHeartbeats 800000 in
theorem one_wide (v : Int) (w : World) : Calls Tryz.prog 33 #[.int .i64 v] w fun e w' => e = .returned (.string (bOne (v % 256))) ∧ Below w.heap.size w w' := by
  have hconv : (convert 77 9 (.slice (some ⟨w.heap.size, 0, none⟩) 1 1)).run Tryz.prog (w.alloc (.cells #[.int .u8 (v % 256)] 5)) = .ok (.string ⟨#[UInt8.ofNat (v % 256).toNat]⟩) (w.alloc (.cells #[.int .u8 (v % 256)] 5)) := by
    refine Go.Lib.run_convert_whole (P := Tryz.prog) _ 77 5 9 Tryz.underlying77 Tryz.underlying5 Tryz.underlying9 w.heap.size 0 ⟨#[UInt8.ofNat (v % 256).toNat]⟩ (fun i hi => ?_) 1
    have hi' : i < 1 := hi
    obtain rfl : i = 0 := by omega
    have hb : Blk (w.alloc (.cells #[.int .u8 (v % 256)] 5)) w.heap.size 5 [.int .u8 (v % 256)] := Blk.alloc w _ _
    have hx : (((UInt8.ofNat (v % 256).toNat).toNat : Nat) : Int) = v % 256 := by rw [UInt8.toNat_ofNat']; omega
    show _ = some (Value.int .u8 (((UInt8.ofNat (v % 256).toNat).toNat : Nat) : Int))
    rw [hx]
    exact hb.cell (j := 0) rfl
  go_enter Tryz.func33, Tryz.ntmps33
  go_wp2
  go_ret
  exact ⟨rfl, (Below.refl _ _).alloc (Nat.le_refl _) _⟩

set_option maxRecDepth 100000 in
set_option maxHeartbeats 3200000 in
theorem sdo_add (F : SFix) (wB w : World) (vl vm vn : Value) (da : Option Addr) (dcap : Nat) (S : MS) (ka kb kc : Nat) (h : SRep F wB w vl vm vn da dcap S) (hka : ka < 8) (hkb : kb < 8) (hkc : kc < 8) :
    Calls Tryz.prog 20 #[.pointer (some ⟨F.sb, 0, none⟩), .agg #[.int .i64 2, .int .i64 (ka : Int), .int .i64 (kb : Int), .int .i64 (kc : Int)]] w fun e w' => e = .returned (.tuple #[]) ∧ SDone F wB w' (S.reg ka (sumV 2 (rg S.r kb) (rg S.r kc))) := by
  obtain ⟨wa, hwa⟩ : ∃ wa, wa = w.alloc (.cells #[.int .i64 2, .int .i64 (ka : Int), .int .i64 (kb : Int), .int .i64 (kc : Int)] 60) := ⟨_, rfl⟩
  have hbl : Below w.heap.size w wa := by rw [hwa]; exact (Below.refl _ _).alloc (Nat.le_refl _) _
  have HX : Hid (Blk wa w.heap.size 60 [.int .i64 2, .int .i64 (ka : Int), .int .i64 (kb : Int), .int .i64 (kc : Int)]) := by show Blk _ _ _ _; rw [hwa]; exact Blk.alloc _ _ _
  have HM := hide2 (h.under hbl)
  have hxsb : w.heap.size ≠ F.sb := by have := h.blk.lt; omega
  have kaI : (ka : Int) < 8 := by omega
  have kbI : (kb : Int) < 8 := by omega
  have kcI : (kc : Int) < 8 := by omega
  have x0 := HX.out.cell (j := 0) rfl
  have x1 := HX.out.cell (j := 1) rfl
  have x2 := HX.out.cell (j := 2) rfl
  have x3 := HX.out.cell (j := 3) rfl
  have rb := HM.out.reg kb hkb
  have rc := HM.out.reg kc hkc
  have hu : -9223372036854775808 ≤ sumV 2 (rg S.r kb) (rg S.r kc) ∧ sumV 2 (rg S.r kb) (rg S.r kc) ≤ 9223372036854775807 := sumV_bd _ _ _
  generalize hvb : rg S.r kb = vb at *
  generalize hvc : rg S.r kc = vc at *
  have HC : ∀ wx, Calls Tryz.prog 34 #[.int .i64 2, .int .i64 vb, .int .i64 vc] wx fun e w' => e = .returned (.int .i64 (sumV 2 vb vc)) ∧ w' = wx := fun wx => (rsum_any 2 vb vc wx (by omega)).mono (fun e w' h => ⟨h.1, h.2.symm⟩)
  replace HC := hide2 HC
  generalize sumV 2 vb vc = u at *
  clear h hbl
  go_enter Tryz.func20, Tryz.ntmps20
  go_upto_region 1 with (fail)
  rw [← hwa]
  clear hwa
  go_upto_region 26 with (fail)
  have ra := HM.out.reg ka hka
  have raf := HM.out.blk.frozen (6 + ka)
  refine wp_region_still_tail 22 (by kernel_rfl) (by kernel_rfl) ?_
  repeat (first | still_call (HC.out _) | still_step)
  refine wpStill_nil ?_
  go_wp2
  all_goals go_end0
  all_goals exact ⟨rfl, SDone.of ((HM.out.setReg ka hka u hu.1 hu.2).under ((Below.refl _ _).drew))⟩

set_option maxRecDepth 100000 in
set_option maxHeartbeats 3200000 in
theorem sdo_sub (F : SFix) (wB w : World) (vl vm vn : Value) (da : Option Addr) (dcap : Nat) (S : MS) (ka kb kc : Nat) (h : SRep F wB w vl vm vn da dcap S) (hka : ka < 8) (hkb : kb < 8) (hkc : kc < 8) :
    Calls Tryz.prog 20 #[.pointer (some ⟨F.sb, 0, none⟩), .agg #[.int .i64 3, .int .i64 (ka : Int), .int .i64 (kb : Int), .int .i64 (kc : Int)]] w fun e w' => e = .returned (.tuple #[]) ∧ SDone F wB w' (S.reg ka (sumV 3 (rg S.r kb) (rg S.r kc))) := by
  obtain ⟨wa, hwa⟩ : ∃ wa, wa = w.alloc (.cells #[.int .i64 3, .int .i64 (ka : Int), .int .i64 (kb : Int), .int .i64 (kc : Int)] 60) := ⟨_, rfl⟩
  have hbl : Below w.heap.size w wa := by rw [hwa]; exact (Below.refl _ _).alloc (Nat.le_refl _) _
  have HX : Hid (Blk wa w.heap.size 60 [.int .i64 3, .int .i64 (ka : Int), .int .i64 (kb : Int), .int .i64 (kc : Int)]) := by show Blk _ _ _ _; rw [hwa]; exact Blk.alloc _ _ _
  have HM := hide2 (h.under hbl)
  have hxsb : w.heap.size ≠ F.sb := by have := h.blk.lt; omega
  have kaI : (ka : Int) < 8 := by omega
  have kbI : (kb : Int) < 8 := by omega
  have kcI : (kc : Int) < 8 := by omega
  have x0 := HX.out.cell (j := 0) rfl
  have x1 := HX.out.cell (j := 1) rfl
  have x2 := HX.out.cell (j := 2) rfl
  have x3 := HX.out.cell (j := 3) rfl
  have rb := HM.out.reg kb hkb
  have rc := HM.out.reg kc hkc
  have hu : -9223372036854775808 ≤ sumV 3 (rg S.r kb) (rg S.r kc) ∧ sumV 3 (rg S.r kb) (rg S.r kc) ≤ 9223372036854775807 := sumV_bd _ _ _
  generalize hvb : rg S.r kb = vb at *
  generalize hvc : rg S.r kc = vc at *
  have HC : ∀ wx, Calls Tryz.prog 34 #[.int .i64 3, .int .i64 vb, .int .i64 vc] wx fun e w' => e = .returned (.int .i64 (sumV 3 vb vc)) ∧ w' = wx := fun wx => (rsum_any 3 vb vc wx (by omega)).mono (fun e w' h => ⟨h.1, h.2.symm⟩)
  replace HC := hide2 HC
  generalize sumV 3 vb vc = u at *
  clear h hbl
  go_enter Tryz.func20, Tryz.ntmps20
  go_upto_region 1 with (fail)
  rw [← hwa]
  clear hwa
  go_upto_region 26 with (fail)
  have ra := HM.out.reg ka hka
  have raf := HM.out.blk.frozen (6 + ka)
  refine wp_region_still_tail 22 (by kernel_rfl) (by kernel_rfl) ?_
  repeat (first | still_call (HC.out _) | still_step)
  refine wpStill_nil ?_
  go_wp2
  all_goals go_end0
  all_goals exact ⟨rfl, SDone.of ((HM.out.setReg ka hka u hu.1 hu.2).under ((Below.refl _ _).drew))⟩

set_option maxRecDepth 100000 in
set_option maxHeartbeats 3200000 in
theorem sdo_less (F : SFix) (wB w : World) (vl vm vn : Value) (da : Option Addr) (dcap : Nat) (S : MS) (ka kb kc : Nat) (h : SRep F wB w vl vm vn da dcap S) (hka : ka < 8) (hkb : kb < 8) (hkc : kc < 8) :
    Calls Tryz.prog 20 #[.pointer (some ⟨F.sb, 0, none⟩), .agg #[.int .i64 4, .int .i64 (ka : Int), .int .i64 (kb : Int), .int .i64 (kc : Int)]] w fun e w' => e = .returned (.tuple #[]) ∧ SDone F wB w' (S.reg ka (sumV 4 (rg S.r kb) (rg S.r kc))) := by
  obtain ⟨wa, hwa⟩ : ∃ wa, wa = w.alloc (.cells #[.int .i64 4, .int .i64 (ka : Int), .int .i64 (kb : Int), .int .i64 (kc : Int)] 60) := ⟨_, rfl⟩
  have hbl : Below w.heap.size w wa := by rw [hwa]; exact (Below.refl _ _).alloc (Nat.le_refl _) _
  have HX : Hid (Blk wa w.heap.size 60 [.int .i64 4, .int .i64 (ka : Int), .int .i64 (kb : Int), .int .i64 (kc : Int)]) := by show Blk _ _ _ _; rw [hwa]; exact Blk.alloc _ _ _
  have HM := hide2 (h.under hbl)
  have hxsb : w.heap.size ≠ F.sb := by have := h.blk.lt; omega
  have kaI : (ka : Int) < 8 := by omega
  have kbI : (kb : Int) < 8 := by omega
  have kcI : (kc : Int) < 8 := by omega
  have x0 := HX.out.cell (j := 0) rfl
  have x1 := HX.out.cell (j := 1) rfl
  have x2 := HX.out.cell (j := 2) rfl
  have x3 := HX.out.cell (j := 3) rfl
  have rb := HM.out.reg kb hkb
  have rc := HM.out.reg kc hkc
  have hu : -9223372036854775808 ≤ sumV 4 (rg S.r kb) (rg S.r kc) ∧ sumV 4 (rg S.r kb) (rg S.r kc) ≤ 9223372036854775807 := sumV_bd _ _ _
  generalize hvb : rg S.r kb = vb at *
  generalize hvc : rg S.r kc = vc at *
  have HC : ∀ wx, Calls Tryz.prog 34 #[.int .i64 4, .int .i64 vb, .int .i64 vc] wx fun e w' => e = .returned (.int .i64 (sumV 4 vb vc)) ∧ w' = wx := fun wx => (rsum_any 4 vb vc wx (by omega)).mono (fun e w' h => ⟨h.1, h.2.symm⟩)
  replace HC := hide2 HC
  generalize sumV 4 vb vc = u at *
  clear h hbl
  go_enter Tryz.func20, Tryz.ntmps20
  go_upto_region 1 with (fail)
  rw [← hwa]
  clear hwa
  go_upto_region 26 with (fail)
  have ra := HM.out.reg ka hka
  have raf := HM.out.blk.frozen (6 + ka)
  refine wp_region_still_tail 22 (by kernel_rfl) (by kernel_rfl) ?_
  repeat (first | still_call (HC.out _) | still_step)
  refine wpStill_nil ?_
  go_wp2
  all_goals go_end0
  all_goals exact ⟨rfl, SDone.of ((HM.out.setReg ka hka u hu.1 hu.2).under ((Below.refl _ _).drew))⟩

set_option maxRecDepth 100000 in
set_option maxHeartbeats 3200000 in
theorem sdo_same (F : SFix) (wB w : World) (vl vm vn : Value) (da : Option Addr) (dcap : Nat) (S : MS) (ka kb kc : Nat) (h : SRep F wB w vl vm vn da dcap S) (hka : ka < 8) (hkb : kb < 8) (hkc : kc < 8) :
    Calls Tryz.prog 20 #[.pointer (some ⟨F.sb, 0, none⟩), .agg #[.int .i64 5, .int .i64 (ka : Int), .int .i64 (kb : Int), .int .i64 (kc : Int)]] w fun e w' => e = .returned (.tuple #[]) ∧ SDone F wB w' (S.reg ka (sumV 5 (rg S.r kb) (rg S.r kc))) := by
  obtain ⟨wa, hwa⟩ : ∃ wa, wa = w.alloc (.cells #[.int .i64 5, .int .i64 (ka : Int), .int .i64 (kb : Int), .int .i64 (kc : Int)] 60) := ⟨_, rfl⟩
  have hbl : Below w.heap.size w wa := by rw [hwa]; exact (Below.refl _ _).alloc (Nat.le_refl _) _
  have HX : Hid (Blk wa w.heap.size 60 [.int .i64 5, .int .i64 (ka : Int), .int .i64 (kb : Int), .int .i64 (kc : Int)]) := by show Blk _ _ _ _; rw [hwa]; exact Blk.alloc _ _ _
  have HM := hide2 (h.under hbl)
  have hxsb : w.heap.size ≠ F.sb := by have := h.blk.lt; omega
  have kaI : (ka : Int) < 8 := by omega
  have kbI : (kb : Int) < 8 := by omega
  have kcI : (kc : Int) < 8 := by omega
  have x0 := HX.out.cell (j := 0) rfl
  have x1 := HX.out.cell (j := 1) rfl
  have x2 := HX.out.cell (j := 2) rfl
  have x3 := HX.out.cell (j := 3) rfl
  have rb := HM.out.reg kb hkb
  have rc := HM.out.reg kc hkc
  have hu : -9223372036854775808 ≤ sumV 5 (rg S.r kb) (rg S.r kc) ∧ sumV 5 (rg S.r kb) (rg S.r kc) ≤ 9223372036854775807 := sumV_bd _ _ _
  generalize hvb : rg S.r kb = vb at *
  generalize hvc : rg S.r kc = vc at *
  have HC : ∀ wx, Calls Tryz.prog 34 #[.int .i64 5, .int .i64 vb, .int .i64 vc] wx fun e w' => e = .returned (.int .i64 (sumV 5 vb vc)) ∧ w' = wx := fun wx => (rsum_any 5 vb vc wx (by omega)).mono (fun e w' h => ⟨h.1, h.2.symm⟩)
  replace HC := hide2 HC
  generalize sumV 5 vb vc = u at *
  clear h hbl
  go_enter Tryz.func20, Tryz.ntmps20
  go_upto_region 1 with (fail)
  rw [← hwa]
  clear hwa
  go_upto_region 26 with (fail)
  have ra := HM.out.reg ka hka
  have raf := HM.out.blk.frozen (6 + ka)
  refine wp_region_still_tail 22 (by kernel_rfl) (by kernel_rfl) ?_
  repeat (first | still_call (HC.out _) | still_step)
  refine wpStill_nil ?_
  go_wp2
  all_goals go_end0
  all_goals exact ⟨rfl, SDone.of ((HM.out.setReg ka hka u hu.1 hu.2).under ((Below.refl _ _).drew))⟩
end Go.Proofs.YtjikemhmnkckcabGreat
