import Derived.Test.YtjikemhmnkckcabJ46
/- The program's machine: what is set in its block; what is put out; the turns. -/
namespace Go.Proofs.Ytjikemhmnkckcab
open Go.RowKit
attribute [local go_sem ↓] Go.wp_at_zero Go.wp_at_succ

def MS.goes (S : MS) (n : Nat) : MS := ⟨S.R, S.r, S.heard, S.drawn, S.out, S.pc, n, S.steps, S.en, S.ex, S.rep⟩
def MS.exits (S : MS) (v : Int) : MS := ⟨S.R, S.r, S.heard, S.drawn, S.out, S.pc, S.next, S.steps, S.en, v, S.rep⟩
def MS.stands (S : MS) (n : Nat) : MS := ⟨S.R, S.r, S.heard, S.drawn, S.out, n, S.next, S.steps, S.en, S.ex, S.rep⟩
def MS.stepped (S : MS) : MS := ⟨S.R, S.r, S.heard, S.drawn, S.out, S.pc, S.next, S.steps + 1, S.en, S.ex, S.rep⟩
def MS.hears (S : MS) (inp : ByteArray) : MS := ⟨S.R, S.r, hearN inp S.heard, S.drawn, S.out, S.pc, S.next, S.steps, S.en, S.ex, S.rep⟩
def MS.says (S : MS) (o : ByteArray) : MS := ⟨S.R, S.r, S.heard, S.drawn, o, S.pc, S.next, S.steps, S.en, S.ex, S.rep⟩

section
variable {F : MFix} {wB w : World} {G : GSt} {vo vn : Value} {S : MS}
theorem MRep.setNext (h : MRep F wB w G vo vn S) (n : Nat) : MRep F wB (w.setCell ⟨F.mb, 16, none⟩ (.int .i64 (n : Int))) G vo vn (S.goes n) := by
  obtain ⟨r0, r1, r2, r3, r4, r5, r6, r7, hr, hb⟩ := h.blk8
  refine h.own ((Kept.refl w _).setCell _ _ rfl) ?_ rfl rfl rfl h.r8 h.rbd
  unfold mC MS.goes
  rw [hr]
  exact hb.setCell 16 (.int .i64 (n : Int))
theorem MRep.setPc (h : MRep F wB w G vo vn S) (n : Nat) : MRep F wB (w.setCell ⟨F.mb, 15, none⟩ (.int .i64 (n : Int))) G vo vn (S.stands n) := by
  obtain ⟨r0, r1, r2, r3, r4, r5, r6, r7, hr, hb⟩ := h.blk8
  refine h.own ((Kept.refl w _).setCell _ _ rfl) ?_ rfl rfl rfl h.r8 h.rbd
  unfold mC MS.stands
  rw [hr]
  exact hb.setCell 15 (.int .i64 (n : Int))
theorem MRep.setSteps (h : MRep F wB w G vo vn S) : MRep F wB (w.setCell ⟨F.mb, 17, none⟩ (.int .i64 ((S.steps + 1 : Nat) : Int))) G vo vn S.stepped := by
  obtain ⟨r0, r1, r2, r3, r4, r5, r6, r7, hr, hb⟩ := h.blk8
  refine h.own ((Kept.refl w _).setCell _ _ rfl) ?_ rfl rfl rfl h.r8 h.rbd
  unfold mC MS.stepped
  rw [hr]
  exact hb.setCell 17 (.int .i64 ((S.steps + 1 : Nat) : Int))
theorem MRep.setEn (h : MRep F wB w G vo vn S) (e : Int) : MRep F wB (w.setCell ⟨F.mb, 18, none⟩ (.int .i64 e)) G vo vn (S.ends e) := by
  obtain ⟨r0, r1, r2, r3, r4, r5, r6, r7, hr, hb⟩ := h.blk8
  refine h.own ((Kept.refl w _).setCell _ _ rfl) ?_ rfl rfl rfl h.r8 h.rbd
  unfold mC MS.ends
  rw [hr]
  exact hb.setCell 18 (.int .i64 e)
theorem MRep.setEx (h : MRep F wB w G vo vn S) (e : Int) : MRep F wB (w.setCell ⟨F.mb, 19, none⟩ (.int .i64 e)) G vo vn (S.exits e) := by
  obtain ⟨r0, r1, r2, r3, r4, r5, r6, r7, hr, hb⟩ := h.blk8
  refine h.own ((Kept.refl w _).setCell _ _ rfl) ?_ rfl rfl rfl h.r8 h.rbd
  unfold mC MS.exits
  rw [hr]
  exact hb.setCell 19 (.int .i64 e)
theorem MRep.c1 (h : MRep F wB w G vo vn S) : w.cell? ⟨F.mb, 1, none⟩ = some (.slice F.ia F.code.length F.icap) := h.blk.cell (j := 1) rfl
theorem MRep.c14 (h : MRep F wB w G vo vn S) : w.cell? ⟨F.mb, 14, none⟩ = some vo := by
  obtain ⟨r0, r1, r2, r3, r4, r5, r6, r7, hr, hb⟩ := h.blk8
  exact hb.cell (j := 14) rfl
theorem MRep.c16 (h : MRep F wB w G vo vn S) : w.cell? ⟨F.mb, 16, none⟩ = some (.int .i64 S.next) := by
  obtain ⟨r0, r1, r2, r3, r4, r5, r6, r7, hr, hb⟩ := h.blk8
  exact hb.cell (j := 16) rfl
theorem MRep.c17 (h : MRep F wB w G vo vn S) : w.cell? ⟨F.mb, 17, none⟩ = some (.int .i64 S.steps) := by
  obtain ⟨r0, r1, r2, r3, r4, r5, r6, r7, hr, hb⟩ := h.blk8
  exact hb.cell (j := 17) rfl
theorem MRep.hearing (h : MRep F wB w G vo vn S) (hi : (F.inp.size : Int) ≤ 9223372036854775807) :
    Calls Try.prog 59 #[.pointer (some ⟨F.mb, 0, none⟩)] w fun e w' => e = .returned (.int .i64 (hearV F.inp S.heard)) ∧ MRep F wB w' G vo vn (S.hears F.inp) ∧ Kept w w' (· = F.mb) := by
  obtain ⟨r0, r1, r2, r3, r4, r5, r6, r7, hr, hb⟩ := h.blk8
  refine (hear_any F.mb _ _ r0 r1 r2 r3 r4 r5 r6 r7 F.inp S.heard _ _ vo _ _ _ _ _ _ w hi hb).mono ?_
  rintro e w' ⟨rfl, hb1, hk1, -⟩
  refine ⟨rfl, h.own hk1 ?_ rfl rfl rfl h.r8 h.rbd, hk1⟩
  unfold mC MS.hears
  rw [hr]
  exact hb1
theorem MRep.grows {wx w2 : World} {v2 : Value} {n2 : Nat} {xs2 : List Value} {o2 : ByteArray} (h : MRep F wB w G vo vn S) (hx : Below w.heap.size w wx) (hgrow : wx.grownBy w2 vo.ownBlock) (hown : w2.ownsRow 0 5 1 v2 n2 xs2) (e1 : n2 = o2.size) (e2 : xs2 = bytesV o2)
    (hat : ∀ g, v2.ownBlock = some g → vo.ownBlock = some g ∨ w.heap.size ≤ g) : MRep F wB (w2.setCell ⟨F.mb, 14, none⟩ v2) G v2 vn (S.says o2) := by
  subst e1 e2
  have hx2 := hx.size
  have hmb := h.blk.lt
  have hs := h.below.size
  have hb : ∀ b, b < w.heap.size → vo.ownBlock ≠ some b → w2.heap[b]? = w.heap[b]? := fun b hl hn => by
    rw [hgrow.block b (by omega) (fun e => hn e.symm), hx.block b hl]
  have hbs : ∀ b, b < w.heap.size → vo.ownBlock ≠ some b → b ≠ F.mb → (w2.setCell ⟨F.mb, 14, none⟩ v2).heap[b]? = w.heap[b]? := fun b hl hn hm => by
    rw [Below.heap_setCell w2 _ _ b hm, hb b hl hn]
  obtain ⟨r0, r1, r2, r3, r4, r5, r6, r7, hr, hbk⟩ := h.blk8
  have hvm : ∀ g, v2.ownBlock = some g → g ≠ F.mb := fun g hg => by
    rcases hat g hg with e | e
    · exact (h.ho g e).2.1
    · omega
  have hm2 : Blk w2 F.mb 85 (mCells (.pointer (some ⟨F.ph, 0, none⟩)) (.slice F.ia F.code.length F.icap) [r0, r1, r2, r3, r4, r5, r6, r7] F.inp S.heard (.slice F.da F.ds.length F.dcap) S.drawn vo S.pc S.next S.steps S.en S.ex (rptCells S.rep vn)) :=
    (hb F.mb hmb (fun e => (h.ho _ e).2.1 rfl)).trans hbk
  refine ⟨?_, h.heap.kept (fun b hf => hbs b (h.heap.foot_lt hf) (fun e => (h.ho b e).2.2 hf) (h.hf b hf).2), h.sim, row_kept hown (fun g hg => Below.heap_setCell w2 _ _ g (hvm g hg)), row_kept h.near (fun g hg => hbs g (own_lt h.near g hg) (h.hn g hg).2.2.2 (h.hn g hg).2.1), h.r8, h.rbd,
    ⟨?_, ?_, ?_, ?_, fun k hk => (hbs k (by omega) (fun e => by have := (h.ho k e).1; omega) (by have := h.hm; omega)).trans (h.below.block k hk)⟩, h.hm, h.hf, fun g hg => ?_, fun g hg => ⟨(h.hn g hg).1, (h.hn g hg).2.1, (h.hn g hg).2.2.1, fun e => ?_⟩, h.codeR, h.drawR⟩
  · unfold mC MS.says
    rw [hr]
    exact hm2.setCell 14 v2
  · show w2.os = _; rw [hgrow.os, hx.os, h.below.os]
  · show w2.tape = _; rw [hgrow.tape, hx.tape, h.below.tape]
  · show w2.output = _; rw [hgrow.output, hx.output, h.below.output]
  · rw [World.size_setCell]; have := hgrow.size; omega
  · rcases hat g hg with e | e
    · exact h.ho g e
    · exact ⟨by omega, by omega, fun hf => by have := h.heap.foot_lt hf; omega⟩
  · rcases hat g e with e2 | e2
    · exact (h.hn g hg).2.2.2 e2
    · have := own_lt h.near g hg; omega
end

set_option maxRecDepth 100000 in
set_option maxHeartbeats 3200000 in
theorem doHalt_any (F : MFix) (wB w : World) (G : GSt) (vo vn : Value) (S : MS) (ka : Nat) (b c : Int) (h : MRep F wB w G vo vn S) (hka : ka < 8) :
    Calls Try.prog 57 #[.pointer (some ⟨F.mb, 0, none⟩), .agg #[.int .i64 0, .int .i64 (ka : Int), .int .i64 b, .int .i64 c]] w fun e w' => e = .returned (.tuple #[]) ∧ MRep F wB w' G vo vn ((S.ends 2).exits (rg S.r ka)) := by
  obtain ⟨wa, hwa⟩ : ∃ wa, wa = w.alloc (.cells #[.int .i64 0, .int .i64 (ka : Int), .int .i64 b, .int .i64 c] 35) := ⟨_, rfl⟩
  have hbl : Below w.heap.size w wa := by rw [hwa]; exact (Below.refl _ _).alloc (Nat.le_refl _) _
  have HX : Hid (Blk wa w.heap.size 35 [.int .i64 0, .int .i64 (ka : Int), .int .i64 b, .int .i64 c]) := by show Blk _ _ _ _; rw [hwa]; exact Blk.alloc _ _ _
  have HM := hide2 (h.under hbl)
  have hxmb : w.heap.size ≠ F.mb := by have := h.blk.lt; omega
  have hkI : (ka : Int) < 8 := by omega
  have x0 := HX.out.cell (j := 0) rfl
  have c18 := HM.out.c18
  have f18 := HM.out.blk.frozen 18
  clear h hbl
  go_enter Try.func57, Try.ntmps57
  go_upto_region 1 with (fail)
  rw [← hwa]
  clear hwa
  go_upto_region 4 with (fail)
  obtain ⟨wb, hwb⟩ : ∃ wb, wb = wa.setCell ⟨F.mb, 18, none⟩ (.int .i64 2) := ⟨_, rfl⟩
  rw [← hwb]
  have HM2 : Hid (MRep F wB wb G vo vn (S.ends 2)) := by show MRep _ _ _ _ _ _ _; rw [hwb]; exact HM.out.setEn 2
  have HX2 : Hid (Blk wb w.heap.size 35 [.int .i64 0, .int .i64 (ka : Int), .int .i64 b, .int .i64 c]) := by show Blk _ _ _ _; rw [hwb]; exact HX.out.kept ((Kept.refl wa (· = F.mb)).setCell _ _ rfl) hxmb
  clear hwb x0 c18 f18 HM HX
  have ra : wb.cell? ⟨F.mb, 2 + ka, none⟩ = some (.int .i64 (rg S.r ka)) := m_reg HM2.out.blk HM2.out.r8 ka hka
  have x1 := HX2.out.cell (j := 1) rfl
  have c19 : ∃ v, wb.cell? ⟨F.mb, 19, none⟩ = some v := by
    obtain ⟨r0, r1, r2, r3, r4, r5, r6, r7, hr, hb⟩ := HM2.out.blk8
    exact ⟨_, hb.cell (j := 19) rfl⟩
  obtain ⟨v19, c19⟩ := c19
  have f19 := HM2.out.blk.frozen 19
  generalize hq : rg S.r ka = q at *
  go_wp2
  go_region
  all_goals go_end0
  all_goals exact ⟨rfl, by rw [hq]; exact (HM2.out.setEx q).under ((Below.refl _ _).drew)⟩

set_option maxRecDepth 100000 in
set_option maxHeartbeats 3200000 in
theorem doJump_any (F : MFix) (wB w : World) (G : GSt) (vo vn : Value) (S : MS) (a : Nat) (b c : Int) (h : MRep F wB w G vo vn S) :
    Calls Try.prog 57 #[.pointer (some ⟨F.mb, 0, none⟩), .agg #[.int .i64 6, .int .i64 (a : Int), .int .i64 b, .int .i64 c]] w fun e w' => e = .returned (.tuple #[]) ∧ MRep F wB w' G vo vn (S.goes a) := by
  obtain ⟨wa, hwa⟩ : ∃ wa, wa = w.alloc (.cells #[.int .i64 6, .int .i64 (a : Int), .int .i64 b, .int .i64 c] 35) := ⟨_, rfl⟩
  have hbl : Below w.heap.size w wa := by rw [hwa]; exact (Below.refl _ _).alloc (Nat.le_refl _) _
  have HX : Hid (Blk wa w.heap.size 35 [.int .i64 6, .int .i64 (a : Int), .int .i64 b, .int .i64 c]) := by show Blk _ _ _ _; rw [hwa]; exact Blk.alloc _ _ _
  have HM := hide2 (h.under hbl)
  have x0 := HX.out.cell (j := 0) rfl
  have x1 := HX.out.cell (j := 1) rfl
  have c16 := HM.out.c16
  have f16 := HM.out.blk.frozen 16
  clear h hbl
  go_enter Try.func57, Try.ntmps57
  go_upto_region 1 with (fail)
  rw [← hwa]
  clear hwa
  go_wp2
  go_end0
  exact ⟨rfl, HM.out.setNext a⟩

def dZero (S : MS) (a b : Nat) : MS := if rg S.r a = 0 then S.goes b else S
set_option maxRecDepth 100000 in
set_option maxHeartbeats 3200000 in
theorem doZero_any (F : MFix) (wB w : World) (G : GSt) (vo vn : Value) (S : MS) (ka b : Nat) (c : Int) (h : MRep F wB w G vo vn S) (hka : ka < 8) :
    Calls Try.prog 57 #[.pointer (some ⟨F.mb, 0, none⟩), .agg #[.int .i64 7, .int .i64 (ka : Int), .int .i64 (b : Int), .int .i64 c]] w fun e w' => e = .returned (.tuple #[]) ∧ MRep F wB w' G vo vn (dZero S ka b) := by
  obtain ⟨wa, hwa⟩ : ∃ wa, wa = w.alloc (.cells #[.int .i64 7, .int .i64 (ka : Int), .int .i64 (b : Int), .int .i64 c] 35) := ⟨_, rfl⟩
  have hbl : Below w.heap.size w wa := by rw [hwa]; exact (Below.refl _ _).alloc (Nat.le_refl _) _
  have HX : Hid (Blk wa w.heap.size 35 [.int .i64 7, .int .i64 (ka : Int), .int .i64 (b : Int), .int .i64 c]) := by show Blk _ _ _ _; rw [hwa]; exact Blk.alloc _ _ _
  have HM := hide2 (h.under hbl)
  have hkI : (ka : Int) < 8 := by omega
  have x0 := HX.out.cell (j := 0) rfl
  have x1 := HX.out.cell (j := 1) rfl
  have ra := m_reg HM.out.blk HM.out.r8 ka hka
  clear h hbl
  obtain ⟨S', HS'⟩ : ∃ S', Hid (dZero S ka b = S') := ⟨_, hide2 rfl⟩
  rw [HS'.out]
  unfold dZero at HS'
  generalize rg S.r ka = q at *
  go_enter Try.func57, Try.ntmps57
  go_upto_region 1 with (fail)
  rw [← hwa]
  clear hwa
  go_wp2
  go_quiet (fail)
  obtain ⟨wb, hwb⟩ : ∃ wb, wb = wa.drewN nq := ⟨_, rfl⟩
  rw [← hwb]
  have hbb : Below wa.heap.size wa wb := by rw [hwb]; exact below_drewN (Below.refl _ _) _
  have HM2 := hide2 (HM.out.under hbb)
  have HX2 := hide2 (HX.out.below hbb HX.out.lt)
  clear hwb hbb ra x0 x1 nq HM HX
  have x2 := HX2.out.cell (j := 2) rfl
  have c16 := HM2.out.c16
  have f16 := HM2.out.blk.frozen 16
  by_cases hq : q = 0
  · rw [if_pos hq] at HS'
    go_wp2
    go_end0
    rw [← HS'.out]
    exact ⟨rfl, HM2.out.setNext b⟩
  · rw [if_neg hq] at HS'
    go_wp2
    go_end0
    rw [← HS'.out]
    exact ⟨rfl, HM2.out⟩
end Go.Proofs.Ytjikemhmnkckcab
/- The program's machine: an instruction that is one call (written by gendo.py). -/
namespace Go.Proofs.Ytjikemhmnkckcab
open Go.RowKit
attribute [local go_sem ↓] Go.wp_at_zero Go.wp_at_succ

set_option maxRecDepth 100000 in
set_option maxHeartbeats 3200000 in
theorem do_halt (F : MFix) (wB w : World) (G : GSt) (vo vn : Value) (S : MS) (ka : Nat) (b c : Int) (h : MRep F wB w G vo vn S) (hka : ka < 8) :
    Calls Try.prog 56 #[.pointer (some ⟨F.mb, 0, none⟩), .agg #[.int .i64 0, .int .i64 (ka : Int), .int .i64 b, .int .i64 c]] w fun e w' => e = .returned (.tuple #[]) ∧ ∃ G' vo' vn', MRep F wB w' G' vo' vn' ((S.ends 2).exits (rg S.r ka)) := by
  obtain ⟨wa, hwa⟩ : ∃ wa, wa = w.alloc (.cells #[.int .i64 0, .int .i64 (ka : Int), .int .i64 b, .int .i64 c] 35) := ⟨_, rfl⟩
  have hbl : Below w.heap.size w wa := by rw [hwa]; exact (Below.refl _ _).alloc (Nat.le_refl _) _
  have HX : Hid (Blk wa w.heap.size 35 [.int .i64 0, .int .i64 (ka : Int), .int .i64 b, .int .i64 c]) := by show Blk _ _ _ _; rw [hwa]; exact Blk.alloc _ _ _
  have HM := hide2 (h.under hbl)
  have x0 := HX.out.cell (j := 0) rfl
  have x1 := HX.out.cell (j := 1) rfl
  have x2 := HX.out.cell (j := 2) rfl
  have x3 := HX.out.cell (j := 3) rfl
  clear h hbl
  go_enter Try.func56, Try.ntmps56
  go_upto_region 1 with (fail)
  rw [← hwa]
  clear hwa
  go_wp2_with (go_at_call 57; refine (doHalt_any F wB wa G vo vn S ka b c HM.out hka).mono ?_; rintro e1 w1 ⟨rfl, hm1⟩; have HM1 := hide2 hm1; clear hm1)
  go_end0
  exact ⟨rfl, G, vo, vn, HM1.out⟩

set_option maxRecDepth 100000 in
set_option maxHeartbeats 3200000 in
theorem do_jump (F : MFix) (wB w : World) (G : GSt) (vo vn : Value) (S : MS) (a : Nat) (b c : Int) (h : MRep F wB w G vo vn S)  :
    Calls Try.prog 56 #[.pointer (some ⟨F.mb, 0, none⟩), .agg #[.int .i64 6, .int .i64 (a : Int), .int .i64 b, .int .i64 c]] w fun e w' => e = .returned (.tuple #[]) ∧ ∃ G' vo' vn', MRep F wB w' G' vo' vn' (S.goes a) := by
  obtain ⟨wa, hwa⟩ : ∃ wa, wa = w.alloc (.cells #[.int .i64 6, .int .i64 (a : Int), .int .i64 b, .int .i64 c] 35) := ⟨_, rfl⟩
  have hbl : Below w.heap.size w wa := by rw [hwa]; exact (Below.refl _ _).alloc (Nat.le_refl _) _
  have HX : Hid (Blk wa w.heap.size 35 [.int .i64 6, .int .i64 (a : Int), .int .i64 b, .int .i64 c]) := by show Blk _ _ _ _; rw [hwa]; exact Blk.alloc _ _ _
  have HM := hide2 (h.under hbl)
  have x0 := HX.out.cell (j := 0) rfl
  have x1 := HX.out.cell (j := 1) rfl
  have x2 := HX.out.cell (j := 2) rfl
  have x3 := HX.out.cell (j := 3) rfl
  clear h hbl
  go_enter Try.func56, Try.ntmps56
  go_upto_region 1 with (fail)
  rw [← hwa]
  clear hwa
  go_wp2_with (go_at_call 57; refine (doJump_any F wB wa G vo vn S a b c HM.out).mono ?_; rintro e1 w1 ⟨rfl, hm1⟩; have HM1 := hide2 hm1; clear hm1)
  go_end0
  exact ⟨rfl, G, vo, vn, HM1.out⟩

set_option maxRecDepth 100000 in
set_option maxHeartbeats 3200000 in
theorem do_zero (F : MFix) (wB w : World) (G : GSt) (vo vn : Value) (S : MS) (ka b : Nat) (c : Int) (h : MRep F wB w G vo vn S) (hka : ka < 8) :
    Calls Try.prog 56 #[.pointer (some ⟨F.mb, 0, none⟩), .agg #[.int .i64 7, .int .i64 (ka : Int), .int .i64 (b : Int), .int .i64 c]] w fun e w' => e = .returned (.tuple #[]) ∧ ∃ G' vo' vn', MRep F wB w' G' vo' vn' (dZero S ka b) := by
  obtain ⟨wa, hwa⟩ : ∃ wa, wa = w.alloc (.cells #[.int .i64 7, .int .i64 (ka : Int), .int .i64 (b : Int), .int .i64 c] 35) := ⟨_, rfl⟩
  have hbl : Below w.heap.size w wa := by rw [hwa]; exact (Below.refl _ _).alloc (Nat.le_refl _) _
  have HX : Hid (Blk wa w.heap.size 35 [.int .i64 7, .int .i64 (ka : Int), .int .i64 (b : Int), .int .i64 c]) := by show Blk _ _ _ _; rw [hwa]; exact Blk.alloc _ _ _
  have HM := hide2 (h.under hbl)
  have x0 := HX.out.cell (j := 0) rfl
  have x1 := HX.out.cell (j := 1) rfl
  have x2 := HX.out.cell (j := 2) rfl
  have x3 := HX.out.cell (j := 3) rfl
  clear h hbl
  go_enter Try.func56, Try.ntmps56
  go_upto_region 1 with (fail)
  rw [← hwa]
  clear hwa
  go_wp2_with (go_at_call 57; refine (doZero_any F wB wa G vo vn S ka b c HM.out hka).mono ?_; rintro e1 w1 ⟨rfl, hm1⟩; have HM1 := hide2 hm1; clear hm1)
  go_end0
  exact ⟨rfl, G, vo, vn, HM1.out⟩

set_option maxRecDepth 100000 in
set_option maxHeartbeats 3200000 in
theorem do_malloc (F : MFix) (wB w : World) (G : GSt) (vo vn : Value) (S : MS) (ka kb : Nat) (c : Int) (h : MRep F wB w G vo vn S) (hka : ka < 8) (hkb : kb < 8) :
    Calls Try.prog 56 #[.pointer (some ⟨F.mb, 0, none⟩), .agg #[.int .i64 11, .int .i64 (ka : Int), .int .i64 (kb : Int), .int .i64 c]] w fun e w' => e = .returned (.tuple #[]) ∧ ∃ G' vo' vn', MRep F wB w' G' vo' vn' (dMalloc F.ds S ka kb) := by
  obtain ⟨wa, hwa⟩ : ∃ wa, wa = w.alloc (.cells #[.int .i64 11, .int .i64 (ka : Int), .int .i64 (kb : Int), .int .i64 c] 35) := ⟨_, rfl⟩
  have hbl : Below w.heap.size w wa := by rw [hwa]; exact (Below.refl _ _).alloc (Nat.le_refl _) _
  have HX : Hid (Blk wa w.heap.size 35 [.int .i64 11, .int .i64 (ka : Int), .int .i64 (kb : Int), .int .i64 c]) := by show Blk _ _ _ _; rw [hwa]; exact Blk.alloc _ _ _
  have HM := hide2 (h.under hbl)
  have x0 := HX.out.cell (j := 0) rfl
  have x1 := HX.out.cell (j := 1) rfl
  have x2 := HX.out.cell (j := 2) rfl
  have x3 := HX.out.cell (j := 3) rfl
  clear h hbl
  go_enter Try.func56, Try.ntmps56
  go_upto_region 1 with (fail)
  rw [← hwa]
  clear hwa
  go_wp2_with (go_at_call 60; refine (doMalloc_any F wB wa G vo vn S 11 c ka kb HM.out hka hkb).mono ?_; rintro e1 w1 ⟨rfl, G2, vn2, hm1⟩; have HM1 := hide2 hm1; clear hm1)
  go_end0
  exact ⟨rfl, G2, vo, vn2, HM1.out⟩

set_option maxRecDepth 100000 in
set_option maxHeartbeats 3200000 in
theorem do_free (F : MFix) (wB w : World) (G : GSt) (vo vn : Value) (S : MS) (ka : Nat) (b c : Int) (h : MRep F wB w G vo vn S) (hka : ka < 8) :
    Calls Try.prog 56 #[.pointer (some ⟨F.mb, 0, none⟩), .agg #[.int .i64 12, .int .i64 (ka : Int), .int .i64 b, .int .i64 c]] w fun e w' => e = .returned (.tuple #[]) ∧ ∃ G' vo' vn', MRep F wB w' G' vo' vn' (dFree S ka) := by
  obtain ⟨wa, hwa⟩ : ∃ wa, wa = w.alloc (.cells #[.int .i64 12, .int .i64 (ka : Int), .int .i64 b, .int .i64 c] 35) := ⟨_, rfl⟩
  have hbl : Below w.heap.size w wa := by rw [hwa]; exact (Below.refl _ _).alloc (Nat.le_refl _) _
  have HX : Hid (Blk wa w.heap.size 35 [.int .i64 12, .int .i64 (ka : Int), .int .i64 b, .int .i64 c]) := by show Blk _ _ _ _; rw [hwa]; exact Blk.alloc _ _ _
  have HM := hide2 (h.under hbl)
  have x0 := HX.out.cell (j := 0) rfl
  have x1 := HX.out.cell (j := 1) rfl
  have x2 := HX.out.cell (j := 2) rfl
  have x3 := HX.out.cell (j := 3) rfl
  clear h hbl
  go_enter Try.func56, Try.ntmps56
  go_upto_region 1 with (fail)
  rw [← hwa]
  clear hwa
  go_wp2_with (go_at_call 61; refine (doFree_any F wB wa G vo vn S 12 b c ka HM.out hka).mono ?_; rintro e1 w1 ⟨rfl, G2, vn2, hm1⟩; have HM1 := hide2 hm1; clear hm1)
  go_end0
  exact ⟨rfl, G2, vo, vn2, HM1.out⟩

set_option maxRecDepth 100000 in
set_option maxHeartbeats 3200000 in
theorem do_realloc (F : MFix) (wB w : World) (G : GSt) (vo vn : Value) (S : MS) (ka kb kc : Nat) (h : MRep F wB w G vo vn S) (hka : ka < 8) (hkb : kb < 8) (hkc : kc < 8) :
    Calls Try.prog 56 #[.pointer (some ⟨F.mb, 0, none⟩), .agg #[.int .i64 13, .int .i64 (ka : Int), .int .i64 (kb : Int), .int .i64 (kc : Int)]] w fun e w' => e = .returned (.tuple #[]) ∧ ∃ G' vo' vn', MRep F wB w' G' vo' vn' (dRealloc F.ds S ka kb kc) := by
  obtain ⟨wa, hwa⟩ : ∃ wa, wa = w.alloc (.cells #[.int .i64 13, .int .i64 (ka : Int), .int .i64 (kb : Int), .int .i64 (kc : Int)] 35) := ⟨_, rfl⟩
  have hbl : Below w.heap.size w wa := by rw [hwa]; exact (Below.refl _ _).alloc (Nat.le_refl _) _
  have HX : Hid (Blk wa w.heap.size 35 [.int .i64 13, .int .i64 (ka : Int), .int .i64 (kb : Int), .int .i64 (kc : Int)]) := by show Blk _ _ _ _; rw [hwa]; exact Blk.alloc _ _ _
  have HM := hide2 (h.under hbl)
  have x0 := HX.out.cell (j := 0) rfl
  have x1 := HX.out.cell (j := 1) rfl
  have x2 := HX.out.cell (j := 2) rfl
  have x3 := HX.out.cell (j := 3) rfl
  clear h hbl
  go_enter Try.func56, Try.ntmps56
  go_upto_region 1 with (fail)
  rw [← hwa]
  clear hwa
  go_wp2_with (go_at_call 62; refine (doRealloc_any F wB wa G vo vn S 13 ka kb kc HM.out hka hkb hkc).mono ?_; rintro e1 w1 ⟨rfl, G2, vn2, hm1⟩; have HM1 := hide2 hm1; clear hm1)
  go_end0
  exact ⟨rfl, G2, vo, vn2, HM1.out⟩

set_option maxRecDepth 100000 in
set_option maxHeartbeats 3200000 in
theorem do_usable (F : MFix) (wB w : World) (G : GSt) (vo vn : Value) (S : MS) (ka kb : Nat) (c : Int) (h : MRep F wB w G vo vn S) (hka : ka < 8) (hkb : kb < 8) :
    Calls Try.prog 56 #[.pointer (some ⟨F.mb, 0, none⟩), .agg #[.int .i64 14, .int .i64 (ka : Int), .int .i64 (kb : Int), .int .i64 c]] w fun e w' => e = .returned (.tuple #[]) ∧ ∃ G' vo' vn', MRep F wB w' G' vo' vn' (dUsable S ka kb) := by
  obtain ⟨wa, hwa⟩ : ∃ wa, wa = w.alloc (.cells #[.int .i64 14, .int .i64 (ka : Int), .int .i64 (kb : Int), .int .i64 c] 35) := ⟨_, rfl⟩
  have hbl : Below w.heap.size w wa := by rw [hwa]; exact (Below.refl _ _).alloc (Nat.le_refl _) _
  have HX : Hid (Blk wa w.heap.size 35 [.int .i64 14, .int .i64 (ka : Int), .int .i64 (kb : Int), .int .i64 c]) := by show Blk _ _ _ _; rw [hwa]; exact Blk.alloc _ _ _
  have HM := hide2 (h.under hbl)
  have x0 := HX.out.cell (j := 0) rfl
  have x1 := HX.out.cell (j := 1) rfl
  have x2 := HX.out.cell (j := 2) rfl
  have x3 := HX.out.cell (j := 3) rfl
  clear h hbl
  go_enter Try.func56, Try.ntmps56
  go_upto_region 1 with (fail)
  rw [← hwa]
  clear hwa
  go_wp2_with (go_at_call 63; refine (doUsable_any F wB wa G vo vn S 14 c ka kb HM.out hka hkb).mono ?_; rintro e1 w1 ⟨rfl, G2, vn2, hm1⟩; have HM1 := hide2 hm1; clear hm1)
  go_end0
  exact ⟨rfl, G2, vo, vn2, HM1.out⟩

set_option maxRecDepth 100000 in
set_option maxHeartbeats 3200000 in
theorem do_load (F : MFix) (wB w : World) (G : GSt) (vo vn : Value) (S : MS) (ka kb : Nat) (c : Int) (h : MRep F wB w G vo vn S) (hka : ka < 8) (hkb : kb < 8) :
    Calls Try.prog 56 #[.pointer (some ⟨F.mb, 0, none⟩), .agg #[.int .i64 15, .int .i64 (ka : Int), .int .i64 (kb : Int), .int .i64 c]] w fun e w' => e = .returned (.tuple #[]) ∧ ∃ G' vo' vn', MRep F wB w' G' vo' vn' (dLoad S ka kb c 8) := by
  obtain ⟨wa, hwa⟩ : ∃ wa, wa = w.alloc (.cells #[.int .i64 15, .int .i64 (ka : Int), .int .i64 (kb : Int), .int .i64 c] 35) := ⟨_, rfl⟩
  have hbl : Below w.heap.size w wa := by rw [hwa]; exact (Below.refl _ _).alloc (Nat.le_refl _) _
  have HX : Hid (Blk wa w.heap.size 35 [.int .i64 15, .int .i64 (ka : Int), .int .i64 (kb : Int), .int .i64 c]) := by show Blk _ _ _ _; rw [hwa]; exact Blk.alloc _ _ _
  have HM := hide2 (h.under hbl)
  have x0 := HX.out.cell (j := 0) rfl
  have x1 := HX.out.cell (j := 1) rfl
  have x2 := HX.out.cell (j := 2) rfl
  have x3 := HX.out.cell (j := 3) rfl
  clear h hbl
  go_enter Try.func56, Try.ntmps56
  go_upto_region 1 with (fail)
  rw [← hwa]
  clear hwa
  go_wp2_with (go_at_call 64; refine (doLoad_any F wB wa G vo vn S 15 c 8 ka kb HM.out hka hkb).mono ?_; rintro e1 w1 ⟨rfl, G2, vn2, hm1⟩; have HM1 := hide2 hm1; clear hm1)
  go_end0
  exact ⟨rfl, G2, vo, vn2, HM1.out⟩

set_option maxRecDepth 100000 in
set_option maxHeartbeats 3200000 in
theorem do_byte (F : MFix) (wB w : World) (G : GSt) (vo vn : Value) (S : MS) (ka kb : Nat) (c : Int) (h : MRep F wB w G vo vn S) (hka : ka < 8) (hkb : kb < 8) :
    Calls Try.prog 56 #[.pointer (some ⟨F.mb, 0, none⟩), .agg #[.int .i64 16, .int .i64 (ka : Int), .int .i64 (kb : Int), .int .i64 c]] w fun e w' => e = .returned (.tuple #[]) ∧ ∃ G' vo' vn', MRep F wB w' G' vo' vn' (dLoad S ka kb c 1) := by
  obtain ⟨wa, hwa⟩ : ∃ wa, wa = w.alloc (.cells #[.int .i64 16, .int .i64 (ka : Int), .int .i64 (kb : Int), .int .i64 c] 35) := ⟨_, rfl⟩
  have hbl : Below w.heap.size w wa := by rw [hwa]; exact (Below.refl _ _).alloc (Nat.le_refl _) _
  have HX : Hid (Blk wa w.heap.size 35 [.int .i64 16, .int .i64 (ka : Int), .int .i64 (kb : Int), .int .i64 c]) := by show Blk _ _ _ _; rw [hwa]; exact Blk.alloc _ _ _
  have HM := hide2 (h.under hbl)
  have x0 := HX.out.cell (j := 0) rfl
  have x1 := HX.out.cell (j := 1) rfl
  have x2 := HX.out.cell (j := 2) rfl
  have x3 := HX.out.cell (j := 3) rfl
  clear h hbl
  go_enter Try.func56, Try.ntmps56
  go_upto_region 1 with (fail)
  rw [← hwa]
  clear hwa
  go_wp2_with (go_at_call 64; refine (doLoad_any F wB wa G vo vn S 16 c 1 ka kb HM.out hka hkb).mono ?_; rintro e1 w1 ⟨rfl, G2, vn2, hm1⟩; have HM1 := hide2 hm1; clear hm1)
  go_end0
  exact ⟨rfl, G2, vo, vn2, HM1.out⟩

set_option maxRecDepth 100000 in
set_option maxHeartbeats 3200000 in
theorem do_store (F : MFix) (wB w : World) (G : GSt) (vo vn : Value) (S : MS) (ka kb : Nat) (c : Int) (h : MRep F wB w G vo vn S) (hka : ka < 8) (hkb : kb < 8) :
    Calls Try.prog 56 #[.pointer (some ⟨F.mb, 0, none⟩), .agg #[.int .i64 17, .int .i64 (ka : Int), .int .i64 (kb : Int), .int .i64 c]] w fun e w' => e = .returned (.tuple #[]) ∧ ∃ G' vo' vn', MRep F wB w' G' vo' vn' (dStore S ka kb c 8) := by
  obtain ⟨wa, hwa⟩ : ∃ wa, wa = w.alloc (.cells #[.int .i64 17, .int .i64 (ka : Int), .int .i64 (kb : Int), .int .i64 c] 35) := ⟨_, rfl⟩
  have hbl : Below w.heap.size w wa := by rw [hwa]; exact (Below.refl _ _).alloc (Nat.le_refl _) _
  have HX : Hid (Blk wa w.heap.size 35 [.int .i64 17, .int .i64 (ka : Int), .int .i64 (kb : Int), .int .i64 c]) := by show Blk _ _ _ _; rw [hwa]; exact Blk.alloc _ _ _
  have HM := hide2 (h.under hbl)
  have x0 := HX.out.cell (j := 0) rfl
  have x1 := HX.out.cell (j := 1) rfl
  have x2 := HX.out.cell (j := 2) rfl
  have x3 := HX.out.cell (j := 3) rfl
  clear h hbl
  go_enter Try.func56, Try.ntmps56
  go_upto_region 1 with (fail)
  rw [← hwa]
  clear hwa
  go_wp2_with (go_at_call 65; refine (doStore_any F wB wa G vo vn S 17 c 8 ka kb HM.out hka hkb).mono ?_; rintro e1 w1 ⟨rfl, G2, vn2, hm1⟩; have HM1 := hide2 hm1; clear hm1)
  go_end0
  exact ⟨rfl, G2, vo, vn2, HM1.out⟩

set_option maxRecDepth 100000 in
set_option maxHeartbeats 3200000 in
theorem do_put (F : MFix) (wB w : World) (G : GSt) (vo vn : Value) (S : MS) (ka kb : Nat) (c : Int) (h : MRep F wB w G vo vn S) (hka : ka < 8) (hkb : kb < 8) :
    Calls Try.prog 56 #[.pointer (some ⟨F.mb, 0, none⟩), .agg #[.int .i64 18, .int .i64 (ka : Int), .int .i64 (kb : Int), .int .i64 c]] w fun e w' => e = .returned (.tuple #[]) ∧ ∃ G' vo' vn', MRep F wB w' G' vo' vn' (dStore S ka kb c 1) := by
  obtain ⟨wa, hwa⟩ : ∃ wa, wa = w.alloc (.cells #[.int .i64 18, .int .i64 (ka : Int), .int .i64 (kb : Int), .int .i64 c] 35) := ⟨_, rfl⟩
  have hbl : Below w.heap.size w wa := by rw [hwa]; exact (Below.refl _ _).alloc (Nat.le_refl _) _
  have HX : Hid (Blk wa w.heap.size 35 [.int .i64 18, .int .i64 (ka : Int), .int .i64 (kb : Int), .int .i64 c]) := by show Blk _ _ _ _; rw [hwa]; exact Blk.alloc _ _ _
  have HM := hide2 (h.under hbl)
  have x0 := HX.out.cell (j := 0) rfl
  have x1 := HX.out.cell (j := 1) rfl
  have x2 := HX.out.cell (j := 2) rfl
  have x3 := HX.out.cell (j := 3) rfl
  clear h hbl
  go_enter Try.func56, Try.ntmps56
  go_upto_region 1 with (fail)
  rw [← hwa]
  clear hwa
  go_wp2_with (go_at_call 65; refine (doStore_any F wB wa G vo vn S 18 c 1 ka kb HM.out hka hkb).mono ?_; rintro e1 w1 ⟨rfl, G2, vn2, hm1⟩; have HM1 := hide2 hm1; clear hm1)
  go_end0
  exact ⟨rfl, G2, vo, vn2, HM1.out⟩

set_option maxRecDepth 100000 in
set_option maxHeartbeats 3200000 in
theorem do_move (F : MFix) (wB w : World) (G : GSt) (vo vn : Value) (S : MS) (ka kb kc : Nat) (h : MRep F wB w G vo vn S) (hka : ka < 8) (hkb : kb < 8) (hkc : kc < 8) :
    Calls Try.prog 56 #[.pointer (some ⟨F.mb, 0, none⟩), .agg #[.int .i64 19, .int .i64 (ka : Int), .int .i64 (kb : Int), .int .i64 (kc : Int)]] w fun e w' => e = .returned (.tuple #[]) ∧ ∃ G' vo' vn', MRep F wB w' G' vo' vn' (dMove S ka kb kc) := by
  obtain ⟨wa, hwa⟩ : ∃ wa, wa = w.alloc (.cells #[.int .i64 19, .int .i64 (ka : Int), .int .i64 (kb : Int), .int .i64 (kc : Int)] 35) := ⟨_, rfl⟩
  have hbl : Below w.heap.size w wa := by rw [hwa]; exact (Below.refl _ _).alloc (Nat.le_refl _) _
  have HX : Hid (Blk wa w.heap.size 35 [.int .i64 19, .int .i64 (ka : Int), .int .i64 (kb : Int), .int .i64 (kc : Int)]) := by show Blk _ _ _ _; rw [hwa]; exact Blk.alloc _ _ _
  have HM := hide2 (h.under hbl)
  have x0 := HX.out.cell (j := 0) rfl
  have x1 := HX.out.cell (j := 1) rfl
  have x2 := HX.out.cell (j := 2) rfl
  have x3 := HX.out.cell (j := 3) rfl
  clear h hbl
  go_enter Try.func56, Try.ntmps56
  go_upto_region 1 with (fail)
  rw [← hwa]
  clear hwa
  go_wp2_with (go_at_call 66; refine (doMove_any F wB wa G vo vn S 19 ka kb kc HM.out hka hkb hkc).mono ?_; rintro e1 w1 ⟨rfl, G2, vn2, hm1⟩; have HM1 := hide2 hm1; clear hm1)
  go_end0
  exact ⟨rfl, G2, vo, vn2, HM1.out⟩
end Go.Proofs.Ytjikemhmnkckcab
