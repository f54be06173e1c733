import Derived.Test.YtjikemhmnkckcabGreatJ40
import Derived.Test.YtjikemhmnkckcabGreatJ20
import Derived.Test.YtjikemhmnkckcabGreatJ18
import Derived.Test.YtjikemhmnkckcabGreatJ19
import Derived.Test.YtjikemhmnkckcabGreatJ23
import Derived.Deep.CutRange
/- The program's machine: a fault. -/
namespace Go.Proofs.YtjikemhmnkckcabGreat
open Go.RowKit
attribute [local go_sem ↓] Go.wp_at_zero Go.wp_at_succ

set_option maxRecDepth 100000 in
set_option maxHeartbeats 3200000 in
theorem fault_any (mb : Nat) (ph vcode : Value) (r0 r1 r2 r3 r4 r5 r6 r7 : Int) (inp : ByteArray) (heard : Int) (vd : Value) (drawn : Int) (vo : Value) (pc next steps en ex : Int) (x0 x1 x2 x3 x4 x5 x6 x7 x8 : Int) (vx : Value) (y : Rpt) (ya : Option Addr) (yn ycap : Nat) (w : World)
    (h : Blk w mb 81 (mCells ph vcode [r0, r1, r2, r3, r4, r5, r6, r7] inp heard vd drawn vo pc next steps en ex [.int .i64 x0, .int .i64 x1, .int .i64 x2, .int .i64 x3, .int .i64 x4, .int .i64 x5, .int .i64 x6, .int .i64 x7, .int .i64 x8, vx])) :
    Calls Tryz.prog 142 #[.pointer (some ⟨mb, 0, none⟩), rptV y (.slice ya yn ycap)] w fun e w' => e = .returned (.tuple #[]) ∧ Blk w' mb 81 (mCells ph vcode [r0, r1, r2, r3, r4, r5, r6, r7] inp heard vd drawn vo pc next steps 5 ex (rptCells y (.slice ya yn ycap))) ∧ Kept w w' (· = mb) := by
  obtain ⟨y0, y1, y2, y3, y4, y5, y6, y7, y8, yl⟩ := y
  unfold rptV rptCells
  simp only
  go_enter Tryz.func142, Tryz.ntmps142
  go_upto_region 1 with (fail)
  obtain ⟨wa, hwa⟩ : ∃ wa, wa = w.alloc (.cells #[.int .i64 y0, .int .i64 y1, .int .i64 y2, .int .i64 y3, .int .i64 y4, .int .i64 y5, .int .i64 y6, .int .i64 y7, .int .i64 y8, .slice ya yn ycap] 26) := ⟨_, rfl⟩
  have hbl : Below w.heap.size w wa := by rw [hwa]; exact (Below.refl _ _).alloc (Nat.le_refl _) _
  have HX : Hid (Blk wa w.heap.size 26 [.int .i64 y0, .int .i64 y1, .int .i64 y2, .int .i64 y3, .int .i64 y4, .int .i64 y5, .int .i64 y6, .int .i64 y7, .int .i64 y8, .slice ya yn ycap]) := by show Blk _ _ _ _; rw [hwa]; exact Blk.alloc _ _ _
  have HM := hide2 (h.below hbl h.lt)
  have hne : w.heap.size ≠ mb := by have := h.lt; omega
  have HK : Hid (Kept w wa (· = mb)) := Kept.of_below hbl _
  rw [← hwa]
  clear hwa hbl h
  have c18 := HM.out.cell (j := 18) rfl
  have f18 := HM.out.frozen 18
  go_upto_region 2 with (fail)
  obtain ⟨wb, hwb⟩ : ∃ wb, wb = wa.setCell ⟨mb, 18, none⟩ (.int .i64 5) := ⟨_, rfl⟩
  rw [← hwb]
  have HM2 := hide2 (HM.out.setCell 18 (.int .i64 5))
  have HX2 := hide2 (HX.out.setCell_other ⟨mb, 18, none⟩ (.int .i64 5) hne)
  have HK2 := hide2 (HK.out.setCell ⟨mb, 18, none⟩ (.int .i64 5) rfl)
  rw [← hwb] at HM2 HX2 HK2
  clear hwb c18 f18 HM HX HK
  have a0 := HX2.out.cell (j := 0) rfl
  have a1 := HX2.out.cell (j := 1) rfl
  have a2 := HX2.out.cell (j := 2) rfl
  have a3 := HX2.out.cell (j := 3) rfl
  have a4 := HX2.out.cell (j := 4) rfl
  have a5 := HX2.out.cell (j := 5) rfl
  have a6 := HX2.out.cell (j := 6) rfl
  have a7 := HX2.out.cell (j := 7) rfl
  have a8 := HX2.out.cell (j := 8) rfl
  have a9 := HX2.out.cell (j := 9) rfl
  have m20 := HM2.out.cell (j := 20) rfl
  have mf20 := HM2.out.frozen 20
  have m21 := HM2.out.cell (j := 21) rfl
  have mf21 := HM2.out.frozen 21
  have m22 := HM2.out.cell (j := 22) rfl
  have mf22 := HM2.out.frozen 22
  have m23 := HM2.out.cell (j := 23) rfl
  have mf23 := HM2.out.frozen 23
  have m24 := HM2.out.cell (j := 24) rfl
  have mf24 := HM2.out.frozen 24
  have m25 := HM2.out.cell (j := 25) rfl
  have mf25 := HM2.out.frozen 25
  have m26 := HM2.out.cell (j := 26) rfl
  have mf26 := HM2.out.frozen 26
  have m27 := HM2.out.cell (j := 27) rfl
  have mf27 := HM2.out.frozen 27
  have m28 := HM2.out.cell (j := 28) rfl
  have mf28 := HM2.out.frozen 28
  have m29 := HM2.out.cell (j := 29) rfl
  have mf29 := HM2.out.frozen 29
  go_wp2
  go_end0
  exact ⟨rfl, ((((((((((HM2.out.setCell 20 _).setCell 21 _).setCell 22 _).setCell 23 _).setCell 24 _).setCell 25 _).setCell 26 _).setCell 27 _).setCell 28 _).setCell 29 _), ((((((((((HK2.out.setCell _ _ rfl).setCell _ _ rfl).setCell _ _ rfl).setCell _ _ rfl).setCell _ _ rfl).setCell _ _ rfl).setCell _ _ rfl).setCell _ _ rfl).setCell _ _ rfl).setCell _ _ rfl)⟩

set_option maxRecDepth 100000 in
set_option maxHeartbeats 3200000 in
theorem mblame_any (mb p : Nat) (gc : Value) (bb : Nat) (G : GSt) (R : RSt) (vcode : Value) (r0 r1 r2 r3 r4 r5 r6 r7 : Int) (inp : ByteArray) (heard : Int) (vd : Value) (drawn : Int) (vo : Value) (pc next steps en ex : Int) (x0 x1 x2 x3 x4 x5 x6 x7 x8 : Int) (vx : Value) (q : Int) (w : World) (hg : GRep w p gc bb G) (hs : Sim G R) (q1 : q ≤ 9223372036854775807)
    (h : Blk w mb 81 (mCells (.pointer (some ⟨p, 0, none⟩)) vcode [r0, r1, r2, r3, r4, r5, r6, r7] inp heard vd drawn vo pc next steps en ex [.int .i64 x0, .int .i64 x1, .int .i64 x2, .int .i64 x3, .int .i64 x4, .int .i64 x5, .int .i64 x6, .int .i64 x7, .int .i64 x8, vx])) :
    Calls Tryz.prog 112 #[.pointer (some ⟨mb, 0, none⟩), .int .i64 q] w fun e w' => ∃ v, e = .returned (.tuple #[]) ∧ Blk w' mb 81 (mCells (.pointer (some ⟨p, 0, none⟩)) vcode [r0, r1, r2, r3, r4, r5, r6, r7] inp heard vd drawn vo pc next steps 5 ex (rptCells (gblame G R q) v)) ∧
      w'.ownsRow 0 64 3 v (gblame G R q).near.length ((gblame G R q).near.flatMap nearCells) ∧ (∀ g, v.ownBlock = some g → w.heap.size ≤ g) ∧ Kept w w' (· = mb) := by
  have HG := hide2 hg
  have HS := hide2 hs
  have H := hide2 h
  have c0 := h.cell (j := 0) rfl
  have hml := h.lt
  clear h hg hs
  generalize hgb : gblame G R q = gb at *
  have HGB := hide2 hgb
  clear hgb
  go_enter Tryz.func112, Tryz.ntmps112
  go_upto_region 1 with (go_at_call 141; refine (gblame_any p gc bb G R q w HG.out HS.out q1).mono ?_; rw [HGB.out]; rintro e1 w1 ⟨v, rfl, hn⟩; obtain ⟨na, ncap, hv, -, -, -⟩ := row_open hn.row; subst hv; have HN := hide2 hn; clear hn; unfold rptV rptCells)
  obtain ⟨w2, hw2⟩ : ∃ w2, w2 = w1.alloc (.cells (rptCells gb (.slice na gb.near.length ncap)).toArray 26) := ⟨_, rfl⟩
  have HX2 : Hid (Below w1.heap.size w1 w2) := by show Below _ _ _; rw [hw2]; exact (Below.refl _ _).alloc (Nat.le_refl _) _
  have HP2 : Hid (Blk w2 w1.heap.size 26 (rptCells gb (.slice na gb.near.length ncap))) := by show Blk _ _ _ _; rw [hw2]; exact Blk.alloc _ _ _
  unfold rptCells at hw2
  rw [← hw2]
  clear hw2
  have HN2 := hide2 (HN.out.later HX2.out)
  have HM2 := hide2 (H.out.below HN2.out.below hml)
  have a0 := HP2.out.cell (j := 0) rfl
  have a1 := HP2.out.cell (j := 1) rfl
  have a2 := HP2.out.cell (j := 2) rfl
  have a3 := HP2.out.cell (j := 3) rfl
  have a4 := HP2.out.cell (j := 4) rfl
  have a5 := HP2.out.cell (j := 5) rfl
  have a6 := HP2.out.cell (j := 6) rfl
  have a7 := HP2.out.cell (j := 7) rfl
  have a8 := HP2.out.cell (j := 8) rfl
  have a9 := HP2.out.cell (j := 9) rfl
  go_wp2_with (go_at_call 142; refine (fault_any mb _ vcode r0 r1 r2 r3 r4 r5 r6 r7 inp heard vd drawn vo pc next steps en ex x0 x1 x2 x3 x4 x5 x6 x7 x8 vx gb na gb.near.length ncap w2 HM2.out).mono ?_; rintro e2 w3 ⟨rfl, hm3, hk3⟩; have HM3 := hide2 hm3; have HK3 := hide2 hk3; clear hm3 hk3)
  go_end0
  refine ⟨.slice na gb.near.length ncap, rfl, HM3.out, row_kept HN2.out.row (fun g hg => HK3.out.block g (row_lt HN2.out.row hg) (by have := HN2.out.vlo g hg; omega)), HN2.out.vlo, ?_⟩
  have hb := HN2.out.below
  have hk := HK3.out
  exact ⟨by rw [hk.os, hb.os], by rw [hk.tape, hb.tape], by rw [hk.output, hb.output], Nat.le_trans hb.size hk.size, fun k hkk hs => (hk.block k (Nat.lt_of_lt_of_le hkk hb.size) hs).trans (hb.block k hkk)⟩
end Go.Proofs.YtjikemhmnkckcabGreat
/- The program's machine: an access that was refused. -/
namespace Go.Proofs.YtjikemhmnkckcabGreat
open Go.RowKit
attribute [local go_sem ↓] Go.wp_at_zero Go.wp_at_succ

set_option maxRecDepth 100000 in
set_option maxHeartbeats 3200000 in
theorem mexplain_any (mb p : Nat) (gc : Value) (bb : Nat) (G : GSt) (R : RSt) (vcode : Value) (r0 r1 r2 r3 r4 r5 r6 r7 : Int) (inp : ByteArray) (heard : Int) (vd : Value) (drawn : Int) (vo : Value) (pc next steps en ex : Int) (x0 x1 x2 x3 x4 x5 x6 x7 x8 : Int) (vx : Value) (q n : Int) (w : World) (hg : GRep w p gc bb G) (hs : Sim G R) (q1 : q ≤ 9223372036854775807)
    (h : Blk w mb 81 (mCells (.pointer (some ⟨p, 0, none⟩)) vcode [r0, r1, r2, r3, r4, r5, r6, r7] inp heard vd drawn vo pc next steps en ex [.int .i64 x0, .int .i64 x1, .int .i64 x2, .int .i64 x3, .int .i64 x4, .int .i64 x5, .int .i64 x6, .int .i64 x7, .int .i64 x8, vx])) :
    Calls Tryz.prog 116 #[.pointer (some ⟨mb, 0, none⟩), .int .i64 q, .int .i64 n] w fun e w' => ∃ v, e = .returned (.tuple #[]) ∧ Blk w' mb 81 (mCells (.pointer (some ⟨p, 0, none⟩)) vcode [r0, r1, r2, r3, r4, r5, r6, r7] inp heard vd drawn vo pc next steps 5 ex (rptCells (gexplain G R q n) v)) ∧
      w'.ownsRow 0 64 3 v (gexplain G R q n).near.length ((gexplain G R q n).near.flatMap nearCells) ∧ (∀ g, v.ownBlock = some g → w.heap.size ≤ g) ∧ Kept w w' (· = mb) := by
  have HG := hide2 hg
  have HS := hide2 hs
  have H := hide2 h
  have c0 := h.cell (j := 0) rfl
  have hml := h.lt
  clear h hg hs
  generalize hgb : gexplain G R q n = gb at *
  have HGB := hide2 hgb
  clear hgb
  go_enter Tryz.func116, Tryz.ntmps116
  go_upto_region 1 with (go_at_call 146; refine (gexplain_any p gc bb G R q n w HG.out HS.out q1).mono ?_; rw [HGB.out]; rintro e1 w1 ⟨v, rfl, hn⟩; obtain ⟨na, ncap, hv, -, -, -⟩ := row_open hn.row; subst hv; have HN := hide2 hn; clear hn; unfold rptV rptCells)
  obtain ⟨w2, hw2⟩ : ∃ w2, w2 = w1.alloc (.cells (rptCells gb (.slice na gb.near.length ncap)).toArray 26) := ⟨_, rfl⟩
  have HX2 : Hid (Below w1.heap.size w1 w2) := by show Below _ _ _; rw [hw2]; exact (Below.refl _ _).alloc (Nat.le_refl _) _
  have HP2 : Hid (Blk w2 w1.heap.size 26 (rptCells gb (.slice na gb.near.length ncap))) := by show Blk _ _ _ _; rw [hw2]; exact Blk.alloc _ _ _
  unfold rptCells at hw2
  rw [← hw2]
  clear hw2
  have HN2 := hide2 (HN.out.later HX2.out)
  have HM2 := hide2 (H.out.below HN2.out.below hml)
  have a0 := HP2.out.cell (j := 0) rfl
  have a1 := HP2.out.cell (j := 1) rfl
  have a2 := HP2.out.cell (j := 2) rfl
  have a3 := HP2.out.cell (j := 3) rfl
  have a4 := HP2.out.cell (j := 4) rfl
  have a5 := HP2.out.cell (j := 5) rfl
  have a6 := HP2.out.cell (j := 6) rfl
  have a7 := HP2.out.cell (j := 7) rfl
  have a8 := HP2.out.cell (j := 8) rfl
  have a9 := HP2.out.cell (j := 9) rfl
  go_wp2_with (go_at_call 142; refine (fault_any mb _ vcode r0 r1 r2 r3 r4 r5 r6 r7 inp heard vd drawn vo pc next steps en ex x0 x1 x2 x3 x4 x5 x6 x7 x8 vx gb na gb.near.length ncap w2 HM2.out).mono ?_; rintro e2 w3 ⟨rfl, hm3, hk3⟩; have HM3 := hide2 hm3; have HK3 := hide2 hk3; clear hm3 hk3)
  go_end0
  refine ⟨.slice na gb.near.length ncap, rfl, HM3.out, row_kept HN2.out.row (fun g hg => HK3.out.block g (row_lt HN2.out.row hg) (by have := HN2.out.vlo g hg; omega)), HN2.out.vlo, ?_⟩
  have hb := HN2.out.below
  have hk := HK3.out
  exact ⟨by rw [hk.os, hb.os], by rw [hk.tape, hb.tape], by rw [hk.output, hb.output], Nat.le_trans hb.size hk.size, fun k hkk hs => (hk.block k (Nat.lt_of_lt_of_le hkk hb.size) hs).trans (hb.block k hkk)⟩
end Go.Proofs.YtjikemhmnkckcabGreat
/- The program's machine in memory, and what stays. -/
namespace Go.Proofs.YtjikemhmnkckcabGreat
open Go.RowKit

/-- What a run comes to, without addresses of Go's own memory. -/
structure MS where
  R : RSt
  r : List Int
  heard : Nat
  drawn : Nat
  out : ByteArray
  pc : Nat
  next : Nat
  steps : Nat
  en : Int
  ex : Int
  rep : Rpt
/-- What does not change in a run. -/
structure MFix where
  mb : Nat
  ph : Nat
  gc : Value
  bb : Nat
  ia : Option Addr
  icap : Nat
  code : List Ins
  inp : ByteArray
  da : Option Addr
  dcap : Nat
  ds : List Int
def mC (F : MFix) (S : MS) (vo vn : Value) : List Value :=
  mCells (.pointer (some ⟨F.ph, 0, none⟩)) (.slice F.ia F.code.length F.icap) S.r F.inp S.heard (.slice F.da F.ds.length F.dcap) S.drawn vo S.pc S.next S.steps S.en S.ex (rptCells S.rep vn)
structure MRep (F : MFix) (wB w : World) (G : GSt) (vo vn : Value) (S : MS) : Prop where
  blk : Blk w F.mb 81 (mC F S vo vn)
  heap : GRep w F.ph F.gc F.bb G
  sim : SimB G S.R
  out : w.ownsRow 0 5 1 vo S.out.size (bytesV S.out)
  near : w.ownsRow 0 64 3 vn S.rep.near.length (S.rep.near.flatMap nearCells)
  r8 : S.r.length = 8
  rbd : ∀ k, k < 8 → -9223372036854775808 ≤ rg S.r k ∧ rg S.r k ≤ 9223372036854775807
  below : Below wB.heap.size wB w
  hm : wB.heap.size ≤ F.mb
  hf : ∀ b, GFoot F.ph F.gc F.bb G b → wB.heap.size ≤ b ∧ b ≠ F.mb
  ho : ∀ g, vo.ownBlock = some g → wB.heap.size ≤ g ∧ g ≠ F.mb ∧ ¬ GFoot F.ph F.gc F.bb G g
  hn : ∀ g, vn.ownBlock = some g → wB.heap.size ≤ g ∧ g ≠ F.mb ∧ ¬ GFoot F.ph F.gc F.bb G g ∧ vo.ownBlock ≠ some g
  codeR : IRow wB F.ia F.icap F.code
  drawR : DRow wB F.da F.dcap F.ds

section
variable {F : MFix} {wB w w' : World} {G G' : GSt} {vo vn : Value} {S : MS}
theorem MRep.under (h : MRep F wB w G vo vn S) (hb : Below w.heap.size w w') : MRep F wB w' G vo vn S :=
  ⟨h.blk.below hb h.blk.lt, h.heap.below hb, h.sim, row_below h.out hb (own_lt h.out), row_below h.near hb (own_lt h.near), h.r8, h.rbd, h.below.trans (hb.mono h.below.size), h.hm, h.hf, h.ho, h.hn, h.codeR, h.drawR⟩
/-- A call of the heap. -/
theorem MRep.call {R' : RSt} (h : MRep F wB w G vo vn S) (hg : GRep w' F.ph F.gc F.bb G') (hk : Kept w w' (GFoot F.ph F.gc F.bb G)) (hs : SimB G' R') (hf : ∀ b, GFoot F.ph F.gc F.bb G' b ↔ GFoot F.ph F.gc F.bb G b) :
    MRep F wB w' G' vo vn ⟨R', S.r, S.heard, S.drawn, S.out, S.pc, S.next, S.steps, S.en, S.ex, S.rep⟩ :=
  ⟨h.blk.kept hk (fun e => (h.hf _ e).2 rfl), hg, hs, row_kept h.out (fun g hg => hk.block g (own_lt h.out g hg) (h.ho g hg).2.2), row_kept h.near (fun g hg => hk.block g (own_lt h.near g hg) (h.hn g hg).2.2.1), h.r8, h.rbd,
    ⟨by rw [hk.os, h.below.os], by rw [hk.tape, h.below.tape], by rw [hk.output, h.below.output], Nat.le_trans h.below.size hk.size, fun k hkk => (hk.block k (Nat.lt_of_lt_of_le hkk h.below.size) (fun e => by have := (h.hf k e).1; omega)).trans (h.below.block k hkk)⟩,
    h.hm, fun b hb => h.hf b ((hf b).1 hb), fun g hg => ⟨(h.ho g hg).1, (h.ho g hg).2.1, fun e => (h.ho g hg).2.2 ((hf g).1 e)⟩, fun g hg => ⟨(h.hn g hg).1, (h.hn g hg).2.1, fun e => (h.hn g hg).2.2.1 ((hf g).1 e), (h.hn g hg).2.2.2⟩, h.codeR, h.drawR⟩
/-- What changes the machine's own block alone. -/
theorem MRep.own {S' : MS} (h : MRep F wB w G vo vn S) (hk : Kept w w' (· = F.mb)) (hb : Blk w' F.mb 81 (mC F S' vo vn)) (hR : S'.R = S.R) (ho : S'.out = S.out) (hn : S'.rep = S.rep) (h8 : S'.r.length = 8)
    (hr : ∀ k, k < 8 → -9223372036854775808 ≤ rg S'.r k ∧ rg S'.r k ≤ 9223372036854775807) : MRep F wB w' G vo vn S' :=
  ⟨hb, h.heap.kept (fun b hb => hk.block b (h.heap.foot_lt hb) (fun e => (h.hf b hb).2 e)), by rw [hR]; exact h.sim, by rw [ho]; exact row_kept h.out (fun g hg => hk.block g (own_lt h.out g hg) (fun e => (h.ho g hg).2.1 e)), by rw [hn]; exact row_kept h.near (fun g hg => hk.block g (own_lt h.near g hg) (fun e => (h.hn g hg).2.1 e)), h8, hr,
    ⟨by rw [hk.os, h.below.os], by rw [hk.tape, h.below.tape], by rw [hk.output, h.below.output], Nat.le_trans h.below.size hk.size, fun k hkk => (hk.block k (Nat.lt_of_lt_of_le hkk h.below.size) (fun e => by have := h.hm; omega)).trans (h.below.block k hkk)⟩,
    h.hm, h.hf, h.ho, h.hn, h.codeR, h.drawR⟩
end
end Go.Proofs.YtjikemhmnkckcabGreat
/- The program's machine: Free. -/
namespace Go.Proofs.YtjikemhmnkckcabGreat
open Go.RowKit
attribute [local go_sem ↓] Go.wp_at_zero Go.wp_at_succ

theorem MRep.faulted {F : MFix} {wB w w' : World} {G : GSt} {vo vn v : Value} {S : MS} {rp : Rpt} (h : MRep F wB w G vo vn S) (hk : Kept w w' (· = F.mb)) (hb : Blk w' F.mb 81 (mC F ⟨S.R, S.r, S.heard, S.drawn, S.out, S.pc, S.next, S.steps, 5, S.ex, rp⟩ vo v))
    (hr : w'.ownsRow 0 64 3 v rp.near.length (rp.near.flatMap nearCells)) (hv : ∀ g, v.ownBlock = some g → w.heap.size ≤ g) : MRep F wB w' G vo v ⟨S.R, S.r, S.heard, S.drawn, S.out, S.pc, S.next, S.steps, 5, S.ex, rp⟩ := by
  have hs := h.below.size
  refine ⟨hb, h.heap.kept (fun b hb => hk.block b (h.heap.foot_lt hb) (fun e => (h.hf b hb).2 e)), h.sim, row_kept h.out (fun g hg => hk.block g (own_lt h.out g hg) (fun e => (h.ho g hg).2.1 e)), hr, h.r8, h.rbd,
    ⟨by rw [hk.os, h.below.os], by rw [hk.tape, h.below.tape], by rw [hk.output, h.below.output], Nat.le_trans h.below.size hk.size, fun k hkk => (hk.block k (Nat.lt_of_lt_of_le hkk h.below.size) (fun e => by have := h.hm; omega)).trans (h.below.block k hkk)⟩,
    h.hm, h.hf, h.ho, fun g hg => ⟨by have := hv g hg; omega, fun e => by have := hv g hg; have := h.blk.lt; omega, fun e => by have := hv g hg; have := h.heap.foot_lt e; omega, fun e => by have := hv g hg; have := own_lt h.out g e; omega⟩, h.codeR, h.drawR⟩

theorem eight {r : List Int} (h : r.length = 8) : ∃ r0 r1 r2 r3 r4 r5 r6 r7, r = [r0, r1, r2, r3, r4, r5, r6, r7] := by
  match r, h with
  | [r0, r1, r2, r3, r4, r5, r6, r7], _ => exact ⟨r0, r1, r2, r3, r4, r5, r6, r7, rfl⟩

/-- Free. -/
def dFree (S : MS) (k : Nat) : MS :=
  if fOut S.R (rg S.r k) = 0 then ⟨fR S.R (rg S.r k) S.pc, S.r, S.heard, S.drawn, S.out, S.pc, S.next, S.steps, S.en, S.ex, S.rep⟩
  else ⟨fR S.R (rg S.r k) S.pc, S.r, S.heard, S.drawn, S.out, S.pc, S.next, S.steps, 5, S.ex, rblame (fR S.R (rg S.r k) S.pc) (rg S.r k)⟩

set_option maxRecDepth 100000 in
set_option maxHeartbeats 3200000 in
theorem doFree_any (F : MFix) (wB w : World) (G : GSt) (vo vn : Value) (S : MS) (op b c : Int) (k : Nat) (h : MRep F wB w G vo vn S) (hk : k < 8) :
    Calls Tryz.prog 80 #[.pointer (some ⟨F.mb, 0, none⟩), .agg #[.int .i64 op, .int .i64 (k : Int), .int .i64 b, .int .i64 c]] w fun e w' => e = .returned (.tuple #[]) ∧ ∃ G' vn', MRep F wB w' G' vo vn' (dFree S k) := by
  obtain ⟨SR, Sr, Sh, Sd, So, Sp, Sn, Ss, Se, Sx, Srep⟩ := S
  obtain ⟨r0, r1, r2, r3, r4, r5, r6, r7, hr⟩ := eight h.r8
  simp only at hr
  subst hr
  obtain ⟨y0, y1, y2, y3, y4, y5, y6, y7, y8, yl⟩ := Srep
  obtain ⟨wa, hwa⟩ : ∃ wa, wa = w.alloc (.cells #[.int .i64 op, .int .i64 (k : Int), .int .i64 b, .int .i64 c] 60) := ⟨_, rfl⟩
  have hbl : Below w.heap.size w wa := by rw [hwa]; exact (Below.refl _ _).alloc (Nat.le_refl _) _
  have HX : Hid (Blk wa w.heap.size 60 [.int .i64 op, .int .i64 (k : Int), .int .i64 b, .int .i64 c]) := by show Blk _ _ _ _; rw [hwa]; exact Blk.alloc _ _ _
  have HM := hide2 (h.under hbl)
  have hrb := h.rbd k hk
  have rk := m_reg HM.out.blk rfl k hk
  have x1 := HX.out.cell (j := 1) rfl
  have hkI : (k : Int) < 8 := by omega
  simp only at hrb
  have HDF : Hid (dFree ⟨SR, [r0, r1, r2, r3, r4, r5, r6, r7], Sh, Sd, So, Sp, Sn, Ss, Se, Sx, ⟨y0, y1, y2, y3, y4, y5, y6, y7, y8, yl⟩⟩ k = if fOut SR (rg [r0, r1, r2, r3, r4, r5, r6, r7] k) = 0 then ⟨fR SR (rg [r0, r1, r2, r3, r4, r5, r6, r7] k) Sp, [r0, r1, r2, r3, r4, r5, r6, r7], Sh, Sd, So, Sp, Sn, Ss, Se, Sx, ⟨y0, y1, y2, y3, y4, y5, y6, y7, y8, yl⟩⟩
    else ⟨fR SR (rg [r0, r1, r2, r3, r4, r5, r6, r7] k) Sp, [r0, r1, r2, r3, r4, r5, r6, r7], Sh, Sd, So, Sp, Sn, Ss, 5, Sx, rblame (fR SR (rg [r0, r1, r2, r3, r4, r5, r6, r7] k) Sp) (rg [r0, r1, r2, r3, r4, r5, r6, r7] k)⟩) := rfl
  generalize dFree ⟨SR, [r0, r1, r2, r3, r4, r5, r6, r7], Sh, Sd, So, Sp, Sn, Ss, Se, Sx, ⟨y0, y1, y2, y3, y4, y5, y6, y7, y8, yl⟩⟩ k = S' at *
  generalize rg [r0, r1, r2, r3, r4, r5, r6, r7] k = q at *
  clear h hbl
  go_enter Tryz.func80, Tryz.ntmps80
  go_upto_region 1 with (fail)
  rw [← hwa]
  clear hwa
  go_wp2
  go_quiet (fail)
  go_upto_region 2 with (fail)
  obtain ⟨wb, hwb⟩ : ∃ wb, wb = wa.drewN nq := ⟨_, rfl⟩
  rw [← hwb]
  have hbb : Below wa.heap.size wa wb := by rw [hwb]; exact below_drewN (Below.refl _ _) _
  have HM2 := hide2 (HM.out.under hbb)
  clear hwb hbb rk x1 nq HM HX
  have c0 := HM2.out.blk.cell (j := 0) rfl
  have c15 := HM2.out.blk.cell (j := 15) rfl
  go_region_held3 (fun w' => w'.cell? ⟨F.mb, 0, none⟩ = some (.pointer (some ⟨F.ph, 0, none⟩)) ∧ w'.cell? ⟨F.mb, 15, none⟩ = some (.int .i64 (Sp : Int))) (go_keep)
    (first | (go_at_call 111; refine (gfree_st F.ph F.gc F.bb G SR q (Sp : Int) wb.drew ((HM2.out.under ((Below.refl _ _).drew)).heap) HM2.out.sim.sim hrb.2).mono ?_; rintro e1 w1 ⟨rfl, hg1, hk1⟩; have HM3 := hide2 ((HM2.out.under ((Below.refl _ _).drew)).call hg1 hk1 (HM2.out.sim.free_any q (Sp : Int)) (fun b => fG_foot HM2.out.sim.sim q (Sp : Int) F.ph F.gc F.bb b)); clear hg1 hk1; have c0' := HM3.out.blk.cell (j := 0) rfl; have c15' := HM3.out.blk.cell (j := 15) rfl))
  by_cases he : fOut SR q = 0
  · rw [he]
    have HD : Hid (S' = ⟨fR SR q Sp, [r0, r1, r2, r3, r4, r5, r6, r7], Sh, Sd, So, Sp, Sn, Ss, Se, Sx, ⟨y0, y1, y2, y3, y4, y5, y6, y7, y8, yl⟩⟩) := by show _ = _; rw [HDF.out, if_pos he]
    clear he
    go_wp2
    go_end0
    exact ⟨rfl, _, _, by rw [HD.out]; exact HM3.out⟩
  · have HD : Hid (S' = ⟨fR SR q Sp, [r0, r1, r2, r3, r4, r5, r6, r7], Sh, Sd, So, Sp, Sn, Ss, 5, Sx, rblame (fR SR q Sp) q⟩) := by show _ = _; rw [HDF.out, if_neg he]
    have hne : (fOut SR q != 0) = true := by simpa using he
    clear he
    go_wp2_with (go_at_call 112; refine (mblame_any F.mb F.ph F.gc F.bb (fG G SR q Sp) (fR SR q Sp) _ r0 r1 r2 r3 r4 r5 r6 r7 F.inp _ _ _ vo _ _ _ _ _ y0 y1 y2 y3 y4 y5 y6 y7 y8 vn q w1 HM3.out.heap HM3.out.sim.sim hrb.2 HM3.out.blk).mono ?_; rintro e2 w2 ⟨v, rfl, hm2, hrow, hvl, hk2⟩; rw [blame_sim HM3.out.sim.sim q] at hm2 hrow; have HM4 := hide2 (HM3.out.faulted hk2 hm2 hrow hvl); clear hm2 hrow hvl hk2)
    go_end0
    exact ⟨rfl, _, _, by rw [HD.out]; exact HM4.out⟩
end Go.Proofs.YtjikemhmnkckcabGreat
/- The program's machine: Usable. -/
namespace Go.Proofs.YtjikemhmnkckcabGreat
open Go.RowKit
attribute [local go_sem ↓] Go.wp_at_zero Go.wp_at_succ

/-- A register is set. -/
def MS.reg (S : MS) (k : Nat) (v : Int) : MS := ⟨S.R, S.r.set k v, S.heard, S.drawn, S.out, S.pc, S.next, S.steps, S.en, S.ex, S.rep⟩
def MS.fault (S : MS) (rp : Rpt) : MS := ⟨S.R, S.r, S.heard, S.drawn, S.out, S.pc, S.next, S.steps, 5, S.ex, rp⟩
theorem rg_set (r : List Int) (k j : Nat) (v : Int) (hk : k < r.length) : rg (r.set k v) j = if j = k then v else rg r j := by
  unfold rg
  rw [List.getD_eq_getElem?_getD, List.getD_eq_getElem?_getD]
  by_cases e : j = k
  · subst e; rw [List.getElem?_set_self hk, if_pos rfl]; rfl
  · rw [List.getElem?_set_ne (fun h => e h.symm), if_neg e]
theorem MRep.setReg {F : MFix} {wB w : World} {G : GSt} {vo vn : Value} {S : MS} (h : MRep F wB w G vo vn S) (k : Nat) (hk : k < 8) (v : Int) (v0 : -9223372036854775808 ≤ v) (v1 : v ≤ 9223372036854775807) : MRep F wB (w.setCell ⟨F.mb, 2 + k, none⟩ (.int .i64 v)) G vo vn (S.reg k v) := by
  have hb := h.blk.setCell (2 + k) (.int .i64 v)
  unfold mC at hb
  rw [m_set _ _ _ _ _ _ _ _ _ _ _ _ _ _ h.r8 k hk v] at hb
  refine h.own ((Kept.refl w _).setCell _ _ rfl) hb rfl rfl rfl (by show (S.r.set k v).length = 8; rw [List.length_set]; exact h.r8) (fun j hj => ?_)
  show -9223372036854775808 ≤ rg (S.r.set k v) j ∧ rg (S.r.set k v) j ≤ 9223372036854775807
  rw [rg_set _ _ _ _ (by rw [h.r8]; exact hk)]
  split
  · exact ⟨v0, v1⟩
  · exact h.rbd j hj
theorem musable_bd {R : RSt} (h : ROk R) (q : Int) : 0 ≤ (R.usable q).1 ∧ (R.usable q).1 ≤ 1000 := by
  unfold RSt.usable
  split
  · exact ⟨Int.le_refl _, by omega⟩
  · have h0 := h.size0 (Ref.given R.log (Ref.block R.st R.cls R.log q).1 (Ref.block R.st R.cls R.log q).2.1).toNat
    have h1 := h.size1 (Ref.given R.log (Ref.block R.st R.cls R.log q).1 (Ref.block R.st R.cls R.log q).2.1).toNat
    simp only
    omega
def dUsable (S : MS) (ka kb : Nat) : MS :=
  if (S.R.usable (rg S.r kb)).2 = 0 then S.reg ka (S.R.usable (rg S.r kb)).1 else S.fault (rblame S.R (rg S.r kb))

set_option maxRecDepth 100000 in
set_option maxHeartbeats 3200000 in
theorem doUsable_any (F : MFix) (wB w : World) (G : GSt) (vo vn : Value) (S : MS) (op c : Int) (ka kb : Nat) (h : MRep F wB w G vo vn S) (hka : ka < 8) (hkb : kb < 8) :
    Calls Tryz.prog 82 #[.pointer (some ⟨F.mb, 0, none⟩), .agg #[.int .i64 op, .int .i64 (ka : Int), .int .i64 (kb : Int), .int .i64 c]] w fun e w' => e = .returned (.tuple #[]) ∧ ∃ G' vn', MRep F wB w' G' vo vn' (dUsable S ka kb) := by
  obtain ⟨SR, Sr, Sh, Sd, So, Sp, Sn, Ss, Se, Sx, Srep⟩ := S
  obtain ⟨r0, r1, r2, r3, r4, r5, r6, r7, hr⟩ := eight h.r8
  simp only at hr
  subst hr
  obtain ⟨y0, y1, y2, y3, y4, y5, y6, y7, y8, yl⟩ := Srep
  obtain ⟨wa, hwa⟩ : ∃ wa, wa = w.alloc (.cells #[.int .i64 op, .int .i64 (ka : Int), .int .i64 (kb : Int), .int .i64 c] 60) := ⟨_, rfl⟩
  have hbl : Below w.heap.size w wa := by rw [hwa]; exact (Below.refl _ _).alloc (Nat.le_refl _) _
  have HX : Hid (Blk wa w.heap.size 60 [.int .i64 op, .int .i64 (ka : Int), .int .i64 (kb : Int), .int .i64 c]) := by show Blk _ _ _ _; rw [hwa]; exact Blk.alloc _ _ _
  have HM := hide2 (h.under hbl)
  have hrb := h.rbd kb hkb
  have rk := m_reg HM.out.blk rfl kb hkb
  have x2 := HX.out.cell (j := 2) rfl
  have hkI : (kb : Int) < 8 := by omega
  have hkA : (ka : Int) < 8 := by omega
  simp only at hrb
  have HDF : Hid (dUsable ⟨SR, [r0, r1, r2, r3, r4, r5, r6, r7], Sh, Sd, So, Sp, Sn, Ss, Se, Sx, ⟨y0, y1, y2, y3, y4, y5, y6, y7, y8, yl⟩⟩ ka kb = if (SR.usable (rg [r0, r1, r2, r3, r4, r5, r6, r7] kb)).2 = 0 then MS.reg ⟨SR, [r0, r1, r2, r3, r4, r5, r6, r7], Sh, Sd, So, Sp, Sn, Ss, Se, Sx, ⟨y0, y1, y2, y3, y4, y5, y6, y7, y8, yl⟩⟩ ka (SR.usable (rg [r0, r1, r2, r3, r4, r5, r6, r7] kb)).1 else MS.fault ⟨SR, [r0, r1, r2, r3, r4, r5, r6, r7], Sh, Sd, So, Sp, Sn, Ss, Se, Sx, ⟨y0, y1, y2, y3, y4, y5, y6, y7, y8, yl⟩⟩ (rblame SR (rg [r0, r1, r2, r3, r4, r5, r6, r7] kb))) := rfl
  generalize dUsable ⟨SR, [r0, r1, r2, r3, r4, r5, r6, r7], Sh, Sd, So, Sp, Sn, Ss, Se, Sx, ⟨y0, y1, y2, y3, y4, y5, y6, y7, y8, yl⟩⟩ ka kb = S' at *
  generalize rg [r0, r1, r2, r3, r4, r5, r6, r7] kb = q at *
  have hub := musable_bd HM.out.sim.sim.rok q
  simp only at hub
  clear h hbl
  go_enter Tryz.func82, Tryz.ntmps82
  go_upto_region 1 with (fail)
  rw [← hwa]
  clear hwa
  go_wp2
  go_quiet (fail)
  go_upto_region 2 with (fail)
  obtain ⟨wb, hwb⟩ : ∃ wb, wb = wa.drewN nq := ⟨_, rfl⟩
  rw [← hwb]
  have hbb : Below wa.heap.size wa wb := by rw [hwb]; exact below_drewN (Below.refl _ _) _
  have HM2 := hide2 (HM.out.under hbb)
  have HX2 := hide2 (HX.out.below hbb HX.out.lt)
  clear hwb hbb rk x2 nq HM HX
  have c0 := HM2.out.blk.cell (j := 0) rfl
  go_upto_region 3 with (go_at_call 114; refine (gusable_any F.ph F.gc F.bb G SR q wb HM2.out.heap HM2.out.sim.sim hrb.2).mono ?_; rintro e1 w1 ⟨rfl, hb1⟩; have HM3 := hide2 (HM2.out.under hb1); have HX3 := hide2 (HX2.out.below hb1 HX2.out.lt); clear hb1)
  clear c0 HM2 HX2
  have x1 := HX3.out.cell (j := 1) rfl
  by_cases he : (SR.usable q).2 = 0
  · rw [he]
    have HD : Hid (S' = MS.reg ⟨SR, [r0, r1, r2, r3, r4, r5, r6, r7], Sh, Sd, So, Sp, Sn, Ss, Se, Sx, ⟨y0, y1, y2, y3, y4, y5, y6, y7, y8, yl⟩⟩ ka (SR.usable q).1) := by show _ = _; rw [HDF.out, if_pos he]
    generalize (SR.usable q).1 = u at *
    clear he
    have ra := m_reg HM3.out.blk rfl ka hka
    have raf := HM3.out.blk.frozen (2 + ka)
    go_wp2
    go_region
    go_end0
    exact ⟨rfl, _, _, by rw [HD.out]; exact (HM3.out.setReg ka hka u (by omega) (by omega)).under ((Below.refl _ _).drew)⟩
  · have HD : Hid (S' = MS.fault ⟨SR, [r0, r1, r2, r3, r4, r5, r6, r7], Sh, Sd, So, Sp, Sn, Ss, Se, Sx, ⟨y0, y1, y2, y3, y4, y5, y6, y7, y8, yl⟩⟩ (rblame SR q)) := by show _ = _; rw [HDF.out, if_neg he]
    have hne : ((SR.usable q).2 != 0) = true := by simpa using he
    clear he
    go_wp2_with (go_at_call 112; refine (mblame_any F.mb F.ph F.gc F.bb G SR _ r0 r1 r2 r3 r4 r5 r6 r7 F.inp _ _ _ vo _ _ _ _ _ y0 y1 y2 y3 y4 y5 y6 y7 y8 vn q w1 HM3.out.heap HM3.out.sim.sim hrb.2 HM3.out.blk).mono ?_; rintro e2 w2 ⟨v, rfl, hm2, hrow, hvl, hk2⟩; rw [blame_sim HM3.out.sim.sim q] at hm2 hrow; have HM4 := hide2 (HM3.out.faulted hk2 hm2 hrow hvl); clear hm2 hrow hvl hk2)
    refine bodyPost_ret (v := .tuple #[]) (results_none Tryz.results82 _ _ _) rfl ?_
    exact ⟨rfl, _, _, by rw [HD.out]; exact HM4.out⟩
end Go.Proofs.YtjikemhmnkckcabGreat
