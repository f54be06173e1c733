import Derived.Test.YtjikemhmnkckcabJ39
import Derived.Test.YtjikemhmnkckcabJ41
import Derived.Test.YtjikemhmnkckcabJ22
import Derived.Test.YtjikemhmnkckcabJ29
import Derived.Test.YtjikemhmnkckcabJ4
import Derived.Test.YtjikemhmnkckcabJ21
import Derived.Deep.Cut
/- The program's machine: a fault. -/
namespace Go.Proofs.Ytjikemhmnkckcab
open Go.RowKit
attribute [local go_sem ↓] Go.wp_at_zero Go.wp_at_succ

set_option maxRecDepth 100000 in
set_option maxHeartbeats 3200000 in
theorem fault_any (mb : Nat) (ph vcode : Value) (r0 r1 r2 r3 r4 r5 r6 r7 : Int) (inp : ByteArray) (heard : Int) (vd : Value) (drawn : Int) (vo : Value) (pc next steps en ex : Int) (x0 x1 x2 x3 x4 x5 x6 x7 x8 : Int) (vx : Value) (y : Rpt) (ya : Option Addr) (yn ycap : Nat) (w : World)
    (h : Blk w mb 85 (mCells ph vcode [r0, r1, r2, r3, r4, r5, r6, r7] inp heard vd drawn vo pc next steps en ex [.int .i64 x0, .int .i64 x1, .int .i64 x2, .int .i64 x3, .int .i64 x4, .int .i64 x5, .int .i64 x6, .int .i64 x7, .int .i64 x8, vx])) :
    Calls Try.prog 87 #[.pointer (some ⟨mb, 0, none⟩), rptV y (.slice ya yn ycap)] w fun e w' => e = .returned (.tuple #[]) ∧ Blk w' mb 85 (mCells ph vcode [r0, r1, r2, r3, r4, r5, r6, r7] inp heard vd drawn vo pc next steps 5 ex (rptCells y (.slice ya yn ycap))) ∧ Kept w w' (· = mb) := by
  obtain ⟨y0, y1, y2, y3, y4, y5, y6, y7, y8, yl⟩ := y
  unfold rptV rptCells
  simp only
  go_enter Try.func87, Try.ntmps87
  go_upto_region 1 with (fail)
  obtain ⟨wa, hwa⟩ : ∃ wa, wa = w.alloc (.cells #[.int .i64 y0, .int .i64 y1, .int .i64 y2, .int .i64 y3, .int .i64 y4, .int .i64 y5, .int .i64 y6, .int .i64 y7, .int .i64 y8, .slice ya yn ycap] 47) := ⟨_, rfl⟩
  have hbl : Below w.heap.size w wa := by rw [hwa]; exact (Below.refl _ _).alloc (Nat.le_refl _) _
  have HX : Hid (Blk wa w.heap.size 47 [.int .i64 y0, .int .i64 y1, .int .i64 y2, .int .i64 y3, .int .i64 y4, .int .i64 y5, .int .i64 y6, .int .i64 y7, .int .i64 y8, .slice ya yn ycap]) := by show Blk _ _ _ _; rw [hwa]; exact Blk.alloc _ _ _
  have HM := hide2 (h.below hbl h.lt)
  have hne : w.heap.size ≠ mb := by have := h.lt; omega
  have HK : Hid (Kept w wa (· = mb)) := Kept.of_below hbl _
  rw [← hwa]
  clear hwa hbl h
  have c18 := HM.out.cell (j := 18) rfl
  have f18 := HM.out.frozen 18
  go_upto_region 2 with (fail)
  obtain ⟨wb, hwb⟩ : ∃ wb, wb = wa.setCell ⟨mb, 18, none⟩ (.int .i64 5) := ⟨_, rfl⟩
  rw [← hwb]
  have HM2 := hide2 (HM.out.setCell 18 (.int .i64 5))
  have HX2 := hide2 (HX.out.setCell_other ⟨mb, 18, none⟩ (.int .i64 5) hne)
  have HK2 := hide2 (HK.out.setCell ⟨mb, 18, none⟩ (.int .i64 5) rfl)
  rw [← hwb] at HM2 HX2 HK2
  clear hwb c18 f18 HM HX HK
  have a0 := HX2.out.cell (j := 0) rfl
  have a1 := HX2.out.cell (j := 1) rfl
  have a2 := HX2.out.cell (j := 2) rfl
  have a3 := HX2.out.cell (j := 3) rfl
  have a4 := HX2.out.cell (j := 4) rfl
  have a5 := HX2.out.cell (j := 5) rfl
  have a6 := HX2.out.cell (j := 6) rfl
  have a7 := HX2.out.cell (j := 7) rfl
  have a8 := HX2.out.cell (j := 8) rfl
  have a9 := HX2.out.cell (j := 9) rfl
  have m20 := HM2.out.cell (j := 20) rfl
  have mf20 := HM2.out.frozen 20
  have m21 := HM2.out.cell (j := 21) rfl
  have mf21 := HM2.out.frozen 21
  have m22 := HM2.out.cell (j := 22) rfl
  have mf22 := HM2.out.frozen 22
  have m23 := HM2.out.cell (j := 23) rfl
  have mf23 := HM2.out.frozen 23
  have m24 := HM2.out.cell (j := 24) rfl
  have mf24 := HM2.out.frozen 24
  have m25 := HM2.out.cell (j := 25) rfl
  have mf25 := HM2.out.frozen 25
  have m26 := HM2.out.cell (j := 26) rfl
  have mf26 := HM2.out.frozen 26
  have m27 := HM2.out.cell (j := 27) rfl
  have mf27 := HM2.out.frozen 27
  have m28 := HM2.out.cell (j := 28) rfl
  have mf28 := HM2.out.frozen 28
  have m29 := HM2.out.cell (j := 29) rfl
  have mf29 := HM2.out.frozen 29
  go_wp2
  go_end0
  exact ⟨rfl, ((((((((((HM2.out.setCell 20 _).setCell 21 _).setCell 22 _).setCell 23 _).setCell 24 _).setCell 25 _).setCell 26 _).setCell 27 _).setCell 28 _).setCell 29 _), ((((((((((HK2.out.setCell _ _ rfl).setCell _ _ rfl).setCell _ _ rfl).setCell _ _ rfl).setCell _ _ rfl).setCell _ _ rfl).setCell _ _ rfl).setCell _ _ rfl).setCell _ _ rfl).setCell _ _ rfl)⟩

set_option maxRecDepth 100000 in
set_option maxHeartbeats 3200000 in
theorem mblame_any (mb p : Nat) (gc : Value) (bb : Nat) (G : GSt) (R : RSt) (vcode : Value) (r0 r1 r2 r3 r4 r5 r6 r7 : Int) (inp : ByteArray) (heard : Int) (vd : Value) (drawn : Int) (vo : Value) (pc next steps en ex : Int) (x0 x1 x2 x3 x4 x5 x6 x7 x8 : Int) (vx : Value) (q : Int) (w : World) (hg : GRep w p gc bb G) (hs : Sim G R) (q1 : q ≤ 9223372036854775807)
    (h : Blk w mb 85 (mCells (.pointer (some ⟨p, 0, none⟩)) vcode [r0, r1, r2, r3, r4, r5, r6, r7] inp heard vd drawn vo pc next steps en ex [.int .i64 x0, .int .i64 x1, .int .i64 x2, .int .i64 x3, .int .i64 x4, .int .i64 x5, .int .i64 x6, .int .i64 x7, .int .i64 x8, vx])) :
    Calls Try.prog 71 #[.pointer (some ⟨mb, 0, none⟩), .int .i64 q] w fun e w' => ∃ v, e = .returned (.tuple #[]) ∧ Blk w' mb 85 (mCells (.pointer (some ⟨p, 0, none⟩)) vcode [r0, r1, r2, r3, r4, r5, r6, r7] inp heard vd drawn vo pc next steps 5 ex (rptCells (gblame G R q) v)) ∧
      w'.ownsRow 0 126 3 v (gblame G R q).near.length ((gblame G R q).near.flatMap nearCells) ∧ (∀ g, v.ownBlock = some g → w.heap.size ≤ g) ∧ Kept w w' (· = mb) := by
  have HG := hide2 hg
  have HS := hide2 hs
  have H := hide2 h
  have c0 := h.cell (j := 0) rfl
  have hml := h.lt
  clear h hg hs
  generalize hgb : gblame G R q = gb at *
  have HGB := hide2 hgb
  clear hgb
  go_enter Try.func71, Try.ntmps71
  go_upto_region 1 with (go_at_call 86; refine (gblame_any p gc bb G R q w HG.out HS.out q1).mono ?_; rw [HGB.out]; rintro e1 w1 ⟨v, rfl, hn⟩; obtain ⟨na, ncap, hv, -, -, -⟩ := row_open hn.row; subst hv; have HN := hide2 hn; clear hn; unfold rptV rptCells)
  obtain ⟨w2, hw2⟩ : ∃ w2, w2 = w1.alloc (.cells (rptCells gb (.slice na gb.near.length ncap)).toArray 47) := ⟨_, rfl⟩
  have HX2 : Hid (Below w1.heap.size w1 w2) := by show Below _ _ _; rw [hw2]; exact (Below.refl _ _).alloc (Nat.le_refl _) _
  have HP2 : Hid (Blk w2 w1.heap.size 47 (rptCells gb (.slice na gb.near.length ncap))) := by show Blk _ _ _ _; rw [hw2]; exact Blk.alloc _ _ _
  unfold rptCells at hw2
  rw [← hw2]
  clear hw2
  have HN2 := hide2 (HN.out.later HX2.out)
  have HM2 := hide2 (H.out.below HN2.out.below hml)
  have a0 := HP2.out.cell (j := 0) rfl
  have a1 := HP2.out.cell (j := 1) rfl
  have a2 := HP2.out.cell (j := 2) rfl
  have a3 := HP2.out.cell (j := 3) rfl
  have a4 := HP2.out.cell (j := 4) rfl
  have a5 := HP2.out.cell (j := 5) rfl
  have a6 := HP2.out.cell (j := 6) rfl
  have a7 := HP2.out.cell (j := 7) rfl
  have a8 := HP2.out.cell (j := 8) rfl
  have a9 := HP2.out.cell (j := 9) rfl
  go_wp2_with (go_at_call 87; refine (fault_any mb _ vcode r0 r1 r2 r3 r4 r5 r6 r7 inp heard vd drawn vo pc next steps en ex x0 x1 x2 x3 x4 x5 x6 x7 x8 vx gb na gb.near.length ncap w2 HM2.out).mono ?_; rintro e2 w3 ⟨rfl, hm3, hk3⟩; have HM3 := hide2 hm3; have HK3 := hide2 hk3; clear hm3 hk3)
  go_end0
  refine ⟨.slice na gb.near.length ncap, rfl, HM3.out, row_kept HN2.out.row (fun g hg => HK3.out.block g (row_lt HN2.out.row hg) (by have := HN2.out.vlo g hg; omega)), HN2.out.vlo, ?_⟩
  have hb := HN2.out.below
  have hk := HK3.out
  exact ⟨by rw [hk.os, hb.os], by rw [hk.tape, hb.tape], by rw [hk.output, hb.output], Nat.le_trans hb.size hk.size, fun k hkk hs => (hk.block k (Nat.lt_of_lt_of_le hkk hb.size) hs).trans (hb.block k hkk)⟩
end Go.Proofs.Ytjikemhmnkckcab
/- The program's machine: an access that was refused. -/
namespace Go.Proofs.Ytjikemhmnkckcab
open Go.RowKit
attribute [local go_sem ↓] Go.wp_at_zero Go.wp_at_succ

set_option maxRecDepth 100000 in
set_option maxHeartbeats 3200000 in
theorem mexplain_any (mb p : Nat) (gc : Value) (bb : Nat) (G : GSt) (R : RSt) (vcode : Value) (r0 r1 r2 r3 r4 r5 r6 r7 : Int) (inp : ByteArray) (heard : Int) (vd : Value) (drawn : Int) (vo : Value) (pc next steps en ex : Int) (x0 x1 x2 x3 x4 x5 x6 x7 x8 : Int) (vx : Value) (q n : Int) (w : World) (hg : GRep w p gc bb G) (hs : Sim G R) (q1 : q ≤ 9223372036854775807)
    (h : Blk w mb 85 (mCells (.pointer (some ⟨p, 0, none⟩)) vcode [r0, r1, r2, r3, r4, r5, r6, r7] inp heard vd drawn vo pc next steps en ex [.int .i64 x0, .int .i64 x1, .int .i64 x2, .int .i64 x3, .int .i64 x4, .int .i64 x5, .int .i64 x6, .int .i64 x7, .int .i64 x8, vx])) :
    Calls Try.prog 75 #[.pointer (some ⟨mb, 0, none⟩), .int .i64 q, .int .i64 n] w fun e w' => ∃ v, e = .returned (.tuple #[]) ∧ Blk w' mb 85 (mCells (.pointer (some ⟨p, 0, none⟩)) vcode [r0, r1, r2, r3, r4, r5, r6, r7] inp heard vd drawn vo pc next steps 5 ex (rptCells (gexplain G R q n) v)) ∧
      w'.ownsRow 0 126 3 v (gexplain G R q n).near.length ((gexplain G R q n).near.flatMap nearCells) ∧ (∀ g, v.ownBlock = some g → w.heap.size ≤ g) ∧ Kept w w' (· = mb) := by
  have HG := hide2 hg
  have HS := hide2 hs
  have H := hide2 h
  have c0 := h.cell (j := 0) rfl
  have hml := h.lt
  clear h hg hs
  generalize hgb : gexplain G R q n = gb at *
  have HGB := hide2 hgb
  clear hgb
  go_enter Try.func75, Try.ntmps75
  go_upto_region 1 with (go_at_call 91; refine (gexplain_any p gc bb G R q n w HG.out HS.out q1).mono ?_; rw [HGB.out]; rintro e1 w1 ⟨v, rfl, hn⟩; obtain ⟨na, ncap, hv, -, -, -⟩ := row_open hn.row; subst hv; have HN := hide2 hn; clear hn; unfold rptV rptCells)
  obtain ⟨w2, hw2⟩ : ∃ w2, w2 = w1.alloc (.cells (rptCells gb (.slice na gb.near.length ncap)).toArray 47) := ⟨_, rfl⟩
  have HX2 : Hid (Below w1.heap.size w1 w2) := by show Below _ _ _; rw [hw2]; exact (Below.refl _ _).alloc (Nat.le_refl _) _
  have HP2 : Hid (Blk w2 w1.heap.size 47 (rptCells gb (.slice na gb.near.length ncap))) := by show Blk _ _ _ _; rw [hw2]; exact Blk.alloc _ _ _
  unfold rptCells at hw2
  rw [← hw2]
  clear hw2
  have HN2 := hide2 (HN.out.later HX2.out)
  have HM2 := hide2 (H.out.below HN2.out.below hml)
  have a0 := HP2.out.cell (j := 0) rfl
  have a1 := HP2.out.cell (j := 1) rfl
  have a2 := HP2.out.cell (j := 2) rfl
  have a3 := HP2.out.cell (j := 3) rfl
  have a4 := HP2.out.cell (j := 4) rfl
  have a5 := HP2.out.cell (j := 5) rfl
  have a6 := HP2.out.cell (j := 6) rfl
  have a7 := HP2.out.cell (j := 7) rfl
  have a8 := HP2.out.cell (j := 8) rfl
  have a9 := HP2.out.cell (j := 9) rfl
  go_wp2_with (go_at_call 87; refine (fault_any mb _ vcode r0 r1 r2 r3 r4 r5 r6 r7 inp heard vd drawn vo pc next steps en ex x0 x1 x2 x3 x4 x5 x6 x7 x8 vx gb na gb.near.length ncap w2 HM2.out).mono ?_; rintro e2 w3 ⟨rfl, hm3, hk3⟩; have HM3 := hide2 hm3; have HK3 := hide2 hk3; clear hm3 hk3)
  go_end0
  refine ⟨.slice na gb.near.length ncap, rfl, HM3.out, row_kept HN2.out.row (fun g hg => HK3.out.block g (row_lt HN2.out.row hg) (by have := HN2.out.vlo g hg; omega)), HN2.out.vlo, ?_⟩
  have hb := HN2.out.below
  have hk := HK3.out
  exact ⟨by rw [hk.os, hb.os], by rw [hk.tape, hb.tape], by rw [hk.output, hb.output], Nat.le_trans hb.size hk.size, fun k hkk hs => (hk.block k (Nat.lt_of_lt_of_le hkk hb.size) hs).trans (hb.block k hkk)⟩
end Go.Proofs.Ytjikemhmnkckcab
/- The program's machine in memory, and what stays. -/
namespace Go.Proofs.Ytjikemhmnkckcab
open Go.RowKit

/-- What a run comes to, without addresses of Go's own memory. -/
structure MS where
  R : RSt
  r : List Int
  heard : Nat
  drawn : Nat
  out : ByteArray
  pc : Nat
  next : Nat
  steps : Nat
  en : Int
  ex : Int
  rep : Rpt
/-- What does not change in a run. -/
structure MFix where
  mb : Nat
  ph : Nat
  gc : Value
  bb : Nat
  ia : Option Addr
  icap : Nat
  code : List Ins
  inp : ByteArray
  da : Option Addr
  dcap : Nat
  ds : List Int
def mC (F : MFix) (S : MS) (vo vn : Value) : List Value :=
  mCells (.pointer (some ⟨F.ph, 0, none⟩)) (.slice F.ia F.code.length F.icap) S.r F.inp S.heard (.slice F.da F.ds.length F.dcap) S.drawn vo S.pc S.next S.steps S.en S.ex (rptCells S.rep vn)
structure MRep (F : MFix) (wB w : World) (G : GSt) (vo vn : Value) (S : MS) : Prop where
  blk : Blk w F.mb 85 (mC F S vo vn)
  heap : GRep w F.ph F.gc F.bb G
  sim : SimB G S.R
  out : w.ownsRow 0 5 1 vo S.out.size (bytesV S.out)
  near : w.ownsRow 0 126 3 vn S.rep.near.length (S.rep.near.flatMap nearCells)
  r8 : S.r.length = 8
  rbd : ∀ k, k < 8 → -9223372036854775808 ≤ rg S.r k ∧ rg S.r k ≤ 9223372036854775807
  below : Below wB.heap.size wB w
  hm : wB.heap.size ≤ F.mb
  hf : ∀ b, GFoot F.ph F.gc F.bb G b → wB.heap.size ≤ b ∧ b ≠ F.mb
  ho : ∀ g, vo.ownBlock = some g → wB.heap.size ≤ g ∧ g ≠ F.mb ∧ ¬ GFoot F.ph F.gc F.bb G g
  hn : ∀ g, vn.ownBlock = some g → wB.heap.size ≤ g ∧ g ≠ F.mb ∧ ¬ GFoot F.ph F.gc F.bb G g ∧ vo.ownBlock ≠ some g
  codeR : IRow wB F.ia F.icap F.code
  drawR : DRow wB F.da F.dcap F.ds

section
variable {F : MFix} {wB w w' : World} {G G' : GSt} {vo vn : Value} {S : MS}
theorem MRep.under (h : MRep F wB w G vo vn S) (hb : Below w.heap.size w w') : MRep F wB w' G vo vn S :=
  ⟨h.blk.below hb h.blk.lt, h.heap.below hb, h.sim, row_below h.out hb (own_lt h.out), row_below h.near hb (own_lt h.near), h.r8, h.rbd, h.below.trans (hb.mono h.below.size), h.hm, h.hf, h.ho, h.hn, h.codeR, h.drawR⟩
/-- A call of the heap. -/
theorem MRep.call {R' : RSt} (h : MRep F wB w G vo vn S) (hg : GRep w' F.ph F.gc F.bb G') (hk : Kept w w' (GFoot F.ph F.gc F.bb G)) (hs : SimB G' R') (hf : ∀ b, GFoot F.ph F.gc F.bb G' b ↔ GFoot F.ph F.gc F.bb G b) :
    MRep F wB w' G' vo vn ⟨R', S.r, S.heard, S.drawn, S.out, S.pc, S.next, S.steps, S.en, S.ex, S.rep⟩ :=
  ⟨h.blk.kept hk (fun e => (h.hf _ e).2 rfl), hg, hs, row_kept h.out (fun g hg => hk.block g (own_lt h.out g hg) (h.ho g hg).2.2), row_kept h.near (fun g hg => hk.block g (own_lt h.near g hg) (h.hn g hg).2.2.1), h.r8, h.rbd,
    ⟨by rw [hk.os, h.below.os], by rw [hk.tape, h.below.tape], by rw [hk.output, h.below.output], Nat.le_trans h.below.size hk.size, fun k hkk => (hk.block k (Nat.lt_of_lt_of_le hkk h.below.size) (fun e => by have := (h.hf k e).1; omega)).trans (h.below.block k hkk)⟩,
    h.hm, fun b hb => h.hf b ((hf b).1 hb), fun g hg => ⟨(h.ho g hg).1, (h.ho g hg).2.1, fun e => (h.ho g hg).2.2 ((hf g).1 e)⟩, fun g hg => ⟨(h.hn g hg).1, (h.hn g hg).2.1, fun e => (h.hn g hg).2.2.1 ((hf g).1 e), (h.hn g hg).2.2.2⟩, h.codeR, h.drawR⟩
/-- What changes the machine's own block alone. -/
theorem MRep.own {S' : MS} (h : MRep F wB w G vo vn S) (hk : Kept w w' (· = F.mb)) (hb : Blk w' F.mb 85 (mC F S' vo vn)) (hR : S'.R = S.R) (ho : S'.out = S.out) (hn : S'.rep = S.rep) (h8 : S'.r.length = 8)
    (hr : ∀ k, k < 8 → -9223372036854775808 ≤ rg S'.r k ∧ rg S'.r k ≤ 9223372036854775807) : MRep F wB w' G vo vn S' :=
  ⟨hb, h.heap.kept (fun b hb => hk.block b (h.heap.foot_lt hb) (fun e => (h.hf b hb).2 e)), by rw [hR]; exact h.sim, by rw [ho]; exact row_kept h.out (fun g hg => hk.block g (own_lt h.out g hg) (fun e => (h.ho g hg).2.1 e)), by rw [hn]; exact row_kept h.near (fun g hg => hk.block g (own_lt h.near g hg) (fun e => (h.hn g hg).2.1 e)), h8, hr,
    ⟨by rw [hk.os, h.below.os], by rw [hk.tape, h.below.tape], by rw [hk.output, h.below.output], Nat.le_trans h.below.size hk.size, fun k hkk => (hk.block k (Nat.lt_of_lt_of_le hkk h.below.size) (fun e => by have := h.hm; omega)).trans (h.below.block k hkk)⟩,
    h.hm, h.hf, h.ho, h.hn, h.codeR, h.drawR⟩
end
end Go.Proofs.Ytjikemhmnkckcab
/- The document's report: sites. -/
namespace Go.Proofs.Ytjikemhmnkckcab
open Go.RowKit

def rAlloc (log : List Ref.Ev) (k s : Int) : Int := if Ref.given log k s < 0 then 0 else (log.getD (Ref.given log k s).toNat Ref.Ev.no).site
def rGone (log : List Ref.Ev) (k s : Int) : Int := if Ref.gone log k s < 0 then 0 else (log.getD (Ref.gone log k s).toNat Ref.Ev.no).site

end Go.Proofs.Ytjikemhmnkckcab
/- The document's report: lies. -/
namespace Go.Proofs.Ytjikemhmnkckcab
open Go.RowKit

def rNearAt (R : RSt) (k : Nat) (s want : Int) (i : Nat) : List (Int × Int × Int) :=
  if Ref.state R.log k i ≠ 2 ∧ Ref.last R.log k i = want ∧ (i : Int) - s < 2 ∧ s - (i : Int) < 2 then [((i : Int), rAlloc R.log k i, rGone R.log k i)] else []
def rNearTo (R : RSt) (k : Nat) (s want : Int) : Nat → List (Int × Int × Int)
  | 0 => []
  | m + 1 => rNearTo R k s want m ++ rNearAt R k s want m
theorem rNearTo_len (R : RSt) (k : Nat) (s want : Int) (m : Nat) : (rNearTo R k s want m).length ≤ m := by
  induction m with
  | zero => simp [rNearTo]
  | succ m ih =>
    have : (rNearAt R k s want m).length ≤ 1 := by unfold rNearAt; split <;> simp
    simp only [rNearTo, List.length_append]; omega
def rlies (R : RSt) (er addr want : Int) : Rpt :=
  if (Cf.slot R.st R.cls addr).1 < 0 then ⟨er, addr, want, R.tag addr, if R.tag addr = 0 then 1 else 0, 0, 0, 0, 0, []⟩
  else ⟨er, addr, want, R.tag addr, Ref.state R.log (Cf.slot R.st R.cls addr).1 (Cf.slot R.st R.cls addr).2, (Cf.slot R.st R.cls addr).1, (Cf.slot R.st R.cls addr).2,
    if Ref.state R.log (Cf.slot R.st R.cls addr).1 (Cf.slot R.st R.cls addr).2 = 2 then 0 else rAlloc R.log (Cf.slot R.st R.cls addr).1 (Cf.slot R.st R.cls addr).2,
    if Ref.state R.log (Cf.slot R.st R.cls addr).1 (Cf.slot R.st R.cls addr).2 = 2 then 0 else rGone R.log (Cf.slot R.st R.cls addr).1 (Cf.slot R.st R.cls addr).2,
    rNearTo R (Cf.slot R.st R.cls addr).1.toNat (Cf.slot R.st R.cls addr).2 want (Cf.sl R.cls (Cf.slot R.st R.cls addr).1.toNat).toNat⟩

end Go.Proofs.Ytjikemhmnkckcab
