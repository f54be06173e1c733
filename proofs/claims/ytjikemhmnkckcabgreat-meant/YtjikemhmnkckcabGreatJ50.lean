import Derived.Test.YtjikemhmnkckcabGreatJ49
import Derived.Test.YtjikemhmnkckcabGreatJ48
namespace Go.Proofs.YtjikemhmnkckcabGreat
open Go.RowKit
theorem Blk.drew {w : World} {q : Nat} {t : TypeId} {l : List Value} (h : Blk w q t l) : Blk w.drew q t l := h
theorem blk_set16 {w : World} {q : Nat} {t : TypeId} {u0 u1 u2 u3 u4 u5 u6 u7 u8 u9 u10 u11 u12 u13 u14 u15 : Value} (h : Blk w q t [u0, u1, u2, u3, u4, u5, u6, u7, u8, u9, u10, u11, u12, u13, u14, u15]) (v0 v1 v2 v3 v4 v5 v6 v7 v8 v9 v10 v11 v12 v13 v14 v15 : Value) : Blk ((((((((((((((((w.setCell ⟨q, 0, none⟩ v0).setCell ⟨q, 1, none⟩ v1).setCell ⟨q, 2, none⟩ v2).setCell ⟨q, 3, none⟩ v3).setCell ⟨q, 4, none⟩ v4).setCell ⟨q, 5, none⟩ v5).setCell ⟨q, 6, none⟩ v6).setCell ⟨q, 7, none⟩ v7).setCell ⟨q, 8, none⟩ v8).setCell ⟨q, 9, none⟩ v9).setCell ⟨q, 10, none⟩ v10).setCell ⟨q, 11, none⟩ v11).setCell ⟨q, 12, none⟩ v12).setCell ⟨q, 13, none⟩ v13).setCell ⟨q, 14, none⟩ v14).setCell ⟨q, 15, none⟩ v15) q t [v0, v1, v2, v3, v4, v5, v6, v7, v8, v9, v10, v11, v12, v13, v14, v15] :=
 ((((((((((((((((h.setCell 0 v0).setCell 1 v1).setCell 2 v2).setCell 3 v3).setCell 4 v4).setCell 5 v5).setCell 6 v6).setCell 7 v7).setCell 8 v8).setCell 9 v9).setCell 10 v10).setCell 11 v11).setCell 12 v12).setCell 13 v13).setCell 14 v14).setCell 15 v15)
theorem below_set16 {B : Nat} {a w : World} (h : Below B a w) {q : Nat} (hb : B ≤ q) (v0 v1 v2 v3 v4 v5 v6 v7 v8 v9 v10 v11 v12 v13 v14 v15 : Value) : Below B a ((((((((((((((((w.setCell ⟨q, 0, none⟩ v0).setCell ⟨q, 1, none⟩ v1).setCell ⟨q, 2, none⟩ v2).setCell ⟨q, 3, none⟩ v3).setCell ⟨q, 4, none⟩ v4).setCell ⟨q, 5, none⟩ v5).setCell ⟨q, 6, none⟩ v6).setCell ⟨q, 7, none⟩ v7).setCell ⟨q, 8, none⟩ v8).setCell ⟨q, 9, none⟩ v9).setCell ⟨q, 10, none⟩ v10).setCell ⟨q, 11, none⟩ v11).setCell ⟨q, 12, none⟩ v12).setCell ⟨q, 13, none⟩ v13).setCell ⟨q, 14, none⟩ v14).setCell ⟨q, 15, none⟩ v15) :=
 ((((((((((((((((h.setCell (p := ⟨q, 0, none⟩) hb v0).setCell (p := ⟨q, 1, none⟩) hb v1).setCell (p := ⟨q, 2, none⟩) hb v2).setCell (p := ⟨q, 3, none⟩) hb v3).setCell (p := ⟨q, 4, none⟩) hb v4).setCell (p := ⟨q, 5, none⟩) hb v5).setCell (p := ⟨q, 6, none⟩) hb v6).setCell (p := ⟨q, 7, none⟩) hb v7).setCell (p := ⟨q, 8, none⟩) hb v8).setCell (p := ⟨q, 9, none⟩) hb v9).setCell (p := ⟨q, 10, none⟩) hb v10).setCell (p := ⟨q, 11, none⟩) hb v11).setCell (p := ⟨q, 12, none⟩) hb v12).setCell (p := ⟨q, 13, none⟩) hb v13).setCell (p := ⟨q, 14, none⟩) hb v14).setCell (p := ⟨q, 15, none⟩) hb v15)
end Go.Proofs.YtjikemhmnkckcabGreat
namespace Go.Proofs.YtjikemhmnkckcabGreat
open Go.RowKit
attribute [local go_sem ↓] Go.wp_at_zero Go.wp_at_succ
set_option maxRecDepth 100000 in
set_option maxHeartbeats 3200000 in
theorem outcome_any (mb : Nat) (ph vcode : Value) (r0 r1 r2 r3 r4 r5 r6 r7 : Int) (inp : ByteArray) (heard : Int) (vd : Value) (drawn : Int) (vo : Value) (pc next steps en ex : Int) (x0 x1 x2 x3 x4 x5 x6 x7 x8 : Int) (na : Option Addr) (nn ncap : Nat) (b : ByteArray) (w : World)
 (h : Blk w mb 81 (mCells ph vcode [r0, r1, r2, r3, r4, r5, r6, r7] inp heard vd drawn vo pc next steps en ex [.int .i64 x0, .int .i64 x1, .int .i64 x2, .int .i64 x3, .int .i64 x4, .int .i64 x5, .int .i64 x6, .int .i64 x7, .int .i64 x8, .slice na nn ncap]))
 (ho : w.ownsRow 0 5 1 vo b.size (bytesV b)) :
 Calls Tryz.prog 16 #[.pointer (some ⟨mb, 0, none⟩)] w fun e w' => e = .returned (.agg (outC en ex steps pc drawn b [.int .i64 x0, .int .i64 x1, .int .i64 x2, .int .i64 x3, .int .i64 x4, .int .i64 x5, .int .i64 x6, .int .i64 x7, .int .i64 x8, .slice na nn ncap]).toArray) ∧ Below w.heap.size w w' := by
 go_enter Tryz.func16, Tryz.ntmps16;go_upto_region 1 with (fail);obtain ⟨wa, hwa⟩ : ∃ wa, wa = w.alloc (.cells (outC 0 0 0 0 0 ⟨#[]⟩ zRep).toArray 28) := ⟨_, rfl⟩
 have hbl : Below w.heap.size w wa := by rw [hwa]; exact (Below.refl _ _).alloc (Nat.le_refl _) _
 have HBA := hide2 hbl;have HO : Hid (Blk wa w.heap.size 28 (outC 0 0 0 0 0 ⟨#[]⟩ zRep)) := by show Blk _ _ _ _; rw [hwa]; exact Blk.alloc _ _ _
 have HM := hide2 (h.below hbl h.lt);have HRW := hide2 (row_below ho hbl (own_lt ho));have hmo : mb ≠ w.heap.size := by have := h.lt; omega
 unfold outC zRep at hwa;simp only [List.cons_append, List.nil_append] at hwa;rw [← hwa];clear hwa hbl h ho;have hcv := convert_row HRW.out;have hcv3 := convert_row (w := wa.drew) (row_below HRW.out ((Below.refl _ _).drew) (own_lt HRW.out));have c11 := HM.out.cell (j := 14) rfl;have d0 := HM.out.cell (j := 13) rfl;have d1 := HM.out.cell (j := 15) rfl;have d2 := HM.out.cell (j := 17) rfl;have d3 := HM.out.cell (j := 18) rfl;have d4 := HM.out.cell (j := 19) rfl;have e0 := HM.out.cell (j := 20) rfl;have e1 := HM.out.cell (j := 21) rfl;have e2 := HM.out.cell (j := 22) rfl;have e3 := HM.out.cell (j := 23) rfl;have e4 := HM.out.cell (j := 24) rfl;have e5 := HM.out.cell (j := 25) rfl;have e6 := HM.out.cell (j := 26) rfl;have e7 := HM.out.cell (j := 27) rfl;have e8 := HM.out.cell (j := 28) rfl;have e9 := HM.out.cell (j := 29) rfl;have o0 := HO.out.cell (j := 0) rfl;have of0 := HO.out.frozen 0;have o1 := HO.out.cell (j := 1) rfl;have of1 := HO.out.frozen 1;have o2 := HO.out.cell (j := 2) rfl;have of2 := HO.out.frozen 2;have o3 := HO.out.cell (j := 3) rfl;have of3 := HO.out.frozen 3;have o4 := HO.out.cell (j := 4) rfl;have of4 := HO.out.frozen 4;have o5 := HO.out.cell (j := 5) rfl;have of5 := HO.out.frozen 5;have o6 := HO.out.cell (j := 6) rfl;have of6 := HO.out.frozen 6;have o7 := HO.out.cell (j := 7) rfl;have of7 := HO.out.frozen 7;have o8 := HO.out.cell (j := 8) rfl;have of8 := HO.out.frozen 8;have o9 := HO.out.cell (j := 9) rfl;have of9 := HO.out.frozen 9;have o10 := HO.out.cell (j := 10) rfl;have of10 := HO.out.frozen 10;have o11 := HO.out.cell (j := 11) rfl;have of11 := HO.out.frozen 11;have o12 := HO.out.cell (j := 12) rfl;have of12 := HO.out.frozen 12;have o13 := HO.out.cell (j := 13) rfl;have of13 := HO.out.frozen 13;have o14 := HO.out.cell (j := 14) rfl;have of14 := HO.out.frozen 14;have o15 := HO.out.cell (j := 15) rfl;have of15 := HO.out.frozen 15;have HOX : Hid (Blk wa w.heap.size 28 [.int .i64 0, .int .i64 0, .int .i64 0, .int .i64 0, .int .i64 0, .string ⟨#[]⟩, .int .i64 0, .int .i64 0, .int .i64 0, .int .i64 0, .int .i64 0, .int .i64 0, .int .i64 0, .int .i64 0, .int .i64 0, .slice none 0 0]) := HO.out;clear HRW HM hmo HO
 go_region
 go_wp2;refine bodyPost_ret (v := .agg (outC en ex steps pc drawn b [.int .i64 x0, .int .i64 x1, .int .i64 x2, .int .i64 x3, .int .i64 x4, .int .i64 x5, .int .i64 x6, .int .i64 x7, .int .i64 x8, .slice na nn ncap]).toArray) ?_ rfl ⟨rfl, ?_⟩
 ·exact results_cell_row Tryz.results16 _ _ w.heap.size 28 (outC en ex steps pc drawn b [.int .i64 x0, .int .i64 x1, .int .i64 x2, .int .i64 x3, .int .i64 x4, .int .i64 x5, .int .i64 x6, .int .i64 x7, .int .i64 x8, .slice na nn ncap]).toArray (0, 0) _ rfl (Blk.drew (blk_set16 HOX.out _ _ _ _ _ _ _ _ _ _ _ _ _ _ _ _)) Tryz.underlying28 rfl (by kernel_rfl)
 ·exact (below_set16 HBA.out (Nat.le_refl _) _ _ _ _ _ _ _ _ _ _ _ _ _ _ _ _).drew
theorem img_parts {d : ByteArray} (h : imgB d = true) : Cf.Valid (byteAt d 2) (byteAt d 3) (pCls d) ∧ ((pData d).size : Int) ≤ 16 * byteAt d 2 ∧ 0 < (pCode d).length := by
 have hs : soundB (byteAt d 2) (byteAt d 3) (pCls d) (pData d).size (pCode d) = true := (imgB_yes h).1;unfold soundB at hs;simp only [Bool.and_eq_true, decide_eq_true_eq] at hs;have hc := hs.2.1;unfold withinB at hc;simp at hc;exact ⟨Cf.valid_of hs.1.1, by omega, by omega⟩
theorem simB_start {st rest : Int} {cls : List (Int × Int)} {cs : List GCls} (hv : Cf.Valid st rest cls) (h : ClsOk st cls cls.length cs) : SimB ⟨st, rest, cs, List.replicate (16 * Cf.gran st cls cls.length).toNat 0⟩ ⟨st, rest, cls, [], []⟩ := by
 have hg := Cf.gran_bd hv cls.length (Nat.le_refl _)
 have hz : ∀ i, (List.replicate (16 * Cf.gran st cls cls.length).toNat (0 : Int)).getD i 0 = 0 := fun i => by
  rw [List.getD_eq_getElem?_getD, List.getElem?_replicate]
  split <;> rfl
 exact ⟨Sim.start hv h _ (by rw [List.length_replicate]; omega), ⟨fun i hi => absurd hi (by simp), fun i hi => absurd hi (by simp)⟩, fun i _ => by rw [hz]; decide, fun addr _ _ => hz _, fun i hi => absurd hi (by simp)⟩
def mBeg (d : ByteArray) : MS := ⟨(⟨byteAt d 2, byteAt d 3, pCls d, [], []⟩ : RSt).lays (pData d) (pData d).size, [0, 0, 0, 0, 0, 0, 0, 0], 0, 0, ⟨#[]⟩, 0, 0, 0, 0, 0, Rpt.only 0⟩
def mFin (d inp : ByteArray) (ds : List Int) (fuel : Int) : MS := mRun inp ds (pCode d) (mFuel fuel) 4097 (mBeg d)
def outOf (S : MS) (vn : Value) : List Value := outC S.en S.ex S.steps S.pc S.drawn S.out (rptCells S.rep vn)
theorem codeB_may {code : List Ins} {m : Nat} (h : codeB code m = true) : ∀ i, i < m → (code.getD i Ins.no).may code.length = true := by
 induction m with
 | zero => intro i hi; omega
 | succ m ih =>
   simp only [codeB, Bool.and_eq_true] at h;intro i hi
   by_cases e : i = m
   ·rw [e]; exact h.2
   ·exact ih h.1 i (by omega)
theorem img_code {d : ByteArray} (h : imgB d = true) : (∀ i, i < (pCode d).length → ∃ n, ((pCode d).getD i Ins.no).may n = true) ∧ (pCode d).length ≤ 255 := by
 have hs : soundB (byteAt d 2) (byteAt d 3) (pCls d) (pData d).size (pCode d) = true := (imgB_yes h).1;unfold soundB at hs;simp only [Bool.and_eq_true, decide_eq_true_eq] at hs;have hc := hs.2.1;unfold withinB at hc;simp at hc;exact ⟨fun i hi => ⟨_, codeB_may hs.2.2 i hi⟩, by omega⟩
end Go.Proofs.YtjikemhmnkckcabGreat
namespace Go.Proofs.YtjikemhmnkckcabGreat
open Go.RowKit
def Head (F : IFix) (S : IS) (M : MS) : Prop := ∃ B G, LH F (S.stands S.next) (M.goes S.next) B G
section
variable {F : IFix} {S : IS} {M : MS} {B : KSt} {G : GSt}
theorem LH.good (h : LH F S M B G) : IGood F S := by
 have hlen := h.tok.len;have hc := h.cls_is;have hv := h.all.ok.simb.sim.rok.conf;have e1 : F.st = M.R.st := h.st.symm.trans h.all.ok.st;have e2 : F.rest = M.R.rest := h.re.symm.trans h.all.ok.rest;refine ⟨by rw [e1, e2, hc]; exact hv, by omega, h.tok.t0.1, h.tok.t1.1, h.tok.t0.2.2, fun i h2 hi => ?_, h.tok.sm, fun k hk => ⟨(h.rv k hk).of, (h.rv k hk).n0, (h.rv k hk).n1⟩, h.r8⟩;obtain ⟨q1, q2, _, _⟩ := h.tok.tn (i - 2) (by omega);rw [show i - 2 + 2 = i by omega] at q1 q2;obtain ⟨k, s, t, hh⟩ := h.all.ok.had (i - 2) (by omega);refine ⟨k, s, by rw [q1, hh.ek], by rw [q2, hh.es], by rw [hc]; exact hh.hk, by rw [hc]; exact hh.hs⟩
theorem LH.steps1 (h : LH F S M B G) : LH F S.stepped M.stepped B G := ⟨h.en, h.ex, by show S.steps + 1 = M.steps + 1; rw [h.steps], h.pc, h.next, h.drawn, h.out, h.heard, h.all, h.tok, h.fr, h.st, h.re, h.cl, h.r8, h.m8, h.rv, h.cv⟩
theorem Head.pc (h : Head F S M) : S.next = M.pc := by obtain ⟨B, G, h⟩ := h; exact h.pc
theorem Head.begun (h : Head F S M) : ∃ B G, LH F ((S.stands S.next).stepped.goes (S.next + 1)) (M.stepped.goes (M.pc + 1)) B G := by
 have hp := h.pc;obtain ⟨B, G, h⟩ := h;have := h.steps1.goes (S.next + 1);rw [← hp];exact ⟨B, G, this⟩
theorem LH.head (h : LH F S M B G) : Head F S (M.stands M.next) :=
 ⟨B, G, h.en, h.ex, h.steps, h.next, rfl, h.drawn, h.out, h.heard, h.all, h.tok, h.fr, h.st, h.re, h.cl, h.r8, h.m8, h.rv, h.cv⟩
structure Ends (S : IS) (M : MS) : Prop where
 en : S.en = M.en
 ex : S.ex = M.ex
 steps : S.steps = M.steps
 drawn : S.drawn = M.drawn
 out : S.out = M.out
 pc : S.en ≠ 0 → S.pc = M.pc
theorem LH.ended (h : LH F S M B G) : Ends S M := ⟨h.en, h.ex, h.steps, h.drawn, h.out, fun _ => h.pc⟩
theorem Head.ended (h : Head F S M) (h0 : S.en = 0) : Ends S M := by
 obtain ⟨B, G, h⟩ := h;exact ⟨h.en, h.ex, h.steps, h.drawn, h.out, fun x => absurd h0 x⟩
theorem Head.step (h : Head F S M) (ds : List Int) (hd : ds.length = F.nd) (n : Int) (hx : (F.code.getD S.next Ins.no).may n = true) :
 (iStep F S).en = 102 ∨ ((iStep F S).en ≠ 0 ∧ Ends (iStep F S) (mStep F.inp ds F.code M)) ∨ ((iStep F S).en = 0 ∧ Head F (iStep F S) (mStep F.inp ds F.code M)) := by
 have hp := h.pc;obtain ⟨B, G, hL⟩ := h.begun
 rcases like_do hL ds hd (F.code.getD S.next Ins.no) n hx with e | ⟨B', G', hL'⟩
 ·exact .inl e
 ·rw [hp] at hL'
  right
  have hi : iStep F S = iDo F ((S.stands M.pc).stepped.goes (M.pc + 1)) (F.code.getD M.pc Ins.no) := by unfold iStep; rw [hp]
  rw [hi];have hm : mStep F.inp ds F.code M = if (mDo F.inp ds (M.stepped.goes (M.pc + 1)) (F.code.getD M.pc Ins.no)).en = 0 then (mDo F.inp ds (M.stepped.goes (M.pc + 1)) (F.code.getD M.pc Ins.no)).stands (mDo F.inp ds (M.stepped.goes (M.pc + 1)) (F.code.getD M.pc Ins.no)).next else mDo F.inp ds (M.stepped.goes (M.pc + 1)) (F.code.getD M.pc Ins.no) := rfl
  rw [hm];generalize mDo F.inp ds (M.stepped.goes (M.pc + 1)) (F.code.getD M.pc Ins.no) = M' at hL' ⊢;generalize iDo F ((S.stands M.pc).stepped.goes (M.pc + 1)) (F.code.getD M.pc Ins.no) = S' at hL' ⊢
  by_cases e0 : S'.en = 0
  ·right
   rw [if_pos (by rw [← hL'.en]; exact e0)];exact ⟨e0, hL'.head⟩
  ·left
   rw [if_neg (by rw [← hL'.en]; exact e0)];exact ⟨e0, hL'.ended⟩
theorem iRun_en (f : Int) (h : S.en ≠ 0) (k : Nat) : iRun F f k S = S := by
 cases k with
 | zero => rfl
 | succ k => show (if S.en ≠ 0 then S else _) = S; rw [if_pos h]
theorem like_run (ds : List Int) (hd : ds.length = F.nd) (hcode : ∀ i, i < F.code.length → ∃ n, (F.code.getD i Ins.no).may n = true) (f : Int) (k : Nat) (S : IS) (M : MS) (h : Head F S M) (h0 : S.en = 0) : (iRun F f k S).en = 102 ∨ Ends (iRun F f k S) (mRun F.inp ds F.code f k M) := by
 induction k generalizing S M with
 | zero => exact .inr (h.ended h0)
 | succ k ih =>
   have hp := h.pc;have hM : M.en = 0 := by obtain ⟨B, G, hL⟩ := h; exact hL.en.symm.trans h0
   have hst : S.steps = M.steps := by obtain ⟨B, G, hL⟩ := h; exact hL.steps
   have hi : iRun F f (k + 1) S = if S.en ≠ 0 then S else if F.code.length ≤ S.next then (S.stands S.next).ends 2 else if f ≤ S.steps then (S.stands S.next).ends 3 else iRun F f k (iStep F S) := rfl
   rw [hi, if_neg (fun x => x h0)]
   by_cases c1 : F.code.length ≤ S.next
   ·rw [if_pos c1, mRun_over hM (by rw [← hp]; exact c1) (by omega)];obtain ⟨B, G, hL⟩ := h;exact .inr ⟨rfl, hL.ex, hL.steps, hL.drawn, hL.out, fun _ => hL.pc⟩
   ·rw [if_neg c1]
    by_cases c2 : f ≤ S.steps
    ·rw [if_pos c2, mRun_out hM (by rw [← hp]; exact c1) (by rw [← hst]; exact c2) (by omega)];obtain ⟨B, G, hL⟩ := h;exact .inr ⟨rfl, hL.ex, hL.steps, hL.drawn, hL.out, fun _ => hL.pc⟩
    ·rw [if_neg c2, mRun_step hM (by rw [← hp]; exact c1) (by rw [← hst]; exact c2)];obtain ⟨n, hn⟩ := hcode S.next (by omega)
     rcases h.step ds hd n hn with e | ⟨e, he⟩ | ⟨e, he⟩
     ·rw [iRun_en f (by rw [e]; decide)]; exact .inl e
     ·rw [iRun_en f e, mRun_en (by rw [← he.en]; exact e)]; exact .inr he
     ·exact ih _ _ he e
end
theorem head_start {st rest : Int} {cls : List (Int × Int)} {cs : List GCls} (hv : Cf.Valid st rest cls) (hcs : ClsOk st cls cls.length cs) (F : IFix) (e1 : F.st = st) (e2 : F.rest = rest) (e3 : F.cls = cls) (d : ByteArray) (hd : (d.size : Int) ≤ 16 * st) (c : List IC) (hc : c.length = (16 * st).toNat) (hcv : ∀ t, t < c.length → c.getD t IC.no = ⟨⟨0, byteAt d t⟩, 0⟩) (rp : Rpt) :
 Head F (iBeg c) ⟨(⟨st, rest, cls, [], []⟩ : RSt).lays d d.size, [0, 0, 0, 0, 0, 0, 0, 0], 0, 0, ⟨#[]⟩, 0, 0, 0, 0, 0, rp⟩ := by
 have hst0 := hv.st0;have hst1 := hv.st1;obtain ⟨l1, l2, l3, l4⟩ := RSt.lays_same (⟨st, rest, cls, [], []⟩ : RSt) d d.size
 have hby : ∀ a : Int, ((⟨st, rest, cls, [], []⟩ : RSt).lays d d.size).byte a = if 16 ≤ a ∧ a < 16 + (d.size : Int) then byteAt d (a - 16).toNat else 0 := by
  have : ∀ (m : Nat) (a : Int), ((⟨st, rest, cls, [], []⟩ : RSt).lays d m).byte a = if 16 ≤ a ∧ a < 16 + (m : Int) then byteAt d (a - 16).toNat else 0 := by
   intro m
   induction m with
   | zero => intro a; rw [if_neg (by omega)]; rfl
   | succ m ih =>
     intro a;show (((⟨st, rest, cls, [], []⟩ : RSt).lays d m).mark (16 + (m : Int)) (byteAt d m)).byte a = _;rw [RSt.mark_byte]
     by_cases e : a = 16 + (m : Int)
     ·rw [if_pos e, if_pos (by omega), show (a - 16).toNat = m by omega]
     ·rw [if_neg e, ih]
      by_cases c2 : 16 ≤ a ∧ a < 16 + (m : Int)
      ·rw [if_pos c2, if_pos (by omega)]
      ·rw [if_neg c2, if_neg (by omega)]
  exact this d.size
 have hK0 := KAll.start hv hcs;have hg := Cf.gran_bd hv cls.length (Nat.le_refl _);have hgl := gran_lo hv;have hsim := hK0.ok.simb.lays d d.size (by show 16 + d.size ≤ (List.replicate _ _).length; rw [List.length_replicate]; omega)
 have hK := hK0.away hsim l1 l2 l3 l4 (fun a ha => by
  change 16 * (1 + st) ≤ a at ha;have h1 := hby a;have h2 : (⟨st, rest, cls, [], []⟩ : RSt).byte a = 0 := rfl;rw [h1, h2, if_neg (by omega)])
 have hT := TOk.start st rest cls 0 0 c hst0 hst1 hc;have hb1 : iBase ((⟨st, rest, cls, [], []⟩ : RSt).lays d d.size).st ((⟨st, rest, cls, [], []⟩ : RSt).lays d d.size).cls [IT.no, ⟨-1, -1, true, 0, c⟩] 1 = 16 := by unfold iBase; exact if_pos (show (-1 : Int) < 0 by decide)
 refine ⟨_, _, rfl, rfl, rfl, rfl, rfl, rfl, rfl, rfl, hK, hT, rfl, e1.symm, e2.symm, e3.symm, rfl, rfl, fun k hk => ?_, fun o o1 o2 ol => ?_⟩
 ·match k, hk with
  | 0, _ => exact VOk.num (by omega) (by omega) hT
  | 1, _ => exact VOk.num (by omega) (by omega) hT
  | 2, _ => exact VOk.num (by omega) (by omega) hT
  | 3, _ => exact VOk.num (by omega) (by omega) hT
  | 4, _ => exact VOk.num (by omega) (by omega) hT
  | 5, _ => exact VOk.num (by omega) (by omega) hT
  | 6, _ => exact VOk.num (by omega) (by omega) hT
  | 7, _ => exact VOk.num (by omega) (by omega) hT
 ·change o < 2 at o2;obtain rfl : o = 1 := by omega
  intro t ht;change t < c.length at ht;show COk _ _ (c.getD t IC.no) (((⟨st, rest, cls, [], []⟩ : RSt).lays d d.size).byte (iBase ((⟨st, rest, cls, [], []⟩ : RSt).lays d d.size).st ((⟨st, rest, cls, [], []⟩ : RSt).lays d d.size).cls [IT.no, ⟨-1, -1, true, 0, c⟩] 1 + (t : Int)));rw [hb1, hby, hcv t ht];have hbd := byteAt_bd d t
  by_cases e : (t : Int) < d.size
  ·rw [if_pos (by omega), show ((16 : Int) + (t : Int) - 16).toNat = t by omega];exact ⟨hbd.1, hbd.2, fun _ => rfl, fun x => absurd rfl x⟩
  ·rw [if_neg (by omega)]
   have hz : byteAt d t = 0 := by
    unfold byteAt;rw [List.getElem?_eq_none (by simp; omega)]
   exact ⟨by omega, by omega, fun _ => hz, fun x => absurd rfl x⟩
structure Small (S S' : IS) : Prop where
 T : S'.T.length ≤ S.T.length + 1
 F : S'.F.length ≤ S.F.length + 1
 out : S'.out.size ≤ S.out.size + 1
 steps : S'.steps = S.steps
section
variable {F : IFix} {S S' : IS}
theorem Small.refl (S : IS) : Small S S := ⟨by omega, by omega, by omega, rfl⟩
theorem Small.reg (h : Small S S') (k : Nat) (v : IV) : Small S (S'.reg k v) := ⟨h.T, h.F, h.out, h.steps⟩
theorem small_malloc (n : Int) : Small S (S.malloc F n) ∧ (S.malloc F n).F = S.F := by
 unfold IS.malloc
 split
 ·exact ⟨Small.refl S, rfl⟩
 ·split
  ·exact ⟨Small.refl S, rfl⟩
  ·exact ⟨⟨by show (S.T ++ [_]).length ≤ _; simp, by show S.F.length ≤ _; omega, by show S.out.size ≤ _; omega, rfl⟩, rfl⟩
theorem small_do (x : Ins) : Small S (iDo F S x) := by
 have hm : ∀ (S1 : IS) n, S1.T = S.T → S1.F = S.F → S1.out = S.out → S1.steps = S.steps → Small S (S1.malloc F n) := fun S1 n h1 h2 h3 h4 => by
  obtain ⟨q, _⟩ := small_malloc (F := F) (S := S1) n;exact ⟨by rw [← h1]; exact q.T, by rw [← h2]; exact q.F, by rw [← h3]; exact q.out, by rw [← h4]; exact q.steps⟩
 have hn : ∀ (S1 : IS) k, S1.T = S.T → S1.F = S.F → S1.out = S.out → S1.steps = S.steps → (S1.num k).T = S.T ∧ (S1.num k).F = S.F ∧ (S1.num k).out = S.out ∧ (S1.num k).steps = S.steps := fun S1 k h1 h2 h3 h4 => by
  unfold IS.num; split <;> exact ⟨h1, h2, h3, h4⟩
 have same : ∀ S1 : IS, S1.T = S.T → S1.F = S.F → S1.out = S.out → S1.steps = S.steps → Small S S1 := fun S1 h1 h2 h3 h4 => ⟨by rw [h1]; omega, by rw [h2]; omega, by rw [h3]; omega, h4⟩
 have turn : ∀ (S1 : IS) of c, S1.T = S.T → S1.F = S.F → S1.out = S.out → S1.steps = S.steps → Small S (S1.turn of c) := fun S1 of c h1 h2 h3 h4 => ⟨by show (S1.T.set _ _).length ≤ _; rw [List.length_set, h1]; omega, by show S1.F.length ≤ _; rw [h2]; omega, by show S1.out.size ≤ _; rw [h3]; omega, h4⟩
 unfold iDo
 by_cases h0 : x.op = 0
 ·rw [if_pos h0];obtain ⟨a1, a2, a3, a4⟩ := hn (S.ends 2) x.a.toNat rfl rfl rfl rfl;exact same _ a1 a2 a3 a4
 rw [if_neg h0]
 by_cases h1 : x.op = 1
 ·rw [if_pos h1];exact same _ rfl rfl rfl rfl
 rw [if_neg h1]
 by_cases h6 : x.op = 6
 ·rw [if_pos h6];exact same _ rfl rfl rfl rfl
 rw [if_neg h6]
 by_cases h7 : x.op = 7
 ·rw [if_pos h7];obtain ⟨a1, a2, a3, a4⟩ := hn S x.a.toNat rfl rfl rfl rfl;unfold iZero
  split
  ·exact Small.refl S
  ·split
   ·exact same _ a1 a2 a3 a4
   ·exact same _ a1 a2 a3 a4
 rw [if_neg h7]
 by_cases h8 : x.op = 8
 ·rw [if_pos h8];exact same _ rfl rfl rfl rfl
 rw [if_neg h8]
 by_cases h9 : x.op = 9
 ·rw [if_pos h9];obtain ⟨a1, a2, a3, a4⟩ := hn S x.a.toNat rfl rfl rfl rfl;exact ⟨by show (S.num x.a.toNat).T.length ≤ _; rw [a1]; omega, by show (S.num x.a.toNat).F.length ≤ _; rw [a2]; omega, by show (S.out ++ bOne _).size ≤ _; rw [ByteArray.size_append, bOne_size]; omega, a4⟩
 rw [if_neg h9]
 by_cases h10 : x.op = 10
 ·rw [if_pos h10];exact same _ rfl rfl rfl rfl
 rw [if_neg h10]
 by_cases h11 : x.op = 11
 ·rw [if_pos h11];unfold iMalloc
  split
  ·obtain ⟨a1, a2, a3, a4⟩ := hn S.drew x.b.toNat rfl rfl rfl rfl;exact (hm _ _ a1 a2 a3 a4).reg _ _
  ·exact same _ rfl rfl rfl rfl
 rw [if_neg h11]
 by_cases h12 : x.op = 12
 ·rw [if_pos h12];unfold iFree
  split
  ·exact Small.refl S
  ·split
   ·exact ⟨by show (S.T.set _ _).length ≤ _; rw [List.length_set]; omega, by show (S.F ++ [_]).length ≤ _; simp, by show S.out.size ≤ _; omega, rfl⟩
   ·exact same _ rfl rfl rfl rfl
 rw [if_neg h12]
 by_cases h13 : x.op = 13
 ·rw [if_pos h13];unfold iRealloc
  split
  ·split
   ·obtain ⟨a1, a2, a3, a4⟩ := hn S.drew x.c.toNat rfl rfl rfl rfl;refine Small.reg ?_ _ _;unfold iGrow
    split
    ·exact hm _ _ a1 a2 a3 a4
    ·have q := hm (S.drew.num x.c.toNat) (iv S.r x.c.toNat).n a1 a2 a3 a4;have qf := (small_malloc (F := F) (S := S.drew.num x.c.toNat) (iv S.r x.c.toNat).n).2;exact ⟨by show ((List.set _ _ _).set _ _).length ≤ _; rw [List.length_set, List.length_set]; exact q.T, by show (((S.drew.num x.c.toNat).malloc F (iv S.r x.c.toNat).n).F ++ [_]).length ≤ _; rw [qf, a2]; simp, q.out, q.steps⟩
   ·exact same _ rfl rfl rfl rfl
  ·exact same _ rfl rfl rfl rfl
 rw [if_neg h13]
 by_cases h14 : x.op = 14
 ·rw [if_pos h14];unfold iUsable
  split <;> exact same _ rfl rfl rfl rfl
 rw [if_neg h14]
 by_cases h15 : x.op = 15
 ·rw [if_pos h15];unfold iLoad
  split
  ·split <;> exact same _ rfl rfl rfl rfl
  ·exact same _ rfl rfl rfl rfl
 rw [if_neg h15]
 by_cases h16 : x.op = 16
 ·rw [if_pos h16];unfold iByte
  split
  ·split <;> exact same _ rfl rfl rfl rfl
  ·exact same _ rfl rfl rfl rfl
 rw [if_neg h16]
 by_cases h17 : x.op = 17
 ·rw [if_pos h17];unfold iStore
  split
  ·exact turn _ _ _ rfl rfl rfl rfl
  ·exact same _ rfl rfl rfl rfl
 rw [if_neg h17]
 by_cases h18 : x.op = 18
 ·rw [if_pos h18];unfold iPut1
  split
  ·obtain ⟨a1, a2, a3, a4⟩ := hn S x.b.toNat rfl rfl rfl rfl;exact turn _ _ _ a1 a2 a3 a4
  ·exact same _ rfl rfl rfl rfl
 rw [if_neg h18]
 by_cases h19 : x.op = 19
 ·rw [if_pos h19];unfold iMove
  split
  ·exact same _ rfl rfl rfl rfl
  ·split
   ·exact Small.refl S
   ·split
    ·exact same _ rfl rfl rfl rfl
    ·split
     ·exact turn _ _ _ rfl rfl rfl rfl
     ·exact same _ rfl rfl rfl rfl
 rw [if_neg h19];unfold iSums
 split <;> exact same _ rfl rfl rfl rfl
end
end Go.Proofs.YtjikemhmnkckcabGreat
