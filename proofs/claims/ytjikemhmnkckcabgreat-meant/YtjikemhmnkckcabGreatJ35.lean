import Derived.Test.YtjikemhmnkckcabGreatJ34
namespace Go.Proofs.YtjikemhmnkckcabGreat
open Go.RowKit
attribute [local go_sem ↓] Go.wp_at_zero Go.wp_at_succ
theorem new_yes {F : IFix} {S : IS} {n : Int} (h : (iNew F S n).of ≠ 0) : iNew F S n = ⟨S.T.length, 0⟩ ∧ ∃ y : IT, S.malloc F n = S.heap (S.T ++ [y]) S.F := by
 unfold iNew at h ⊢;unfold IS.malloc
 by_cases c1 : gcls F.cls n < 0
 ·rw [if_pos c1] at h; exact absurd rfl h
 ·rw [if_neg c1] at h;rw [if_neg c1, if_neg c1]
  by_cases c2 : iSlot S.T S.F F.rest F.cls (gcls F.cls n).toNat < 0
  ·rw [if_pos c2] at h; exact absurd rfl h
  ·rw [if_neg c2, if_neg c2]; exact ⟨rfl, _, rfl⟩
theorem Blk.ne {w : World} {b b' : Nat} {t t' : TypeId} {xs ys : List Value} (h : Blk w b t xs) (h' : Blk w b' t' ys) (ht : t ≠ t') : b ≠ b' := fun e => by
 subst e;have e2 : some (Obj.cells xs.toArray t (0, 0)) = some (Obj.cells ys.toArray t' (0, 0)) := h.symm.trans h';injection e2 with e2;injection e2 with _ e3 _;exact ht e3
theorem row_type {w : World} {e : TypeId} {m : Nat} {v : Value} {n : Nat} {xs : List Value} (h : w.ownsRow 0 e m v n xs) {b : Nat} (hb : v.ownBlock = some b) {t : TypeId} {ys : List Value} (h' : Blk w b t ys) : t = e := by
 rcases h.2 with ⟨rfl, _⟩ | ⟨g, cap, cur, hv, _, hg, _⟩
 ·simp [Value.ownBlock] at hb
 ·rw [hv] at hb;simp [Value.ownBlock] at hb;subst hb;have e2 : some (Obj.cells ys.toArray t (0, 0)) = some (Obj.cells cur e (0, 0)) := h'.symm.trans hg;injection e2 with e2;injection e2 with _ e3 _
theorem IRep.not_own {F : IFix} {wB w : World} {vT vF : Value} {V : List Value} {col : Nat → Nat} {S : IS} (h : IRep F wB w vT vF V col S) {b : Nat} {t : TypeId} {xs : List Value} (hb : Blk w b t xs) (t1 : t ≠ 110) (t2 : t ≠ 113) (t3 : t ≠ 175) (t4 : t ≠ 115) : ¬ IOwn F.mb vT vF V b := by
 rintro (rfl | x | x | ⟨i, x⟩)
 ·exact hb.ne h.blk t1 rfl
 ·exact t2 (row_type h.T x hb)
 ·exact t3 (row_type h.Fr x hb)
 ·by_cases e : i = 0
  ·subst e; rw [h.v0] at x; exact absurd x (by simp [vNo, Value.ownBlock])
  ·by_cases hi : i < S.T.length
   ·obtain ⟨cb, ev, hcb, _⟩ := (h.vn i (by omega) hi).ex;rw [ev] at x;simp [Value.ownBlock] at x;subst x;exact hb.ne hcb t4 rfl
   ·rw [List.getD_eq_getElem?_getD, List.getElem?_eq_none (by rw [h.vl]; omega)] at x;exact absurd x (by simp [vNo, Value.ownBlock])
theorem iCopied_len0 (new old : List IC) : (iCopied new old).length = new.length := by unfold iCopied; simp; omega
theorem malloc_small {F : IFix} {S : IS} (hg : IGood F S) (n : Int) (i : Nat) : ((S.malloc F n).T.getD i IT.no).cells.length ≤ 1000 := by
 unfold IS.malloc
 by_cases c1 : gcls F.cls n < 0
 ·rw [if_pos c1]; exact hg.sm i
 ·rw [if_neg c1]
  by_cases c2 : iSlot S.T S.F F.rest F.cls (gcls F.cls n).toNat < 0
  ·rw [if_pos c2]; exact hg.sm i
  ·rw [if_neg c2];show ((S.T ++ [_]).getD i IT.no).cells.length ≤ 1000;rw [getD_appT]
   split
   ·rcases gcls_cases F.cls n with hgc | ⟨k, hgc, hk, h1, h2, _⟩
    ·omega
    ·have := hg.conf.g1 k hk;have := gsz_bd h1 h2 (hg.conf.g1 k hk);show (List.replicate _ _).length ≤ 1000;rw [List.length_replicate]; omega
   ·exact hg.sm i
theorem iPut_copied (new old : List IC) : iPut new 0 (old.take (min old.length new.length)) = iCopied new old := by
 unfold iPut iCopied;rw [List.take_zero, List.nil_append, List.length_take, Nat.zero_add, show min (min old.length new.length) old.length = min old.length new.length by omega]
section
variable (F : IFix) (wB : World) (vT vF : Value) (V : List Value) (col : Nat → Nat) (S : IS) (w : World)
def iGrown (F : IFix) (S : IS) (v : IV) (ka kc : Nat) : IS := if iNothing v = true ∨ iOwns S.T v = true then (iGrow F (S.num kc) v (iv S.r kc).n).reg ka (iNew F S (iv S.r kc).n) else S.ends 102
set_option maxRecDepth 100000 in
set_option maxHeartbeats 6400000 in
theorem igrow_any (h : IRep F wB w vT vF V col S) (hg : IGood F S) (v : IV) (hv : v.of < S.T.length) (v0 : -9223372036854775808 ≤ v.n) (v1 : v.n ≤ 9223372036854775807) (op : Int) (ka kc : Nat) (b : Int) (hka : ka < 8) (hkc : kc < 8) (hlen : S.T.length ≤ 900000) (hfl : S.F.length ≤ 1000000) :
 Calls Tryz.prog 103 #[.pointer (some ⟨F.mb, 0, none⟩), .agg #[.int .i64 op, .int .i64 (ka : Int), .int .i64 b, .int .i64 (kc : Int)], vV v, .bool (iNothing v)] w fun e w' => e = .returned (.tuple #[]) ∧ IDone F wB w' (iGrown F S v ka kc) := by
 obtain ⟨vo, vn⟩ := v;have HVV : Hid (vV ⟨vo, vn⟩ = .agg #[.int .i64 (vo : Int), .int .i64 vn]) := rfl;rw [HVV.out];obtain ⟨wa, hwa⟩ : ∃ wa, wa = (w.alloc (.cells #[.int .i64 op, .int .i64 (ka : Int), .int .i64 b, .int .i64 (kc : Int)] 60)).alloc (.cells #[.int .i64 (vo : Int), .int .i64 vn] 107) := ⟨_, rfl⟩
 have HB : Hid (Below w.heap.size w wa) := by show Below _ _ _; rw [hwa]; exact ((Below.refl _ _).alloc (Nat.le_refl _) _).alloc (by simp) _
 have HX : Hid (Blk wa w.heap.size 60 [.int .i64 op, .int .i64 (ka : Int), .int .i64 b, .int .i64 (kc : Int)]) := by show Blk _ _ _ _; rw [hwa]; exact (Below.heap_alloc _ _ _ (by simp)).trans (heap_alloc_new w _)
 have HY : Hid (Blk wa (w.heap.size + 1) 107 [.int .i64 (vo : Int), .int .i64 vn]) := by
  show Blk _ _ _ _;rw [hwa];have := heap_alloc_new (w.alloc (.cells #[.int .i64 op, .int .i64 (ka : Int), .int .i64 b, .int .i64 (kc : Int)] 60)) (.cells #[.int .i64 (vo : Int), .int .i64 vn] 107);rw [World.size_alloc] at this; exact this
 have HRa := hide2 (h.under HB.out);have HG := hide2 hg;have HOW : Hid (∀ b, IOwn F.mb vT vF V b → b < w.heap.size) := fun b hb => h.own_lt hb
 have hl2 := hg.len;have y0 := HY.out.cell (j := 0) rfl;have y1 := HY.out.cell (j := 1) rfl;have kaI : (ka : Int) < 8 := by omega
 have kcI : (kc : Int) < 8 := by omega
 have hmbw := HOW.out F.mb (.inl rfl);have hnm : ¬ w.heap.size = F.mb := by omega
 have hnm' : F.mb ≠ w.heap.size := by omega
 have hnm2 : ¬ w.heap.size + 1 = F.mb := by omega
 have hNO : Hid (¬ IOwn F.mb vT vF V w.heap.size) := fun x => by have := HOW.out _ x; omega
 have hNO2 : Hid (¬ IOwn F.mb vT vF V (w.heap.size + 1)) := fun x => by have := HOW.out _ x; omega
 have HIN : Hid (iNew F (S.num kc) (iv S.r kc).n = iNew F S (iv S.r kc).n) := iNew_num F S kc _;have HNT := hide2 (num_T S kc);clear h hg;generalize hnb : iNothing ⟨vo, vn⟩ = nb at *;have HNB := hide2 hnb;clear hnb;go_enter Tryz.func103, Tryz.ntmps103;go_upto_region 1 with (fail);rw [← hwa];clear hwa
 go_wp2_with fail
 refine (iheld_any F wB vT vF V col S wa HRa.out HG.out ⟨vo, vn⟩ hv v0 v1 (by omega)).mono ?_;rintro e1 w1 ⟨⟨r, rfl, hs⟩, hb1⟩;have HR1 := hide2 (HRa.out.under hb1);have HX1 := hide2 (HX.out.below hb1 HX.out.lt);have HY1 := hide2 (HY.out.below hb1 HY.out.lt);clear y0 y1 hb1 HRa HX HY
 cases nb
 ·rcases hs with ⟨ho, rfl⟩ | ⟨ho, hr⟩
  ·go_wp2_with fail
   refine (istop_no F wB vT vF V col S w1 HR1.out).mono ?_;rintro e1 wb ⟨rfl, hRb, hbb⟩;have HRb := hide2 hRb;have HXb := hide2 (HX1.out.below hbb HX1.out.lt);have HYb := hide2 (HY1.out.below hbb HY1.out.lt);clear hRb hbb HR1 HX1 HY1;have x3 := HXb.out.cell (j := 3) rfl
   go_wp2_with fail
   refine (inumber_any F wB vT vF V col S wb HRb.out kc hkc).mono ?_;rintro e2 w2 ⟨rfl, hR2, hk2⟩;have HR2 := hide2 hR2;have HX2 := hide2 (hk2.blk HXb.out hnm);have HY2 := hide2 (hk2.blk HYb.out hnm2);clear x3 hR2 hk2
   go_wp2_with fail
   refine (imalloc2 F wB vT vF V col (S.num kc) w2 HR2.out (HG.out.num kc) (iv S.r kc).n (by rw [HNT.out.1]; omega)).mono ?_;rintro e3 w3 ⟨rfl, vT3, V3, col3, hR3, hk3⟩;have HX3 := hide2 (hk3.blk HX2.out hNO.out);have HY3 := hide2 (hk3.blk HY2.out hNO2.out);have HR3 := hide2 hR3;have hx3 := HX3.out.lt;have hy3 := HY3.out.lt;rw [HIN.out];clear hR3 hk3 HR2 HX2 HY2;obtain ⟨nv, hnv⟩ : ∃ nv, nv = iNew F S (iv S.r kc).n := ⟨_, rfl⟩
   obtain ⟨no, nn⟩ := nv;have HNV := hide2 hnv;rw [← hnv];clear hnv;go_upto_region 7 with (fail);obtain ⟨w4, hw4⟩ : ∃ w4, w4 = w3.alloc (.cells #[.int .i64 (no : Int), .int .i64 nn] 107) := ⟨_, rfl⟩
   rw [← hw4];have HB4 : Hid (Below w3.heap.size w3 w4) := by show Below _ _ _; rw [hw4]; exact (Below.refl _ _).alloc (Nat.le_refl _) _
   have HZ4 : Hid (Blk w4 w3.heap.size 107 [.int .i64 (no : Int), .int .i64 nn]) := by show Blk _ _ _ _; rw [hw4]; exact Blk.alloc _ _ _
   have HX4 := hide2 (HX3.out.below HB4.out hx3);have HY4 := hide2 (HY3.out.below HB4.out hy3);have HR4 := hide2 (HR3.out.under HB4.out);have hmb3 : F.mb < w3.heap.size := HR3.out.blk.lt;have hnm3 : w3.heap.size ≠ F.mb := by omega
   clear hw4
   by_cases hq : no = 0
   ·have q : no = 0 := hq
    have HS : Hid (iGrown F S ⟨vo, vn⟩ ka kc = ((S.num kc).malloc F (iv S.r kc).n).reg ka ⟨no, nn⟩) := by
     show _ = _;unfold iGrown iGrow;rw [if_pos (.inr ho), HIN.out, ← HNV.out, if_pos (.inl q)]
    have qn : ¬ (0 : Int) < (no : Int) := by omega
    clear ho q hq;have z0 := HZ4.out.cell (j := 0) rfl;have x1 := HX4.out.cell (j := 1) rfl;have z0 := HZ4.out.cell (j := 0) rfl;have z1 := HZ4.out.cell (j := 1) rfl;have q7 := HR4.out.cOf ka hka;have q8 := HR4.out.cN ka hka;have f7 := HR4.out.blk.frozen (7 + ka * 2);have f8 := HR4.out.blk.frozen (7 + ka * 2 + 1);have HFIN := hide2 ((HR4.out.setReg ka hka ⟨no, nn⟩).under ((Below.refl _ _).drew));go_upto_region 10 with (fail);refine wp_region_still_tail 7 (by kernel_rfl) (by kernel_rfl) ?_
    repeat still_step
    refine wpStill_nil ?_;go_wp2;go_end0;exact ⟨rfl, _, _, _, _, _, HFIN.out, .inl HS.out.symm⟩
   ·have q : ¬ no = 0 := hq;have hno : (iNew F (S.num kc) (iv S.r kc).n).of ≠ 0 := by rw [HIN.out, ← HNV.out]; exact q
    obtain ⟨hy1, y, hy2⟩ := new_yes hno;rw [HIN.out, ← HNV.out, HNT.out.1] at hy1;injection hy1 with hno1 hno2;subst hno1 hno2;have HM := hide2 hy2;have HOWN : Hid (1 < vo) := (of_decide_eq_true ho).1
    have HS : Hid (iGrown F S ⟨vo, vn⟩ ka kc = ((((S.num kc).malloc F (iv S.r kc).n).turn S.T.length (iCopied (((S.num kc).malloc F (iv S.r kc).n).th S.T.length).cells (((S.num kc).malloc F (iv S.r kc).n).th vo).cells)).free vo).reg ka ⟨S.T.length, 0⟩) := by
     show _ = _;unfold iGrown iGrow
     have e2 : ((S.num kc).malloc F (iv S.r kc).n).th vo = (S.num kc).th vo := by
      rw [HM.out];show ((S.num kc).T ++ [y]).getD vo IT.no = (S.num kc).T.getD vo IT.no;rw [getD_appT, if_neg (by rw [HNT.out.1]; have : vo < S.T.length := hv; omega)]
     rw [if_pos (.inr ho), HIN.out, ← HNV.out, if_neg (fun x => x.elim (fun z => q z) (fun z => by rw [HNB.out] at z; cases z)), HNT.out.1, e2]
    have qn : (0 : Int) < (S.T.length : Int) := by omega
    have hl3 : ((S.num kc).malloc F (iv S.r kc).n).T.length = S.T.length + 1 := by
     rw [HM.out];show ((S.num kc).T ++ [y]).length = _;rw [List.length_append, HNT.out.1]; rfl
    have HSM : Hid (∀ i, (((S.num kc).malloc F (iv S.r kc).n).T.getD i IT.no).cells.length ≤ 1000) := fun i => malloc_small (HG.out.num kc) _ i
    have hf3 : ((S.num kc).malloc F (iv S.r kc).n).F = S.F := by rw [HM.out]; exact HNT.out.2.1
    clear ho q hq hno hy2;generalize (S.num kc).malloc F (iv S.r kc).n = S3 at *;have hvo : vo < S.T.length := hv
    have hvo0 : vo ≠ 0 := fun e => by
     subst e;have := HOWN.out;omega
    obtain ⟨gt, cap, e5, hcap, hmax, hgl, -, hcell⟩ := HR4.out.things (by omega);rw [hl3] at e5 hcap;have c5 := HR4.out.c5;rw [e5] at c5;obtain ⟨-, -, -, d3⟩ := hcell S.T.length (by omega);obtain ⟨-, -, -, o3⟩ := hcell vo (by omega);obtain ⟨cbn, en, hbn, hcn1, hcn2⟩ := (HR4.out.vn S.T.length (by omega) (by omega)).ex;obtain ⟨cbo, eo, hbo, hco1, hco2⟩ := (HR4.out.vn vo (by omega) (by omega)).ex;rw [en] at d3;rw [eo] at o3;have HTRN := hide2 (fun (w' : World) (c : List IC) hc hk hb => HR4.out.turnC (w' := w') S.T.length (by omega) (by omega) c hc cbn en hk hb);have z0 := HZ4.out.cell (j := 0) rfl;have y0 := HY4.out.cell (j := 0) rfl;have HBN := hide2 hbn;have HBO := hide2 hbo
    have hgm : gt ≠ cbn := fun e => by
     have h1 := HR4.out.colT (b := gt) (by rw [e5]; rfl);rw [e, hcn2] at h1; omega
    have hmm : F.mb ≠ cbn := fun e => by
     have h1 := HR4.out.sep.mb;rw [e, hcn2] at h1; omega
    have hzm : w3.heap.size ≠ cbn := HZ4.out.ne hbn (by decide);have hym : w.heap.size + 1 ≠ cbn := HY4.out.ne hbn (by decide);have hxm : w.heap.size ≠ cbn := HX4.out.ne hbn (by decide);have hsn : (S3.T.getD S.T.length IT.no).cells.length ≤ 1000 := HSM.out _;have hso : (S3.T.getD vo IT.no).cells.length ≤ 1000 := HSM.out _;obtain ⟨newc, hnewc⟩ : ∃ c, c = (S3.T.getD S.T.length IT.no).cells := ⟨_, rfl⟩
    obtain ⟨oldc, holdc⟩ : ∃ c, c = (S3.T.getD vo IT.no).cells := ⟨_, rfl⟩
    rw [← hnewc] at d3 hsn HBN;rw [← holdc] at o3 hso HBO;obtain ⟨cs, hcs⟩ : ∃ cs, cs = (oldc.take (min oldc.length newc.length)).flatMap icCells := ⟨_, rfl⟩
    have HCS := hide2 hcs;have hcl : cs.length = Nat.min oldc.length newc.length * 3 := by rw [hcs, ic_len, List.length_take]; show _ = min oldc.length newc.length * 3; congr 1; omega
    have HCELL : Hid (∀ j u, cs[j]? = some u → w4.drew.cell? ((⟨cbo, 0, none⟩ : Addr).add j) = some u) := fun j u hj => by
     rw [World.cell?_drew, show (⟨cbo, 0, none⟩ : Addr).add j = ⟨cbo, j, none⟩ by rw [add_lit, Nat.zero_add]];refine HBO.out.cell ?_;rw [hcs, ic_take, List.getElem?_take] at hj
     split at hj
     ·exact hj
     ·cases hj
    have HONE : Hid (∀ u ∈ cs, u.oneCell' = true) := by show ∀ u ∈ cs, _; rw [hcs]; exact ic_one _
    have hfit : 0 + cs.length ≤ (newc.flatMap icCells).length := by rw [ic_len, hcl]; show _ ≤ newc.length * 3; have : Nat.min oldc.length newc.length ≤ newc.length := Nat.min_le_right _ _; omega
    have HBN4 : Hid (Blk w4.drew cbn 115 (newc.flatMap icCells)) := HBN.out;have HNEWC := hide2 hnewc;have HOLDC := hide2 holdc;have vI : (vo : Int) < ((S.T.length + 1 : Nat) : Int) := by omega
    have lI : (S.T.length : Int) < ((S.T.length + 1 : Nat) : Int) := by omega
    obtain ⟨m1, hm1⟩ : ∃ m1, m1 = S.T.length + 1 := ⟨_, rfl⟩
    rw [← hm1] at c5 hcap vI lI;unfold maxLen at hmax;clear hcell hbn hbo hnewc holdc hcs hm1;go_upto_region 8 with (fail)
    go_region_held3 (fun w' => w'.cell? ⟨F.mb, 5, none⟩ = some (.slice (some ⟨gt, 0, none⟩) m1 cap) ∧ w'.cell? ⟨w3.heap.size, 0, none⟩ = some (.int .i64 (S.T.length : Int)) ∧ w'.cell? ⟨gt, S.T.length * 4 + 3, none⟩ = some (.slice (some ⟨cbn, 0, none⟩) newc.length newc.length) ∧ w'.cell? ⟨w.heap.size + 1, 0, none⟩ = some (.int .i64 (vo : Int)) ∧ w'.cell? ⟨gt, vo * 4 + 3, none⟩ = some (.slice (some ⟨cbo, 0, none⟩) oldc.length oldc.length)) (go_keep)
     (first | (refine step_copy_keepW (by rfl) _ _ _ _ (by rfl) 115 3 Tryz.underlying111 size_cell cbn 0 newc.length newc.length ⟨cbo, 0, none⟩ oldc.length oldc.length (by rfl) (by rfl) (newc.flatMap icCells) 115 HBN4.out cs hcl HCELL.out hfit HONE.out ?_; intro w5 hb5 hk5; have c5' : w5.cell? ⟨F.mb, 5, none⟩ = some (.slice (some ⟨gt, 0, none⟩) m1 cap) := (World.cell?_of_block (w := w4.drew) (hk5.out.block F.mb HR4.out.blk.lt hmm)).trans c5; have z0' : w5.cell? ⟨w3.heap.size, 0, none⟩ = some (.int .i64 (S.T.length : Int)) := (World.cell?_of_block (w := w4.drew) (hk5.out.block w3.heap.size HZ4.out.lt hzm)).trans z0; have d3' : w5.cell? ⟨gt, S.T.length * 4 + 3, none⟩ = some (.slice (some ⟨cbn, 0, none⟩) newc.length newc.length) := (World.cell?_of_block (w := w4.drew) (hk5.out.block gt hgl hgm)).trans d3; have y0' : w5.cell? ⟨w.heap.size + 1, 0, none⟩ = some (.int .i64 (vo : Int)) := (World.cell?_of_block (w := w4.drew) (hk5.out.block (w.heap.size + 1) HY4.out.lt hym)).trans y0; have o3' : w5.cell? ⟨gt, vo * 4 + 3, none⟩ = some (.slice (some ⟨cbo, 0, none⟩) oldc.length oldc.length) := (World.cell?_of_block (w := w4.drew) (hk5.out.block gt hgl hgm)).trans o3))
    have HK5 : Hid (Kept w4 w5 (· = cbn)) := ⟨hk5.out.os, hk5.out.tape, hk5.out.output, hk5.out.size, hk5.out.block⟩
    have HB5 : Hid (Blk w5 cbn 115 ((iCopied newc oldc).flatMap icCells)) := by
     show Blk _ _ _ _;rw [← iPut_copied, ← splice_put, ← HCS.out];exact hb5.out
    have HT5 := hide2 (HTRN.out w5 (iCopied newc oldc) (by rw [iCopied_len0, HNEWC.out]) HK5.out HB5.out);have HR5 := hide2 HT5.out.1;have HX5 := hide2 (HK5.out.blk HX4.out hxm);have HY5 := hide2 (HK5.out.blk HY4.out hym);have HZ5 := hide2 (HK5.out.blk HZ4.out hzm);clear c5' z0' d3' y0' o3' hb5 hk5 HB5 HTRN HT5;have y0 := HY5.out.cell (j := 0) rfl
    go_wp2_with fail
    refine (ifree_any F wB vT3 vF V3 col3 (S3.turn S.T.length (iCopied newc oldc)) w5 HR5.out vo (by show vo < (S3.T.set _ _).length; rw [List.length_set]; omega) (by show (S3.T.set _ _).length ≤ _; rw [List.length_set]; omega) (by show S3.F.length ≤ _; rw [hf3]; exact hfl)).mono ?_;rintro e6 w6 ⟨rfl, vF6, col6, hR6, hk6⟩;have HR6 := hide2 hR6;have HX6 := hide2 (hk6.blk HX5.out (HR5.out.not_own HX5.out (by decide) (by decide) (by decide) (by decide)));have HZ6 := hide2 (hk6.blk HZ5.out (HR5.out.not_own HZ5.out (by decide) (by decide) (by decide) (by decide)));clear hR6 hk6 y0;rw [show (S3.th S.T.length).cells = newc from HNEWC.out.symm, show (S3.th vo).cells = oldc from HOLDC.out.symm] at HS;have x1 := HX6.out.cell (j := 1) rfl;have z0 := HZ6.out.cell (j := 0) rfl;have z1 := HZ6.out.cell (j := 1) rfl;have q7 := HR6.out.cOf ka hka;have q8 := HR6.out.cN ka hka;have f7 := HR6.out.blk.frozen (7 + ka * 2);have f8 := HR6.out.blk.frozen (7 + ka * 2 + 1);have HFIN := hide2 ((HR6.out.setReg ka hka ⟨S.T.length, 0⟩).under ((Below.refl _ _).drew));go_upto_region 10 with (fail);refine wp_region_still_tail 7 (by kernel_rfl) (by kernel_rfl) ?_
    repeat still_step
    refine wpStill_nil ?_;go_wp2;go_end0;exact ⟨rfl, _, _, _, _, _, HFIN.out, .inl HS.out.symm⟩
  ·have HS : Hid (iGrown F S ⟨vo, vn⟩ ka kc = S.ends 102) := by
    show _ = _;unfold iGrown;rw [if_neg (fun x => x.elim (fun z => by rw [HNB.out] at z; cases z) (fun z => by rw [ho] at z; cases z))]
   clear ho
   go_wp2_with fail
   refine (istop_yes F wB vT vF V col S w1 HR1.out r hr).mono ?_;rintro e2 w2 ⟨rfl, hR2, -⟩;have HR2 := hide2 hR2;clear hR2;go_wp2
   (try simp only [Exit.inBlock, Exit.then])
   refine bodyPost_ret (results_none rfl _ _ _) rfl ?_;exact ⟨rfl, _, _, _, _, _, HR2.out, .inr ⟨by rw [HS.out]; rfl, hr⟩⟩
 ·clear hs;have x3 := HX1.out.cell (j := 3) rfl
  go_wp2_with fail
  refine (inumber_any F wB vT vF V col S w1 HR1.out kc hkc).mono ?_;rintro e2 w2 ⟨rfl, hR2, hk2⟩;have HR2 := hide2 hR2;have HX2 := hide2 (hk2.blk HX1.out hnm);have HY2 := hide2 (hk2.blk HY1.out hnm2);clear x3 hR2 hk2
  go_wp2_with fail
  refine (imalloc2 F wB vT vF V col (S.num kc) w2 HR2.out (HG.out.num kc) (iv S.r kc).n (by rw [HNT.out.1]; omega)).mono ?_;rintro e3 w3 ⟨rfl, vT3, V3, col3, hR3, hk3⟩;have HX3 := hide2 (hk3.blk HX2.out hNO.out);have HY3 := hide2 (hk3.blk HY2.out hNO2.out);have HR3 := hide2 hR3;have hx3 := HX3.out.lt;have hy3 := HY3.out.lt;rw [HIN.out];clear hR3 hk3 HR2 HX2 HY2;obtain ⟨nv, hnv⟩ : ∃ nv, nv = iNew F S (iv S.r kc).n := ⟨_, rfl⟩
  obtain ⟨no, nn⟩ := nv;have HNV := hide2 hnv;rw [← hnv];clear hnv;go_upto_region 7 with (fail);obtain ⟨w4, hw4⟩ : ∃ w4, w4 = w3.alloc (.cells #[.int .i64 (no : Int), .int .i64 nn] 107) := ⟨_, rfl⟩
  rw [← hw4];have HB4 : Hid (Below w3.heap.size w3 w4) := by show Below _ _ _; rw [hw4]; exact (Below.refl _ _).alloc (Nat.le_refl _) _
  have HZ4 : Hid (Blk w4 w3.heap.size 107 [.int .i64 (no : Int), .int .i64 nn]) := by show Blk _ _ _ _; rw [hw4]; exact Blk.alloc _ _ _
  have HX4 := hide2 (HX3.out.below HB4.out hx3);have HY4 := hide2 (HY3.out.below HB4.out hy3);have HR4 := hide2 (HR3.out.under HB4.out);have hmb3 : F.mb < w3.heap.size := HR3.out.blk.lt;have hnm3 : w3.heap.size ≠ F.mb := by omega
  clear hw4
  have HS : Hid (iGrown F S ⟨vo, vn⟩ ka kc = ((S.num kc).malloc F (iv S.r kc).n).reg ka ⟨no, nn⟩) := by
   show _ = _;unfold iGrown iGrow;rw [if_pos (.inl HNB.out), HIN.out, ← HNV.out, if_pos (.inr HNB.out)]
  have key : (0 : Int) < (no : Int) ∨ ¬ (0 : Int) < (no : Int) := by omega
  have z0 := HZ4.out.cell (j := 0) rfl
  rcases key with qn | qn
  all_goals
   have x1 := HX4.out.cell (j := 1) rfl;have z0 := HZ4.out.cell (j := 0) rfl;have z1 := HZ4.out.cell (j := 1) rfl;have q7 := HR4.out.cOf ka hka;have q8 := HR4.out.cN ka hka;have f7 := HR4.out.blk.frozen (7 + ka * 2);have f8 := HR4.out.blk.frozen (7 + ka * 2 + 1);have HFIN := hide2 ((HR4.out.setReg ka hka ⟨no, nn⟩).under ((Below.refl _ _).drew));go_upto_region 10 with (fail);refine wp_region_still_tail 7 (by kernel_rfl) (by kernel_rfl) ?_
   repeat still_step
   refine wpStill_nil ?_;go_wp2;go_end0;exact ⟨rfl, _, _, _, _, _, HFIN.out, .inl HS.out.symm⟩
end
section
variable (F : IFix) (wB : World) (vT vF : Value) (V : List Value) (col : Nat → Nat) (S : IS) (w : World)
set_option maxRecDepth 100000 in
set_option maxHeartbeats 6400000 in
theorem iblock_realloc (h : IRep F wB w vT vF V col S) (hg : IGood F S) (ka kb kc : Nat) (hka : ka < 8) (hkb : kb < 8) (hkc : kc < 8) (hlen : S.T.length ≤ 900000) (hfl : S.F.length ≤ 1000000) (hnd : (F.nd : Int) ≤ 9223372036854775807) :
 Calls Tryz.prog 70 #[.pointer (some ⟨F.mb, 0, none⟩), .agg #[.int .i64 13, .int .i64 (ka : Int), .int .i64 (kb : Int), .int .i64 (kc : Int)]] w fun e w' => e = .returned (.tuple #[]) ∧ IDone F wB w' (iRealloc F S ka kb kc) := by
 obtain ⟨wa, hwa⟩ : ∃ wa, wa = w.alloc (.cells #[.int .i64 13, .int .i64 (ka : Int), .int .i64 (kb : Int), .int .i64 (kc : Int)] 60) := ⟨_, rfl⟩
 have HB : Hid (Below w.heap.size w wa) := by show Below _ _ _; rw [hwa]; exact (Below.refl _ _).alloc (Nat.le_refl _) _
 have HX : Hid (Blk wa w.heap.size 60 [.int .i64 13, .int .i64 (ka : Int), .int .i64 (kb : Int), .int .i64 (kc : Int)]) := by show Blk _ _ _ _; rw [hwa]; exact Blk.alloc _ _ _
 have HRa := hide2 (h.under HB.out);have HG := hide2 hg;have HOW : Hid (∀ b, IOwn F.mb vT vF V b → b < w.heap.size) := fun b hb => h.own_lt hb
 have x0 := HX.out.cell (j := 0) rfl;have x1 := HX.out.cell (j := 1) rfl;have x2 := HX.out.cell (j := 2) rfl;have x3 := HX.out.cell (j := 3) rfl;have hxl := HX.out.lt;have c7 := HRa.out.cOf kb hkb;have c8 := HRa.out.cN kb hkb;have kaI : (ka : Int) < 8 := by omega
 have kbI : (kb : Int) < 8 := by omega
 clear h hg;obtain ⟨vo, hvo⟩ : ∃ vo, vo = (iv S.r kb).of := ⟨_, rfl⟩
 obtain ⟨vn, hvn⟩ : ∃ vn, vn = (iv S.r kb).n := ⟨_, rfl⟩
 rw [← hvo] at c7;rw [← hvn] at c8;have HVO := hide2 hvo;have HVN := hide2 hvn;clear hvo hvn;go_enter Tryz.func70, Tryz.ntmps70;go_upto_region 1 with (fail);rw [← hwa];clear hwa
 go_region_held3 (fun w' => w'.cell? ⟨w.heap.size, 2, none⟩ = some (.int .i64 (kb : Int)) ∧ w'.cell? ⟨F.mb, 7 + kb * 2, none⟩ = some (.int .i64 (vo : Int)) ∧ w'.cell? ⟨F.mb, 7 + kb * 2 + 1, none⟩ = some (.int .i64 vn)) (go_keep) (first | fail)
 rename_i hold
 clear hold;obtain ⟨wb, hwb⟩ : ∃ wb, wb = (wa.alloc (.cells #[.int .i64 (vo : Int), .int .i64 vn] 107)).drew := ⟨_, rfl⟩
 rw [← hwb];have HBb : Hid (Below wa.heap.size wa wb) := by show Below _ _ _; rw [hwb]; exact ((Below.refl _ _).alloc (Nat.le_refl _) _).drew
 have HY : Hid (Blk wb wa.heap.size 107 [.int .i64 (vo : Int), .int .i64 vn]) := by show Blk _ _ _ _; rw [hwb]; exact Blk.alloc _ _ _
 have HXb := hide2 (HX.out.below HBb.out hxl);have HRb := hide2 (HRa.out.under HBb.out);have HBB : Hid (Below w.heap.size w wb) := HB.out.trans (HBb.out.mono HB.out.size);clear x0 x1 x2 x3 c7 c8 hwb HX HRa;have x0 := HXb.out.cell (j := 0) rfl;have x1 := HXb.out.cell (j := 1) rfl;have x2 := HXb.out.cell (j := 2) rfl;have y0 := HY.out.cell (j := 0) rfl;have y1 := HY.out.cell (j := 1) rfl;have x3 := HXb.out.cell (j := 3) rfl;have hnm : ¬ w.heap.size = F.mb := fun e => by have := HOW.out F.mb (.inl rfl); omega
 have hnm2 : ¬ wa.heap.size = F.mb := fun e => by have := HOW.out F.mb (.inl rfl); have := HB.out.size; omega
 have HVG := hide2 (HG.out.rv kb hkb);have HEV : Hid (iv S.r kb = ⟨vo, vn⟩) := by show _ = _; rw [HVO.out, HVN.out]
 clear HVO HVN;have hv : (⟨vo, vn⟩ : IV).of < S.T.length ∧ -9223372036854775808 ≤ (⟨vo, vn⟩ : IV).n ∧ (⟨vo, vn⟩ : IV).n ≤ 9223372036854775807 := by rw [← HEV.out]; exact HVG.out
 have HV := hide2 hv;clear hv HVG
 have key : (vo = 0 ∧ vn = 0) ∨ (((vo : Int) == 0) = false ∧ iNothing ⟨vo, vn⟩ = false) ∨ (((vo : Int) == 0) = true ∧ (vn == 0) = false ∧ iNothing ⟨vo, vn⟩ = false) := by
  by_cases q : vo = 0
  ·by_cases q2 : vn = 0
   ·exact .inl ⟨q, q2⟩
   ·right; right; exact ⟨by simp [q], by simp [q2], decide_eq_false (fun x => q2 x.2)⟩
  ·right; left; exact ⟨by simp; omega, decide_eq_false (fun x => q x.1)⟩
 by_cases hd : S.drawn < F.nd
 ·have HS : Hid (iRealloc F S ka kb kc = iGrown F S.drew ⟨vo, vn⟩ ka kc) := by
   show _ = _;unfold iRealloc iGrown;rw [if_pos hd, HEV.out];rfl
  clear HEV
  rcases key with ⟨rfl, rfl⟩ | ⟨k1, kn⟩ | ⟨k1, k2, kn⟩
  ·go_wp2_with fail
   refine (idraw_yes F wB vT vF V col S wb HRb.out hd hnd).mono ?_;rintro e1 w1 ⟨rfl, hR1, hk1⟩;have HR1 := hide2 hR1;have HX1 := hide2 (hk1.blk HXb.out hnm);have HY1 := hide2 (hk1.blk HY.out hnm2);clear x0 x1 x2 x3 y0 y1 hR1 hk1;have x0 := HX1.out.cell (j := 0) rfl;have x1 := HX1.out.cell (j := 1) rfl;have x2 := HX1.out.cell (j := 2) rfl;have x3 := HX1.out.cell (j := 3) rfl;have y0 := HY1.out.cell (j := 0) rfl;have y1 := HY1.out.cell (j := 1) rfl
   go_wp2_with fail
   refine (igrow_any F wB vT vF V col S.drew w1 HR1.out HG.out.drew ⟨0, 0⟩ HV.out.1 HV.out.2.1 HV.out.2.2 13 ka kc (kb : Int) hka hkc hlen hfl).mono ?_;rintro e2 w2 ⟨rfl, hD⟩;have HD := hide2 hD;clear hD;go_wp2;go_end0;exact ⟨rfl, by rw [HS.out]; exact HD.out⟩
  all_goals
   have HKN := hide2 kn;clear kn
   go_wp2_with fail
   refine (idraw_yes F wB vT vF V col S wb HRb.out hd hnd).mono ?_;rintro e1 w1 ⟨rfl, hR1, hk1⟩;have HR1 := hide2 hR1;have HX1 := hide2 (hk1.blk HXb.out hnm);have HY1 := hide2 (hk1.blk HY.out hnm2);clear x0 x1 x2 x3 y0 y1 hR1 hk1;have x0 := HX1.out.cell (j := 0) rfl;have x1 := HX1.out.cell (j := 1) rfl;have x2 := HX1.out.cell (j := 2) rfl;have x3 := HX1.out.cell (j := 3) rfl;have y0 := HY1.out.cell (j := 0) rfl;have y1 := HY1.out.cell (j := 1) rfl;have hgr := igrow_any F wB vT vF V col S.drew w1 HR1.out HG.out.drew ⟨vo, vn⟩ HV.out.1 HV.out.2.1 HV.out.2.2 13 ka kc (kb : Int) hka hkc hlen hfl;rw [HKN.out] at hgr;have HGR := hide2 hgr;clear hgr
   go_wp2_with fail
   refine HGR.out.mono ?_;rintro e2 w2 ⟨rfl, hD⟩;have HD := hide2 hD;clear hD;go_wp2;go_end0;exact ⟨rfl, by rw [HS.out]; exact HD.out⟩
 ·have HS : Hid (iRealloc F S ka kb kc = S.ends 4) := by show _ = _; unfold iRealloc; rw [if_neg hd]
  clear HEV
  rcases key with ⟨rfl, rfl⟩ | ⟨k1, kn⟩ | ⟨k1, k2, kn⟩
  all_goals
   go_wp2_with fail
   refine (idraw_no F wB vT vF V col S wb HRb.out hd).mono ?_;rintro e1 w1 ⟨rfl, hR1, hk1⟩;have HR1 := hide2 hR1;clear hR1 hk1 x0 x1 x2 x3 y0 y1;go_wp2;go_end0;exact ⟨rfl, _, _, _, _, _, HR1.out, .inl HS.out.symm⟩
end
def Cells8 (w : World) (g off : Nat) (l : List IC) : Prop := ∀ i, i < 8 → w.cell? ⟨g, off + i * 3, none⟩ = some (.int .i64 ((l.getD i IC.no).v.of : Int)) ∧ w.cell? ⟨g, off + i * 3 + 1, none⟩ = some (.int .i64 (l.getD i IC.no).v.n) ∧ w.cell? ⟨g, off + i * 3 + 2, none⟩ = some (.int .i64 ((l.getD i IC.no).part : Int))
def kvOf (o : Option IV) : IV := match o with | some w => w | none => ⟨0, 0⟩
set_option maxRecDepth 100000 in
set_option maxHeartbeats 800000 in
theorem truth_any (b : Bool) (w : World) : Calls Tryz.prog 97 #[.bool b] w fun e w' => e = .returned (vV (iTruth b)) ∧ Below w.heap.size w w' := by
 obtain ⟨wa, hwa⟩ : ∃ wa, wa = w.alloc (.cells #[.int .i64 0, .int .i64 0] 107) := ⟨_, rfl⟩
 have HB : Hid (Below w.heap.size w wa) := by show Below _ _ _; rw [hwa]; exact (Below.refl _ _).alloc (Nat.le_refl _) _
 have HX : Hid (Blk wa w.heap.size 107 [.int .i64 0, .int .i64 0]) := by show Blk _ _ _ _; rw [hwa]; exact Blk.alloc _ _ _
 have r0 := HX.out.cell (j := 0) rfl;have r1 := HX.out.cell (j := 1) rfl;have f0 := HX.out.frozen 0;have f1 := HX.out.frozen 1
 cases b
 ·go_enter Tryz.func97, Tryz.ntmps97;go_upto_region 1 with (fail);rw [← hwa];clear hwa;go_wp2;refine bodyPost_ret (v := .agg #[.int .i64 0, .int .i64 0]) (by simp [results, Tryz.results97, go_sem, r0, r1]) rfl ⟨rfl, ?_⟩;exact (HB.out.setCell (p := ⟨w.heap.size, 0, none⟩) (Nat.le_refl _) _).setCell (p := ⟨w.heap.size, 1, none⟩) (Nat.le_refl _) _
 ·go_enter Tryz.func97, Tryz.ntmps97;go_upto_region 1 with (fail);rw [← hwa];clear hwa;go_wp2;refine bodyPost_ret (v := .agg #[.int .i64 0, .int .i64 1]) (by simp [results, Tryz.results97, go_sem, r0, r1]) rfl ⟨rfl, ?_⟩;exact (HB.out.setCell (p := ⟨w.heap.size, 0, none⟩) (Nat.le_refl _) _).setCell (p := ⟨w.heap.size, 1, none⟩) (Nat.le_refl _) _
set_option maxRecDepth 100000 in
set_option maxHeartbeats 3200000 in
theorem ikept_any (l : List IC) (g off cap : Nat) (w : World) (hc : Cells8 w g off l) (hg : g < w.heap.size) :
 Calls Tryz.prog 106 #[.slice (some ⟨g, off, none⟩) 8 cap] w fun e w' => e = .returned (.tuple #[vV (kvOf (iKept l)), .bool (iKept l).isSome]) ∧ Below w.heap.size w w' := by
 obtain ⟨wa, hwa⟩ : ∃ wa, wa = w.alloc (.cells #[.int .i64 0, .int .i64 0] 107) := ⟨_, rfl⟩
 have HB : Hid (Below w.heap.size w wa) := by show Below _ _ _; rw [hwa]; exact (Below.refl _ _).alloc (Nat.le_refl _) _
 have HX : Hid (Blk wa w.heap.size 107 [.int .i64 0, .int .i64 0]) := by show Blk _ _ _ _; rw [hwa]; exact Blk.alloc _ _ _
 have hxl := HX.out.lt
 have HC : Hid (Cells8 wa g off l) := fun i hi => by
  obtain ⟨q0, q1, q2⟩ := hc i hi;exact ⟨(HB.out.cell (p := ⟨g, off + i * 3, none⟩) hg).trans q0, (HB.out.cell (p := ⟨g, off + i * 3 + 1, none⟩) hg).trans q1, (HB.out.cell (p := ⟨g, off + i * 3 + 2, none⟩) hg).trans q2⟩
 have hga : g < wa.heap.size := Nat.lt_of_lt_of_le hg HB.out.size;obtain ⟨a0, a1, -⟩ := HC.out 0 (by omega);rw [show off + 0 * 3 = off by omega] at a0;rw [show off + 0 * 3 + 1 = off + 1 by omega] at a1;obtain ⟨v0, hv0⟩ : ∃ v0, v0 = (l.getD 0 IC.no).v := ⟨_, rfl⟩
 obtain ⟨o0, n0⟩ := v0;have HO : Hid ((⟨o0, n0⟩ : IV) = (l.getD 0 IC.no).v) := hv0;rw [← hv0] at a0 a1;simp only at a0 a1
 by_cases hp : 0 < o0
 ·have hpI : (0 : Int) < (o0 : Int) := by omega
  have HK : Hid (iKept l = if iOne l ⟨o0, n0⟩ 8 then some ⟨o0, n0⟩ else none) := by show _ = _; unfold iKept; rw [← hv0, if_pos hp]
  clear hv0;go_enter Tryz.func106, Tryz.ntmps106;go_upto_region 1 with (fail);rw [← hwa];clear hwa hp;go_wp2
  go_loopw [4] (fun i wr => ∃ m : Nat, m ≤ 8 ∧ i = .int .i64 (m : Int) ∧ Hid (iOne l ⟨o0, n0⟩ m = true) ∧ Below wa.heap.size wa wr) (fun i _ => 8 - (intOf i).toNat)
  case atStart => exact ⟨0, by omega, rfl, rfl, Below.refl _ _⟩
  case round =>
   obtain ⟨m, hm, rfl, hone, hb⟩ := hrel;have a0' := (hb.cell (p := ⟨g, off, none⟩) hga).trans a0;have a1' := (hb.cell (p := ⟨g, off + 1, none⟩) hga).trans a1
   by_cases hlt : m < 8
   ·have hI : (m : Int) < 8 := by omega
    obtain ⟨b0, b1, b2⟩ := HC.out m hlt;have b0' := (hb.cell (p := ⟨g, off + m * 3, none⟩) hga).trans b0;have b1' := (hb.cell (p := ⟨g, off + m * 3 + 1, none⟩) hga).trans b1;have b2' := (hb.cell (p := ⟨g, off + m * 3 + 2, none⟩) hga).trans b2;clear b0 b1 b2;have HST : Hid (iOne l ⟨o0, n0⟩ (m + 1) = (iOne l ⟨o0, n0⟩ m && decide ((l.getD m IC.no).v.of = o0 ∧ (l.getD m IC.no).v.n = n0 ∧ (l.getD m IC.no).part = m))) := rfl;have HAT : Hid (iOne l ⟨o0, n0⟩ 8 = true → (l.getD m IC.no).v.of = o0 ∧ (l.getD m IC.no).v.n = n0 ∧ (l.getD m IC.no).part = m) := fun hx => iOne_at hx m hlt
    generalize (l.getD m IC.no).v.of = om at *;generalize (l.getD m IC.no).v.n = nm at *;generalize (l.getD m IC.no).part = pm at *
    by_cases q : om = o0 ∧ nm = n0 ∧ pm = m
    ·obtain ⟨q0, q1, q2⟩ := q;have HN : Hid (iOne l ⟨o0, n0⟩ (m + 1) = true) := by show _ = _; rw [HST.out, hone.out, q0, q1, q2]; simp
     have pb : ((pm : Int) != (m : Int)) = false := by simp [q2]
     rw [q0] at b0';rw [q1] at b1';clear q0 q1 q2 HST
     go_wp2_with fail
     go_quiet (fail)
     go_wp2
     go_roundw
     case rel => exact ⟨m + 1, by omega, by go_num, HN, below_drewN hb _⟩
     case measure => simp [intOf]; omega
    ·have HN : Hid (iKept l = none) := by
      show _ = _;rw [HK.out, if_neg];exact fun hx => q (HAT.out hx)
     have key : ((om : Int) == (o0 : Int)) = false ∨ (om = o0 ∧ (nm == n0) = false) ∨ (om = o0 ∧ nm = n0 ∧ ((pm : Int) != (m : Int)) = true) := by
      by_cases q0 : om = o0
      ·by_cases q1 : nm = n0
       ·refine .inr (.inr ⟨q0, q1, ?_⟩)
        by_cases q2 : pm = m
        ·exact absurd ⟨q0, q1, q2⟩ q
        ·simp; omega
       ·exact .inr (.inl ⟨q0, by simp [q1]⟩)
      ·exact .inl (by simp; omega)
     clear q HST;have hX1 := HX.out.below hb hxl;have r0 := hX1.cell (j := 0) rfl;have r1 := hX1.cell (j := 1) rfl;have f0 := hX1.frozen 0;have f1 := hX1.frozen 1
     rcases key with k0 | ⟨k0, k1⟩ | ⟨k0, k1, k2⟩
     ·go_wp2_with fail
      go_quiet (fail)
      go_wp2;refine bodyPost_ret (v := .tuple #[.agg #[.int .i64 0, .int .i64 0], .bool false]) (by simp [results, Tryz.results106, go_sem, r0, r1]) rfl ⟨by rw [HN.out]; rfl, ?_⟩;exact ((below_drewN (HB.out.trans (hb.mono HB.out.size)) _).setCell (p := ⟨w.heap.size, 0, none⟩) (Nat.le_refl _) _).setCell (p := ⟨w.heap.size, 1, none⟩) (Nat.le_refl _) _
     ·rw [k0] at b0';clear k0
      go_wp2_with fail
      go_quiet (fail)
      go_wp2;refine bodyPost_ret (v := .tuple #[.agg #[.int .i64 0, .int .i64 0], .bool false]) (by simp [results, Tryz.results106, go_sem, r0, r1]) rfl ⟨by rw [HN.out]; rfl, ?_⟩;exact ((below_drewN (HB.out.trans (hb.mono HB.out.size)) _).setCell (p := ⟨w.heap.size, 0, none⟩) (Nat.le_refl _) _).setCell (p := ⟨w.heap.size, 1, none⟩) (Nat.le_refl _) _
     ·rw [k0] at b0';rw [k1] at b1';clear k0 k1
      go_wp2_with fail
      go_quiet (fail)
      go_wp2;refine bodyPost_ret (v := .tuple #[.agg #[.int .i64 0, .int .i64 0], .bool false]) (by simp [results, Tryz.results106, go_sem, r0, r1]) rfl ⟨by rw [HN.out]; rfl, ?_⟩;exact ((below_drewN (HB.out.trans (hb.mono HB.out.size)) _).setCell (p := ⟨w.heap.size, 0, none⟩) (Nat.le_refl _) _).setCell (p := ⟨w.heap.size, 1, none⟩) (Nat.le_refl _) _
   ·obtain rfl : m = 8 := by omega
    have HN : Hid (iKept l = some ⟨o0, n0⟩) := by show _ = _; rw [HK.out, if_pos hone.out]
    have hX1 := HX.out.below hb hxl;have r0 := hX1.cell (j := 0) rfl;have r1 := hX1.cell (j := 1) rfl;have f0 := hX1.frozen 0;have f1 := hX1.frozen 1;go_wp2;refine bodyPost_ret (v := .tuple #[.agg #[.int .i64 (o0 : Int), .int .i64 n0], .bool true]) (by simp [results, Tryz.results106, go_sem, r0, r1]) rfl ⟨by rw [HN.out]; rfl, ?_⟩;exact ((HB.out.trans (hb.mono HB.out.size)).setCell (p := ⟨w.heap.size, 0, none⟩) (Nat.le_refl _) _).setCell (p := ⟨w.heap.size, 1, none⟩) (Nat.le_refl _) _
 ·have hpI : ¬ (0 : Int) < (o0 : Int) := by omega
  have HK : Hid (iKept l = if iNums l 8 then some ⟨0, iNum l 8 0⟩ else none) := by show _ = _; unfold iKept; rw [← hv0, if_neg hp]
  clear hv0;go_enter Tryz.func106, Tryz.ntmps106;go_upto_region 1 with (fail);rw [← hwa];clear hwa hp;go_wp2
  go_loopw [5, 6] (fun x i wr => ∃ m : Nat, m ≤ 8 ∧ i = .int .i64 ((m : Int) - 1) ∧ x = .int .i64 (iNum l (8 - m) m) ∧ Hid (∀ j, m ≤ j → j < 8 → (l.getD j IC.no).v.of = 0) ∧ Below wa.heap.size wa wr) (fun _ i _ => (intOf i + 1).toNat)
  case atStart => exact ⟨8, by omega, by simp, rfl, fun j h1 h2 => by omega, Below.refl _ _⟩
  case round =>
   obtain ⟨m, hm, rfl, rfl, hall, hb⟩ := hrel;have hX1 := HX.out.below hb hxl;have r0 := hX1.cell (j := 0) rfl;have r1 := hX1.cell (j := 1) rfl;have f0 := hX1.frozen 0;have f1 := hX1.frozen 1
   cases m with
   | zero =>
     have hz : iNums l 8 = true := by
      have : ∀ k, k ≤ 8 → iNums l k = true := by
       intro k
       induction k with
       | zero => intro _; rfl
       | succ k ih =>
         intro hk;show (iNums l k && decide ((l.getD k IC.no).v.of = 0)) = true;rw [ih (by omega), hall.out k (by omega) (by omega)]; rfl
      exact this 8 (by omega)
     have HN : Hid (iKept l = some ⟨0, iNum l 8 0⟩) := by show _ = _; rw [HK.out, if_pos hz]
     clear hz;rw [show 8 - 0 = 8 by omega];generalize iNum l 8 0 = x at *;go_wp2;refine bodyPost_ret (v := .tuple #[.agg #[.int .i64 0, .int .i64 x], .bool true]) (by simp [results, Tryz.results106, go_sem, r0, r1]) rfl ⟨by rw [HN.out]; rfl, ?_⟩;exact ((HB.out.trans (hb.mono HB.out.size)).setCell (p := ⟨w.heap.size, 0, none⟩) (Nat.le_refl _) _).setCell (p := ⟨w.heap.size, 1, none⟩) (Nat.le_refl _) _
   | succ m =>
     have hmI : ((m + 1 : Nat) : Int) - 1 = (m : Int) := by omega
     rw [hmI];have m0 : (0 : Int) ≤ (m : Int) := by omega
     have m1 : (m : Int) < 8 := by omega
     obtain ⟨b0, b1, -⟩ := HC.out m (by omega);have b0' := (hb.cell (p := ⟨g, off + m * 3, none⟩) hga).trans b0;have b1' := (hb.cell (p := ⟨g, off + m * 3 + 1, none⟩) hga).trans b1;clear b0 b1
     have HST : Hid (iNum l (8 - m) m = wrap64 (256 * iNum l (8 - (m + 1)) (m + 1) + (l.getD m IC.no).v.n)) := by
      show _ = _;rw [show 8 - m = (8 - (m + 1)) + 1 by omega]; rfl
     by_cases q : (l.getD m IC.no).v.of = 0
     ·have HALL : Hid (∀ j, m ≤ j → j < 8 → (l.getD j IC.no).v.of = 0) := fun j h1 h2 => by
       by_cases e : j = m
       ·rw [e]; exact q
       ·exact hall.out j (by omega) h2
      have qb : ¬ (0 : Int) < ((l.getD m IC.no).v.of : Int) := by omega
      clear q hall;generalize (l.getD m IC.no).v.of = om at *;generalize (l.getD m IC.no).v.n = nm at *;generalize iNum l (8 - (m + 1)) (m + 1) = y at *;go_wp2
      go_roundw
      case rel =>
       refine ⟨m, by omega, rfl, ?_, HALL, hb⟩;rw [HST.out]
       congr 1
       unfold wrap64;omega
      case measure => simp [intOf]
     ·have hz : ¬ iNums l 8 = true := fun hx => by
       have : ∀ k, k ≤ 8 → iNums l k = true → ∀ j, j < k → (l.getD j IC.no).v.of = 0 := by
        intro k
        induction k with
        | zero => intro _ _ j hj; omega
        | succ k ih =>
          intro hk hn j hj;change (iNums l k && decide ((l.getD k IC.no).v.of = 0)) = true at hn;rw [Bool.and_eq_true] at hn
          by_cases e : j = k
          ·rw [e]; exact of_decide_eq_true hn.2
          ·exact ih (by omega) hn.1 j (by omega)
       exact q (this 8 (by omega) hx m (by omega))
      have HN : Hid (iKept l = none) := by show _ = _; rw [HK.out, if_neg hz]
      have qb : (0 : Int) < ((l.getD m IC.no).v.of : Int) := by omega
      clear q hz HST hall;generalize (l.getD m IC.no).v.of = om at *;generalize (l.getD m IC.no).v.n = nm at *;generalize iNum l (8 - (m + 1)) (m + 1) = y at *;go_wp2;refine bodyPost_ret (v := .tuple #[.agg #[.int .i64 0, .int .i64 0], .bool false]) (by simp [results, Tryz.results106, go_sem, r0, r1]) rfl ⟨by rw [HN.out]; rfl, ?_⟩;exact ((HB.out.trans (hb.mono HB.out.size)).setCell (p := ⟨w.heap.size, 0, none⟩) (Nat.le_refl _) _).setCell (p := ⟨w.heap.size, 1, none⟩) (Nat.le_refl _) _
end Go.Proofs.YtjikemhmnkckcabGreat
