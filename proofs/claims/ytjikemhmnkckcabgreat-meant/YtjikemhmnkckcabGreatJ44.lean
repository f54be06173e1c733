import Derived.Test.YtjikemhmnkckcabGreatJ43
namespace Go.Proofs.YtjikemhmnkckcabGreat
open Go.RowKit
def rexplain (R : RSt) (q n : Int) : Rpt :=
 if (R.access q n).1 = 6 ∨ (R.access q n).1 = 7 then rlies R (R.access q n).1 (R.access q n).2 (q / 72057594037927936) else Rpt.only (R.access q n).1
def rblame (R : RSt) (q : Int) : Rpt :=
 if (Ref.block R.st R.cls R.log q).2.2 = 0 ∨ (Ref.block R.st R.cls R.log q).2.2 = 5 then Rpt.only (Ref.block R.st R.cls R.log q).2.2 else rlies R (Ref.block R.st R.cls R.log q).2.2 (q % 72057594037927936) (q / 72057594037927936)
theorem ghad_iff2 (x : GSlot) (t : Int) : ghad x t = true ↔ x.state ≠ 2 ∧ x.tag = t := by
 unfold ghad;rw [Bool.and_eq_true, bne_iff_ne, beq_iff_eq]
theorem gnear_eq2 (xs : List GSlot) (i tag : Int) : gnear xs i tag = nearAt xs (i - 1) tag ++ nearAt xs i tag ++ nearAt xs (i + 1) tag := by
 unfold gnear;simp only [nearTo, List.nil_append];rw [show i - 1 + ((0 : Nat) : Int) = i - 1 by omega, show i - 1 + ((1 : Nat) : Int) = i by omega, show i - 1 + ((2 : Nat) : Int) = i + 1 by omega]
section
variable {G : GSt} {R : RSt}
theorem slot_alloc (hs : Sim G R) {k s : Nat} (hk : k < R.cls.length) (hsl : s < (Cf.sl R.cls k).toNat) : (slotOf G k s).alloc = (if Ref.state R.log k s = 2 then 0 else rAlloc R.log k s) ∧ (slotOf G k s).gone = (if Ref.state R.log k s = 2 then 0 else rGone R.log k s) := by
 have hx := hs.slots k s hk hsl;unfold rAlloc rGone
 rcases state_of R.log k s with y | y | y
 ·rw [hx.alloc, hx.gone, if_pos y.1, if_pos y.2, if_neg (by omega), if_pos y.1]; exact ⟨rfl, rfl⟩
 ·rw [hx.alloc, hx.gone, if_neg (c := Ref.state R.log k s = 2) (by omega), if_neg (by omega), if_neg (c := Ref.state R.log k s = 4) (by omega), if_neg (c := Ref.state R.log k s = 2) (by omega), if_pos (by omega)]; exact ⟨rfl, rfl⟩
 ·rw [hx.alloc, hx.gone, if_neg (c := Ref.state R.log k s = 2) (by omega), if_neg (by omega), if_pos y.1, if_neg (c := Ref.state R.log k s = 2) (by omega), if_neg (by omega)]; exact ⟨rfl, rfl⟩
theorem nearAt_sim (hs : Sim G R) {k : Nat} (hk : k < R.cls.length) (s want : Int) (i : Nat) (hi : i < (Cf.sl R.cls k).toNat) (hd : (i : Int) - s < 2 ∧ s - (i : Int) < 2) : rNearAt R k s want i = nearAt (G.cs.getD k GCls.no).slots i want := by
 have hx := hs.slots k i hk hi;have hl := hs.len hk;have ha := slot_alloc hs hk hi;unfold rNearAt nearAt;rw [Int.toNat_natCast]
 have hg : (ghad ((G.cs.getD k GCls.no).slots.getD i GSlot.no) want = true) ↔ (Ref.state R.log k i ≠ 2 ∧ Ref.last R.log k i = want) := by
  have := ghad_iff2 (slotOf G k i) want;rw [hx.st, hx.tag] at this;exact this
 by_cases c : Ref.state R.log k i ≠ 2 ∧ Ref.last R.log k i = want
 ·rw [if_pos ⟨c.1, c.2, hd.1, hd.2⟩, if_pos ⟨by omega, by omega, hg.2 c⟩];rw [if_neg c.1, if_neg c.1] at ha;change _ = [((i : Int), (slotOf G k i).alloc, (slotOf G k i).gone)]
  rw [ha.1, ha.2]
 ·rw [if_neg (fun y => c ⟨y.1, y.2.1⟩), if_neg (fun y => c (hg.1 y.2.2))]
theorem nearAt_out (xs : List GSlot) (j t : Int) (h : j < 0 ∨ (xs.length : Int) ≤ j) : nearAt xs j t = [] := by
 unfold nearAt; rw [if_neg (by omega)]
theorem rNearTo_sim (hs : Sim G R) {k : Nat} (hk : k < R.cls.length) (s : Nat) (want : Int) (m : Nat) (hm : m ≤ (Cf.sl R.cls k).toNat) :
 rNearTo R k s want m = (if (s : Int) - 1 < m then nearAt (G.cs.getD k GCls.no).slots ((s : Int) - 1) want else []) ++ (if (s : Int) < m then nearAt (G.cs.getD k GCls.no).slots s want else []) ++ (if (s : Int) + 1 < m then nearAt (G.cs.getD k GCls.no).slots ((s : Int) + 1) want else []) := by
 induction m with
 | zero =>
   by_cases c : (s : Int) - 1 < ((0 : Nat) : Int)
   ·rw [if_pos c, if_neg (by omega), if_neg (by omega), nearAt_out _ _ _ (.inl (by omega))]; rfl
   ·rw [if_neg c, if_neg (by omega), if_neg (by omega)]; rfl
 | succ m ih =>
   simp only [rNearTo];rw [ih (by omega)]
   by_cases c0 : (m : Int) + 1 < s
   ·rw [if_neg (by omega), if_neg (by omega), if_neg (by omega), if_neg (by omega), if_neg (by omega), if_neg (by omega)];unfold rNearAt; rw [if_neg (fun y => by have := y.2.2.2; omega)]; rfl
   ·by_cases c1 : (m : Int) + 1 = s
    ·rw [if_neg (by omega), if_neg (by omega), if_neg (by omega), if_pos (by omega), if_neg (by omega), if_neg (by omega), nearAt_sim hs hk s want m (by omega) ⟨by omega, by omega⟩, show (s : Int) - 1 = (m : Int) by omega];simp
    ·by_cases c2 : m = s
     ·subst c2;rw [if_pos (by omega), if_neg (by omega), if_neg (by omega), if_pos (by omega), if_pos (by omega), if_neg (by omega), nearAt_sim hs hk m want m (by omega) ⟨by omega, by omega⟩];simp
     ·by_cases c3 : (m : Int) = s + 1
      ·rw [if_pos (by omega), if_pos (by omega), if_neg (by omega), if_pos (by omega), if_pos (by omega), if_pos (by omega), nearAt_sim hs hk s want m (by omega) ⟨by omega, by omega⟩, show (m : Int) = (s : Int) + 1 from c3];simp
      ·rw [if_pos (by omega), if_pos (by omega), if_pos (by omega), if_pos (by omega), if_pos (by omega), if_pos (by omega)];unfold rNearAt; rw [if_neg (fun y => by have := y.2.2.1; omega), List.append_nil]
theorem rNear_sim (hs : Sim G R) {k : Nat} (hk : k < R.cls.length) (s : Nat) (hsl : s < (Cf.sl R.cls k).toNat) (want : Int) : rNearTo R k s want (Cf.sl R.cls k).toNat = gnear (G.cs.getD k GCls.no).slots s want := by
 have hl := hs.len hk;rw [rNearTo_sim hs hk s want _ (Nat.le_refl _), gnear_eq2, if_pos (by omega), if_pos (by omega)]
 by_cases c : (s : Int) + 1 < ((Cf.sl R.cls k).toNat : Int)
 ·rw [if_pos c]
 ·rw [if_neg c, nearAt_out _ ((s : Int) + 1) want (.inr (by omega))]
theorem lies_sim (hs : Sim G R) (er addr want : Int) : grpt G R.cls er addr want = rlies R er addr want := by
 have hv := hs.rok.conf;unfold grpt rlies;rw [hs.tag, hs.st];change (if _ then (⟨er, addr, want, R.tag addr, 1, 0, 0, 0, 0, []⟩ : Rpt) else if _ then ⟨er, addr, want, R.tag addr, 0, 0, 0, 0, 0, []⟩ else ⟨er, addr, want, R.tag addr, _, _, _, _, _, _⟩) = _
 by_cases hst : 16 ≤ addr ∧ addr < 16 * (1 + R.st)
 ·have hsl := static_slot hv addr hst.2;have h0 : R.tag addr = 0 := by unfold RSt.tag Cf.tag; rw [if_pos hst]
  rw [if_pos hst, hsl, if_pos (by decide), h0, if_pos rfl]
 ·rw [if_neg hst]
  rcases Cf.slot_bd R.st R.cls addr with hsl | ⟨k, s, hsl, hk, hs2, _⟩
  ·have h0 : R.tag addr = -1 := by unfold RSt.tag Cf.tag; rw [if_neg hst, hsl, if_pos (by decide)]
   rw [hsl, if_pos (by decide), if_pos (by decide), h0, if_neg (by decide)]
  ·have hx := hs.slots k s hk hs2;have ha := slot_alloc hs hk hs2;rw [hsl, if_neg (by simp), if_neg (by simp)];simp only [Int.toNat_natCast];rw [hx.st, ha.1, ha.2, rNear_sim hs hk s hs2 want]
theorem explain_sim (hs : Sim G R) (q n : Int) : gexplain G R q n = rexplain R q n := by
 unfold gexplain rexplain;rw [lies_sim hs]
theorem blame_sim (hs : Sim G R) (q : Int) : gblame G R q = rblame R q := by
 unfold gblame rblame;rw [hs.block q, lies_sim hs]
end
end Go.Proofs.YtjikemhmnkckcabGreat
namespace Go.Proofs.YtjikemhmnkckcabGreat
open Go.RowKit
attribute [local go_sem ↓] Go.wp_at_zero Go.wp_at_succ
theorem MRep.faulted {F : MFix} {wB w w' : World} {G : GSt} {vo vn v : Value} {S : MS} {rp : Rpt} (h : MRep F wB w G vo vn S) (hk : Kept w w' (· = F.mb)) (hb : Blk w' F.mb 81 (mC F ⟨S.R, S.r, S.heard, S.drawn, S.out, S.pc, S.next, S.steps, 5, S.ex, rp⟩ vo v))
 (hr : w'.ownsRow 0 64 3 v rp.near.length (rp.near.flatMap nearCells)) (hv : ∀ g, v.ownBlock = some g → w.heap.size ≤ g) : MRep F wB w' G vo v ⟨S.R, S.r, S.heard, S.drawn, S.out, S.pc, S.next, S.steps, 5, S.ex, rp⟩ := by
 have hs := h.below.size
 refine ⟨hb, h.heap.kept (fun b hb => hk.block b (h.heap.foot_lt hb) (fun e => (h.hf b hb).2 e)), h.sim, row_kept h.out (fun g hg => hk.block g (own_lt h.out g hg) (fun e => (h.ho g hg).2.1 e)), hr, h.r8, h.rbd,
  ⟨by rw [hk.os, h.below.os], by rw [hk.tape, h.below.tape], by rw [hk.output, h.below.output], Nat.le_trans h.below.size hk.size, fun k hkk => (hk.block k (Nat.lt_of_lt_of_le hkk h.below.size) (fun e => by have := h.hm; omega)).trans (h.below.block k hkk)⟩,
  h.hm, h.hf, h.ho, fun g hg => ⟨by have := hv g hg; omega, fun e => by have := hv g hg; have := h.blk.lt; omega, fun e => by have := hv g hg; have := h.heap.foot_lt e; omega, fun e => by have := hv g hg; have := own_lt h.out g e; omega⟩, h.codeR, h.drawR⟩
theorem eight {r : List Int} (h : r.length = 8) : ∃ r0 r1 r2 r3 r4 r5 r6 r7, r = [r0, r1, r2, r3, r4, r5, r6, r7] := by
 match r, h with
 | [r0, r1, r2, r3, r4, r5, r6, r7], _ => exact ⟨r0, r1, r2, r3, r4, r5, r6, r7, rfl⟩
def dFree (S : MS) (k : Nat) : MS :=
 if fOut S.R (rg S.r k) = 0 then ⟨fR S.R (rg S.r k) S.pc, S.r, S.heard, S.drawn, S.out, S.pc, S.next, S.steps, S.en, S.ex, S.rep⟩
 else ⟨fR S.R (rg S.r k) S.pc, S.r, S.heard, S.drawn, S.out, S.pc, S.next, S.steps, 5, S.ex, rblame (fR S.R (rg S.r k) S.pc) (rg S.r k)⟩
set_option maxRecDepth 100000 in
set_option maxHeartbeats 3200000 in
theorem doFree_any (F : MFix) (wB w : World) (G : GSt) (vo vn : Value) (S : MS) (op b c : Int) (k : Nat) (h : MRep F wB w G vo vn S) (hk : k < 8) :
 Calls Tryz.prog 80 #[.pointer (some ⟨F.mb, 0, none⟩), .agg #[.int .i64 op, .int .i64 (k : Int), .int .i64 b, .int .i64 c]] w fun e w' => e = .returned (.tuple #[]) ∧ ∃ G' vn', MRep F wB w' G' vo vn' (dFree S k) := by
 obtain ⟨SR, Sr, Sh, Sd, So, Sp, Sn, Ss, Se, Sx, Srep⟩ := S;obtain ⟨r0, r1, r2, r3, r4, r5, r6, r7, hr⟩ := eight h.r8;simp only at hr;subst hr;obtain ⟨y0, y1, y2, y3, y4, y5, y6, y7, y8, yl⟩ := Srep;obtain ⟨wa, hwa⟩ : ∃ wa, wa = w.alloc (.cells #[.int .i64 op, .int .i64 (k : Int), .int .i64 b, .int .i64 c] 60) := ⟨_, rfl⟩
 have hbl : Below w.heap.size w wa := by rw [hwa]; exact (Below.refl _ _).alloc (Nat.le_refl _) _
 have HX : Hid (Blk wa w.heap.size 60 [.int .i64 op, .int .i64 (k : Int), .int .i64 b, .int .i64 c]) := by show Blk _ _ _ _; rw [hwa]; exact Blk.alloc _ _ _
 have HM := hide2 (h.under hbl);have hrb := h.rbd k hk;have rk := m_reg HM.out.blk rfl k hk;have x1 := HX.out.cell (j := 1) rfl;have hkI : (k : Int) < 8 := by omega
 simp only at hrb
 have HDF : Hid (dFree ⟨SR, [r0, r1, r2, r3, r4, r5, r6, r7], Sh, Sd, So, Sp, Sn, Ss, Se, Sx, ⟨y0, y1, y2, y3, y4, y5, y6, y7, y8, yl⟩⟩ k = if fOut SR (rg [r0, r1, r2, r3, r4, r5, r6, r7] k) = 0 then ⟨fR SR (rg [r0, r1, r2, r3, r4, r5, r6, r7] k) Sp, [r0, r1, r2, r3, r4, r5, r6, r7], Sh, Sd, So, Sp, Sn, Ss, Se, Sx, ⟨y0, y1, y2, y3, y4, y5, y6, y7, y8, yl⟩⟩
  else ⟨fR SR (rg [r0, r1, r2, r3, r4, r5, r6, r7] k) Sp, [r0, r1, r2, r3, r4, r5, r6, r7], Sh, Sd, So, Sp, Sn, Ss, 5, Sx, rblame (fR SR (rg [r0, r1, r2, r3, r4, r5, r6, r7] k) Sp) (rg [r0, r1, r2, r3, r4, r5, r6, r7] k)⟩) := rfl
 generalize dFree ⟨SR, [r0, r1, r2, r3, r4, r5, r6, r7], Sh, Sd, So, Sp, Sn, Ss, Se, Sx, ⟨y0, y1, y2, y3, y4, y5, y6, y7, y8, yl⟩⟩ k = S' at *;generalize rg [r0, r1, r2, r3, r4, r5, r6, r7] k = q at *;clear h hbl;go_enter Tryz.func80, Tryz.ntmps80;go_upto_region 1 with (fail);rw [← hwa];clear hwa;go_wp2
 go_quiet (fail)
 go_upto_region 2 with (fail);obtain ⟨wb, hwb⟩ : ∃ wb, wb = wa.drewN nq := ⟨_, rfl⟩
 rw [← hwb];have hbb : Below wa.heap.size wa wb := by rw [hwb]; exact below_drewN (Below.refl _ _) _
 have HM2 := hide2 (HM.out.under hbb);clear hwb hbb rk x1 nq HM HX;have c0 := HM2.out.blk.cell (j := 0) rfl;have c15 := HM2.out.blk.cell (j := 15) rfl
 go_region_held3 (fun w' => w'.cell? ⟨F.mb, 0, none⟩ = some (.pointer (some ⟨F.ph, 0, none⟩)) ∧ w'.cell? ⟨F.mb, 15, none⟩ = some (.int .i64 (Sp : Int))) (go_keep)
  (first | (go_at_call 111; refine (gfree_st F.ph F.gc F.bb G SR q (Sp : Int) wb.drew ((HM2.out.under ((Below.refl _ _).drew)).heap) HM2.out.sim.sim hrb.2).mono ?_; rintro e1 w1 ⟨rfl, hg1, hk1⟩; have HM3 := hide2 ((HM2.out.under ((Below.refl _ _).drew)).call hg1 hk1 (HM2.out.sim.free_any q (Sp : Int)) (fun b => fG_foot HM2.out.sim.sim q (Sp : Int) F.ph F.gc F.bb b)); clear hg1 hk1; have c0' := HM3.out.blk.cell (j := 0) rfl; have c15' := HM3.out.blk.cell (j := 15) rfl))
 by_cases he : fOut SR q = 0
 ·rw [he];have HD : Hid (S' = ⟨fR SR q Sp, [r0, r1, r2, r3, r4, r5, r6, r7], Sh, Sd, So, Sp, Sn, Ss, Se, Sx, ⟨y0, y1, y2, y3, y4, y5, y6, y7, y8, yl⟩⟩) := by show _ = _; rw [HDF.out, if_pos he]
  clear he;go_wp2;go_end0;exact ⟨rfl, _, _, by rw [HD.out]; exact HM3.out⟩
 ·have HD : Hid (S' = ⟨fR SR q Sp, [r0, r1, r2, r3, r4, r5, r6, r7], Sh, Sd, So, Sp, Sn, Ss, 5, Sx, rblame (fR SR q Sp) q⟩) := by show _ = _; rw [HDF.out, if_neg he]
  have hne : (fOut SR q != 0) = true := by simpa using he
  clear he
  go_wp2_with (go_at_call 112; refine (mblame_any F.mb F.ph F.gc F.bb (fG G SR q Sp) (fR SR q Sp) _ r0 r1 r2 r3 r4 r5 r6 r7 F.inp _ _ _ vo _ _ _ _ _ y0 y1 y2 y3 y4 y5 y6 y7 y8 vn q w1 HM3.out.heap HM3.out.sim.sim hrb.2 HM3.out.blk).mono ?_; rintro e2 w2 ⟨v, rfl, hm2, hrow, hvl, hk2⟩; rw [blame_sim HM3.out.sim.sim q] at hm2 hrow; have HM4 := hide2 (HM3.out.faulted hk2 hm2 hrow hvl); clear hm2 hrow hvl hk2)
  go_end0;exact ⟨rfl, _, _, by rw [HD.out]; exact HM4.out⟩
def MS.reg (S : MS) (k : Nat) (v : Int) : MS := ⟨S.R, S.r.set k v, S.heard, S.drawn, S.out, S.pc, S.next, S.steps, S.en, S.ex, S.rep⟩
def MS.fault (S : MS) (rp : Rpt) : MS := ⟨S.R, S.r, S.heard, S.drawn, S.out, S.pc, S.next, S.steps, 5, S.ex, rp⟩
theorem rg_set (r : List Int) (k j : Nat) (v : Int) (hk : k < r.length) : rg (r.set k v) j = if j = k then v else rg r j := by
 unfold rg;rw [List.getD_eq_getElem?_getD, List.getD_eq_getElem?_getD]
 by_cases e : j = k
 ·subst e; rw [List.getElem?_set_self hk, if_pos rfl]; rfl
 ·rw [List.getElem?_set_ne (fun h => e h.symm), if_neg e]
theorem MRep.setReg {F : MFix} {wB w : World} {G : GSt} {vo vn : Value} {S : MS} (h : MRep F wB w G vo vn S) (k : Nat) (hk : k < 8) (v : Int) (v0 : -9223372036854775808 ≤ v) (v1 : v ≤ 9223372036854775807) : MRep F wB (w.setCell ⟨F.mb, 2 + k, none⟩ (.int .i64 v)) G vo vn (S.reg k v) := by
 have hb := h.blk.setCell (2 + k) (.int .i64 v);unfold mC at hb;rw [m_set _ _ _ _ _ _ _ _ _ _ _ _ _ _ h.r8 k hk v] at hb;refine h.own ((Kept.refl w _).setCell _ _ rfl) hb rfl rfl rfl (by show (S.r.set k v).length = 8; rw [List.length_set]; exact h.r8) (fun j hj => ?_);show -9223372036854775808 ≤ rg (S.r.set k v) j ∧ rg (S.r.set k v) j ≤ 9223372036854775807;rw [rg_set _ _ _ _ (by rw [h.r8]; exact hk)]
 split
 ·exact ⟨v0, v1⟩
 ·exact h.rbd j hj
theorem musable_bd {R : RSt} (h : ROk R) (q : Int) : 0 ≤ (R.usable q).1 ∧ (R.usable q).1 ≤ 1000 := by
 unfold RSt.usable
 split
 ·exact ⟨Int.le_refl _, by omega⟩
 ·have h0 := h.size0 (Ref.given R.log (Ref.block R.st R.cls R.log q).1 (Ref.block R.st R.cls R.log q).2.1).toNat;have h1 := h.size1 (Ref.given R.log (Ref.block R.st R.cls R.log q).1 (Ref.block R.st R.cls R.log q).2.1).toNat;simp only;omega
def dUsable (S : MS) (ka kb : Nat) : MS :=
 if (S.R.usable (rg S.r kb)).2 = 0 then S.reg ka (S.R.usable (rg S.r kb)).1 else S.fault (rblame S.R (rg S.r kb))
set_option maxRecDepth 100000 in
set_option maxHeartbeats 3200000 in
theorem doUsable_any (F : MFix) (wB w : World) (G : GSt) (vo vn : Value) (S : MS) (op c : Int) (ka kb : Nat) (h : MRep F wB w G vo vn S) (hka : ka < 8) (hkb : kb < 8) :
 Calls Tryz.prog 82 #[.pointer (some ⟨F.mb, 0, none⟩), .agg #[.int .i64 op, .int .i64 (ka : Int), .int .i64 (kb : Int), .int .i64 c]] w fun e w' => e = .returned (.tuple #[]) ∧ ∃ G' vn', MRep F wB w' G' vo vn' (dUsable S ka kb) := by
 obtain ⟨SR, Sr, Sh, Sd, So, Sp, Sn, Ss, Se, Sx, Srep⟩ := S;obtain ⟨r0, r1, r2, r3, r4, r5, r6, r7, hr⟩ := eight h.r8;simp only at hr;subst hr;obtain ⟨y0, y1, y2, y3, y4, y5, y6, y7, y8, yl⟩ := Srep;obtain ⟨wa, hwa⟩ : ∃ wa, wa = w.alloc (.cells #[.int .i64 op, .int .i64 (ka : Int), .int .i64 (kb : Int), .int .i64 c] 60) := ⟨_, rfl⟩
 have hbl : Below w.heap.size w wa := by rw [hwa]; exact (Below.refl _ _).alloc (Nat.le_refl _) _
 have HX : Hid (Blk wa w.heap.size 60 [.int .i64 op, .int .i64 (ka : Int), .int .i64 (kb : Int), .int .i64 c]) := by show Blk _ _ _ _; rw [hwa]; exact Blk.alloc _ _ _
 have HM := hide2 (h.under hbl);have hrb := h.rbd kb hkb;have rk := m_reg HM.out.blk rfl kb hkb;have x2 := HX.out.cell (j := 2) rfl;have hkI : (kb : Int) < 8 := by omega
 have hkA : (ka : Int) < 8 := by omega
 simp only at hrb;have HDF : Hid (dUsable ⟨SR, [r0, r1, r2, r3, r4, r5, r6, r7], Sh, Sd, So, Sp, Sn, Ss, Se, Sx, ⟨y0, y1, y2, y3, y4, y5, y6, y7, y8, yl⟩⟩ ka kb = if (SR.usable (rg [r0, r1, r2, r3, r4, r5, r6, r7] kb)).2 = 0 then MS.reg ⟨SR, [r0, r1, r2, r3, r4, r5, r6, r7], Sh, Sd, So, Sp, Sn, Ss, Se, Sx, ⟨y0, y1, y2, y3, y4, y5, y6, y7, y8, yl⟩⟩ ka (SR.usable (rg [r0, r1, r2, r3, r4, r5, r6, r7] kb)).1 else MS.fault ⟨SR, [r0, r1, r2, r3, r4, r5, r6, r7], Sh, Sd, So, Sp, Sn, Ss, Se, Sx, ⟨y0, y1, y2, y3, y4, y5, y6, y7, y8, yl⟩⟩ (rblame SR (rg [r0, r1, r2, r3, r4, r5, r6, r7] kb))) := rfl;generalize dUsable ⟨SR, [r0, r1, r2, r3, r4, r5, r6, r7], Sh, Sd, So, Sp, Sn, Ss, Se, Sx, ⟨y0, y1, y2, y3, y4, y5, y6, y7, y8, yl⟩⟩ ka kb = S' at *;generalize rg [r0, r1, r2, r3, r4, r5, r6, r7] kb = q at *;have hub := musable_bd HM.out.sim.sim.rok q;simp only at hub;clear h hbl;go_enter Tryz.func82, Tryz.ntmps82;go_upto_region 1 with (fail);rw [← hwa];clear hwa;go_wp2
 go_quiet (fail)
 go_upto_region 2 with (fail);obtain ⟨wb, hwb⟩ : ∃ wb, wb = wa.drewN nq := ⟨_, rfl⟩
 rw [← hwb];have hbb : Below wa.heap.size wa wb := by rw [hwb]; exact below_drewN (Below.refl _ _) _
 have HM2 := hide2 (HM.out.under hbb);have HX2 := hide2 (HX.out.below hbb HX.out.lt);clear hwb hbb rk x2 nq HM HX;have c0 := HM2.out.blk.cell (j := 0) rfl;go_upto_region 3 with (go_at_call 114; refine (gusable_any F.ph F.gc F.bb G SR q wb HM2.out.heap HM2.out.sim.sim hrb.2).mono ?_; rintro e1 w1 ⟨rfl, hb1⟩; have HM3 := hide2 (HM2.out.under hb1); have HX3 := hide2 (HX2.out.below hb1 HX2.out.lt); clear hb1);clear c0 HM2 HX2;have x1 := HX3.out.cell (j := 1) rfl
 by_cases he : (SR.usable q).2 = 0
 ·rw [he];have HD : Hid (S' = MS.reg ⟨SR, [r0, r1, r2, r3, r4, r5, r6, r7], Sh, Sd, So, Sp, Sn, Ss, Se, Sx, ⟨y0, y1, y2, y3, y4, y5, y6, y7, y8, yl⟩⟩ ka (SR.usable q).1) := by show _ = _; rw [HDF.out, if_pos he]
  generalize (SR.usable q).1 = u at *;clear he;have ra := m_reg HM3.out.blk rfl ka hka;have raf := HM3.out.blk.frozen (2 + ka);go_wp2
  go_region
  go_end0;exact ⟨rfl, _, _, by rw [HD.out]; exact (HM3.out.setReg ka hka u (by omega) (by omega)).under ((Below.refl _ _).drew)⟩
 ·have HD : Hid (S' = MS.fault ⟨SR, [r0, r1, r2, r3, r4, r5, r6, r7], Sh, Sd, So, Sp, Sn, Ss, Se, Sx, ⟨y0, y1, y2, y3, y4, y5, y6, y7, y8, yl⟩⟩ (rblame SR q)) := by show _ = _; rw [HDF.out, if_neg he]
  have hne : ((SR.usable q).2 != 0) = true := by simpa using he
  clear he
  go_wp2_with (go_at_call 112; refine (mblame_any F.mb F.ph F.gc F.bb G SR _ r0 r1 r2 r3 r4 r5 r6 r7 F.inp _ _ _ vo _ _ _ _ _ y0 y1 y2 y3 y4 y5 y6 y7 y8 vn q w1 HM3.out.heap HM3.out.sim.sim hrb.2 HM3.out.blk).mono ?_; rintro e2 w2 ⟨v, rfl, hm2, hrow, hvl, hk2⟩; rw [blame_sim HM3.out.sim.sim q] at hm2 hrow; have HM4 := hide2 (HM3.out.faulted hk2 hm2 hrow hvl); clear hm2 hrow hvl hk2)
  refine bodyPost_ret (v := .tuple #[]) (results_none Tryz.results82 _ _ _) rfl ?_;exact ⟨rfl, _, _, by rw [HD.out]; exact HM4.out⟩
theorem wrap64_i64 (x : Int) : -9223372036854775808 ≤ wrap64 x ∧ wrap64 x ≤ 9223372036854775807 := by unfold wrap64; omega
theorem ldV_i64 (byte : Int → Int) (a : Int) (i : Nat) : -9223372036854775808 ≤ Ref.ldV byte a i ∧ Ref.ldV byte a i ≤ 9223372036854775807 := by
 cases i with
 | zero => exact ⟨by show (-9223372036854775808 : Int) ≤ 0; omega, by show (0 : Int) ≤ 9223372036854775807; omega⟩
 | succ i => exact wrap64_i64 _
theorem mload_bd (R : RSt) (q n : Int) : -9223372036854775808 ≤ (R.load q n).1 ∧ (R.load q n).1 ≤ 9223372036854775807 := by
 unfold RSt.load
 split
 ·exact ⟨by simp, by simp⟩
 ·split
  ·exact ⟨by simp, by simp⟩
  ·exact ldV_i64 _ _ _
def dLoad (S : MS) (ka kb : Nat) (c n : Int) : MS :=
 if (S.R.load (wrap64 (rg S.r kb + c)) n).2 = 0 then S.reg ka (S.R.load (wrap64 (rg S.r kb + c)) n).1 else S.fault (rexplain S.R (wrap64 (rg S.r kb + c)) n)
set_option maxRecDepth 100000 in
set_option maxHeartbeats 3200000 in
theorem doLoad_any (F : MFix) (wB w : World) (G : GSt) (vo vn : Value) (S : MS) (op c n : Int) (ka kb : Nat) (h : MRep F wB w G vo vn S) (hka : ka < 8) (hkb : kb < 8) :
 Calls Tryz.prog 83 #[.pointer (some ⟨F.mb, 0, none⟩), .agg #[.int .i64 op, .int .i64 (ka : Int), .int .i64 (kb : Int), .int .i64 c], .int .i64 n] w fun e w' => e = .returned (.tuple #[]) ∧ ∃ G' vn', MRep F wB w' G' vo vn' (dLoad S ka kb c n) := by
 obtain ⟨SR, Sr, Sh, Sd, So, Sp, Sn, Ss, Se, Sx, Srep⟩ := S;obtain ⟨r0, r1, r2, r3, r4, r5, r6, r7, hr⟩ := eight h.r8;simp only at hr;subst hr;obtain ⟨y0, y1, y2, y3, y4, y5, y6, y7, y8, yl⟩ := Srep;obtain ⟨wa, hwa⟩ : ∃ wa, wa = w.alloc (.cells #[.int .i64 op, .int .i64 (ka : Int), .int .i64 (kb : Int), .int .i64 c] 60) := ⟨_, rfl⟩
 have hbl : Below w.heap.size w wa := by rw [hwa]; exact (Below.refl _ _).alloc (Nat.le_refl _) _
 have HX : Hid (Blk wa w.heap.size 60 [.int .i64 op, .int .i64 (ka : Int), .int .i64 (kb : Int), .int .i64 c]) := by show Blk _ _ _ _; rw [hwa]; exact Blk.alloc _ _ _
 have HM := hide2 (h.under hbl);have hrb := h.rbd kb hkb;have rk := m_reg HM.out.blk rfl kb hkb;have x2 := HX.out.cell (j := 2) rfl;have x3 := HX.out.cell (j := 3) rfl;have hkI : (kb : Int) < 8 := by omega
 have hkA : (ka : Int) < 8 := by omega
 simp only at hrb;have HDF : Hid (dLoad ⟨SR, [r0, r1, r2, r3, r4, r5, r6, r7], Sh, Sd, So, Sp, Sn, Ss, Se, Sx, ⟨y0, y1, y2, y3, y4, y5, y6, y7, y8, yl⟩⟩ ka kb c n = if (SR.load (wrap64 (rg [r0, r1, r2, r3, r4, r5, r6, r7] kb + c)) n).2 = 0 then MS.reg ⟨SR, [r0, r1, r2, r3, r4, r5, r6, r7], Sh, Sd, So, Sp, Sn, Ss, Se, Sx, ⟨y0, y1, y2, y3, y4, y5, y6, y7, y8, yl⟩⟩ ka (SR.load (wrap64 (rg [r0, r1, r2, r3, r4, r5, r6, r7] kb + c)) n).1 else MS.fault ⟨SR, [r0, r1, r2, r3, r4, r5, r6, r7], Sh, Sd, So, Sp, Sn, Ss, Se, Sx, ⟨y0, y1, y2, y3, y4, y5, y6, y7, y8, yl⟩⟩ (rexplain SR (wrap64 (rg [r0, r1, r2, r3, r4, r5, r6, r7] kb + c)) n)) := rfl;generalize dLoad ⟨SR, [r0, r1, r2, r3, r4, r5, r6, r7], Sh, Sd, So, Sp, Sn, Ss, Se, Sx, ⟨y0, y1, y2, y3, y4, y5, y6, y7, y8, yl⟩⟩ ka kb c n = S' at *;generalize rg [r0, r1, r2, r3, r4, r5, r6, r7] kb = q0 at *;have hwr := wrap64_i64 (q0 + c);generalize hq : wrap64 (q0 + c) = q at *;have hub := mload_bd SR q n;clear h hbl;go_enter Tryz.func83, Tryz.ntmps83;go_upto_region 1 with (fail);rw [← hwa];clear hwa;go_wp2
 go_quiet (fail)
 go_upto_region 2 with (fail);obtain ⟨wb, hwb⟩ : ∃ wb, wb = wa.drewN nq := ⟨_, rfl⟩
 rw [← hwb];have hbb : Below wa.heap.size wa wb := by rw [hwb]; exact below_drewN (Below.refl _ _) _
 have HM2 := hide2 (HM.out.under hbb);have HX2 := hide2 (HX.out.below hbb HX.out.lt);clear hwb hbb rk x2 x3 nq HM HX;have c0 := HM2.out.blk.cell (j := 0) rfl;go_upto_region 3 with (go_at_call 115; refine (gload_any F.ph F.gc F.bb G SR q n wb HM2.out.heap HM2.out.sim hwr.2).mono ?_; rintro e1 w1 ⟨rfl, hb1⟩; have HM3 := hide2 (HM2.out.under hb1); have HX3 := hide2 (HX2.out.below hb1 HX2.out.lt); clear hb1);clear c0 HM2 HX2;have x1 := HX3.out.cell (j := 1) rfl
 by_cases he : (SR.load q n).2 = 0
 ·rw [he];have HD : Hid (S' = MS.reg ⟨SR, [r0, r1, r2, r3, r4, r5, r6, r7], Sh, Sd, So, Sp, Sn, Ss, Se, Sx, ⟨y0, y1, y2, y3, y4, y5, y6, y7, y8, yl⟩⟩ ka (SR.load q n).1) := by show _ = _; rw [HDF.out, if_pos he]
  generalize (SR.load q n).1 = u at *;clear he;have ra := m_reg HM3.out.blk rfl ka hka;have raf := HM3.out.blk.frozen (2 + ka);go_wp2
  go_region
  go_end0;exact ⟨rfl, _, _, by rw [HD.out]; exact (HM3.out.setReg ka hka u (by omega) (by omega)).under ((Below.refl _ _).drew)⟩
 ·have HD : Hid (S' = MS.fault ⟨SR, [r0, r1, r2, r3, r4, r5, r6, r7], Sh, Sd, So, Sp, Sn, Ss, Se, Sx, ⟨y0, y1, y2, y3, y4, y5, y6, y7, y8, yl⟩⟩ (rexplain SR q n)) := by show _ = _; rw [HDF.out, if_neg he]
  have hne : ((SR.load q n).2 != 0) = true := by simpa using he
  clear he
  go_wp2_with (go_at_call 116; refine (mexplain_any F.mb F.ph F.gc F.bb G SR _ r0 r1 r2 r3 r4 r5 r6 r7 F.inp _ _ _ vo _ _ _ _ _ y0 y1 y2 y3 y4 y5 y6 y7 y8 vn q n w1 HM3.out.heap HM3.out.sim.sim hwr.2 HM3.out.blk).mono ?_; rintro e2 w2 ⟨v, rfl, hm2, hrow, hvl, hk2⟩; rw [explain_sim HM3.out.sim.sim q n] at hm2 hrow; have HM4 := hide2 (HM3.out.faulted hk2 hm2 hrow hvl); clear hm2 hrow hvl hk2)
  refine bodyPost_ret (v := .tuple #[]) (results_none Tryz.results83 _ _ _) rfl ?_;exact ⟨rfl, _, _, by rw [HD.out]; exact HM4.out⟩
def MS.heap (S : MS) (R : RSt) : MS := ⟨R, S.r, S.heard, S.drawn, S.out, S.pc, S.next, S.steps, S.en, S.ex, S.rep⟩
def dStore (S : MS) (ka kb : Nat) (c n : Int) : MS :=
 if S.R.storeErr (wrap64 (rg S.r ka + c)) n = 0 then S.heap (S.R.store (wrap64 (rg S.r ka + c)) n (rg S.r kb))
 else (S.heap (S.R.store (wrap64 (rg S.r ka + c)) n (rg S.r kb))).fault (rexplain (S.R.store (wrap64 (rg S.r ka + c)) n (rg S.r kb)) (wrap64 (rg S.r ka + c)) n)
set_option maxRecDepth 100000 in
set_option maxHeartbeats 3200000 in
theorem doStore_any (F : MFix) (wB w : World) (G : GSt) (vo vn : Value) (S : MS) (op c n : Int) (ka kb : Nat) (h : MRep F wB w G vo vn S) (hka : ka < 8) (hkb : kb < 8) :
 Calls Tryz.prog 84 #[.pointer (some ⟨F.mb, 0, none⟩), .agg #[.int .i64 op, .int .i64 (ka : Int), .int .i64 (kb : Int), .int .i64 c], .int .i64 n] w fun e w' => e = .returned (.tuple #[]) ∧ ∃ G' vn', MRep F wB w' G' vo vn' (dStore S ka kb c n) := by
 obtain ⟨SR, Sr, Sh, Sd, So, Sp, Sn, Ss, Se, Sx, Srep⟩ := S;obtain ⟨r0, r1, r2, r3, r4, r5, r6, r7, hr⟩ := eight h.r8;simp only at hr;subst hr;obtain ⟨y0, y1, y2, y3, y4, y5, y6, y7, y8, yl⟩ := Srep;obtain ⟨wa, hwa⟩ : ∃ wa, wa = w.alloc (.cells #[.int .i64 op, .int .i64 (ka : Int), .int .i64 (kb : Int), .int .i64 c] 60) := ⟨_, rfl⟩
 have hbl : Below w.heap.size w wa := by rw [hwa]; exact (Below.refl _ _).alloc (Nat.le_refl _) _
 have HX : Hid (Blk wa w.heap.size 60 [.int .i64 op, .int .i64 (ka : Int), .int .i64 (kb : Int), .int .i64 c]) := by show Blk _ _ _ _; rw [hwa]; exact Blk.alloc _ _ _
 have HM := hide2 (h.under hbl);have hra := h.rbd ka hka;have hrb := h.rbd kb hkb;have ra := m_reg HM.out.blk rfl ka hka;have rb := m_reg HM.out.blk rfl kb hkb;have x1 := HX.out.cell (j := 1) rfl;have x2 := HX.out.cell (j := 2) rfl;have x3 := HX.out.cell (j := 3) rfl;have hkI : (ka : Int) < 8 := by omega
 have hkB : (kb : Int) < 8 := by omega
 simp only at hra hrb
 have HDF : Hid (dStore ⟨SR, [r0, r1, r2, r3, r4, r5, r6, r7], Sh, Sd, So, Sp, Sn, Ss, Se, Sx, ⟨y0, y1, y2, y3, y4, y5, y6, y7, y8, yl⟩⟩ ka kb c n = if SR.storeErr (wrap64 (rg [r0, r1, r2, r3, r4, r5, r6, r7] ka + c)) n = 0 then MS.heap ⟨SR, [r0, r1, r2, r3, r4, r5, r6, r7], Sh, Sd, So, Sp, Sn, Ss, Se, Sx, ⟨y0, y1, y2, y3, y4, y5, y6, y7, y8, yl⟩⟩ (SR.store (wrap64 (rg [r0, r1, r2, r3, r4, r5, r6, r7] ka + c)) n (rg [r0, r1, r2, r3, r4, r5, r6, r7] kb))
  else (MS.heap ⟨SR, [r0, r1, r2, r3, r4, r5, r6, r7], Sh, Sd, So, Sp, Sn, Ss, Se, Sx, ⟨y0, y1, y2, y3, y4, y5, y6, y7, y8, yl⟩⟩ (SR.store (wrap64 (rg [r0, r1, r2, r3, r4, r5, r6, r7] ka + c)) n (rg [r0, r1, r2, r3, r4, r5, r6, r7] kb))).fault (rexplain (SR.store (wrap64 (rg [r0, r1, r2, r3, r4, r5, r6, r7] ka + c)) n (rg [r0, r1, r2, r3, r4, r5, r6, r7] kb)) (wrap64 (rg [r0, r1, r2, r3, r4, r5, r6, r7] ka + c)) n)) := rfl
 generalize dStore ⟨SR, [r0, r1, r2, r3, r4, r5, r6, r7], Sh, Sd, So, Sp, Sn, Ss, Se, Sx, ⟨y0, y1, y2, y3, y4, y5, y6, y7, y8, yl⟩⟩ ka kb c n = S' at *;generalize rg [r0, r1, r2, r3, r4, r5, r6, r7] ka = q0 at *;generalize rg [r0, r1, r2, r3, r4, r5, r6, r7] kb = vv at *;have hwr := wrap64_i64 (q0 + c);generalize hq : wrap64 (q0 + c) = q at *;have HNF : Hid (¬ GFoot F.ph F.gc F.bb G w.heap.size) := fun e => by have := h.heap.foot_lt e; omega
 clear h hbl;go_enter Tryz.func84, Tryz.ntmps84;go_upto_region 1 with (fail);rw [← hwa];clear hwa;go_wp2
 go_quiet (fail)
 go_upto_region 2 with (fail);obtain ⟨wb, hwb⟩ : ∃ wb, wb = wa.drewN nq := ⟨_, rfl⟩
 rw [← hwb];have hbb : Below wa.heap.size wa wb := by rw [hwb]; exact below_drewN (Below.refl _ _) _
 have HM2 := hide2 (HM.out.under hbb);have rb' := (hbb.cell (p := ⟨F.mb, 2 + kb, none⟩) HM.out.blk.lt).trans rb;have x2' := (hbb.cell (p := ⟨w.heap.size, 2, none⟩) HX.out.lt).trans x2;have hxm : w.heap.size < wb.heap.size := Nat.lt_of_lt_of_le HX.out.lt hbb.size;have hxf : ¬ GFoot F.ph F.gc F.bb G w.heap.size := fun e => HNF.out e
 clear hwb hbb ra rb x1 x2 x3 nq HM HX;have c0 := HM2.out.blk.cell (j := 0) rfl
 go_region_held3 (fun w' => w'.cell? ⟨F.mb, 0, none⟩ = some (.pointer (some ⟨F.ph, 0, none⟩)) ∧ w'.cell? ⟨F.mb, 2 + kb, none⟩ = some (.int .i64 vv) ∧ w'.cell? ⟨w.heap.size, 2, none⟩ = some (.int .i64 (kb : Int))) (go_keep)
  (first | (go_at_call 117; refine (gstore_any F.ph F.gc F.bb G SR q n vv wb.drew ((HM2.out.under ((Below.refl _ _).drew)).heap) HM2.out.sim hwr.2 hrb.1 hrb.2).mono ?_; rintro e1 w1 ⟨rfl, hg1, hk1⟩; have HM3 := hide2 ((HM2.out.under ((Below.refl _ _).drew)).call hg1 hk1 (HM2.out.sim.store_any q n vv) (fun b => G.store_foot SR q n vv F.ph F.gc F.bb b)); have x2'' : w1.cell? ⟨w.heap.size, 2, none⟩ = some (.int .i64 (kb : Int)) := (by rw [← x2']; unfold World.cell?; rw [hk1.block w.heap.size hxm hxf]; rfl); have rb'' : w1.cell? ⟨F.mb, 2 + kb, none⟩ = some (.int .i64 vv) := (by rw [← rb']; unfold World.cell?; rw [hk1.block F.mb HM2.out.blk.lt (fun e => (HM2.out.hf _ e).2 rfl)]; rfl); clear hg1 hk1; have c0' := HM3.out.blk.cell (j := 0) rfl))
 by_cases he : SR.storeErr q n = 0
 ·rw [he];have HD : Hid (S' = MS.heap ⟨SR, [r0, r1, r2, r3, r4, r5, r6, r7], Sh, Sd, So, Sp, Sn, Ss, Se, Sx, ⟨y0, y1, y2, y3, y4, y5, y6, y7, y8, yl⟩⟩ (SR.store q n vv)) := by show _ = _; rw [HDF.out, if_pos he]
  clear he;go_wp2;go_end0;exact ⟨rfl, _, _, by rw [HD.out]; exact HM3.out⟩
 ·have HD : Hid (S' = (MS.heap ⟨SR, [r0, r1, r2, r3, r4, r5, r6, r7], Sh, Sd, So, Sp, Sn, Ss, Se, Sx, ⟨y0, y1, y2, y3, y4, y5, y6, y7, y8, yl⟩⟩ (SR.store q n vv)).fault (rexplain (SR.store q n vv) q n)) := by show _ = _; rw [HDF.out, if_neg he]
  have hne : (SR.storeErr q n != 0) = true := by simpa using he
  clear he
  go_wp2_with (go_at_call 116; refine (mexplain_any F.mb F.ph F.gc F.bb (G.store SR q n vv) (SR.store q n vv) _ r0 r1 r2 r3 r4 r5 r6 r7 F.inp _ _ _ vo _ _ _ _ _ y0 y1 y2 y3 y4 y5 y6 y7 y8 vn q n w1 HM3.out.heap HM3.out.sim.sim hwr.2 HM3.out.blk).mono ?_; rintro e2 w2 ⟨v, rfl, hm2, hrow, hvl, hk2⟩; rw [explain_sim HM3.out.sim.sim q n] at hm2 hrow; have HM4 := hide2 (HM3.out.faulted hk2 hm2 hrow hvl); clear hm2 hrow hvl hk2)
  go_end0;exact ⟨rfl, _, _, by rw [HD.out]; exact HM4.out⟩
end Go.Proofs.YtjikemhmnkckcabGreat
