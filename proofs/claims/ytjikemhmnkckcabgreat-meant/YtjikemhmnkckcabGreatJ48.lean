import Derived.Test.YtjikemhmnkckcabGreatJ47
namespace Go.Proofs.YtjikemhmnkckcabGreat
open Go.RowKit
theorem CellsOk.follow {T T' : List IT} {B B' : KSt} {G G' : GSt} {R R' : RSt} (h : KAll B G R) (hT : TOk T B) (h' : KAll B' G' R') (hT' : TOk T' B') (of : Nat) (h1 : 2 ≤ of) (h2 : of < T.length) (hlen : T.length ≤ T'.length) (hl : (T.getD of IT.no).live = true) (eT : T'.getD of IT.no = T.getD of IT.no) (eL : B'.L.getD (of - 2) KBlk.no = B.L.getD (of - 2) KBlk.no) (hb : ∀ o, o < T.length → bp B' o = bp B o) (hc : CellsOk T B R of) : CellsOk T' B' R' of := by
 obtain ⟨k, s, hli, b1, b2, _⟩ := h.block_at hT of h1 h2 hl;obtain ⟨k', s', hli', b1', b2', _⟩ := h'.block_at hT' of h1 (by omega) (by rw [eT]; exact hl);rw [eL] at hli';have : k' = k ∧ s' = s := by have := hli.ek; have := hli.es; have := hli'.ek; have := hli'.es; omega
 obtain ⟨rfl, rfl⟩ := this;intro t ht;rw [eT] at ht ⊢;have hx := hc t ht;rw [b1, ← hli.byte t (by omega)] at hx;rw [b1', ← hli'.byte t (by omega)];exact hx.of hlen hb
theorem CellsOk.stays {T T' : List IT} {B B' : KSt} {G G' : GSt} {R R' : RSt} (h : KAll B G R) (hT : TOk T B) (h' : KAll B' G' R') (hT' : TOk T' B') (hlen : T.length ≤ T'.length) (eT : T'.getD 1 IT.no = T.getD 1 IT.no) (hb : ∀ o, o < T.length → bp B' o = bp B o) (hby : ∀ a : Int, a < 16 * (1 + R.st) → R'.byte a = R.byte a) (hc : CellsOk T B R 1) : CellsOk T' B' R' 1 := by
 obtain ⟨s1, s2⟩ := h.static_at hT;obtain ⟨s1', _⟩ := h'.static_at hT';intro t ht;rw [eT] at ht ⊢;have hx := hc t ht;rw [s1] at hx;rw [s1', hby _ (by omega)];exact hx.of hlen hb
theorem byte_ev {R : RSt} (hv : Cf.Valid R.st R.rest R.cls) (e : Ref.Ev) (a : Int) (ha : a < 16 * (1 + R.st)) : RSt.byte ⟨R.st, R.rest, R.cls, R.log ++ [e], R.marks⟩ a = R.byte a :=
 RSt.byte_event R e a (fun x => by rw [static_slot hv a ha] at x; exact absurd x (by decide))
theorem byte_mR {R : RSt} (hv : Cf.Valid R.st R.rest R.cls) (size draw site a : Int) (ha : a < 16 * (1 + R.st)) : (mR R size draw site).byte a = R.byte a := by
 unfold mR
 split
 ·exact byte_ev hv _ a ha
 ·rfl
theorem byte_fR {R : RSt} (hv : Cf.Valid R.st R.rest R.cls) (q site a : Int) (ha : a < 16 * (1 + R.st)) : (fR R q site).byte a = R.byte a := by
 unfold fR
 split
 ·exact byte_ev hv _ a ha
 ·rfl
theorem copies_away (R : RSt) (a b : Int) (n : Nat) (x : Int) (hx : x < a) : (R.copies a b n).byte x = R.byte x := by
 induction n with
 | zero => rfl
 | succ n ih =>
   show ((R.copies a b n).mark (a + n) ((R.copies a b n).byte (b + n))).byte x = _;rw [RSt.mark_byte, if_neg (by omega), ih]
theorem mR_same (R : RSt) (size draw site : Int) : (mR R size draw site).st = R.st ∧ (mR R size draw site).rest = R.rest ∧ (mR R size draw site).cls = R.cls := by
 unfold mR; split <;> exact ⟨rfl, rfl, rfl⟩
section
variable {F : IFix} {S : IS} {M : MS} {B : KSt} {G : GSt}
theorem LH.slot_is (h : LH F S M B G) (k : Nat) : iSlot S.T S.F F.rest F.cls k = Ref.first M.R.log M.R.rest M.R.cls k := by
 rw [← h.fr, ← h.re, ← h.cl]; exact h.all.slot_is h.tok k
theorem LH.cls_is (h : LH F S M B G) : F.cls = M.R.cls := h.cl.symm.trans h.all.ok.cls
theorem LH.mallocs (h : LH F S M B G) (size draw : Int) :
 ((mOut M.R size draw).1 = 0 ∧ (mOut M.R size draw).2 ≠ 0 ∧ S.malloc F size = S ∧ iNew F S size = ⟨0, 0⟩ ∧ mR M.R size draw M.pc = M.R) ∨
 (∃ k s : Nat, 1 ≤ size ∧ Ref.cls_ M.R.cls size = k ∧ k < M.R.cls.length ∧ Ref.first M.R.log M.R.rest M.R.cls k = (s : Int) ∧ s < (Cf.sl M.R.cls k).toNat ∧ size ≤ 16 * Cf.gr M.R.cls k ∧
   mOut M.R size draw = ((Ref.tagOf M.R.log k s draw : Int) * 72057594037927936 + Cf.begin_ M.R.st M.R.cls k s, 0) ∧ S.malloc F size = S.heap (S.T ++ [⟨k, s, true, 0, List.replicate (16 * Ref.gsz size).toNat IC.no⟩]) S.F ∧ iNew F S size = ⟨S.T.length, 0⟩) := by
 have hcl := h.cls_is;have hsl := h.slot_is
 rcases mOut_cases M.R h.all.ok.simb.sim.rok size draw with ⟨hx, hm⟩ | ⟨k, h1, hk, hkl, hf, hm⟩ | ⟨k, s, h1, hk, hkl, hf, hs, hz, hm⟩
 ·left
  have hg : gcls F.cls size = -1 := by unfold gcls; rw [hcl, if_pos hx]
  refine ⟨by rw [hm], by rw [hm]; decide, ?_, ?_, ?_⟩
  ·unfold IS.malloc; rw [hg, if_pos (by decide)]
  ·unfold iNew; rw [hg, if_pos (by decide)]
  ·unfold mR; rw [hm, if_neg (by decide)]
 ·left
  have hg : gcls F.cls size = k := by unfold gcls; rw [hcl, if_neg (by omega), hk]
  refine ⟨by rw [hm], by rw [hm]; decide, ?_, ?_, ?_⟩
  ·unfold IS.malloc; rw [hg, if_neg (by omega), Int.toNat_natCast, hsl, if_pos hf]
  ·unfold iNew; rw [hg, if_neg (by omega), Int.toNat_natCast, hsl, if_pos hf]
  ·unfold mR; rw [hm, if_neg (by decide)]
 ·right
  have hg : gcls F.cls size = k := by unfold gcls; rw [hcl, if_neg (by omega), hk]
  refine ⟨k, s, h1, hk, hkl, hf, hs, hz, hm, ?_, ?_⟩
  ·unfold IS.malloc; rw [hg, if_neg (by omega), Int.toNat_natCast, hsl, hf, if_neg (by omega)]
  ·unfold iNew; rw [hg, if_neg (by omega), Int.toNat_natCast, hsl, hf, if_neg (by omega)]
theorem LH.malloc (h : LH F S M B G) (size draw : Int) : ∃ B' G', LH F (S.malloc F size) (M.heap (mR M.R size draw M.pc)) B' G' ∧ VOk (S.malloc F size).T B' (iNew F S size) (mOut M.R size draw).1 := by
 rcases h.mallocs size draw with ⟨m1, _, m3, m4, m5⟩ | ⟨k, s, h1, hk, hkl, hf, hs, hz, hm, e1, e2⟩
 ·rw [m1, m3, m4, m5];exact ⟨B, G, h, VOk.num (by omega) (by omega) h.tok⟩
 ·have hv := h.all.ok.simb.sim.rok.conf;have hK := h.all.malloc size draw M.pc M.pc rfl 0 k s h1 hk hkl hf hs hz hm;have hlen := h.tok.len;have hgz := gsz_bd h1 hz (hv.g1 k hkl);have hbd := mOut_bd h.all.ok.simb.sim.rok size draw;obtain ⟨x, hx⟩ : ∃ x : KBlk, x = ⟨(Ref.tagOf M.R.log k s draw : Int) * 72057594037927936 + Cf.begin_ M.R.st M.R.cls k s, k, s, List.replicate (16 * Ref.gsz size).toNat 0, 0, true, M.pc, 0⟩ := ⟨_, rfl⟩
  have hxp : x.p = (mOut M.R size draw).1 := by rw [hx, hm]
  have hxw : x.want = List.replicate (16 * Ref.gsz size).toNat 0 := by rw [hx]
  obtain ⟨y, hy⟩ : ∃ y : IT, y = ⟨k, s, true, 0, List.replicate (16 * Ref.gsz size).toNat IC.no⟩ := ⟨_, rfl⟩
  have hyc : y.cells = List.replicate (16 * Ref.gsz size).toNat IC.no := by rw [hy]
  have hT : TOk (S.T ++ [y]) ⟨B.st, B.rest, B.cls, B.L ++ [x], B.F, B.now⟩ := h.tok.gives x y (by rw [hx, hy]) (by rw [hx, hy]) (by rw [hx, hy]) (by rw [hxw, hyc]; simp) (by rw [hyc, List.length_replicate]; omega) B.now;rw [← hx] at hK;rw [e1, e2, ← hy];have hbp : ∀ o, o < S.T.length → bp ⟨B.st, B.rest, B.cls, B.L ++ [x], B.F, B.now⟩ o = bp B o := fun o ho => bp_app x _ _ o (by omega)
  refine ⟨⟨B.st, B.rest, B.cls, B.L ++ [x], B.F, B.now⟩, _, ⟨h.en, h.ex, h.steps, h.pc, h.next, h.drawn, h.out, h.heard, hK, hT, h.fr, h.st, h.re, h.cl, h.r8, h.m8, fun j hj => (h.rv j hj).to_ (by show _ ≤ (S.T ++ [y]).length; simp) hbp, fun o o1 o2 ol => ?_⟩, ?_⟩
  ·change o < (S.T ++ [y]).length at o2;rw [List.length_append, List.length_singleton] at o2;change ((S.T ++ [y]).getD o IT.no).live = true at ol;show CellsOk (S.T ++ [y]) _ (mR M.R size draw M.pc) o
   by_cases e : o = S.T.length
   ·obtain ⟨k', s', hli, b1, b2, _⟩ := hK.block_at hT o (by omega) (by simp; omega) ol;have hg : (S.T ++ [y]).getD o IT.no = y := by rw [getD_appT, if_pos e]
    intro t ht;rw [hg, hyc] at ht ⊢;rw [List.length_replicate] at ht;have hLx : (B.L ++ [x]).getD (o - 2) KBlk.no = x := by rw [getD_appL, if_pos (by omega)]
    change KLive _ ((B.L ++ [x]).getD (o - 2) KBlk.no) k' s' at hli;rw [hLx] at hli;have hby := hli.byte t (by rw [hxw, List.length_replicate]; exact ht);rw [hxw, List.getD_eq_getElem?_getD, List.getElem?_replicate, if_pos ht] at hby;rw [b1, ← hby, List.getD_eq_getElem?_getD, List.getElem?_replicate, if_pos ht];exact ⟨by show (0 : Int) ≤ 0; omega, by show (0 : Int) ≤ 255; omega, fun _ => rfl, fun z => absurd rfl z⟩
   ·have hg : (S.T ++ [y]).getD o IT.no = S.T.getD o IT.no := by rw [getD_appT, if_neg e]
    rw [hg] at ol;have hc := h.cv o o1 (by omega) ol
    by_cases e2 : o = 1
    ·subst e2;exact CellsOk.stays h.all h.tok hK hT (by simp) hg hbp (fun a ha => byte_mR hv _ _ _ a ha) hc
    ·exact CellsOk.follow h.all h.tok hK hT o (by omega) (by omega) (by simp) ol hg (by show (B.L ++ [x]).getD _ _ = _; rw [getD_appL, if_neg (by omega)]) hbp hc
  ·refine ⟨by show S.T.length < (S.T ++ [y]).length; simp, by show _ ≤ (0 : Int); omega, by show (0 : Int) ≤ _; omega, ?_⟩;show _ = wrap64 (bp ⟨B.st, B.rest, B.cls, B.L ++ [x], B.F, B.now⟩ S.T.length + 0);rw [hlen, bp_new, hxp];unfold wrap64; omega
theorem LH.at_now (h : LH F S M B G) (n : Int) : LH F S M ⟨B.st, B.rest, B.cls, B.L, B.F, n⟩ G :=
 ⟨h.en, h.ex, h.steps, h.pc, h.next, h.drawn, h.out, h.heard, h.all.at_now n, ⟨h.tok.len, h.tok.t0, h.tok.t1, h.tok.tn, h.tok.sm⟩, h.fr, h.st, h.re, h.cl, h.r8, h.m8, fun k hk => ⟨(h.rv k hk).of, (h.rv k hk).n0, (h.rv k hk).n1, (h.rv k hk).x⟩,
   fun o o1 o2 ol t ht => (h.cv o o1 o2 ol t ht).of (Nat.le_refl _) (fun _ _ => rfl)⟩
theorem LH.frees (h0 : LH F S M B G) (of : Nat) (o1 : 2 ≤ of) (o2 : of < S.T.length) (o3 : (S.T.getD of IT.no).live = true) (q : Int) (hq : q = (B.L.getD (of - 2) KBlk.no).p) : ∃ B' G', LH F (S.free of) (M.heap (fR M.R q M.pc)) B' G' := by
 have h := h0.at_now M.pc;have hlen := h.tok.len;change S.T.length = B.L.length + 2 at hlen;have htn := (h0.tok.tn (of - 2) (by omega)).2.2.1;rw [show of - 2 + 2 = of by omega] at htn;have hK := h.all.left (of - 2) (by show _ < B.L.length; omega) (by show (B.L.getD (of - 2) KBlk.no).live = true; rw [← htn]; exact o3) M.pc rfl;have hT := h.tok.left (of - 2) (by show _ < B.L.length; omega);rw [show of - 2 + 2 = of by omega] at hT;have hv := h0.all.ok.simb.sim.rok.conf;have hbp : ∀ o, o < S.T.length → bp (kleft ⟨B.st, B.rest, B.cls, B.L, B.F, M.pc⟩ (of - 2)) o = bp B o := fun o _ => bp_left (B := ⟨B.st, B.rest, B.cls, B.L, B.F, M.pc⟩) (of - 2) (by show _ < B.L.length; omega) o
 obtain ⟨t1, t2, _, _⟩ := h0.tok.tn (of - 2) (by omega);rw [show of - 2 + 2 = of by omega] at t1 t2;rw [hq];refine ⟨_, _, h.en, h.ex, h.steps, h.pc, h.next, h.drawn, h.out, h.heard, hK, hT, ?_, h.st, h.re, h.cl, h.r8, h.m8, fun j hj => (h.rv j hj).to_ (by show _ ≤ (S.T.set _ _).length; simp) hbp, fun o p1 p2 ol => ?_⟩
 ·show B.F ++ [((B.L.getD (of - 2) KBlk.no).k, (B.L.getD (of - 2) KBlk.no).s)] = S.F ++ [((S.T.getD of IT.no).cls, (S.T.getD of IT.no).slot)]
  rw [t1, t2, h0.fr]
 ·change o < (S.T.set of _).length at p2;rw [List.length_set] at p2;change ((S.T.set of (S.T.getD of IT.no).off).getD o IT.no).live = true at ol
  by_cases e : o = of
  ·rw [getD_setT _ _ _ _ o2, if_pos e] at ol;exact absurd ol (by show ¬ (false = true); decide)
  ·have hg : (S.T.set of (S.T.getD of IT.no).off).getD o IT.no = S.T.getD o IT.no := by rw [getD_setT _ _ _ _ o2, if_neg e]
   rw [hg] at ol;have hc := h0.cv o p1 p2 ol
   by_cases e2 : o = 1
   ·subst e2;exact CellsOk.stays h0.all h0.tok hK hT (Nat.le_of_eq List.length_set.symm) hg hbp (fun a ha => byte_fR hv _ _ a ha) hc
   ·exact CellsOk.follow h0.all h0.tok hK hT o (by omega) p2 (Nat.le_of_eq List.length_set.symm) ol hg (by
     show (B.L.set (of - 2) _).getD (o - 2) KBlk.no = _;rw [getD_setL _ _ _ _ (by omega), if_neg (by omega)]) hbp hc
theorem like_malloc (h : LH F S M B G) (ds : List Int) (hd : ds.length = F.nd) (a b : Nat) (ha : a < 8) (hb : b < 8) : Comes F (iMalloc F S a b) (dMalloc ds M a b) := by
 unfold iMalloc dMalloc;rw [h.drawn, hd]
 by_cases c : M.drawn < F.nd
 ·rw [if_pos c, if_pos c]
  by_cases e : (iv S.r b).of = 0
  ·rw [IS.num_pos (S := S.drew) b e, (h.rv b hb).isNum e];obtain ⟨B', G', hL, hv⟩ := h.drew.malloc (iv S.r b).n (ds.getD M.drawn 0);exact .inr ⟨B', G', hL.reg a ha hv⟩
  ·rw [IS.num_neg (S := S.drew) b e];refine .inl ?_;show (IS.malloc F (S.drew.ends 102) (iv S.r b).n).en = 102;unfold IS.malloc
   split
   ·rfl
   ·split <;> rfl
 ·rw [if_neg c, if_neg c]; exact .inr ⟨B, G, h.ends 4⟩
theorem like_free (h : LH F S M B G) (a : Nat) (ha : a < 8) : Comes F (iFree S a) (dFree M a) := by
 unfold iFree dFree
 by_cases n : iNothing (iv S.r a) = true
 ·rw [if_pos n];have hq := h.nothing a ha n;have h1 : fOut M.R (rg M.r a) = 0 := by unfold fOut; rw [if_pos hq]
  have h2 : fR M.R (rg M.r a) M.pc = M.R := by unfold fR; rw [if_neg (fun x => x.1 hq)]
  rw [if_pos h1, h2];exact .inr ⟨B, G, h⟩
 ·rw [if_neg n]
  by_cases o : iOwns S.T (iv S.r a) = true
  ·rw [if_pos o];obtain ⟨o1, o2, o3, o4, o5, o6⟩ := h.owns a ha o;obtain ⟨k, s, hli⟩ := h.all.ok.live _ o4 o5;have hbk := hli.block h.all.ok.simb
   have h1 : fOut M.R (rg M.r a) = 0 := by
    unfold fOut
    split
    ·rfl
    ·rw [o6, hbk]
   rw [if_pos h1];exact .inr (h.frees _ o1 o2 o3 _ o6)
  ·rw [if_neg o]; exact .inl rfl
end
theorem iCopied_len (new old : List IC) : (iCopied new old).length = new.length := by unfold iCopied; simp; omega
theorem iCopied_getD (new old : List IC) (t : Nat) : (iCopied new old).getD t IC.no = if t < min old.length new.length then old.getD t IC.no else new.getD t IC.no := by
 unfold iCopied;have l1 : (old.take (min old.length new.length)).length = min old.length new.length := by rw [List.length_take]; omega
 simp only [List.getD_eq_getElem?_getD]
 by_cases h : t < min old.length new.length
 ·rw [if_pos h, List.getElem?_append_left (by omega), List.getElem?_take_of_lt h]
 ·rw [if_neg h, List.getElem?_append_right (by omega), l1, List.getElem?_drop, show min old.length new.length + (t - min old.length new.length) = t by omega]
section
variable {F : IFix} {S : IS} {M : MS} {B : KSt} {G : GSt}
theorem LH.grows (h0 : LH F S M B G) (of : Nat) (o1 : 2 ≤ of) (o2 : of < S.T.length) (o3 : (S.T.getD of IT.no).live = true) (q : Int) (hq : q = (B.L.getD (of - 2) KBlk.no).p) (size draw : Int) (k s : Nat) (h1 : 1 ≤ size) (hk : Ref.cls_ M.R.cls size = k) (hkl : k < M.R.cls.length) (hf : Ref.first M.R.log M.R.rest M.R.cls k = (s : Int)) (hs : s < (Cf.sl M.R.cls k).toNat) (hz : size ≤ 16 * Cf.gr M.R.cls k)
 (hm : mOut M.R size draw = ((Ref.tagOf M.R.log k s draw : Int) * 72057594037927936 + Cf.begin_ M.R.st M.R.cls k s, 0)) (e1 : S.malloc F size = S.heap (S.T ++ [⟨k, s, true, 0, List.replicate (16 * Ref.gsz size).toNat IC.no⟩]) S.F) :
 ∃ B' G', LH F (((S.malloc F size).turn S.T.length (iCopied ((S.malloc F size).th S.T.length).cells (S.th of).cells)).free of) (M.heap (M.R.re q size draw M.pc)) B' G' ∧ VOk (((S.malloc F size).turn S.T.length (iCopied ((S.malloc F size).th S.T.length).cells (S.th of).cells)).free of).T B' ⟨S.T.length, 0⟩ (mOut M.R size draw).1 := by
 have hq' := hq;have h := h0.at_now M.pc;have hv := h0.all.ok.simb.sim.rok.conf;have hlen := h0.tok.len;have hgz := gsz_bd h1 hz (hv.g1 k hkl);have hbd := mOut_bd h0.all.ok.simb.sim.rok size draw;have htn := h0.tok.tn (of - 2) (by omega);rw [show of - 2 + 2 = of by omega] at htn;obtain ⟨t1, t2, t3, t4⟩ := htn;have hlv : (B.L.getD (of - 2) KBlk.no).live = true := by rw [← t3]; exact o3
 obtain ⟨hro, hK⟩ := h.all.realloc (of - 2) (by show _ < B.L.length; omega) hlv size draw M.pc M.pc rfl rfl 0 k s h1 hk hkl hf hs hz hm;rw [← hq] at hK;obtain ⟨x, hx⟩ : ∃ x : KBlk, x = ⟨(Ref.tagOf M.R.log k s draw : Int) * 72057594037927936 + Cf.begin_ M.R.st M.R.cls k s, k, s, List.replicate (16 * Ref.gsz size).toNat 0, 0, true, M.pc, 0⟩ := ⟨_, rfl⟩
 have hxp : x.p = (mOut M.R size draw).1 := by rw [hx, hm]
 have hxw : x.want = List.replicate (16 * Ref.gsz size).toNat 0 := by rw [hx]
 obtain ⟨y, hy⟩ : ∃ y : IT, y = ⟨k, s, true, 0, List.replicate (16 * Ref.gsz size).toNat IC.no⟩ := ⟨_, rfl⟩
 have hyc : y.cells = List.replicate (16 * Ref.gsz size).toNat IC.no := by rw [hy]
 rw [← hx] at hK;rw [← hy] at e1;have hT1 : TOk (S.T ++ [y]) ⟨B.st, B.rest, B.cls, B.L ++ [x], B.F, M.pc⟩ := h.tok.gives x y (by rw [hx, hy]) (by rw [hx, hy]) (by rw [hx, hy]) (by rw [hxw, hyc]; simp) (by rw [hyc, List.length_replicate]; omega) M.pc;have hgy : (S.T ++ [y]).getD S.T.length IT.no = y := by rw [getD_appT, if_pos rfl]
 have hgo : (S.T ++ [y]).getD of IT.no = S.T.getD of IT.no := by rw [getD_appT, if_neg (by omega)]
 obtain ⟨c, hc⟩ : ∃ c, c = iCopied y.cells (S.T.getD of IT.no).cells := ⟨_, rfl⟩
 have hcl : c.length = (16 * Ref.gsz size).toNat := by rw [hc, iCopied_len, hyc, List.length_replicate]
 obtain ⟨ow, how⟩ : ∃ ow, ow = (B.L.getD (of - 2) KBlk.no).want := ⟨_, rfl⟩
 have hT2 := hT1.set B.L.length (by show _ < (B.L ++ [x]).length; simp) (x.withWant (kcopied x.want ow)) (y.withCells c) (by show y.cls = x.k; rw [hx, hy]) (by show y.slot = x.s; rw [hx, hy]) (by show y.live = x.live; rw [hx, hy]) (by show c.length = (kcopied x.want ow).length; rw [hcl, kcopied_len, hxw, List.length_replicate]) (by show c.length ≤ 1000; omega) B.F M.pc;rw [← hlen] at hT2;have hT2' : TOk ((S.T ++ [y]).set S.T.length (y.withCells c)) ⟨B.st, B.rest, B.cls, (B.L ++ [x]).set B.L.length (x.withWant (kcopied x.want ow)), B.F, M.pc⟩ := hT2;have hT := hT2'.left (of - 2) (by show _ < ((B.L ++ [x]).set _ _).length; simp; omega);rw [show of - 2 + 2 = of by omega] at hT;have hg2 : ((S.T ++ [y]).set S.T.length (y.withCells c)).getD of IT.no = S.T.getD of IT.no := by rw [getD_setT _ _ _ _ (by simp), if_neg (by omega), hgo]
 have hS : ((S.malloc F size).turn S.T.length (iCopied ((S.malloc F size).th S.T.length).cells (S.th of).cells)).free of = S.heap (((S.T ++ [y]).set S.T.length (y.withCells c)).set of (((S.T ++ [y]).set S.T.length (y.withCells c)).getD of IT.no).off) (S.F ++ [((S.T.getD of IT.no).cls, (S.T.getD of IT.no).slot)]) := by
  rw [e1];unfold IS.turn IS.free IS.th IS.heap;simp only;rw [hgy, ← hc, hg2]
 rw [hS]
 have hkg : kgrown ⟨B.st, B.rest, B.cls, B.L, B.F, M.pc⟩ (of - 2) x = kleft ⟨B.st, B.rest, B.cls, (B.L ++ [x]).set B.L.length (x.withWant (kcopied x.want ow)), B.F, M.pc⟩ (of - 2) := by
  unfold kgrown; rw [how]
 rw [hkg] at hK
 have hbp : ∀ o, o < S.T.length → bp (kleft ⟨B.st, B.rest, B.cls, (B.L ++ [x]).set B.L.length (x.withWant (kcopied x.want ow)), B.F, M.pc⟩ (of - 2)) o = bp B o := fun o ho => by
  rw [bp_left (B := ⟨B.st, B.rest, B.cls, (B.L ++ [x]).set B.L.length (x.withWant (kcopied x.want ow)), B.F, M.pc⟩) (of - 2) (by show _ < ((B.L ++ [x]).set _ _).length; simp; omega) o,
   bp_set (B := ⟨B.st, B.rest, B.cls, B.L ++ [x], B.F, M.pc⟩) B.L.length (by show _ < (B.L ++ [x]).length; simp) (x.withWant (kcopied x.want ow)) (by show x.p = ((B.L ++ [x]).getD _ _).p; rw [getD_appL, if_pos rfl]) B.F M.pc o]
  exact bp_app x _ _ o (by omega)
 have hbn : bp (kleft ⟨B.st, B.rest, B.cls, (B.L ++ [x]).set B.L.length (x.withWant (kcopied x.want ow)), B.F, M.pc⟩ (of - 2)) S.T.length = (mOut M.R size draw).1 := by
  rw [bp_left (B := ⟨B.st, B.rest, B.cls, (B.L ++ [x]).set B.L.length (x.withWant (kcopied x.want ow)), B.F, M.pc⟩) (of - 2) (by show _ < ((B.L ++ [x]).set _ _).length; simp; omega) _,
   bp_set (B := ⟨B.st, B.rest, B.cls, B.L ++ [x], B.F, M.pc⟩) B.L.length (by show _ < (B.L ++ [x]).length; simp) (x.withWant (kcopied x.want ow)) (by show x.p = ((B.L ++ [x]).getD _ _).p; rw [getD_appL, if_pos rfl]) B.F M.pc _, hlen, bp_new, hxp]
 have hLn : ∀ j, (kleft ⟨B.st, B.rest, B.cls, (B.L ++ [x]).set B.L.length (x.withWant (kcopied x.want ow)), B.F, M.pc⟩ (of - 2)).L.getD j KBlk.no = if j = of - 2 then (((B.L ++ [x]).set B.L.length (x.withWant (kcopied x.want ow))).getD (of - 2) KBlk.no).off M.pc else if j = B.L.length then x.withWant (kcopied x.want ow) else B.L.getD j KBlk.no := fun j => by
  show (((B.L ++ [x]).set B.L.length (x.withWant (kcopied x.want ow))).set (of - 2) _).getD j KBlk.no = _;rw [getD_setL _ _ _ _ (by simp; omega)]
  split
  ·rfl
  ·rw [getD_setL _ _ _ _ (by simp)]
   split
   ·rfl
   ·rw [getD_appL, if_neg (by assumption)]
 have hTn : ∀ j, (((S.T ++ [y]).set S.T.length (y.withCells c)).set of (((S.T ++ [y]).set S.T.length (y.withCells c)).getD of IT.no).off).getD j IT.no = if j = of then (S.T.getD of IT.no).off else if j = S.T.length then y.withCells c else S.T.getD j IT.no := fun j => by
  rw [getD_setT _ _ _ _ (by simp; omega), hg2]
  split
  ·rfl
  ·rw [getD_setT _ _ _ _ (by simp)]
   split
   ·rfl
   ·rw [getD_appT, if_neg (by assumption)]
 have hTl : (((S.T ++ [y]).set S.T.length (y.withCells c)).set of (((S.T ++ [y]).set S.T.length (y.withCells c)).getD of IT.no).off).length = S.T.length + 1 := by simp
 have hstat : ∀ a : Int, a < 16 * (1 + M.R.st) → (M.R.re q size draw M.pc).byte a = M.R.byte a := fun a ha => by
  obtain ⟨m1, m2, m3⟩ := mR_same M.R size draw M.pc;have hg : 2 + M.R.st ≤ Cf.gran M.R.st M.R.cls k := gran_ge hv k (by omega);have hp : 0 ≤ (s : Int) * Cf.gr M.R.cls k := Int.mul_nonneg (by omega) (by have := hv.g0 k hkl; omega);have hs1 := hv.s1 k hkl;have hb2 := Cf.begin_bd hv k hkl s (by omega) (by omega);have hbg : 16 * (1 + M.R.st) ≤ Cf.begin_ M.R.st M.R.cls k s := by unfold Cf.begin_; omega
  have hmod : (mOut M.R size draw).1 % 72057594037927936 = Cf.begin_ M.R.st M.R.cls k s := by rw [hm]; simp only; omega
  unfold RSt.re
  split
  ·rfl
  ·split
   ·exact byte_mR hv _ _ _ a ha
   ·rw [hmod];obtain ⟨c1, c2, c3, _, _⟩ := RSt.copies_same (mR M.R size draw M.pc) (Cf.begin_ M.R.st M.R.cls k s) (q % 72057594037927936) (M.R.reN q size draw M.pc);rw [byte_fR (by rw [c1, c2, c3, m1, m2, m3]; exact hv) _ _ a (by rw [c1, m1]; exact ha), copies_away _ _ _ _ _ (by omega)];exact byte_mR hv _ _ _ a ha
 have hlt : S.T.length ≤ (S.heap (((S.T ++ [y]).set S.T.length (y.withCells c)).set of (((S.T ++ [y]).set S.T.length (y.withCells c)).getD of IT.no).off) (S.F ++ [((S.T.getD of IT.no).cls, (S.T.getD of IT.no).slot)])).T.length := by
  show _ ≤ List.length (((S.T ++ [y]).set S.T.length (y.withCells c)).set of (((S.T ++ [y]).set S.T.length (y.withCells c)).getD of IT.no).off);rw [hTl]; omega
 refine ⟨_, _, ⟨h.en, h.ex, h.steps, h.pc, h.next, h.drawn, h.out, h.heard, hK, hT, ?_, h.st, h.re, h.cl, h.r8, h.m8, fun j hj => (h.rv j hj).to_ (by show _ ≤ List.length (((S.T ++ [y]).set S.T.length (y.withCells c)).set of (((S.T ++ [y]).set S.T.length (y.withCells c)).getD of IT.no).off); rw [hTl]; omega) hbp, fun o p1 p2 ol => ?_⟩, ?_⟩
 ·show B.F ++ [((((B.L ++ [x]).set B.L.length (x.withWant (kcopied x.want ow))).getD (of - 2) KBlk.no).k, (((B.L ++ [x]).set B.L.length (x.withWant (kcopied x.want ow))).getD (of - 2) KBlk.no).s)] = S.F ++ [((S.T.getD of IT.no).cls, (S.T.getD of IT.no).slot)]
  rw [getD_setL _ _ _ _ (by simp), if_neg (by omega), getD_appL, if_neg (by omega), t1, t2, h0.fr]
 ·change o < List.length (((S.T ++ [y]).set S.T.length (y.withCells c)).set of (((S.T ++ [y]).set S.T.length (y.withCells c)).getD of IT.no).off) at p2;rw [hTl] at p2;change ((((S.T ++ [y]).set S.T.length (y.withCells c)).set of (((S.T ++ [y]).set S.T.length (y.withCells c)).getD of IT.no).off).getD o IT.no).live = true at ol;have hTo := hTn o
  by_cases e : o = of
  ·rw [hTo, if_pos e] at ol;exact absurd ol (by show ¬ (false = true); decide)
  ·rw [if_neg e] at hTo
   by_cases e2 : o = S.T.length
   ·obtain ⟨k', s', hli, b1, b2, _⟩ := hK.block_at hT o (by omega) (by rw [hTl]; omega) ol;rw [hLn, if_neg (by omega), if_pos (by omega)] at hli;rw [if_pos e2] at hTo;obtain ⟨k0, s0, hl0⟩ := h0.all.ok.live (of - 2) (by omega) hlv;obtain ⟨k1, s1, hl1, c1, c2, _⟩ := h0.all.block_at h0.tok of (by omega) o2 o3;have hc0 := h0.cv of (by omega) o2 o3;intro t ht;change t < List.length ((((S.T ++ [y]).set S.T.length (y.withCells c)).set of (((S.T ++ [y]).set S.T.length (y.withCells c)).getD of IT.no).off).getD o IT.no).cells at ht;show COk _ _ (List.getD ((((S.T ++ [y]).set S.T.length (y.withCells c)).set of (((S.T ++ [y]).set S.T.length (y.withCells c)).getD of IT.no).off).getD o IT.no).cells t IC.no) _;rw [hTo] at ht ⊢;change t < c.length at ht;show COk _ _ (c.getD t IC.no) _;have hby := hli.byte t (by show t < (kcopied x.want ow).length; rw [kcopied_len, hxw, List.length_replicate]; omega);change (kcopied x.want ow).getD t 0 = _ at hby;rw [kcopied_getD, hxw, List.length_replicate] at hby;rw [show iBase (M.heap (M.R.re q size draw M.pc)).R.st (M.heap (M.R.re q size draw M.pc)).R.cls (S.heap (((S.T ++ [y]).set S.T.length (y.withCells c)).set of (((S.T ++ [y]).set S.T.length (y.withCells c)).getD of IT.no).off) (S.F ++ [((S.T.getD of IT.no).cls, (S.T.getD of IT.no).slot)])).T o = Cf.begin_ (M.R.re q size draw M.pc).st (M.R.re q size draw M.pc).cls k' s' from b1];show COk _ _ _ ((M.R.re q size draw M.pc).byte (Cf.begin_ (M.R.re q size draw M.pc).st (M.R.re q size draw M.pc).cls k' s' + t))
    have hrep : (List.replicate (16 * Ref.gsz size).toNat IC.no).getD t IC.no = IC.no := by
     rw [List.getD_eq_getElem?_getD, List.getElem?_replicate]; split <;> rfl
    have hrep0 : (List.replicate (16 * Ref.gsz size).toNat (0 : Int)).getD t 0 = 0 := by
     rw [List.getD_eq_getElem?_getD, List.getElem?_replicate]; split <;> rfl
    have hcell : c.getD t IC.no = if t < min ow.length (16 * Ref.gsz size).toNat then (S.T.getD of IT.no).cells.getD t IC.no else IC.no := by
     rw [hc, iCopied_getD, hyc, hrep, List.length_replicate, c2, ← how]
    rw [hrep0] at hby;rw [← hby, hcell]
    by_cases cc : t < min ow.length (16 * Ref.gsz size).toNat
    ·rw [if_pos cc, if_pos cc];have hx0 := hc0 t (by rw [c2, ← how]; omega);rw [c1, ← hl1.byte t (by rw [← how]; omega), ← how] at hx0;exact hx0.of hlt hbp
    ·rw [if_neg cc, if_neg cc];exact ⟨by omega, by omega, fun _ => rfl, fun z => absurd rfl z⟩
   ·rw [if_neg e2] at hTo;rw [hTo] at ol;have hcv := h0.cv o p1 (by omega) ol
    by_cases e3 : o = 1
    ·subst e3;exact CellsOk.stays h0.all h0.tok hK hT hlt hTo hbp hstat hcv
    ·exact CellsOk.follow h0.all h0.tok hK hT o (by omega) (by omega) hlt ol hTo (by rw [hLn, if_neg (by omega), if_neg (by omega)]) hbp hcv
 ·refine ⟨by show S.T.length < List.length (((S.T ++ [y]).set S.T.length (y.withCells c)).set of (((S.T ++ [y]).set S.T.length (y.withCells c)).getD of IT.no).off); rw [hTl]; omega, by show _ ≤ (0 : Int); omega, by show (0 : Int) ≤ _; omega, ?_⟩;show (mOut M.R size draw).1 = wrap64 (bp _ S.T.length + 0);rw [hbn];unfold wrap64; omega
theorem iMalloc_en (n : Int) : (S.malloc F n).en = S.en := by
 unfold IS.malloc
 split
 ·rfl
 ·split <;> rfl
theorem iGrow_en (v : IV) (n : Int) : (iGrow F S v n).en = S.en := by
 unfold iGrow
 split
 ·exact iMalloc_en n
 ·exact iMalloc_en n
theorem like_realloc (h : LH F S M B G) (ds : List Int) (hd : ds.length = F.nd) (a b c : Nat) (ha : a < 8) (hb : b < 8) (hc : c < 8) : Comes F (iRealloc F S a b c) (dRealloc ds M a b c) := by
 unfold iRealloc dRealloc;rw [h.drawn, hd]
 by_cases cd : M.drawn < F.nd
 ·rw [if_pos cd, if_pos cd]
  by_cases no : iNothing (iv S.r b) = true ∨ iOwns S.T (iv S.r b) = true
  ·rw [if_pos no]
   by_cases e : (iv S.r c).of = 0
   ·rw [IS.num_pos (S := S.drew) c e, (h.rv c hc).isNum e];have hD := h.drew
    by_cases nn : iNothing (iv S.r b) = true
    ·have hq := h.nothing b hb nn;have hbad : ¬ M.R.reBad (rg M.r b) := fun x => x.1 hq
     have hre : M.R.re (rg M.r b) (iv S.r c).n (ds.getD M.drawn 0) M.pc = mR M.R (iv S.r c).n (ds.getD M.drawn 0) M.pc := by unfold RSt.re; rw [if_neg hbad, if_pos (.inr hq)]
     rw [if_neg hbad, hre];have hg : iGrow F S.drew (iv S.r b) (iv S.r c).n = S.drew.malloc F (iv S.r c).n := by unfold iGrow; rw [if_pos (.inr nn)]
     rw [hg];obtain ⟨B', G', hL, hv⟩ := hD.malloc (iv S.r c).n (ds.getD M.drawn 0);exact .inr ⟨B', G', hL.reg a ha hv⟩
    ·have ow := no.resolve_left nn;obtain ⟨o1, o2, o3, o4, o5, o6⟩ := h.owns b hb ow;obtain ⟨k0, s0, hli⟩ := h.all.ok.live _ o4 o5;have hbk := hli.block h.all.ok.simb;have hbd := hli.bd h.all.ok.simb;have hpp := hli.p;have hq0 : rg M.r b ≠ 0 := by omega
     have hbad : ¬ M.R.reBad (rg M.r b) := fun x => x.2 (by rw [o6, hbk])
     rw [if_neg hbad]
     rcases hD.mallocs (iv S.r c).n (ds.getD M.drawn 0) with ⟨m1, m2, m3, m4, m5⟩ | ⟨k, s, h1, hk, hkl, hf, hs, hz, hm, e1, e2⟩
     ·have hre : M.R.re (rg M.r b) (iv S.r c).n (ds.getD M.drawn 0) M.pc = M.R := by unfold RSt.re; rw [if_neg hbad, if_pos (.inl m2)]; exact m5
      have hg : iGrow F S.drew (iv S.r b) (iv S.r c).n = S.drew := by unfold iGrow; rw [m4, if_pos (.inl rfl), m3]
      have hn : iNew F S (iv S.r c).n = ⟨0, 0⟩ := m4;rw [hre, hg, hn, show (mOut M.R (iv S.r c).n (ds.getD M.drawn 0)).1 = 0 from m1];exact .inr ⟨B, G, hD.reg a ha (VOk.num (by omega) (by omega) hD.tok)⟩
     ·have hlen := h.tok.len
      have hg : iGrow F S.drew (iv S.r b) (iv S.r c).n = ((S.drew.malloc F (iv S.r c).n).turn S.T.length (iCopied ((S.drew.malloc F (iv S.r c).n).th S.T.length).cells (S.drew.th (iv S.r b).of).cells)).free (iv S.r b).of := by
       unfold iGrow
       rw [e2, if_neg (by
        rintro (x | x)
        ·change S.T.length = 0 at x; omega
        ·exact nn x)]
       rfl
      have hn : iNew F S (iv S.r c).n = ⟨S.T.length, 0⟩ := e2;rw [hg, hn];obtain ⟨B', G', hL, hv⟩ := hD.grows (iv S.r b).of o1 o2 o3 (rg M.r b) o6 (iv S.r c).n (ds.getD M.drawn 0) k s h1 hk hkl hf hs hz hm e1;exact .inr ⟨B', G', hL.reg a ha hv⟩
   ·rw [IS.num_neg (S := S.drew) c e];refine .inl ?_;show (iGrow F (S.drew.ends 102) (iv S.r b) (iv S.r c).n).en = 102;rw [iGrow_en]; rfl
  ·rw [if_neg no]; exact .inl rfl
 ·rw [if_neg cd, if_neg cd]; exact .inr ⟨B, G, h.ends 4⟩
theorem like_do (h : LH F S M B G) (ds : List Int) (hd : ds.length = F.nd) (x : Ins) (n : Int) (hx : x.may n = true) : Comes F (iDo F S x) (mDo F.inp ds M x) := by
 have hop := op_cases (may_op hx);obtain ⟨o, a, b, c⟩ := x;simp only at hop
 rcases hop with rfl | rfl | rfl | rfl | rfl | rfl | rfl | rfl | rfl | rfl | rfl | rfl | rfl | rfl | rfl | rfl | rfl | rfl | rfl | rfl
 all_goals simp [Ins.may, mayB, opKinds, kindB, withinB] at hx
 all_goals simp only [mDo, iDo]
 all_goals simp
 ·exact like_halt h _ (by omega)
 ·exact like_set h _ (by omega) _ (by omega) (by omega)
 ·exact like_sums h 2 _ _ _ (by omega) (by omega) (by omega)
 ·exact like_sums h 3 _ _ _ (by omega) (by omega) (by omega)
 ·exact like_sums h 4 _ _ _ (by omega) (by omega) (by omega)
 ·exact like_sums h 5 _ _ _ (by omega) (by omega) (by omega)
 ·exact .inr ⟨B, G, h.goes _⟩
 ·exact like_zero h _ _ (by omega)
 ·exact like_in h _ (by omega)
 ·exact like_out h _ (by omega)
 ·exact like_base h _ (by omega) _ _ (by omega) (by omega) (by omega) (by omega)
 ·exact like_malloc h ds hd _ _ (by omega) (by omega)
 ·exact like_free h _ (by omega)
 ·exact like_realloc h ds hd _ _ _ (by omega) (by omega) (by omega)
 ·exact like_usable h _ _ (by omega) (by omega)
 ·exact like_load h _ _ _ (by omega) (by omega)
 ·exact like_byte h _ _ _ (by omega) (by omega)
 ·exact like_store h _ _ _ (by omega) (by omega)
 ·exact like_put h _ _ _ (by omega) (by omega)
 ·exact like_move h _ _ _ (by omega) (by omega) (by omega)
end
end Go.Proofs.YtjikemhmnkckcabGreat
