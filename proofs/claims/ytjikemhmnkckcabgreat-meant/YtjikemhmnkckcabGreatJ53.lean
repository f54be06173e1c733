import Derived.Test.YtjikemhmnkckcabGreatJ50
namespace Go.Proofs.YtjikemhmnkckcabGreat
open Go.RowKit
attribute [local go_sem ↓] Go.wp_at_zero Go.wp_at_succ
theorem own_shape {w : World} {e : TypeId} {size : Nat} {v : Value} {n : Nat} {xs : List Value} (h : w.ownsRow 0 e size v n xs) : ∃ a cap, v = .slice a n cap := by
 obtain ⟨_, ⟨rfl, rfl⟩ | ⟨g, cap, cur, rfl, _⟩⟩ := h
 ·exact ⟨none, 0, rfl⟩
 ·exact ⟨_, _, rfl⟩
theorem row_set16 {w : World} {e : TypeId} {size : Nat} {v : Value} {n : Nat} {xs : List Value} (h : w.ownsRow 0 e size v n xs) (b : Nat) (hb : ∀ g, v.ownBlock = some g → g ≠ b) (v0 v1 v2 v3 v4 v5 v6 v7 v8 v9 v10 v11 v12 v13 v14 v15 : Value) :
 ((((((((((((((((w.setCell ⟨b, 0, none⟩ v0).setCell ⟨b, 1, none⟩ v1).setCell ⟨b, 2, none⟩ v2).setCell ⟨b, 3, none⟩ v3).setCell ⟨b, 4, none⟩ v4).setCell ⟨b, 5, none⟩ v5).setCell ⟨b, 6, none⟩ v6).setCell ⟨b, 7, none⟩ v7).setCell ⟨b, 8, none⟩ v8).setCell ⟨b, 9, none⟩ v9).setCell ⟨b, 10, none⟩ v10).setCell ⟨b, 11, none⟩ v11).setCell ⟨b, 12, none⟩ v12).setCell ⟨b, 13, none⟩ v13).setCell ⟨b, 14, none⟩ v14).setCell ⟨b, 15, none⟩ v15).ownsRow 0 e size v n xs :=
 row_kept h fun g hg => by
  have hne := hb g hg
  repeat rw [Below.heap_setCell _ _ _ g hne]
set_option maxRecDepth 100000 in
set_option maxHeartbeats 6400000 in
theorem run_img (d inp : ByteArray) (da : Option Addr) (dcap : Nat) (ds : List Int) (fuel : Int) (w : World) (hd : (d.size : Int) ≤ 9223372036854775807) (hi : (inp.size : Int) ≤ 9223372036854775807) (hB : imgB d = true) (hdr : DRow w da dcap ds) :
 Calls Tryz.prog 6 #[.string d, .string inp, .slice da ds.length dcap, .int .i64 fuel] w fun e w' => ∃ vn, e = .returned (.agg (outOf (mFin d inp ds fuel) vn).toArray) ∧ NearRel w (mFin d inp ds fuel).rep.near vn w' := by
 obtain ⟨hv, hdt, hcp⟩ := img_parts hB;obtain ⟨hcode, hcl⟩ := img_code hB;have HCODE := hide2 hcode;have HV := hide2 hv;have HDT := hide2 hdt;have HBB := hide2 hB;have HDR := hide2 hdr;have HFN : Hid (mFin d inp ds fuel = mRun inp ds (pCode d) (mFuel fuel) 4097 (⟨(⟨byteAt d 2, byteAt d 3, pCls d, [], []⟩ : RSt).lays (pData d) (pData d).size, [0, 0, 0, 0, 0, 0, 0, 0], 0, 0, ⟨#[]⟩, 0, 0, 0, 0, 0, Rpt.only 0⟩ : MS)) := rfl;generalize mFin d inp ds fuel = Sf at *;clear hB hv hdt hdr hcode;go_enter Tryz.func6, Tryz.ntmps6;go_upto_region 1 with (fail);obtain ⟨wa, hwa⟩ : ∃ wa, wa = w.alloc (.cells (outC 0 0 0 0 0 ⟨#[]⟩ zRep).toArray 28) := ⟨_, rfl⟩
 have HBA : Hid (Below w.heap.size w wa) := by show Below _ _ _; rw [hwa]; exact (Below.refl _ _).alloc (Nat.le_refl _) _
 have HO : Hid (Blk wa w.heap.size 28 (outC 0 0 0 0 0 ⟨#[]⟩ zRep)) := by show Blk _ _ _ _; rw [hwa]; exact Blk.alloc _ _ _
 unfold outC zRep at hwa;simp only [List.cons_append, List.nil_append] at hwa;rw [← hwa];clear hwa;go_upto_region 2 with (go_at_call 13; refine (gread_any d wa hd).mono ?_; rintro e1 w1 ⟨a, cap, ia, icap, rfl, hrows, hbel, -⟩; obtain ⟨y0, y1, y2, y3, y4, y5⟩ := o_yes HBB.out; rw [y2, y4] at hrows; rw [y0, y1, y2, y3, y4, y5]; have HR1 := hide2 hrows; have HB1 := hide2 hbel; have HO1 := hide2 (HO.out.below hbel HO.out.lt); clear hbel hrows y0 y1 y2 y3 y4 y5);generalize byteAt d 2 = st at *;generalize byteAt d 3 = re at *;generalize pCls d = cls at *;generalize pData d = dt at *;generalize pCode d = code at *;obtain ⟨w2, hw2⟩ : ∃ w2, w2 = w1.alloc (.cells #[.int .i64 st, .int .i64 re, .slice a cls.length cap, .string dt, .slice ia code.length icap] 39) := ⟨_, rfl⟩
 have HX2 : Hid (Below w1.heap.size w1 w2) := by show Below _ _ _; rw [hw2]; exact (Below.refl _ _).alloc (Nat.le_refl _) _
 have HP2 : Hid (Blk w2 w1.heap.size 39 [.int .i64 st, .int .i64 re, .slice a cls.length cap, .string dt, .slice ia code.length icap]) := by show Blk _ _ _ _; rw [hw2]; exact Blk.alloc _ _ _
 rw [← hw2];have HO2 := hide2 (HO1.out.below HX2.out HO1.out.lt);have HR2 := hide2 (HR1.out.kept (fun g _ hg => HX2.out.block g hg));have hsz1 := HB1.out.size;have hsza := HBA.out.size;have HBL2 : Hid (Below w.heap.size w w2) := (HBA.out.trans (HB1.out.mono hsza)).trans (HX2.out.mono (by omega));clear hw2 HX2 HO1 HB1 HO HR1;have p0 := HP2.out.cell (j := 0) rfl;have p1 := HP2.out.cell (j := 1) rfl;have p2 := HP2.out.cell (j := 2) rfl;have p3 := HP2.out.cell (j := 3) rfl;have p4 := HP2.out.cell (j := 4) rfl;go_upto_region 5 with (go_at_call 14; refine (newMachine_any st re a cap cls dt ia code.length icap inp da ds.length dcap w2 (crow_of HR2.out.crow) HV.out HDT.out).mono ?_; rintro e1 w3 ⟨mb, ph, gc, bb, cs, rfl, hm, hg3, hok3, hb3, hmb, hft3⟩; have HM3 := hide2 hm; have HG3 := hide2 hg3; have HOK3 := hide2 hok3; have HFT3 := hide2 hft3; have HX3 := hide2 hb3; have HMB := hide2 hmb; clear hm hb3 hmb hg3 hok3 hft3);clear p0 p1 p2 p3 p4;have HO3 := hide2 (HO2.out.below HX3.out HO2.out.lt);have hol2 := HO2.out.lt;have hmw : w.heap.size ≠ mb := by have := HMB.out; omega
 have hmm := HMB.out;have hbl2 := HBL2.out.size;have HDR2 : Hid (DRow w2 da dcap ds) := HDR.out.kept HBL2.out.size (fun g _ _ hg => HBL2.out.block g hg)
 have HSB : Hid (SimB ⟨st, re, cs, dMem (List.replicate (16 * Cf.gran st cls cls.length).toNat 0) dt dt.size⟩ ((⟨st, re, cls, [], []⟩ : RSt).lays dt dt.size)) := by
  show SimB _ _;have hv := HV.out;have hdt := HDT.out;have hgr := gran_lo hv;exact (simB_start hv HOK3.out).lays dt dt.size (by show 16 + dt.size ≤ (List.replicate _ _).length; rw [List.length_replicate]; omega)
 have HMR : Hid (MRep ⟨mb, ph, gc, bb, ia, icap, code, inp, da, dcap, ds⟩ w2 w3 ⟨st, re, cs, dMem (List.replicate (16 * Cf.gran st cls cls.length).toNat 0) dt dt.size⟩ (.slice none 0 0) (.slice none 0 0) ⟨(⟨st, re, cls, [], []⟩ : RSt).lays dt dt.size, [0, 0, 0, 0, 0, 0, 0, 0], 0, 0, ⟨#[]⟩, 0, 0, 0, 0, 0, Rpt.only 0⟩) := by
  refine ⟨HM3.out, HG3.out, HSB.out, ⟨rfl, .inl ⟨rfl, rfl⟩⟩, ⟨rfl, .inl ⟨rfl, rfl⟩⟩, rfl, ?_, HX3.out, HMB.out, HFT3.out, fun g hg => by simp [Value.ownBlock] at hg, fun g hg => by simp [Value.ownBlock] at hg, irow_of HR2.out.irow, HDR2.out⟩;intro k hk;show -9223372036854775808 ≤ rg [0, 0, 0, 0, 0, 0, 0, 0] k ∧ rg [0, 0, 0, 0, 0, 0, 0, 0] k ≤ 9223372036854775807
  rcases k with _ | _ | _ | _ | _ | _ | _ | _ | k <;> first | (simp [rg]; done) | omega
 clear HM3 HG3 HOK3 HFT3 HSB HX3 HP2 HR2 HDR HDR2;go_upto_region 6 with (go_at_call 15; refine (run_any ⟨mb, ph, gc, bb, ia, icap, code, inp, da, dcap, ds⟩ w2 w3 _ _ _ _ fuel HMR.out HCODE.out hi (by show code.length ≤ 1048576; omega) rfl rfl).mono ?_; rintro e1 w4 ⟨rfl, G4, vo4, vn4, hm4⟩; rw [← HFN.out] at hm4; have HM4 := hide2 hm4; clear hm4);clear HMR;have HO4 : Hid (Blk w4 w.heap.size 28 (outC 0 0 0 0 0 ⟨#[]⟩ zRep)) := HO2.out.below HM4.out.below hol2;have HBL4 : Hid (Below w.heap.size w w4) := HBL2.out.trans (HM4.out.below.mono HBL2.out.size);clear HO3 HO2;obtain ⟨na, ncap, hvn⟩ := own_shape HM4.out.near;obtain ⟨r0, r1, r2, r3, r4, r5, r6, r7, hr, hb4⟩ := HM4.out.blk8;obtain ⟨fR, fr, fh, fd, fo, fp, fn, fs, fe, fx, y0, y1, y2, y3, y4, y5, y6, y7, y8, yl⟩ := Sf;simp only at hvn hb4;subst hvn;have hcall := outcome_any mb (.pointer (some ⟨ph, 0, none⟩)) (.slice ia code.length icap) r0 r1 r2 r3 r4 r5 r6 r7 inp fh (.slice da ds.length dcap) fd vo4 fp fn fs fe fx y0 y1 y2 y3 y4 y5 y6 y7 y8 na yl.length ncap fo w4 hb4 HM4.out.out;have HCALL := hide2 hcall;clear hcall hb4 hr;have HNR : Hid (w4.ownsRow 0 64 3 (.slice na yl.length ncap) yl.length (yl.flatMap nearCells)) := HM4.out.near;have HNF : Hid (∀ g, (Value.slice na yl.length ncap).ownBlock = some g → w2.heap.size ≤ g) := fun g hg => (HM4.out.hn g hg).1
 go_wp2_with (go_at_call 16; refine HCALL.out.mono ?_; rintro e1 w5 ⟨rfl, hb5⟩; have HB5 := hide2 hb5; have HO5 := hide2 (HO4.out.below hb5 HO4.out.lt); have HNR5 := hide2 (row_below HNR.out hb5 (own_lt HNR.out)); clear hb5; unfold outC; simp only [List.cons_append, List.nil_append]; have c0 := HO5.out.cell (j := 0) rfl; have c1 := HO5.out.cell (j := 1) rfl; have c2 := HO5.out.cell (j := 2) rfl; have c3 := HO5.out.cell (j := 3) rfl; have c4 := HO5.out.cell (j := 4) rfl; have c5 := HO5.out.cell (j := 5) rfl; have c6 := HO5.out.cell (j := 6) rfl; have c7 := HO5.out.cell (j := 7) rfl; have c8 := HO5.out.cell (j := 8) rfl; have c9 := HO5.out.cell (j := 9) rfl; have c10 := HO5.out.cell (j := 10) rfl; have c11 := HO5.out.cell (j := 11) rfl; have c12 := HO5.out.cell (j := 12) rfl; have c13 := HO5.out.cell (j := 13) rfl; have c14 := HO5.out.cell (j := 14) rfl; have c15 := HO5.out.cell (j := 15) rfl; have f0 := HO5.out.frozen 0; have f1 := HO5.out.frozen 1; have f2 := HO5.out.frozen 2; have f3 := HO5.out.frozen 3; have f4 := HO5.out.frozen 4; have f5 := HO5.out.frozen 5; have f6 := HO5.out.frozen 6; have f7 := HO5.out.frozen 7; have f8 := HO5.out.frozen 8; have f9 := HO5.out.frozen 9; have f10 := HO5.out.frozen 10; have f11 := HO5.out.frozen 11; have f12 := HO5.out.frozen 12; have f13 := HO5.out.frozen 13; have f14 := HO5.out.frozen 14; have f15 := HO5.out.frozen 15)
 have HOX : Hid (Blk w5 w.heap.size 28 [.int .i64 0, .int .i64 0, .int .i64 0, .int .i64 0, .int .i64 0, .string ⟨#[]⟩, .int .i64 0, .int .i64 0, .int .i64 0, .int .i64 0, .int .i64 0, .int .i64 0, .int .i64 0, .int .i64 0, .int .i64 0, .slice none 0 0]) := HO5.out;have HBL5 : Hid (Below w.heap.size w w5) := HBL4.out.trans (HB5.out.mono HBL4.out.size);have hgo : (outOf ⟨fR, fr, fh, fd, fo, fp, fn, fs, fe, fx, ⟨y0, y1, y2, y3, y4, y5, y6, y7, y8, yl⟩⟩ (.slice na yl.length ncap)) = [.int .i64 fe, .int .i64 fx, .int .i64 fs, .int .i64 fp, .int .i64 fd, .string fo, .int .i64 y0, .int .i64 y1, .int .i64 y2, .int .i64 y3, .int .i64 y4, .int .i64 y5, .int .i64 y6, .int .i64 y7, .int .i64 y8, .slice na yl.length ncap] := rfl;refine bodyPost_ret (v := .agg (outOf ⟨fR, fr, fh, fd, fo, fp, fn, fs, fe, fx, ⟨y0, y1, y2, y3, y4, y5, y6, y7, y8, yl⟩⟩ (.slice na yl.length ncap)).toArray) ?_ rfl ⟨.slice na yl.length ncap, rfl, ?_, ?_, ?_⟩
 ·rw [hgo];exact results_cell_row Tryz.results6 _ _ w.heap.size 28 _ (0, 0) _ rfl (blk_set16 HOX.out _ _ _ _ _ _ _ _ _ _ _ _ _ _ _ _) Tryz.underlying28 rfl (by kernel_rfl)
 ·exact below_set16 HBL5.out (Nat.le_refl _) _ _ _ _ _ _ _ _ _ _ _ _ _ _ _ _
 ·exact row_set16 HNR5.out w.heap.size (fun g hg => by have := HNF.out g hg; omega) _ _ _ _ _ _ _ _ _ _ _ _ _ _ _ _
 ·intro g hg;have := HNF.out g hg;omega
end Go.Proofs.YtjikemhmnkckcabGreat
namespace Go.Proofs.YtjikemhmnkckcabGreat
theorem rlies_err (R : RSt) (e a t : Int) : (rlies R e a t).err = e := by unfold rlies; split <;> rfl
theorem rblame_err (R : RSt) (q : Int) : (rblame R q).err = (Ref.block R.st R.cls R.log q).2.2 := by
 unfold rblame
 split
 ·rfl
 ·exact rlies_err ..
theorem rexplain_err (R : RSt) (q n : Int) : (rexplain R q n).err = (R.access q n).1 := by
 unfold rexplain
 split
 ·exact rlies_err ..
 ·rfl
structure DoOk (nd : Nat) (S S' : MS) : Prop where
 dr : S.drawn ≤ S'.drawn
 dl : S'.drawn ≤ nd
 pre : ∃ x, S'.out = S.out ++ x
 en : S'.en = 0 ∨ S'.en = 2 ∨ S'.en = 4 ∨ S'.en = 5
 e4 : S'.en = 4 → S'.drawn = nd
 ex : S'.ex ≠ 0 → S'.en = 2
 er : S'.rep.err ≠ 0 ↔ S'.en = 5
structure Fresh (nd : Nat) (S : MS) : Prop where
 en : S.en = 0
 ex : S.ex = 0
 er : S.rep.err = 0
 dl : S.drawn ≤ nd
theorem app_nil (b : ByteArray) : ∃ x, b = b ++ x := ⟨⟨#[]⟩, by apply ByteArray.ext; simp⟩
section
variable {nd : Nat} {S S' : MS}
theorem Fresh.goes_on (h : Fresh nd S) (he : S'.en = S.en) (hx : S'.ex = S.ex) (hr : S'.rep = S.rep) (hd : S'.drawn = S.drawn) (ho : S'.out = S.out) : DoOk nd S S' :=
 ⟨by omega, by rw [hd]; exact h.dl, by rw [ho]; exact app_nil _, by rw [he, h.en]; simp, by rw [he, h.en]; intro e; omega, by rw [hx, h.ex]; intro e; exact absurd rfl e, by rw [hr, h.er, he, h.en]; simp⟩
theorem Fresh.draws_on (h : Fresh nd S) (hl : S.drawn < nd) (he : S'.en = S.en) (hx : S'.ex = S.ex) (hr : S'.rep = S.rep) (hd : S'.drawn = S.drawn + 1) (ho : S'.out = S.out) : DoOk nd S S' :=
 ⟨by omega, by omega, by rw [ho]; exact app_nil _, by rw [he, h.en]; simp, by rw [he, h.en]; intro e; omega, by rw [hx, h.ex]; intro e; exact absurd rfl e, by rw [hr, h.er, he, h.en]; simp⟩
theorem Fresh.faults (h : Fresh nd S) (he : S'.en = 5) (hx : S'.ex = S.ex) (hr : S'.rep.err ≠ 0) (hd : S.drawn ≤ S'.drawn) (hd2 : S'.drawn ≤ nd) (ho : S'.out = S.out) : DoOk nd S S' :=
 ⟨hd, hd2, by rw [ho]; exact app_nil _, by rw [he]; simp, by rw [he]; intro e; omega, by rw [hx, h.ex]; intro e; exact absurd rfl e, by rw [he]; exact ⟨fun _ => rfl, fun _ => hr⟩⟩
theorem Fresh.no_draw (h : Fresh nd S) (hl : ¬ S.drawn < nd) : DoOk nd S (S.ends 4) := by
 have := h.dl;exact ⟨Nat.le_refl _, h.dl, app_nil _, .inr (.inr (.inl rfl)), fun _ => by show S.drawn = nd; omega, fun e => absurd h.ex e, ⟨fun e => absurd h.er e, fun e => absurd e (by show ¬ (4 : Int) = 5; omega)⟩⟩
end
theorem runUsable_err {R : RSt} {q : Int} (h : ¬ (R.usable q).2 = 0) : (rblame R q).err ≠ 0 := by
 rw [rblame_err];unfold RSt.usable at h
 by_cases e : (Ref.block R.st R.cls R.log q).2.2 ≠ 0
 ·exact e
 ·rw [if_neg e] at h; exact absurd rfl h
theorem runLoad_err {R : RSt} {q n : Int} (hn : n = 1 ∨ n = 8) (h : ¬ (R.load q n).2 = 0) : (rexplain R q n).err ≠ 0 := by
 rw [rexplain_err];unfold RSt.load at h;rw [if_neg (by rcases hn with rfl | rfl <;> decide)] at h
 by_cases e : (R.access q n).1 ≠ 0
 ·exact e
 ·rw [if_neg e] at h; exact absurd rfl h
theorem runStore_err {R : RSt} {q n v : Int} (hn : n = 1 ∨ n = 8) (h : ¬ R.storeErr q n = 0) : (rexplain (R.store q n v) q n).err ≠ 0 := by
 rw [rexplain_err];unfold RSt.store;rw [if_neg h];unfold RSt.storeErr at h;rw [if_neg (by rcases hn with rfl | rfl <;> decide)] at h;exact h
theorem runFree_err {R : RSt} {q site : Int} (h : ¬ fOut R q = 0) : (rblame (fR R q site) q).err ≠ 0 := by
 unfold fOut at h
 by_cases hq : q = 0
 ·rw [if_pos hq] at h; exact absurd rfl h
 ·rw [if_neg hq] at h;unfold fR;rw [if_neg (fun e => h e.2), rblame_err];exact h
theorem do_ok {inp : ByteArray} {ds : List Int} {S : MS} (x : Ins) (h : Fresh ds.length S) : DoOk ds.length S (mDo inp ds S x) := by
 unfold mDo;refine ite_of (fun _ => ?_) (fun _ => ?_)
 ·exact ⟨Nat.le_refl _, h.dl, app_nil _, .inr (.inl rfl), fun e => absurd e (by show ¬ (2 : Int) = 4; omega), fun _ => rfl, ⟨fun e => absurd h.er e, fun e => absurd e (by show ¬ (2 : Int) = 5; omega)⟩⟩
 refine ite_of (fun _ => h.goes_on rfl rfl rfl rfl rfl) (fun _ => ?_);refine ite_of (fun _ => h.goes_on rfl rfl rfl rfl rfl) (fun _ => ?_);refine ite_of (fun _ => ?_) (fun _ => ?_)
 ·unfold dZero;exact ite_of (fun _ => h.goes_on rfl rfl rfl rfl rfl) (fun _ => h.goes_on rfl rfl rfl rfl rfl)
 refine ite_of (fun _ => h.goes_on rfl rfl rfl rfl rfl) (fun _ => ?_);refine ite_of (fun _ => ?_) (fun _ => ?_)
 ·have g := h.goes_on (S' := S) rfl rfl rfl rfl rfl;exact ⟨g.dr, g.dl, ⟨_, rfl⟩, g.en, g.e4, g.ex, g.er⟩
 refine ite_of (fun _ => h.goes_on rfl rfl rfl rfl rfl) (fun _ => ?_);refine ite_of (fun _ => ?_) (fun _ => ?_)
 ·unfold dMalloc;exact ite_of (fun hl => h.draws_on hl rfl rfl rfl rfl rfl) (fun hl => h.no_draw hl)
 refine ite_of (fun _ => ?_) (fun _ => ?_)
 ·unfold dFree;exact ite_of (fun _ => h.goes_on rfl rfl rfl rfl rfl) (fun he => h.faults rfl rfl (runFree_err he) (Nat.le_refl _) h.dl rfl)
 refine ite_of (fun _ => ?_) (fun _ => ?_)
 ·unfold dRealloc;refine ite_of (fun hl => ite_of (fun hb => ?_) (fun _ => h.draws_on hl rfl rfl rfl rfl rfl)) (fun hl => h.no_draw hl);exact h.faults rfl rfl (by show (rblame _ _).err ≠ 0; rw [rblame_err]; exact hb.2) (Nat.le_succ _) hl rfl
 refine ite_of (fun _ => ?_) (fun _ => ?_)
 ·unfold dUsable;exact ite_of (fun _ => h.goes_on rfl rfl rfl rfl rfl) (fun he => h.faults rfl rfl (runUsable_err he) (Nat.le_refl _) h.dl rfl)
 refine ite_of (fun _ => ?_) (fun _ => ?_)
 ·unfold dLoad;exact ite_of (fun _ => h.goes_on rfl rfl rfl rfl rfl) (fun he => h.faults rfl rfl (runLoad_err (.inr rfl) he) (Nat.le_refl _) h.dl rfl)
 refine ite_of (fun _ => ?_) (fun _ => ?_)
 ·unfold dLoad;exact ite_of (fun _ => h.goes_on rfl rfl rfl rfl rfl) (fun he => h.faults rfl rfl (runLoad_err (.inl rfl) he) (Nat.le_refl _) h.dl rfl)
 refine ite_of (fun _ => ?_) (fun _ => ?_)
 ·unfold dStore;exact ite_of (fun _ => h.goes_on rfl rfl rfl rfl rfl) (fun he => h.faults rfl rfl (runStore_err (.inr rfl) he) (Nat.le_refl _) h.dl rfl)
 refine ite_of (fun _ => ?_) (fun _ => ?_)
 ·unfold dStore;exact ite_of (fun _ => h.goes_on rfl rfl rfl rfl rfl) (fun he => h.faults rfl rfl (runStore_err (.inl rfl) he) (Nat.le_refl _) h.dl rfl)
 refine ite_of (fun _ => ?_) (fun _ => ?_)
 ·unfold dMove;refine ite_of (fun _ => h.goes_on rfl rfl rfl rfl rfl) (fun he => ite_of (fun ha => ?_) (fun ha => ?_))
  ·refine h.faults rfl rfl ?_ (Nat.le_refl _) h.dl rfl;show (rexplain _ _ _).err ≠ 0;rw [rexplain_err];intro e;apply he;unfold RSt.moveErr;rw [if_neg (by simpa using ha)];exact e
  ·refine h.faults rfl rfl ?_ (Nat.le_refl _) h.dl rfl;show (rexplain _ _ _).err ≠ 0;rw [rexplain_err];exact ha
 exact h.goes_on rfl rfl rfl rfl rfl
theorem step_ok {inp : ByteArray} {ds : List Int} (code : List Ins) {S : MS} (h : Fresh ds.length S) : DoOk ds.length S (mStep inp ds code S) := by
 have hd : DoOk ds.length S (mDo inp ds (S.stepped.goes (S.pc + 1)) (code.getD S.pc Ins.no)) := by
  have := do_ok (inp := inp) (S := S.stepped.goes (S.pc + 1)) (code.getD S.pc Ins.no) ⟨h.en, h.ex, h.er, h.dl⟩;exact ⟨this.dr, this.dl, this.pre, this.en, this.e4, this.ex, this.er⟩
 unfold mStep;exact ite_of (fun _ => ⟨hd.dr, hd.dl, hd.pre, hd.en, hd.e4, hd.ex, hd.er⟩) (fun _ => hd)
structure RunOk (nd : Nat) (f : Int) (S Sf : MS) : Prop where
 en : Sf.en = 2 ∨ Sf.en = 3 ∨ Sf.en = 4 ∨ Sf.en = 5
 st : (Sf.steps : Int) ≤ f
 dl : Sf.drawn ≤ nd
 ou : Sf.out.size ≤ Sf.steps
 e3 : Sf.en = 3 → (Sf.steps : Int) = f
 e4 : Sf.en = 4 → Sf.drawn = nd
 ex : Sf.ex ≠ 0 → Sf.en = 2
 er : Sf.rep.err ≠ 0 ↔ Sf.en = 5
 sle : S.steps ≤ Sf.steps
 dle : S.drawn ≤ Sf.drawn
 pre : ∃ x, Sf.out = S.out ++ x
theorem pre_trans {a b c : ByteArray} (h1 : ∃ x, b = a ++ x) (h2 : ∃ x, c = b ++ x) : ∃ x, c = a ++ x := by
 obtain ⟨x, rfl⟩ := h1;obtain ⟨y, rfl⟩ := h2;exact ⟨x ++ y, by apply ByteArray.ext; simp⟩
theorem run_ok {inp : ByteArray} {ds : List Int} {code : List Ins} {f : Int} (f1 : f ≤ 4096) (k : Nat) : ∀ S, Fresh ds.length S → S.out.size ≤ S.steps → (S.steps : Int) ≤ f → 4097 ≤ S.steps + k → RunOk ds.length f S (mRun inp ds code f k S) := by
 induction k with
 | zero => intro S _ _ h1 h2; omega
 | succ k ih =>
   intro S h ho hs hk
   by_cases hp : code.length ≤ S.pc
   ·rw [mRun_over h.en hp (by omega)];exact ⟨.inl rfl, hs, h.dl, ho, fun e => absurd e (by show ¬ (2 : Int) = 3; omega), fun e => absurd e (by show ¬ (2 : Int) = 4; omega), fun _ => rfl, ⟨fun e => absurd h.er e, fun e => absurd e (by show ¬ (2 : Int) = 5; omega)⟩, Nat.le_refl _, Nat.le_refl _, app_nil _⟩
   ·by_cases hf : f ≤ S.steps
    ·rw [mRun_out h.en hp hf (by omega)];exact ⟨.inr (.inl rfl), hs, h.dl, ho, fun _ => by show (S.steps : Int) = f; omega, fun e => absurd e (by show ¬ (3 : Int) = 4; omega), fun e => absurd h.ex e, ⟨fun e => absurd h.er e, fun e => absurd e (by show ¬ (3 : Int) = 5; omega)⟩, Nat.le_refl _, Nat.le_refl _, app_nil _⟩
    ·rw [mRun_step h.en hp hf];have hd := step_ok (inp := inp) code h;have hst := mStep_steps inp ds code S;have hot := mStep_out inp ds code S
     by_cases he : (mStep inp ds code S).en = 0
     ·have hfr : Fresh ds.length (mStep inp ds code S) := by
       refine ⟨he, ?_, ?_, hd.dl⟩
       ·by_cases e : (mStep inp ds code S).ex = 0
        ·exact e
        ·have := hd.ex e; omega
       ·by_cases e : (mStep inp ds code S).rep.err = 0
        ·exact e
        ·have := hd.er.1 e; omega
      have hr := ih _ hfr (by omega) (by omega) (by omega);exact ⟨hr.en, hr.st, hr.dl, hr.ou, hr.e3, hr.e4, hr.ex, hr.er, by have := hr.sle; omega, Nat.le_trans hd.dr hr.dle, pre_trans hd.pre hr.pre⟩
     ·rw [mRun_en he];exact ⟨by rcases hd.en with e | e | e | e; exact absurd e he; exact .inl e; exact .inr (.inr (.inl e)); exact .inr (.inr (.inr e)), by omega, hd.dl, by omega, fun e => by rcases hd.en with e2 | e2 | e2 | e2 <;> omega, hd.e4, hd.ex, hd.er, by omega, hd.dr, hd.pre⟩
theorem beg_fresh (d : ByteArray) (nd : Nat) : Fresh nd (mBeg d) := ⟨rfl, rfl, rfl, Nat.zero_le _⟩
theorem fuel_ok (d inp : ByteArray) (ds : List Int) (fuel : Int) (f0 : 0 ≤ fuel) : RunOk ds.length (mFuel fuel) (mBeg d) (mFin d inp ds fuel) :=
 run_ok (by unfold mFuel; split <;> omega) 4097 _ (beg_fresh d _) (Nat.le_refl _) (by show ((0 : Nat) : Int) ≤ mFuel fuel; unfold mFuel; split <;> omega) (by show 4097 ≤ 0 + 4097; omega)
end Go.Proofs.YtjikemhmnkckcabGreat
namespace Go.Proofs.YtjikemhmnkckcabGreat
open Go.RowKit
attribute [local go_sem ↓] Go.wp_at_zero Go.wp_at_succ
end Go.Proofs.YtjikemhmnkckcabGreat
namespace Go.Proofs.YtjikemhmnkckcabGreat
open Go.RowKit
def insIn (code : List Ins) : Prop := ∀ i, i < code.length → (-9223372036854775808 ≤ (code.getD i Ins.no).op ∧ (code.getD i Ins.no).op ≤ 9223372036854775807) ∧ (-9223372036854775808 ≤ (code.getD i Ins.no).a ∧ (code.getD i Ins.no).a ≤ 9223372036854775807) ∧
 (-9223372036854775808 ≤ (code.getD i Ins.no).b ∧ (code.getD i Ins.no).b ≤ 9223372036854775807) ∧ (-9223372036854775808 ≤ (code.getD i Ins.no).c ∧ (code.getD i Ins.no).c ≤ 9223372036854775807)
def partV (k v n : Int) : Int := if k = 82 then kpick v 8 else if k = 66 then kpick v 256 else if k = 84 then kpick v n else 0
theorem partV_ok (k v n : Int) (hn : 0 < n) : kindB k (partV k v n) n = true := by
 unfold kindB partV withinB
 split
 ·have := kpick_bd v 8 (by omega); simp; omega
 ·split
  ·have := kpick_bd v 256 (by omega); simp; omega
  ·split
   ·have := kpick_bd v n hn; simp; omega
   ·simp
def tidyI (x : Ins) (n : Int) : Ins := match opKinds (kpick x.op 20) with
 | [k1, k2, k3] => ⟨kpick x.op 20, partV k1 x.a n, partV k2 x.b n, partV k3 x.c n⟩
 | _ => x
theorem tidyI_may (x : Ins) (n : Int) (hn : 0 < n) : (tidyI x n).may n = true := by
 have hb := kpick_bd x.op 20 (by omega)
 obtain ⟨k1, k2, k3, hk⟩ : ∃ k1 k2 k3 : Nat, opKinds (kpick x.op 20) = [k1, k2, k3] := by
  rcases opKinds_some (op := kpick x.op 20) (by omega) with e | e | e | e | e | e | e <;> exact ⟨_, _, _, e⟩
 unfold tidyI;rw [hk];unfold Ins.may mayB;simp only;rw [hk];simp only [partV_ok _ _ _ hn, Bool.and_self]
set_option maxRecDepth 100000 in
set_option maxHeartbeats 1600000 in
theorem parts_any (op : Int) (w : World) (h : ¬ (op < 0 ∨ 19 < op)) : Calls Tryz.prog 43 #[.int .i64 op] w fun e w' => e = .returned (kindsV op) ∧ w = w' := by
 rcases op_cases h with rfl | rfl | rfl | rfl | rfl | rfl | rfl | rfl | rfl | rfl | rfl | rfl | rfl | rfl | rfl | rfl | rfl | rfl | rfl | rfl
 all_goals
  clear h;go_enter Tryz.func43, Tryz.ntmps43;go_wp2;go_ret;exact ⟨rfl, rfl⟩
set_option maxRecDepth 100000 in
set_option maxHeartbeats 1600000 in
theorem part_any (k v n : Int) (w : World) (hn : 0 < n) (v0 : -9223372036854775808 ≤ v) (v1 : v ≤ 9223372036854775807) : Calls Tryz.prog 44 #[.int .u8 k, .int .i64 v, .int .i64 n] w fun e w' => e = .returned (.int .i64 (partV k v n)) ∧ w = w' := by
 have HF : Hid (partV k v n = if k = 82 then kpick v 8 else if k = 66 then kpick v 256 else if k = 84 then kpick v n else 0) := rfl;generalize partV k v n = res at *
 by_cases c1 : k = 82
 ·rw [if_pos c1] at HF;subst c1;go_enter Tryz.func44, Tryz.ntmps44
  go_wp2_with (go_at_call 42; refine (kpick_any v 8 _ (by omega) v0 v1).mono ?_; rintro e1 w1 ⟨rfl, rfl⟩)
  go_ret;exact ⟨by rw [HF.out]; rfl, rfl⟩
 ·rw [if_neg c1] at HF;have b1 : (k == 82) = false := by rw [beq_eq_false_iff_ne]; exact c1
  by_cases c2 : k = 66
  ·rw [if_pos c2] at HF;subst c2;go_enter Tryz.func44, Tryz.ntmps44
   go_wp2_with (go_at_call 42; refine (kpick_any v 256 _ (by omega) v0 v1).mono ?_; rintro e1 w1 ⟨rfl, rfl⟩)
   go_ret;exact ⟨by rw [HF.out]; rfl, rfl⟩
  ·rw [if_neg c2] at HF;have b2 : (k == 66) = false := by rw [beq_eq_false_iff_ne]; exact c2
   by_cases c3 : k = 84
   ·rw [if_pos c3] at HF;subst c3;go_enter Tryz.func44, Tryz.ntmps44
    go_wp2_with (go_at_call 42; refine (kpick_any v n _ hn v0 v1).mono ?_; rintro e1 w1 ⟨rfl, rfl⟩)
    go_ret;exact ⟨by rw [HF.out]; rfl, rfl⟩
   ·rw [if_neg c3] at HF;have b3 : (k == 84) = false := by rw [beq_eq_false_iff_ne]; exact c3
    clear c1 c2 c3;go_enter Tryz.func44, Tryz.ntmps44;go_wp2;go_ret;exact ⟨by rw [HF.out]; rfl, rfl⟩
def tidyN (code : List Ins) : Nat := if 255 < code.length then 255 else code.length
def tidyTo (code : List Ins) (m : Nat) : List Ins := (List.range m).map fun i => tidyI (code.getD i Ins.no) (tidyN code)
def tidyC (code : List Ins) : List Ins := if code.length = 0 then [⟨0, 0, 0, 0⟩] else tidyTo code (tidyN code)
def tidyM (st : Int) : Int := if 255 < 16 * st then 255 else 16 * st
def tidyD (st : Int) (d : ByteArray) : ByteArray := if tidyM st < d.size then d.extract 0 (tidyM st).toNat else d
theorem codeB_of {code : List Ins} {k : Nat} (h : ∀ i, i < k → (code.getD i Ins.no).may code.length = true) : codeB code k = true := by
 induction k with
 | zero => rfl
 | succ k ih => simp only [codeB, ih (fun i hi => h i (by omega)), h k (by omega), Bool.and_self]
theorem tidy_sound (st rest : Int) (cls : List (Int × Int)) (d : ByteArray) (code : List Ins) (s0 : 0 ≤ st) (s1 : st ≤ 16) (r0 : 0 ≤ rest) (r1 : rest ≤ 16) : soundB st rest (kfit cls) (tidyD st d).size (tidyC code) = true := by
 have hd : (tidyD st d).size ≤ 255 ∧ ((tidyD st d).size : Int) ≤ st * 16 := by
  have hm : 0 ≤ tidyM st ∧ tidyM st ≤ 255 ∧ tidyM st ≤ 16 * st := by unfold tidyM; split <;> omega
  unfold tidyD
  split
  ·rw [ByteArray.size_extract]; omega
  ·omega
 have hc : withinB (tidyC code).length 1 255 = true ∧ codeB (tidyC code) (tidyC code).length = true := by
  unfold tidyC
  split
  ·exact ⟨by decide, by decide⟩
  ·rename_i hn
   have hl : (tidyTo code (tidyN code)).length = tidyN code := by simp [tidyTo]
   have hN : 1 ≤ tidyN code ∧ tidyN code ≤ 255 := by unfold tidyN; split <;> omega
   refine ⟨by rw [hl]; unfold withinB; simp; omega, codeB_of fun i hi => ?_⟩;rw [hl] at hi ⊢;have : (tidyTo code (tidyN code)).getD i Ins.no = tidyI (code.getD i Ins.no) (tidyN code) := by simp [tidyTo, List.getD_eq_getElem?_getD, hi]
   rw [this];exact tidyI_may _ _ (by omega)
 unfold soundB;rw [Cf.validB_of (kfit_valid st rest cls s0 s1 r0 r1), hc.1, hc.2];simp [hd.1, hd.2]
end Go.Proofs.YtjikemhmnkckcabGreat
