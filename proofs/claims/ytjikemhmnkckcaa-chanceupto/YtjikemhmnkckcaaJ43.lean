import Derived.Test.YtjikemhmnkckcaaJ31
import Derived.Deep.RegionHeld3
/- The program's Realloc. -/
namespace Go.Proofs.Ytjikemhmnkckcaa
open Go.RowKit

set_option maxRecDepth 100000 in
set_option maxHeartbeats 1600000 in
theorem greal_ok (p : Nat) (vc : Value) (bb : Nat) (G : GSt) (R : RSt) (q size draw site : Int) (k s k' s' tg : Nat) (w : World) (h : GRep w p vc bb G) (hs : SimB G R) (q1 : q ≤ 9223372036854775807) (hq : q ≠ 0) (hr : ReOk G R q size draw site k s k' s' tg) :
    Calls Try.prog 108 #[.pointer (some ⟨p, 0, none⟩), .int .i64 q, .int .i64 size, .int .i64 draw, .int .i64 site] w fun e w' => e = .returned (.tuple #[.int .i64 (mOut R size draw).1, .int .i64 0]) ∧ GRep w' p vc bb (reG G R q size draw site) ∧ Kept w w' (GFoot p vc bb G) := by
  have hq0 : (q == 0) = false := by rw [beq_eq_false_iff_ne]; exact hq
  have HR := hide2 h
  have HS := hide2 hs
  have HRE := hide2 hr
  have HBL : Hid (gblock G R.cls q = ((k : Int), (s : Int), 0)) := (hs.sim.block q).trans hr.old
  have HM2 : Hid ((mOut R size draw).2 = 0) := by show _ = _; rw [hr.out]
  have hs1 := hs.malloc size draw site
  have HS1 := hide2 hs1
  have hc1 : (mR R size draw site).cls = R.cls := by rw [hr.mr]
  obtain ⟨z, z0, z1, hbz, hn⟩ := hr.n hs
  have hfz := gsz_fit hr.h1 hr.hz
  have hg8 := hs.sim.ok.conf.g1 k' hr.hk'
  have hg8o := hs.sim.ok.conf.g1 k hr.hk
  have hbn := hr.bnew hs
  have hbo := hr.bold hs
  have hoa := hr.oldAt hs
  have hat := hr.out_at hs
  have hml := mG_memlen G R size draw site
  have q0 : 0 ≤ q := ((tame_iff q).1 hoa.1).1
  have m0 : 0 ≤ (mOut R size draw).1 := (mOut_bd hs.sim.rok size draw).1
  have HF : Hid (reG G R q size draw site = fG ⟨(mG G R size draw site).st, (mG G R size draw site).rest, (mG G R size draw site).cs, copyTo (mG G R size draw site).mem ((mOut R size draw).1 % 72057594037927936).toNat (q % 72057594037927936).toNat (R.reN q size draw site)⟩
    ((mR R size draw site).copies ((mOut R size draw).1 % 72057594037927936) (q % 72057594037927936) (R.reN q size draw site)) q site) := by
    show _ = _
    unfold reG
    rw [if_neg (fun x => x.2 (by rw [hr.old])), if_neg (by rintro (x | x); exact x HM2.out; exact hq x)]
  obtain ⟨a, ha⟩ := Int.eq_ofNat_of_zero_le (show 0 ≤ (mOut R size draw).1 % 72057594037927936 by omega)
  obtain ⟨b, hb⟩ := Int.eq_ofNat_of_zero_le (show 0 ≤ q % 72057594037927936 by omega)
  have hfg : ∀ mm : List Int, fG ⟨(mG G R size draw site).st, (mG G R size draw site).rest, (mG G R size draw site).cs, mm⟩ ((mR R size draw site).copies (a : Int) (b : Int) (R.reN q size draw site)) q site =
      GSt.withSlots ⟨(mG G R size draw site).st, (mG G R size draw site).rest, (mG G R size draw site).cs, mm⟩ k (freed ((mG G R size draw site).cs.getD k GCls.no).slots s (mG G R size draw site).rest site) := fun mm => by
    have hcs := (mR R size draw site).copies_same (a : Int) (b : Int) (R.reN q size draw site)
    unfold fG
    rw [hcs.1, hcs.2.2.1, hcs.2.2.2.1, hr.old1 hs, if_pos ⟨hq, rfl⟩]
    rfl
  rw [ha, hb, Int.toNat_natCast, Int.toNat_natCast, hfg] at HF
  clear hfg
  have hlenI : (mG G R size draw site).mem.length = G.mem.length := hml
  have fit1 : a + R.reN q size draw site ≤ (mG G R size draw site).mem.length := by omega
  have fit2 : b + R.reN q size draw site ≤ (mG G R size draw site).mem.length := by omega
  have fit3 : a < (mG G R size draw site).mem.length := by omega
  have fit4 : b < (mG G R size draw site).mem.length := by omega
  have hkl1 : k < (mG G R size draw site).cs.length := by rw [hs1.sim.ok.len, hc1]; exact hr.hk
  have hsl1 : s < ((mG G R size draw site).cs.getD k GCls.no).slots.length := by rw [hs1.sim.len (by rw [hc1]; exact hr.hk), hc1]; exact hr.hs
  have hl4 : (mG G R size draw site).cs.length ≤ 4 := by have := hs1.sim.ok.conf.n1; have := hs1.sim.ok.len; omega
  have hx16 : ((mG G R size draw site).cs.getD k GCls.no).slots.length ≤ 16 := by have := hs1.sim.ok.sl k (by rw [hc1]; exact hr.hk); have := hs1.sim.ok.conf.s1 k (by rw [hc1]; exact hr.hk); omega
  have HRS : Hid (∀ j, j < ((mG G R size draw site).cs.getD k GCls.no).slots.length → (((mG G R size draw site).cs.getD k GCls.no).slots.getD j GSlot.no).rest ≤ 16) := fun j hj => hs1.sim.rest_le (by rw [hc1]; exact hr.hk) j hj
  have HFT : Hid (∀ x, GFoot p vc bb (mG G R size draw site) x ↔ GFoot p vc bb G x) := fun x => mG_foot hs.sim size draw site p vc bb x
  have hsz1 := hr.h1
  have hsz8 : size ≤ 128 := by have := hr.hz; omega
  have HSM := hide2 hs1.sim.small
  have HMAL : Hid (∀ w1, GRep w1 p vc bb G → Calls Try.prog 29 #[.pointer (some ⟨p, 0, none⟩), .int .i64 size, .int .i64 draw, .int .i64 site] w1 fun e w' => e = .returned (.tuple #[.int .i64 (mOut R size draw).1, .int .i64 0]) ∧ GRep w' p vc bb (mG G R size draw site) ∧ Kept w1 w' (GFoot p vc bb G)) := fun w1 hw1 => by
    refine (gmalloc_all p vc bb G R size draw site w1 hw1 HS.out.sim).mono ?_
    rintro e w' ⟨rfl, hx, hy⟩
    exact ⟨by rw [HM2.out], hx, hy⟩
  obtain ⟨bz, hbz'⟩ := Int.eq_ofNat_of_zero_le (show 0 ≤ 16 * z by omega)
  obtain ⟨zz, hzz⟩ := Int.eq_ofNat_of_zero_le (show 0 ≤ 16 * Ref.gsz size by omega)
  have HZZ := hide2 hzz
  have HNN : Hid (R.reN q size draw site = min bz zz) := by show _ = _; omega
  rw [hbz'] at hbz
  have hbz8 : bz ≤ 128 := by omega
  have hzz8 : zz ≤ 128 := by omega
  have HXX := hide2 hx16
  clear h hs hr hs1 hml hlenI hoa hbn hbo hat hn hbz' hfz hg8 hg8o hzz
  rw [HNN.out] at HF fit1 fit2
  generalize mG G R size draw site = G1 at *
  generalize (mOut R size draw).1 = qn at *
  go_enter Try.func108, Try.ntmps108
  go_wp2_with fail
  refine (blockOf_all p vc bb G R.rest R.cls q w HR.out HS.out.sim.ok q1).mono ?_
  rw [HBL.out]
  rintro e1 w1 ⟨rfl, hb1⟩
  go_wp2_with fail
  refine (HMAL.out w1 (HR.out.below hb1)).mono ?_
  rintro e1 w2 ⟨rfl, hG2, hk2⟩
  have HG2 := hide2 hG2
  have HK2 := hide2 ((Kept.of_below hb1 _).trans hk2)
  clear hk2
  obtain ⟨g, cap, rfl, hmax, hgl, c2, d2, x2⟩ := hG2.slotBytes k s hkl1 hsl1
  have c1 := hG2.blk.cell (j := 1) rfl
  have hp := hG2.blk.lt
  have HBK := hide2 (hG2.slots k hkl1)
  have hsb := (hG2.slots k hkl1).lt
  unfold maxLen at hmax
  rw [hbz] at x2
  have hkI : (k : Int) < (G1.cs.length : Int) := by omega
  have hsI : (s : Int) < ((G1.cs.getD k GCls.no).slots.length : Int) := by omega
  have hgs : g ≠ (G1.cs.getD k GCls.no).sb := fun e => (hG2.apS k hkl1).2.2 (by rw [← e]; rfl)
  have hps : p ≠ (G1.cs.getD k GCls.no).sb := fun e => (hG2.apS k hkl1).1 e.symm
  have hbs : (G1.cs.getD k GCls.no).sb ≠ bb := (hG2.apS k hkl1).2.1
  have hpb : p ≠ bb := fun e => hG2.apB e.symm
  have hgb : g ≠ bb := fun e => hG2.apCB (by rw [← e]; rfl)
  have HSL := hide2 (show (freed (G1.cs.getD k GCls.no).slots s G1.rest site).length = (G1.cs.getD k GCls.no).slots.length from freed_len _ _ _ _)
  clear hG2
  generalize hsbe : (G1.cs.getD k GCls.no).sb = sb at *
  generalize hxs : (G1.cs.getD k GCls.no).slots = xs at *
  have HSB := hide2 hsbe
  have HXS := hide2 hxs
  clear hsbe hxs hbz
  have fin : ∀ (w3 : World) (n : Nat), n = min bz zz → GRep w3 p (.slice (some ⟨g, 0, none⟩) G1.cs.length cap) bb ⟨G1.st, G1.rest, G1.cs, copyTo G1.mem a b n⟩ → Kept w2 w3 (· = bb) → ∀ w4, Blk w4 sb 79 ((freed xs s G1.rest site).flatMap slotCells) → Kept w3 w4 (· = sb) →
      GRep w4 p (.slice (some ⟨g, 0, none⟩) G1.cs.length cap) bb (reG G R q size draw site) ∧ Kept w w4 (GFoot p (.slice (some ⟨g, 0, none⟩) G1.cs.length cap) bb G) := fun w3 n hnn hG3 hk3 w4 hb4 hk4 => by
    constructor
    · rw [HF.out, ← hnn]
      exact hG3.setSlots k hkl1 _ (by show _ = (G1.cs.getD k GCls.no).slots.length; rw [HXS.out]; exact HSL.out) (by show Kept w3 w4 (fun b => b = (G1.cs.getD k GCls.no).sb); rw [HSB.out]; exact hk4) (by show Blk w4 (G1.cs.getD k GCls.no).sb _ _; rw [HSB.out]; exact hb4)
    · refine HK2.out.trans ((hk3.mono fun x _ hx => .inr (.inr (.inl hx))).trans (hk4.mono fun x _ hx => ?_))
      exact (HFT.out x).1 (.inr (.inr (.inr ⟨k, hkl1, hx.trans HSB.out.symm⟩)))
  have FIN := hide2 fin
  clear fin
  by_cases hcase : bz < zz
  · have hI : (bz : Int) < (zz : Int) := by omega
    have hmin : min bz zz = bz := by omega
    rw [hmin] at fit1 fit2
    go_wp2_with fail
    refine (whole_any size w2 hsz1 hsz8).mono ?_
    rw [HZZ.out]
    rintro e1 w3 ⟨rfl, rfl⟩
    go_wp2_with fail
    refine (copyBytes_any p _ bb G1 a b bz w2 HG2.out fit1 fit2 fit3 fit4 HSM.out).mono ?_
    rintro e1 w3 ⟨rfl, hG3, hk3⟩
    have c1' := (World.cell?_of_block (a := ⟨p, 1, none⟩) (hk3.block p hp hpb)).trans c1
    have c2' := (World.cell?_of_block (a := ⟨p, 2, none⟩) (hk3.block p hp hpb)).trans c2
    have d2' := (World.cell?_of_block (a := ⟨g, k * 3 + 2, none⟩) (hk3.block g hgl hgb)).trans d2
    have HB3 : Hid (Blk w3 sb 79 (xs.flatMap slotCells)) := (hk3.block sb hsb hbs).trans HBK.out
    have HG3 := hide2 hG3
    have HK3 := hide2 hk3
    have hp3 : p < w3.heap.size := Nat.lt_of_lt_of_le hp hk3.size
    clear c1 c2 d2 x2 hG3 hk3
    go_wp2_with fail
    go_region_held3 (fun w' => w'.cell? ⟨p, 1, none⟩ = some (.int .i64 G1.rest) ∧ w'.cell? ⟨p, 2, none⟩ = some (.slice (some ⟨g, 0, none⟩) G1.cs.length cap)) (go_keep)
      (first | (go_at_call 122; refine (freeSlot_any g (k * 3) sb xs s G1.rest site w3.drew d2' HB3.out hgs hsl1 HXX.out HRS.out).mono ?_; rintro e1 w4 ⟨rfl, hb4, hk4⟩; have c1'' : w4.cell? ⟨p, 1, none⟩ = some (.int .i64 G1.rest) := ((World.cell?_of_block (w := w3.drew) (hk4.block p hp3 hps)).trans c1'); have c2'' : w4.cell? ⟨p, 2, none⟩ = some (.slice (some ⟨g, 0, none⟩) G1.cs.length cap) := ((World.cell?_of_block (w := w3.drew) (hk4.block p hp3 hps)).trans c2')))
    go_wp2
    go_ret2
    have hx := FIN.out w3 bz hmin.symm HG3.out HK3.out w4 hb4 ⟨hk4.os, hk4.tape, hk4.output, hk4.size, hk4.block⟩
    exact ⟨rfl, hx.1, hx.2⟩
  · have hI : (zz : Int) ≤ (bz : Int) := by omega
    have hmin : min bz zz = zz := by omega
    rw [hmin] at fit1 fit2
    go_wp2_with fail
    refine (whole_any size w2 hsz1 hsz8).mono ?_
    rw [HZZ.out]
    rintro e1 w3 ⟨rfl, rfl⟩
    go_wp2_with fail
    refine (copyBytes_any p _ bb G1 a b zz w2 HG2.out fit1 fit2 fit3 fit4 HSM.out).mono ?_
    rintro e1 w3 ⟨rfl, hG3, hk3⟩
    have c1' := (World.cell?_of_block (a := ⟨p, 1, none⟩) (hk3.block p hp hpb)).trans c1
    have c2' := (World.cell?_of_block (a := ⟨p, 2, none⟩) (hk3.block p hp hpb)).trans c2
    have d2' := (World.cell?_of_block (a := ⟨g, k * 3 + 2, none⟩) (hk3.block g hgl hgb)).trans d2
    have HB3 : Hid (Blk w3 sb 79 (xs.flatMap slotCells)) := (hk3.block sb hsb hbs).trans HBK.out
    have HG3 := hide2 hG3
    have HK3 := hide2 hk3
    have hp3 : p < w3.heap.size := Nat.lt_of_lt_of_le hp hk3.size
    clear c1 c2 d2 x2 hG3 hk3
    go_wp2_with fail
    go_region_held3 (fun w' => w'.cell? ⟨p, 1, none⟩ = some (.int .i64 G1.rest) ∧ w'.cell? ⟨p, 2, none⟩ = some (.slice (some ⟨g, 0, none⟩) G1.cs.length cap)) (go_keep)
      (first | (go_at_call 122; refine (freeSlot_any g (k * 3) sb xs s G1.rest site w3.drew d2' HB3.out hgs hsl1 HXX.out HRS.out).mono ?_; rintro e1 w4 ⟨rfl, hb4, hk4⟩; have c1'' : w4.cell? ⟨p, 1, none⟩ = some (.int .i64 G1.rest) := ((World.cell?_of_block (w := w3.drew) (hk4.block p hp3 hps)).trans c1'); have c2'' : w4.cell? ⟨p, 2, none⟩ = some (.slice (some ⟨g, 0, none⟩) G1.cs.length cap) := ((World.cell?_of_block (w := w3.drew) (hk4.block p hp3 hps)).trans c2')))
    go_wp2
    go_ret2
    have hx := FIN.out w3 zz hmin.symm HG3.out HK3.out w4 hb4 ⟨hk4.os, hk4.tape, hk4.output, hk4.size, hk4.block⟩
    exact ⟨rfl, hx.1, hx.2⟩

set_option maxRecDepth 100000 in
set_option maxHeartbeats 1600000 in
theorem greal_any (p : Nat) (vc : Value) (bb : Nat) (G : GSt) (R : RSt) (q size draw site : Int) (w : World) (h : GRep w p vc bb G) (hs : SimB G R) (q1 : q ≤ 9223372036854775807) :
    Calls Try.prog 108 #[.pointer (some ⟨p, 0, none⟩), .int .i64 q, .int .i64 size, .int .i64 draw, .int .i64 site] w fun e w' => e = .returned (.tuple #[.int .i64 (R.reOut q size draw).1, .int .i64 (R.reOut q size draw).2]) ∧ GRep w' p vc bb (reG G R q size draw site) ∧ Kept w w' (GFoot p vc bb G) := by
  have HR := hide2 h
  have HS := hide2 hs
  by_cases hq : q = 0
  · have hnb : ¬ R.reBad q := fun x => x.1 hq
    have HE : Hid (R.reOut q size draw = mOut R size draw) := if_neg hnb
    have HF : Hid (reG G R q size draw site = mG G R size draw site) := (if_neg hnb).trans (if_pos (.inr hq))
    clear hnb h hs
    subst hq
    go_enter Try.func108, Try.ntmps108
    go_wp2_with (go_at_call 29; refine (gmalloc_all p vc bb G R size draw site w HR.out HS.out.sim).mono ?_; rintro e1 w1 ⟨rfl, hG1, hk1⟩)
    all_goals
      go_ret2
      refine ⟨?_, by rw [HF.out]; exact hG1, hk1⟩
      rw [HE.out]
      first | rfl | (rename_i hh; rw [hh]; rfl)
  · have hqb : (q == 0) = false := by rw [beq_eq_false_iff_ne]; exact hq
    rcases re_cases hs q size draw site with x | x | ⟨k, s, k', s', tg, hr⟩
    · have hbad : R.reBad q := ⟨hq, x⟩
      have HE : Hid (R.reOut q size draw = (0, (Ref.block R.st R.cls R.log q).2.2)) := if_pos hbad
      have HF : Hid (reG G R q size draw site = G) := if_pos hbad
      have HBL := hide2 (hs.sim.block q)
      have hxb : ((Ref.block R.st R.cls R.log q).2.2 != 0) = true := by simp [x]
      clear h hs hbad x hq
      go_enter Try.func108, Try.ntmps108
      go_wp2_with (go_at_call 71; refine (blockOf_all p vc bb G R.rest R.cls q w HR.out HS.out.sim.ok q1).mono ?_; rw [HBL.out]; rintro e1 w1 ⟨rfl, hb1⟩)
      go_ret2
      exact ⟨by rw [HE.out]; rfl, by rw [HF.out]; exact HR.out.below hb1, Kept.of_below hb1 _⟩
    · by_cases hbl : (Ref.block R.st R.cls R.log q).2.2 = 0
      · have hnb : ¬ R.reBad q := fun y => y.2 hbl
        have HE : Hid (R.reOut q size draw = mOut R size draw) := if_neg hnb
        have HF : Hid (reG G R q size draw site = mG G R size draw site) := (if_neg hnb).trans (if_pos (.inl x))
        have HM : Hid (mOut R size draw = (0, (mOut R size draw).2)) := by
          show _ = _
          rcases mOut_cases R hs.sim.rok size draw with ⟨_, hm⟩ | ⟨k', _, _, _, _, hm⟩ | ⟨k', s', h1, hk', hkl', hf, hs', hz, hm⟩
          · rw [hm]
          · rw [hm]
          · rw [hm] at x; exact absurd rfl x
        have HBL := hide2 (hs.sim.block q)
        have HB0 := hide2 hbl
        have hxb : ((mOut R size draw).2 != 0) = true := by simp [x]
        clear h hs hnb x hq hbl
        go_enter Try.func108, Try.ntmps108
        go_wp2_with fail
        refine (blockOf_all p vc bb G R.rest R.cls q w HR.out HS.out.sim.ok q1).mono ?_
        rw [HBL.out, HB0.out]
        rintro e1 w1 ⟨rfl, hb1⟩
        go_wp2_with fail
        refine (gmalloc_all p vc bb G R size draw site w1 (HR.out.below hb1) HS.out.sim).mono ?_
        rintro e1 w2 ⟨rfl, hG2, hk2⟩
        go_wp2
        go_ret2
        exact ⟨by rw [HE.out, HM.out]; rfl, by rw [HF.out]; exact hG2, (Kept.of_below hb1 _).trans hk2⟩
      · have hbad : R.reBad q := ⟨hq, hbl⟩
        have HE : Hid (R.reOut q size draw = (0, (Ref.block R.st R.cls R.log q).2.2)) := if_pos hbad
        have HF : Hid (reG G R q size draw site = G) := if_pos hbad
        have HBL := hide2 (hs.sim.block q)
        have hxb : ((Ref.block R.st R.cls R.log q).2.2 != 0) = true := by simp [hbl]
        clear h hs hbad x hq hbl
        go_enter Try.func108, Try.ntmps108
        go_wp2_with (go_at_call 71; refine (blockOf_all p vc bb G R.rest R.cls q w HR.out HS.out.sim.ok q1).mono ?_; rw [HBL.out]; rintro e1 w1 ⟨rfl, hb1⟩)
        go_ret2
        exact ⟨by rw [HE.out]; rfl, by rw [HF.out]; exact HR.out.below hb1, Kept.of_below hb1 _⟩
    · refine (greal_ok p vc bb G R q size draw site k s k' s' tg w h hs q1 hq hr).mono ?_
      rintro e w' ⟨rfl, h1, h2⟩
      have hnb : ¬ R.reBad q := fun y => y.2 (by rw [hr.old])
      have HE : R.reOut q size draw = mOut R size draw := if_neg hnb
      exact ⟨by rw [HE, hr.out], h1, h2⟩
end Go.Proofs.Ytjikemhmnkckcaa
