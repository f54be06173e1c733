import Derived.Test.YtjikemhmnkckcabGreatJ18
import Derived.Deep.RegionHeld3
import Derived.Test.YtjikemhmnkckcabGreatJ9
/- The program's Realloc. -/
namespace Go.Proofs.YtjikemhmnkckcabGreat
open Go.RowKit

set_option maxRecDepth 100000 in
set_option maxHeartbeats 1600000 in
theorem greal_ok (p : Nat) (vc : Value) (bb : Nat) (G : GSt) (R : RSt) (q size draw site : Int) (k s k' s' tg : Nat) (w : World) (h : GRep w p vc bb G) (hs : SimB G R) (q1 : q ≤ 9223372036854775807) (hq : q ≠ 0) (hr : ReOk G R q size draw site k s k' s' tg) :
    Calls Tryz.prog 113 #[.pointer (some ⟨p, 0, none⟩), .int .i64 q, .int .i64 size, .int .i64 draw, .int .i64 site] w fun e w' => e = .returned (.tuple #[.int .i64 (mOut R size draw).1, .int .i64 0]) ∧ GRep w' p vc bb (reG G R q size draw site) ∧ Kept w w' (GFoot p vc bb G) := by
  have hq0 : (q == 0) = false := by rw [beq_eq_false_iff_ne]; exact hq
  have HR := hide2 h
  have HS := hide2 hs
  have HRE := hide2 hr
  have HBL : Hid (gblock G R.cls q = ((k : Int), (s : Int), 0)) := (hs.sim.block q).trans hr.old
  have HM2 : Hid ((mOut R size draw).2 = 0) := by show _ = _; rw [hr.out]
  have hs1 := hs.malloc size draw site
  have HS1 := hide2 hs1
  have hc1 : (mR R size draw site).cls = R.cls := by rw [hr.mr]
  obtain ⟨z, z0, z1, hbz, hn⟩ := hr.n hs
  have hfz := gsz_fit hr.h1 hr.hz
  have hg8 := hs.sim.ok.conf.g1 k' hr.hk'
  have hg8o := hs.sim.ok.conf.g1 k hr.hk
  have hbn := hr.bnew hs
  have hbo := hr.bold hs
  have hoa := hr.oldAt hs
  have hat := hr.out_at hs
  have hml := mG_memlen G R size draw site
  have q0 : 0 ≤ q := ((tame_iff q).1 hoa.1).1
  have m0 : 0 ≤ (mOut R size draw).1 := (mOut_bd hs.sim.rok size draw).1
  have HF : Hid (reG G R q size draw site = fG ⟨(mG G R size draw site).st, (mG G R size draw site).rest, (mG G R size draw site).cs, copyTo (mG G R size draw site).mem ((mOut R size draw).1 % 72057594037927936).toNat (q % 72057594037927936).toNat (R.reN q size draw site)⟩
    ((mR R size draw site).copies ((mOut R size draw).1 % 72057594037927936) (q % 72057594037927936) (R.reN q size draw site)) q site) := by
    show _ = _
    unfold reG
    rw [if_neg (fun x => x.2 (by rw [hr.old])), if_neg (by rintro (x | x); exact x HM2.out; exact hq x)]
  obtain ⟨a, ha⟩ := Int.eq_ofNat_of_zero_le (show 0 ≤ (mOut R size draw).1 % 72057594037927936 by omega)
  obtain ⟨b, hb⟩ := Int.eq_ofNat_of_zero_le (show 0 ≤ q % 72057594037927936 by omega)
  have hfg : ∀ mm : List Int, fG ⟨(mG G R size draw site).st, (mG G R size draw site).rest, (mG G R size draw site).cs, mm⟩ ((mR R size draw site).copies (a : Int) (b : Int) (R.reN q size draw site)) q site =
      GSt.withSlots ⟨(mG G R size draw site).st, (mG G R size draw site).rest, (mG G R size draw site).cs, mm⟩ k (freed ((mG G R size draw site).cs.getD k GCls.no).slots s (mG G R size draw site).rest site) := fun mm => by
    have hcs := (mR R size draw site).copies_same (a : Int) (b : Int) (R.reN q size draw site)
    unfold fG
    rw [hcs.1, hcs.2.2.1, hcs.2.2.2.1, hr.old1 hs, if_pos ⟨hq, rfl⟩]
    rfl
  rw [ha, hb, Int.toNat_natCast, Int.toNat_natCast, hfg] at HF
  clear hfg
  have hlenI : (mG G R size draw site).mem.length = G.mem.length := hml
  have fit1 : a + R.reN q size draw site ≤ (mG G R size draw site).mem.length := by omega
  have fit2 : b + R.reN q size draw site ≤ (mG G R size draw site).mem.length := by omega
  have fit3 : a < (mG G R size draw site).mem.length := by omega
  have fit4 : b < (mG G R size draw site).mem.length := by omega
  have hkl1 : k < (mG G R size draw site).cs.length := by rw [hs1.sim.ok.len, hc1]; exact hr.hk
  have hsl1 : s < ((mG G R size draw site).cs.getD k GCls.no).slots.length := by rw [hs1.sim.len (by rw [hc1]; exact hr.hk), hc1]; exact hr.hs
  have hl4 : (mG G R size draw site).cs.length ≤ 4 := by have := hs1.sim.ok.conf.n1; have := hs1.sim.ok.len; omega
  have hx16 : ((mG G R size draw site).cs.getD k GCls.no).slots.length ≤ 16 := by have := hs1.sim.ok.sl k (by rw [hc1]; exact hr.hk); have := hs1.sim.ok.conf.s1 k (by rw [hc1]; exact hr.hk); omega
  have HRS : Hid (∀ j, j < ((mG G R size draw site).cs.getD k GCls.no).slots.length → (((mG G R size draw site).cs.getD k GCls.no).slots.getD j GSlot.no).rest ≤ 16) := fun j hj => hs1.sim.rest_le (by rw [hc1]; exact hr.hk) j hj
  have HFT : Hid (∀ x, GFoot p vc bb (mG G R size draw site) x ↔ GFoot p vc bb G x) := fun x => mG_foot hs.sim size draw site p vc bb x
  have hsz1 := hr.h1
  have hsz8 : size ≤ 128 := by have := hr.hz; omega
  have HSM := hide2 hs1.sim.small
  have HMAL : Hid (∀ w1, GRep w1 p vc bb G → Calls Tryz.prog 110 #[.pointer (some ⟨p, 0, none⟩), .int .i64 size, .int .i64 draw, .int .i64 site] w1 fun e w' => e = .returned (.tuple #[.int .i64 (mOut R size draw).1, .int .i64 0]) ∧ GRep w' p vc bb (mG G R size draw site) ∧ Kept w1 w' (GFoot p vc bb G)) := fun w1 hw1 => by
    refine (gmalloc_all p vc bb G R size draw site w1 hw1 HS.out.sim).mono ?_
    rintro e w' ⟨rfl, hx, hy⟩
    exact ⟨by rw [HM2.out], hx, hy⟩
  obtain ⟨bz, hbz'⟩ := Int.eq_ofNat_of_zero_le (show 0 ≤ 16 * z by omega)
  obtain ⟨zz, hzz⟩ := Int.eq_ofNat_of_zero_le (show 0 ≤ 16 * Ref.gsz size by omega)
  have HZZ := hide2 hzz
  have HNN : Hid (R.reN q size draw site = min bz zz) := by show _ = _; omega
  rw [hbz'] at hbz
  have hbz8 : bz ≤ 128 := by omega
  have hzz8 : zz ≤ 128 := by omega
  have HXX := hide2 hx16
  clear h hs hr hs1 hml hlenI hoa hbn hbo hat hn hbz' hfz hg8 hg8o hzz
  rw [HNN.out] at HF fit1 fit2
  generalize mG G R size draw site = G1 at *
  generalize (mOut R size draw).1 = qn at *
  go_enter Tryz.func113, Tryz.ntmps113
  go_wp2_with fail
  refine (blockOf_all p vc bb G R.rest R.cls q w HR.out HS.out.sim.ok q1).mono ?_
  rw [HBL.out]
  rintro e1 w1 ⟨rfl, hb1⟩
  go_wp2_with fail
  refine (HMAL.out w1 (HR.out.below hb1)).mono ?_
  rintro e1 w2 ⟨rfl, hG2, hk2⟩
  have HG2 := hide2 hG2
  have HK2 := hide2 ((Kept.of_below hb1 _).trans hk2)
  clear hk2
  obtain ⟨g, cap, rfl, hmax, hgl, c2, d2, x2⟩ := hG2.slotBytes k s hkl1 hsl1
  have c1 := hG2.blk.cell (j := 1) rfl
  have hp := hG2.blk.lt
  have HBK := hide2 (hG2.slots k hkl1)
  have hsb := (hG2.slots k hkl1).lt
  unfold maxLen at hmax
  rw [hbz] at x2
  have hkI : (k : Int) < (G1.cs.length : Int) := by omega
  have hsI : (s : Int) < ((G1.cs.getD k GCls.no).slots.length : Int) := by omega
  have hgs : g ≠ (G1.cs.getD k GCls.no).sb := fun e => (hG2.apS k hkl1).2.2 (by rw [← e]; rfl)
  have hps : p ≠ (G1.cs.getD k GCls.no).sb := fun e => (hG2.apS k hkl1).1 e.symm
  have hbs : (G1.cs.getD k GCls.no).sb ≠ bb := (hG2.apS k hkl1).2.1
  have hpb : p ≠ bb := fun e => hG2.apB e.symm
  have hgb : g ≠ bb := fun e => hG2.apCB (by rw [← e]; rfl)
  have HSL := hide2 (show (freed (G1.cs.getD k GCls.no).slots s G1.rest site).length = (G1.cs.getD k GCls.no).slots.length from freed_len _ _ _ _)
  clear hG2
  generalize hsbe : (G1.cs.getD k GCls.no).sb = sb at *
  generalize hxs : (G1.cs.getD k GCls.no).slots = xs at *
  have HSB := hide2 hsbe
  have HXS := hide2 hxs
  clear hsbe hxs hbz
  have fin : ∀ (w3 : World) (n : Nat), n = min bz zz → GRep w3 p (.slice (some ⟨g, 0, none⟩) G1.cs.length cap) bb ⟨G1.st, G1.rest, G1.cs, copyTo G1.mem a b n⟩ → Kept w2 w3 (· = bb) → ∀ w4, Blk w4 sb 146 ((freed xs s G1.rest site).flatMap slotCells) → Kept w3 w4 (· = sb) →
      GRep w4 p (.slice (some ⟨g, 0, none⟩) G1.cs.length cap) bb (reG G R q size draw site) ∧ Kept w w4 (GFoot p (.slice (some ⟨g, 0, none⟩) G1.cs.length cap) bb G) := fun w3 n hnn hG3 hk3 w4 hb4 hk4 => by
    constructor
    · rw [HF.out, ← hnn]
      exact hG3.setSlots k hkl1 _ (by show _ = (G1.cs.getD k GCls.no).slots.length; rw [HXS.out]; exact HSL.out) (by show Kept w3 w4 (fun b => b = (G1.cs.getD k GCls.no).sb); rw [HSB.out]; exact hk4) (by show Blk w4 (G1.cs.getD k GCls.no).sb _ _; rw [HSB.out]; exact hb4)
    · refine HK2.out.trans ((hk3.mono fun x _ hx => .inr (.inr (.inl hx))).trans (hk4.mono fun x _ hx => ?_))
      exact (HFT.out x).1 (.inr (.inr (.inr ⟨k, hkl1, hx.trans HSB.out.symm⟩)))
  have FIN := hide2 fin
  clear fin
  by_cases hcase : bz < zz
  · have hI : (bz : Int) < (zz : Int) := by omega
    have hmin : min bz zz = bz := by omega
    rw [hmin] at fit1 fit2
    go_wp2_with fail
    refine (whole_any size w2 hsz1 hsz8).mono ?_
    rw [HZZ.out]
    rintro e1 w3 ⟨rfl, rfl⟩
    go_wp2_with fail
    refine (copyBytes_any p _ bb G1 a b bz w2 HG2.out fit1 fit2 fit3 fit4 HSM.out).mono ?_
    rintro e1 w3 ⟨rfl, hG3, hk3⟩
    have c1' := (World.cell?_of_block (a := ⟨p, 1, none⟩) (hk3.block p hp hpb)).trans c1
    have c2' := (World.cell?_of_block (a := ⟨p, 2, none⟩) (hk3.block p hp hpb)).trans c2
    have d2' := (World.cell?_of_block (a := ⟨g, k * 3 + 2, none⟩) (hk3.block g hgl hgb)).trans d2
    have HB3 : Hid (Blk w3 sb 146 (xs.flatMap slotCells)) := (hk3.block sb hsb hbs).trans HBK.out
    have HG3 := hide2 hG3
    have HK3 := hide2 hk3
    have hp3 : p < w3.heap.size := Nat.lt_of_lt_of_le hp hk3.size
    clear c1 c2 d2 x2 hG3 hk3
    go_wp2_with fail
    go_region_held3 (fun w' => w'.cell? ⟨p, 1, none⟩ = some (.int .i64 G1.rest) ∧ w'.cell? ⟨p, 2, none⟩ = some (.slice (some ⟨g, 0, none⟩) G1.cs.length cap)) (go_keep)
      (first | (go_at_call 140; refine (freeSlot_any g (k * 3) sb xs s G1.rest site w3.drew d2' HB3.out hgs hsl1 HXX.out HRS.out).mono ?_; rintro e1 w4 ⟨rfl, hb4, hk4⟩; have c1'' : w4.cell? ⟨p, 1, none⟩ = some (.int .i64 G1.rest) := ((World.cell?_of_block (w := w3.drew) (hk4.block p hp3 hps)).trans c1'); have c2'' : w4.cell? ⟨p, 2, none⟩ = some (.slice (some ⟨g, 0, none⟩) G1.cs.length cap) := ((World.cell?_of_block (w := w3.drew) (hk4.block p hp3 hps)).trans c2')))
    go_wp2
    go_ret2
    have hx := FIN.out w3 bz hmin.symm HG3.out HK3.out w4 hb4 ⟨hk4.os, hk4.tape, hk4.output, hk4.size, hk4.block⟩
    exact ⟨rfl, hx.1, hx.2⟩
  · have hI : (zz : Int) ≤ (bz : Int) := by omega
    have hmin : min bz zz = zz := by omega
    rw [hmin] at fit1 fit2
    go_wp2_with fail
    refine (whole_any size w2 hsz1 hsz8).mono ?_
    rw [HZZ.out]
    rintro e1 w3 ⟨rfl, rfl⟩
    go_wp2_with fail
    refine (copyBytes_any p _ bb G1 a b zz w2 HG2.out fit1 fit2 fit3 fit4 HSM.out).mono ?_
    rintro e1 w3 ⟨rfl, hG3, hk3⟩
    have c1' := (World.cell?_of_block (a := ⟨p, 1, none⟩) (hk3.block p hp hpb)).trans c1
    have c2' := (World.cell?_of_block (a := ⟨p, 2, none⟩) (hk3.block p hp hpb)).trans c2
    have d2' := (World.cell?_of_block (a := ⟨g, k * 3 + 2, none⟩) (hk3.block g hgl hgb)).trans d2
    have HB3 : Hid (Blk w3 sb 146 (xs.flatMap slotCells)) := (hk3.block sb hsb hbs).trans HBK.out
    have HG3 := hide2 hG3
    have HK3 := hide2 hk3
    have hp3 : p < w3.heap.size := Nat.lt_of_lt_of_le hp hk3.size
    clear c1 c2 d2 x2 hG3 hk3
    go_wp2_with fail
    go_region_held3 (fun w' => w'.cell? ⟨p, 1, none⟩ = some (.int .i64 G1.rest) ∧ w'.cell? ⟨p, 2, none⟩ = some (.slice (some ⟨g, 0, none⟩) G1.cs.length cap)) (go_keep)
      (first | (go_at_call 140; refine (freeSlot_any g (k * 3) sb xs s G1.rest site w3.drew d2' HB3.out hgs hsl1 HXX.out HRS.out).mono ?_; rintro e1 w4 ⟨rfl, hb4, hk4⟩; have c1'' : w4.cell? ⟨p, 1, none⟩ = some (.int .i64 G1.rest) := ((World.cell?_of_block (w := w3.drew) (hk4.block p hp3 hps)).trans c1'); have c2'' : w4.cell? ⟨p, 2, none⟩ = some (.slice (some ⟨g, 0, none⟩) G1.cs.length cap) := ((World.cell?_of_block (w := w3.drew) (hk4.block p hp3 hps)).trans c2')))
    go_wp2
    go_ret2
    have hx := FIN.out w3 zz hmin.symm HG3.out HK3.out w4 hb4 ⟨hk4.os, hk4.tape, hk4.output, hk4.size, hk4.block⟩
    exact ⟨rfl, hx.1, hx.2⟩

set_option maxRecDepth 100000 in
set_option maxHeartbeats 1600000 in
theorem greal_any (p : Nat) (vc : Value) (bb : Nat) (G : GSt) (R : RSt) (q size draw site : Int) (w : World) (h : GRep w p vc bb G) (hs : SimB G R) (q1 : q ≤ 9223372036854775807) :
    Calls Tryz.prog 113 #[.pointer (some ⟨p, 0, none⟩), .int .i64 q, .int .i64 size, .int .i64 draw, .int .i64 site] w fun e w' => e = .returned (.tuple #[.int .i64 (R.reOut q size draw).1, .int .i64 (R.reOut q size draw).2]) ∧ GRep w' p vc bb (reG G R q size draw site) ∧ Kept w w' (GFoot p vc bb G) := by
  have HR := hide2 h
  have HS := hide2 hs
  by_cases hq : q = 0
  · have hnb : ¬ R.reBad q := fun x => x.1 hq
    have HE : Hid (R.reOut q size draw = mOut R size draw) := if_neg hnb
    have HF : Hid (reG G R q size draw site = mG G R size draw site) := (if_neg hnb).trans (if_pos (.inr hq))
    clear hnb h hs
    subst hq
    go_enter Tryz.func113, Tryz.ntmps113
    go_wp2_with (go_at_call 110; refine (gmalloc_all p vc bb G R size draw site w HR.out HS.out.sim).mono ?_; rintro e1 w1 ⟨rfl, hG1, hk1⟩)
    all_goals
      go_ret2
      refine ⟨?_, by rw [HF.out]; exact hG1, hk1⟩
      rw [HE.out]
      first | rfl | (rename_i hh; rw [hh]; rfl)
  · have hqb : (q == 0) = false := by rw [beq_eq_false_iff_ne]; exact hq
    rcases re_cases hs q size draw site with x | x | ⟨k, s, k', s', tg, hr⟩
    · have hbad : R.reBad q := ⟨hq, x⟩
      have HE : Hid (R.reOut q size draw = (0, (Ref.block R.st R.cls R.log q).2.2)) := if_pos hbad
      have HF : Hid (reG G R q size draw site = G) := if_pos hbad
      have HBL := hide2 (hs.sim.block q)
      have hxb : ((Ref.block R.st R.cls R.log q).2.2 != 0) = true := by simp [x]
      clear h hs hbad x hq
      go_enter Tryz.func113, Tryz.ntmps113
      go_wp2_with (go_at_call 139; refine (blockOf_all p vc bb G R.rest R.cls q w HR.out HS.out.sim.ok q1).mono ?_; rw [HBL.out]; rintro e1 w1 ⟨rfl, hb1⟩)
      go_ret2
      exact ⟨by rw [HE.out]; rfl, by rw [HF.out]; exact HR.out.below hb1, Kept.of_below hb1 _⟩
    · by_cases hbl : (Ref.block R.st R.cls R.log q).2.2 = 0
      · have hnb : ¬ R.reBad q := fun y => y.2 hbl
        have HE : Hid (R.reOut q size draw = mOut R size draw) := if_neg hnb
        have HF : Hid (reG G R q size draw site = mG G R size draw site) := (if_neg hnb).trans (if_pos (.inl x))
        have HM : Hid (mOut R size draw = (0, (mOut R size draw).2)) := by
          show _ = _
          rcases mOut_cases R hs.sim.rok size draw with ⟨_, hm⟩ | ⟨k', _, _, _, _, hm⟩ | ⟨k', s', h1, hk', hkl', hf, hs', hz, hm⟩
          · rw [hm]
          · rw [hm]
          · rw [hm] at x; exact absurd rfl x
        have HBL := hide2 (hs.sim.block q)
        have HB0 := hide2 hbl
        have hxb : ((mOut R size draw).2 != 0) = true := by simp [x]
        clear h hs hnb x hq hbl
        go_enter Tryz.func113, Tryz.ntmps113
        go_wp2_with fail
        refine (blockOf_all p vc bb G R.rest R.cls q w HR.out HS.out.sim.ok q1).mono ?_
        rw [HBL.out, HB0.out]
        rintro e1 w1 ⟨rfl, hb1⟩
        go_wp2_with fail
        refine (gmalloc_all p vc bb G R size draw site w1 (HR.out.below hb1) HS.out.sim).mono ?_
        rintro e1 w2 ⟨rfl, hG2, hk2⟩
        go_wp2
        go_ret2
        exact ⟨by rw [HE.out, HM.out]; rfl, by rw [HF.out]; exact hG2, (Kept.of_below hb1 _).trans hk2⟩
      · have hbad : R.reBad q := ⟨hq, hbl⟩
        have HE : Hid (R.reOut q size draw = (0, (Ref.block R.st R.cls R.log q).2.2)) := if_pos hbad
        have HF : Hid (reG G R q size draw site = G) := if_pos hbad
        have HBL := hide2 (hs.sim.block q)
        have hxb : ((Ref.block R.st R.cls R.log q).2.2 != 0) = true := by simp [hbl]
        clear h hs hbad x hq hbl
        go_enter Tryz.func113, Tryz.ntmps113
        go_wp2_with (go_at_call 139; refine (blockOf_all p vc bb G R.rest R.cls q w HR.out HS.out.sim.ok q1).mono ?_; rw [HBL.out]; rintro e1 w1 ⟨rfl, hb1⟩)
        go_ret2
        exact ⟨by rw [HE.out]; rfl, by rw [HF.out]; exact HR.out.below hb1, Kept.of_below hb1 _⟩
    · refine (greal_ok p vc bb G R q size draw site k s k' s' tg w h hs q1 hq hr).mono ?_
      rintro e w' ⟨rfl, h1, h2⟩
      have hnb : ¬ R.reBad q := fun y => y.2 (by rw [hr.old])
      have HE : R.reOut q size draw = mOut R size draw := if_neg hnb
      exact ⟨by rw [HE, hr.out], h1, h2⟩
end Go.Proofs.YtjikemhmnkckcabGreat
/- The program's near: those of a slot and its two neighbours that had a tag last. -/
namespace Go.Proofs.YtjikemhmnkckcabGreat
open Go.RowKit

def nearCells (x : Int × Int × Int) : List Value := [.int .i64 x.1, .int .i64 x.2.1, .int .i64 x.2.2]
def nearAt (xs : List GSlot) (j tag : Int) : List (Int × Int × Int) :=
  if 0 ≤ j ∧ j < xs.length ∧ ghad (xs.getD j.toNat GSlot.no) tag = true then [(j, (xs.getD j.toNat GSlot.no).alloc, (xs.getD j.toNat GSlot.no).gone)] else []
def nearTo (xs : List GSlot) (i tag : Int) : Nat → List (Int × Int × Int)
  | 0 => []
  | m + 1 => nearTo xs i tag m ++ nearAt xs (i - 1 + m) tag
def gnear (xs : List GSlot) (i tag : Int) : List (Int × Int × Int) := nearTo xs i tag 3
theorem nearAt_len (xs : List GSlot) (j tag : Int) : (nearAt xs j tag).length ≤ 1 := by unfold nearAt; split <;> simp
theorem nearTo_len (xs : List GSlot) (i tag : Int) (m : Nat) : (nearTo xs i tag m).length ≤ m := by
  induction m with
  | zero => simp [nearTo]
  | succ m ih =>
    have := nearAt_len xs (i - 1 + m) tag
    simp only [nearTo, List.length_append]; omega
theorem info_near : (Tryz.prog.info? 64).map (fun i => (i.zero, i.size, i.bytes)) = some (some (.agg #[.int .i64 0, .int .i64 0, .int .i64 0]), 3, 24) := by kernel_rfl

/-- a list that grows within a loop -/
structure NearRel (w : World) (l : List (Int × Int × Int)) (v : Value) (wr : World) : Prop where
  below : Below w.heap.size w wr
  row : wr.ownsRow 0 64 3 v l.length (l.flatMap nearCells)
  vlo : ∀ g, v.ownBlock = some g → w.heap.size ≤ g
theorem NearRel.later {w wr w' : World} {l : List (Int × Int × Int)} {v : Value} (h : NearRel w l v wr) (b : Below wr.heap.size wr w') : NearRel w l v w' :=
  ⟨h.below.trans (b.mono h.below.size), row_below h.row b fun _ => row_lt h.row, h.vlo⟩
theorem NearRel.step {w wr : World} {l : List (Int × Int × Int)} {v : Value} (hr : NearRel w l v wr) (x : Int × Int × Int) {cs : Array Value} {t : TypeId} {w2 : World} {gg cap2 : Nat}
    (hown1 : w2.ownsRow 0 64 3 (.slice (some ⟨gg, 0, none⟩) (l.length + 1) cap2) (l.length + 1) (l.flatMap nearCells ++ nearCells x))
    (hgrow : (wr.alloc (.cells cs t)).grownBy w2 v.ownBlock) (hat : v.ownBlock = some gg ∨ gg = wr.heap.size + 1) :
    NearRel w (l ++ [x]) (.slice (some ⟨gg, 0, none⟩) (l.length + 1) cap2) w2 := by
  have hsz := hr.below.size
  refine ⟨?_, ?_, ?_⟩
  · exact (hr.below.alloc (by omega) _).grown hgrow (by rw [World.size_alloc]; omega) (fun k hk => hr.vlo k hk)
  · rw [List.length_append, List.flatMap_append]
    simpa using hown1
  · intro g hg
    simp [Value.ownBlock] at hg
    subst hg
    rcases hat with h | h
    · exact hr.vlo gg h
    · omega

set_option maxRecDepth 100000 in
set_option maxHeartbeats 3200000 in
theorem near_any (cb co sb : Nat) (xs : List GSlot) (i tag : Int) (w : World) (hc : w.cell? ⟨cb, co + 2, none⟩ = some (.slice (some ⟨sb, 0, none⟩) xs.length xs.length)) (hcb : cb < w.heap.size) (hs : Blk w sb 146 (xs.flatMap slotCells)) (hlen : xs.length ≤ 16) (i0 : 0 ≤ i) (i1 : i < xs.length) :
    Calls Tryz.prog 165 #[.pointer (some ⟨cb, co, none⟩), .int .i64 i, .int .i64 tag] w fun e w' => ∃ v, e = .returned v ∧ NearRel w (gnear xs i tag) v w' := by
  obtain ⟨n0, hn0, hz0, hz1, hz2⟩ := info_parts info_near
  have HS := hide2 hs
  have hsl := hs.lt
  clear hs
  go_enter Tryz.func165, Tryz.ntmps165
  go_wp2
  go_loopw [7, 8] (fun l j wr => ∃ m : Nat, m ≤ 3 ∧ j = .int .i64 (i - 1 + (m : Int)) ∧ Hid (NearRel w (nearTo xs i tag m) l wr)) (fun _ j _ => (i + 2 - intOf j).toNat)
  case atStart => exact ⟨0, by omega, by simp, ⟨Below.refl _ _, World.ownsRow_nil _ _ _ _, nofun⟩⟩
  case round =>
    obtain ⟨m, hm, rfl, HR⟩ := hrel
    have hc' := (HR.out.below.cell (p := ⟨cb, co + 2, none⟩) hcb).trans hc
    have hsz := HR.out.below.size
    have HST : Hid (nearTo xs i tag (m + 1) = nearTo xs i tag m ++ nearAt xs (i - 1 + m) tag) := rfl
    by_cases hlt : m < 3
    · have hjl : i - 1 + (m : Int) ≤ i + 1 := by omega
      by_cases hj : i - 1 + (m : Int) < 0
      · have HN : Hid (nearTo xs i tag (m + 1) = nearTo xs i tag m) := by
          show _ = _
          rw [HST.out]; unfold nearAt; rw [if_neg (by omega), List.append_nil]
        go_wp2
        go_roundw
        case rel => exact ⟨m + 1, by omega, by congr 1; omega, by rw [HN.out]; exact HR⟩
        case measure => simp [intOf]; omega
      · by_cases hj2 : (xs.length : Int) ≤ i - 1 + (m : Int)
        · have HN : Hid (nearTo xs i tag (m + 1) = nearTo xs i tag m) := by
            show _ = _
            rw [HST.out]; unfold nearAt; rw [if_neg (by omega), List.append_nil]
          go_wp2
          go_roundw
          case rel => exact ⟨m + 1, by omega, by congr 1; omega, by rw [HN.out]; exact HR⟩
          case measure => simp [intOf]; omega
        · obtain ⟨j, hjn⟩ := Int.eq_ofNat_of_zero_le (show 0 ≤ i - 1 + (m : Int) by omega)
          have hjx : j < xs.length := by omega
          have HA : Hid (nearAt xs (i - 1 + m) tag = if ghad (xs.getD j GSlot.no) tag = true then [((j : Int), (xs.getD j GSlot.no).alloc, (xs.getD j GSlot.no).gone)] else []) := by
            show _ = _
            unfold nearAt
            rw [hjn, Int.toNat_natCast]
            by_cases c : ghad (xs.getD j GSlot.no) tag = true
            · rw [if_pos ⟨by omega, by omega, c⟩, if_pos c]
            · rw [if_neg (fun y => c y.2.2), if_neg c]
          obtain ⟨e0, e1, e2, e3, e4, e5⟩ := slot_cells HS.out j hjx
          have e0' := (HR.out.below.cell (p := ⟨sb, j * 6, none⟩) hsl).trans e0
          have e1' := (HR.out.below.cell (p := ⟨sb, j * 6 + 1, none⟩) hsl).trans e1
          have e2' := (HR.out.below.cell (p := ⟨sb, j * 6 + 2, none⟩) hsl).trans e2
          have e3' := (HR.out.below.cell (p := ⟨sb, j * 6 + 3, none⟩) hsl).trans e3
          have e4' := (HR.out.below.cell (p := ⟨sb, j * 6 + 4, none⟩) hsl).trans e4
          have e5' := (HR.out.below.cell (p := ⟨sb, j * 6 + 5, none⟩) hsl).trans e5
          clear e0 e1 e2 e3 e4 e5
          generalize xs.getD j GSlot.no = x at *
          have HJ := hide2 hjn
          have hjI : (j : Int) < (xs.length : Int) := by omega
          have hji : (j : Int) ≤ i + 1 := by omega
          rw [hjn]
          clear hjn hj hj2 hjl
          go_wp2_with fail
          have hsc : Blk (wr.alloc (.cells #[.int .i64 x.state, .int .i64 x.tag, .int .i64 x.bytes, .int .i64 x.rest, .int .i64 x.alloc, .int .i64 x.gone] 146)) wr.heap.size 146 [.int .i64 x.state, .int .i64 x.tag, .int .i64 x.bytes, .int .i64 x.rest, .int .i64 x.alloc, .int .i64 x.gone] := Blk.alloc wr _ _
          have hba : Below wr.heap.size wr (wr.alloc (.cells #[.int .i64 x.state, .int .i64 x.tag, .int .i64 x.bytes, .int .i64 x.rest, .int .i64 x.alloc, .int .i64 x.gone] 146)) := (Below.refl _ _).alloc (Nat.le_refl _) _
          obtain ⟨ob, hobe⟩ : ∃ ob, ob = wr.heap.size := ⟨_, rfl⟩
          rw [← hobe] at hsc ⊢
          generalize (wr.alloc (.cells #[.int .i64 x.state, .int .i64 x.tag, .int .i64 x.bytes, .int .i64 x.rest, .int .i64 x.alloc, .int .i64 x.gone] 146)) = w4 at *
          have hs4 := hsc.lt
          refine (had_any x tag w4).mono ?_
          cases hz : ghad x tag
          · have HN : Hid (nearTo xs i tag (m + 1) = nearTo xs i tag m) := by
              show _ = _
              rw [HST.out, HA.out, hz, if_neg (by decide), List.append_nil]
            rintro e1 w5 ⟨rfl, hb5⟩
            have HR5 := hide2 ((HR.out.later hba).later hb5)
            clear hb5 hba hsc hobe e0' e1' e2' e3' e4' e5' hz HA
            go_wp2
            go_roundw
            case rel => exact ⟨m + 1, by omega, by have := HJ.out; congr 1; omega, by rw [HN.out]; exact HR5⟩
            case measure => simp [intOf]; omega
          · have HN : Hid (nearTo xs i tag (m + 1) = nearTo xs i tag m ++ [((j : Int), x.alloc, x.gone)]) := by
              show _ = _
              rw [HST.out, HA.out, hz, if_pos rfl]
            rintro e1 w5 ⟨rfl, hb5⟩
            have HR5 := hide2 ((HR.out.later hba).later hb5)
            have q4 := (hb5.cell (p := ⟨ob, 4, none⟩) hs4).trans (hsc.cell (j := 4) rfl)
            have q5 := (hb5.cell (p := ⟨ob, 5, none⟩) hs4).trans (hsc.cell (j := 5) rfl)
            have hob5 : ob < w5.heap.size := Nat.lt_of_lt_of_le hs4 hb5.size
            have hlm := nearTo_len xs i tag m
            have hrow := hide2 HR5.out.row
            clear hb5 hba hsc hobe e0' e1' e2' e3' e4' e5' hz HA
            go_wp2_with (at_builtin; refine wpList_append_lies _ rfl _ _ _ rfl 0 64 n0 _ 3 24 Tryz.underlying24 hn0 hz0 hz1 hz2 rfl (by omega) u7 (nearTo xs i tag m).length _ rfl (hrow.out.alloc _) ⟨w5.heap.size, 0, none⟩ 1 1 [.int .i64 (j : Int), .int .i64 x.alloc, .int .i64 x.gone] rfl rfl (World.news_of_block (cs := #[.int .i64 (j : Int), .int .i64 x.alloc, .int .i64 x.gone]) (t := 64) (fr := (0, 0)) (heap_alloc_new w5 _)) (by simp [Value.oneCell']) (by omega) (by simp [maxLen]; omega) (by omega) (by simp) (w5.heap.size + 1) (by simp) ?_; intro gg cap2 w7 hown hgrow hat hlt7)
            go_roundw
            case rel => exact ⟨m + 1, by omega, by have := HJ.out; congr 1; omega, by rw [HN.out]; exact HR5.out.step ((j : Int), x.alloc, x.gone) hown hgrow hat⟩
            case measure => simp [intOf]; omega
    · obtain rfl : m = 3 := by omega
      have hji : i + 1 < i - 1 + ((3 : Nat) : Int) := by omega
      go_wp2
      go_ret
      exact ⟨_, rfl, HR.out⟩
end Go.Proofs.YtjikemhmnkckcabGreat
/- The program's report. -/
namespace Go.Proofs.YtjikemhmnkckcabGreat
open Go.RowKit

structure Rpt where
  err : Int
  addr : Int
  want : Int
  found : Int
  state : Int
  cls : Int
  slot : Int
  alloc : Int
  gone : Int
  near : List (Int × Int × Int)
def rptCells (r : Rpt) (vn : Value) : List Value := [.int .i64 r.err, .int .i64 r.addr, .int .i64 r.want, .int .i64 r.found, .int .i64 r.state, .int .i64 r.cls, .int .i64 r.slot, .int .i64 r.alloc, .int .i64 r.gone, vn]
def rptV (r : Rpt) (vn : Value) : Value := .agg (rptCells r vn).toArray
/-- a report that speaks of an error alone -/
def Rpt.only (e : Int) : Rpt := ⟨e, 0, 0, 0, 0, 0, 0, 0, 0, []⟩

def grpt (G : GSt) (cls : List (Int × Int)) (e addr want : Int) : Rpt :=
  if 16 ≤ addr ∧ addr < 16 * (1 + G.st) then ⟨e, addr, want, gtag G cls addr, 1, 0, 0, 0, 0, []⟩
  else if (Cf.slot G.st cls addr).1 < 0 then ⟨e, addr, want, gtag G cls addr, 0, 0, 0, 0, 0, []⟩
  else ⟨e, addr, want, gtag G cls addr, (slotOf G (Cf.slot G.st cls addr).1.toNat (Cf.slot G.st cls addr).2.toNat).state, (Cf.slot G.st cls addr).1, (Cf.slot G.st cls addr).2, (slotOf G (Cf.slot G.st cls addr).1.toNat (Cf.slot G.st cls addr).2.toNat).alloc, (slotOf G (Cf.slot G.st cls addr).1.toNat (Cf.slot G.st cls addr).2.toNat).gone,
    gnear (G.cs.getD (Cf.slot G.st cls addr).1.toNat GCls.no).slots (Cf.slot G.st cls addr).2 want⟩

theorem below_set10 {B : Nat} {a w : World} (h : Below B a w) {b : Nat} (hb : B ≤ b) (v0 v1 v2 v3 v4 v5 v6 v7 v8 v9 : Value) :
    Below B a ((((((((((w.setCell ⟨b, 0, none⟩ v0).setCell ⟨b, 1, none⟩ v1).setCell ⟨b, 2, none⟩ v2).setCell ⟨b, 3, none⟩ v3).setCell ⟨b, 4, none⟩ v4).setCell ⟨b, 5, none⟩ v5).setCell ⟨b, 6, none⟩ v6).setCell ⟨b, 7, none⟩ v7).setCell ⟨b, 8, none⟩ v8).setCell ⟨b, 9, none⟩ v9) :=
  (((((((((h.setCell (p := ⟨b, 0, none⟩) hb _).setCell (p := ⟨b, 1, none⟩) hb _).setCell (p := ⟨b, 2, none⟩) hb _).setCell (p := ⟨b, 3, none⟩) hb _).setCell (p := ⟨b, 4, none⟩) hb _).setCell (p := ⟨b, 5, none⟩) hb _).setCell (p := ⟨b, 6, none⟩) hb _).setCell (p := ⟨b, 7, none⟩) hb _).setCell (p := ⟨b, 8, none⟩) hb _).setCell (p := ⟨b, 9, none⟩) hb _
theorem heap_set10 (w : World) {b g : Nat} (hg : g ≠ b) (v0 v1 v2 v3 v4 v5 v6 v7 v8 v9 : Value) :
    ((((((((((w.setCell ⟨b, 0, none⟩ v0).setCell ⟨b, 1, none⟩ v1).setCell ⟨b, 2, none⟩ v2).setCell ⟨b, 3, none⟩ v3).setCell ⟨b, 4, none⟩ v4).setCell ⟨b, 5, none⟩ v5).setCell ⟨b, 6, none⟩ v6).setCell ⟨b, 7, none⟩ v7).setCell ⟨b, 8, none⟩ v8).setCell ⟨b, 9, none⟩ v9).heap[g]? = w.heap[g]? := by
  rw [Below.heap_setCell _ ⟨b, 9, none⟩ _ g hg, Below.heap_setCell _ ⟨b, 8, none⟩ _ g hg, Below.heap_setCell _ ⟨b, 7, none⟩ _ g hg, Below.heap_setCell _ ⟨b, 6, none⟩ _ g hg, Below.heap_setCell _ ⟨b, 5, none⟩ _ g hg, Below.heap_setCell _ ⟨b, 4, none⟩ _ g hg, Below.heap_setCell _ ⟨b, 3, none⟩ _ g hg, Below.heap_setCell _ ⟨b, 2, none⟩ _ g hg, Below.heap_setCell _ ⟨b, 1, none⟩ _ g hg, Below.heap_setCell _ ⟨b, 0, none⟩ _ g hg]

set_option maxRecDepth 100000 in
set_option maxHeartbeats 6400000 in
theorem report_away (p : Nat) (vc : Value) (bb : Nat) (G : GSt) (rest : Int) (cls : List (Int × Int)) (er addr want : Int) (w : World) (h : GRep w p vc bb G) (ho : GOk G rest cls) (hbd : GBd G) (a0 : -9223372036854775808 ≤ addr) (a1 : addr ≤ 9223372036854775807) (haw : (16 ≤ addr ∧ addr < 16 * (1 + G.st)) ∨ (Cf.slot G.st cls addr).1 < 0) :
    Calls Tryz.prog 159 #[.pointer (some ⟨p, 0, none⟩), .int .i64 er, .int .i64 addr, .int .i64 want] w fun e w' => ∃ v, e = .returned (rptV (grpt G cls er addr want) v) ∧ NearRel w (grpt G cls er addr want).near v w' := by
  have HR := hide2 h
  have HO := hide2 ho
  have HBD := hide2 hbd
  have hp := h.blk.lt
  have s0 := ho.conf.st0
  have s1 := ho.conf.st1
  have n1 := ho.conf.n1
  have hlen := ho.len
  clear h ho hbd
  obtain ⟨tg, htg⟩ : ∃ tg, gtag G cls addr = tg := ⟨_, rfl⟩
  have HTG := hide2 htg
  by_cases hst : 16 ≤ addr ∧ addr < 16 * (1 + G.st)
  · have HF : Hid (grpt G cls er addr want = ⟨er, addr, want, tg, 1, 0, 0, 0, 0, []⟩) := by show _ = _; unfold grpt; rw [if_pos hst, htg]
    have HS : Hid ((decide (16 ≤ addr) && decide (addr < 16 * (1 + G.st))) = true) := by show _ = _; simp [hst.1, hst.2]
    rw [HF.out]
    clear hst htg HF
    go_enter Tryz.func159, Tryz.ntmps159
    go_wp2_with fail
    obtain ⟨wa, hwa⟩ : ∃ wa, wa = w.alloc (.cells (rptCells (Rpt.only 0) (.slice none 0 0)).toArray 26) := ⟨_, rfl⟩
    have hwa' := hwa
    simp only [rptCells, Rpt.only] at hwa'
    rw [← hwa']
    have HBA : Hid (Below w.heap.size w wa) := by show Below _ _ _; rw [hwa]; exact (Below.refl _ _).alloc (Nat.le_refl _) _
    have HRB : Hid (Blk wa w.heap.size 26 (rptCells (Rpt.only 0) (.slice none 0 0))) := by show Blk _ _ _ _; rw [hwa]; exact Blk.alloc _ _ _
    obtain ⟨rb, hrb⟩ : ∃ rb, rb = w.heap.size := ⟨_, rfl⟩
    rw [← hrb] at HRB ⊢
    have HRBE := hide2 hrb
    have hrl := HRB.out.lt
    clear hwa hwa' hrb
    refine (gtag_any p _ bb G rest cls addr wa (HR.out.below HBA.out) HO.out HBD.out a0 a1).mono ?_
    rw [HTG.out]
    rintro e1 w1 ⟨rfl, hb1⟩
    have HB1 : Hid (Below w.heap.size w w1) := HBA.out.trans (hb1.mono HBA.out.size)
    have HR1 := hide2 (HRB.out.below hb1 hrl)
    have hrl1 := HR1.out.lt
    clear hb1 HRB HBA hrl
    go_wp2_with fail
    obtain ⟨w2, hw2⟩ : ∃ w2, w2 = w1.alloc (.cells (rptCells ⟨er, addr, want, tg, 0, 0, 0, 0, 0, []⟩ (.slice none 0 0)).toArray 26) := ⟨_, rfl⟩
    have hw2' := hw2
    simp only [rptCells] at hw2'
    rw [← hw2']
    have HB2 : Hid (Below w.heap.size w w2) := by show Below _ _ _; rw [hw2]; exact HB1.out.alloc HB1.out.size _
    have HO2 : Hid (Blk w2 w1.heap.size 26 (rptCells ⟨er, addr, want, tg, 0, 0, 0, 0, 0, []⟩ (.slice none 0 0))) := by show Blk _ _ _ _; rw [hw2]; exact Blk.alloc _ _ _
    have HR2 : Hid (Blk w2 rb 26 (rptCells (Rpt.only 0) (.slice none 0 0))) := by show Blk _ _ _ _; rw [hw2]; exact HR1.out.below ((Below.refl _ _).alloc (Nat.le_refl _) _) hrl1
    obtain ⟨ob, hob⟩ : ∃ ob, ob = w1.heap.size := ⟨_, rfl⟩
    rw [← hob] at HO2 ⊢
    have hne : rb ≠ ob := by omega
    have hne2 : ob ≠ rb := by omega
    have hol := HO2.out.lt
    have hrl2 := HR2.out.lt
    have hobw : w.heap.size ≤ ob := by have := HB1.out.size; omega
    have hrbw : w.heap.size ≤ rb := by have := HRBE.out; omega
    clear hw2 hw2' hob HR1 hrl1
    refine (inStatic_any p _ bb G addr w2 (HR.out.below HB2.out) s0 s1).mono ?_
    rw [HS.out]
    rintro e1 w3 ⟨rfl, rfl⟩
    have o0 := HO2.out.cell (j := 0) rfl
    have o1 := HO2.out.cell (j := 1) rfl
    have o2 := HO2.out.cell (j := 2) rfl
    have o3 := HO2.out.cell (j := 3) rfl
    have o4 := HO2.out.cell (j := 4) rfl
    have o5 := HO2.out.cell (j := 5) rfl
    have o6 := HO2.out.cell (j := 6) rfl
    have o7 := HO2.out.cell (j := 7) rfl
    have o8 := HO2.out.cell (j := 8) rfl
    have o9 := HO2.out.cell (j := 9) rfl
    have of4 := HO2.out.frozen 4
    have r0 := HR2.out.cell (j := 0) rfl
    have r1 := HR2.out.cell (j := 1) rfl
    have r2 := HR2.out.cell (j := 2) rfl
    have r3 := HR2.out.cell (j := 3) rfl
    have r4 := HR2.out.cell (j := 4) rfl
    have r5 := HR2.out.cell (j := 5) rfl
    have r6 := HR2.out.cell (j := 6) rfl
    have r7 := HR2.out.cell (j := 7) rfl
    have r8 := HR2.out.cell (j := 8) rfl
    have r9 := HR2.out.cell (j := 9) rfl
    have rf0 := HR2.out.frozen 0
    have rf1 := HR2.out.frozen 1
    have rf2 := HR2.out.frozen 2
    have rf3 := HR2.out.frozen 3
    have rf4 := HR2.out.frozen 4
    have rf5 := HR2.out.frozen 5
    have rf6 := HR2.out.frozen 6
    have rf7 := HR2.out.frozen 7
    have rf8 := HR2.out.frozen 8
    have rf9 := HR2.out.frozen 9
    clear HO2 HR2
    go_wp2
    refine bodyPost_ret (v := rptV ⟨er, addr, want, tg, 1, 0, 0, 0, 0, []⟩ (.slice none 0 0)) (by simp [results, Tryz.results159, go_sem, rptV, rptCells, *]) rfl ⟨_, rfl, ?_⟩
    exact ⟨below_set10 (HB2.out.setCell (p := ⟨ob, 4, none⟩) hobw _) hrbw _ _ _ _ _ _ _ _ _ _, World.ownsRow_nil _ _ _ _, nofun⟩
  · have HS : Hid ((decide (16 ≤ addr) && decide (addr < 16 * (1 + G.st))) = false) := by
      show _ = _
      by_cases c : 16 ≤ addr
      · have : ¬ addr < 16 * (1 + G.st) := fun y => hst ⟨c, y⟩
        simp [this]
      · simp [c]
    rcases Cf.slot_bd G.st cls addr with hsl | ⟨k, s, hsl, hk, hs2, _⟩
    · have HF : Hid (grpt G cls er addr want = ⟨er, addr, want, tg, 0, 0, 0, 0, 0, []⟩) := by show _ = _; unfold grpt; rw [if_neg hst, hsl, if_pos (by decide), htg]
      have HL : Hid (Cf.cslot G.st cls addr = (-1, 0)) := Cf.cslot_no HO.out.conf _ hsl
      rw [HF.out]
      clear hst htg HF hsl
      go_enter Tryz.func159, Tryz.ntmps159
      go_wp2_with fail
      obtain ⟨wa, hwa⟩ : ∃ wa, wa = w.alloc (.cells (rptCells (Rpt.only 0) (.slice none 0 0)).toArray 26) := ⟨_, rfl⟩
      have hwa' := hwa
      simp only [rptCells, Rpt.only] at hwa'
      rw [← hwa']
      have HBA : Hid (Below w.heap.size w wa) := by show Below _ _ _; rw [hwa]; exact (Below.refl _ _).alloc (Nat.le_refl _) _
      have HRB : Hid (Blk wa w.heap.size 26 (rptCells (Rpt.only 0) (.slice none 0 0))) := by show Blk _ _ _ _; rw [hwa]; exact Blk.alloc _ _ _
      obtain ⟨rb, hrb⟩ : ∃ rb, rb = w.heap.size := ⟨_, rfl⟩
      rw [← hrb] at HRB ⊢
      have HRBE := hide2 hrb
      have hrl := HRB.out.lt
      clear hwa hwa' hrb
      refine (gtag_any p _ bb G rest cls addr wa (HR.out.below HBA.out) HO.out HBD.out a0 a1).mono ?_
      rw [HTG.out]
      rintro e1 w1 ⟨rfl, hb1⟩
      have HB1 : Hid (Below w.heap.size w w1) := HBA.out.trans (hb1.mono HBA.out.size)
      have HR1 := hide2 (HRB.out.below hb1 hrl)
      have hrl1 := HR1.out.lt
      clear hb1 HRB HBA hrl
      go_wp2_with fail
      obtain ⟨w2, hw2⟩ : ∃ w2, w2 = w1.alloc (.cells (rptCells ⟨er, addr, want, tg, 0, 0, 0, 0, 0, []⟩ (.slice none 0 0)).toArray 26) := ⟨_, rfl⟩
      have hw2' := hw2
      simp only [rptCells] at hw2'
      rw [← hw2']
      have HB2 : Hid (Below w.heap.size w w2) := by show Below _ _ _; rw [hw2]; exact HB1.out.alloc HB1.out.size _
      have HO2 : Hid (Blk w2 w1.heap.size 26 (rptCells ⟨er, addr, want, tg, 0, 0, 0, 0, 0, []⟩ (.slice none 0 0))) := by show Blk _ _ _ _; rw [hw2]; exact Blk.alloc _ _ _
      have HR2 : Hid (Blk w2 rb 26 (rptCells (Rpt.only 0) (.slice none 0 0))) := by show Blk _ _ _ _; rw [hw2]; exact HR1.out.below ((Below.refl _ _).alloc (Nat.le_refl _) _) hrl1
      obtain ⟨ob, hob⟩ : ∃ ob, ob = w1.heap.size := ⟨_, rfl⟩
      rw [← hob] at HO2 ⊢
      have hne : rb ≠ ob := by omega
      have hne2 : ob ≠ rb := by omega
      have hol := HO2.out.lt
      have hrl2 := HR2.out.lt
      have hobw : w.heap.size ≤ ob := by have := HB1.out.size; omega
      have hrbw : w.heap.size ≤ rb := by have := HRBE.out; omega
      clear hw2 hw2' hob HR1 hrl1
      refine (inStatic_any p _ bb G addr w2 (HR.out.below HB2.out) s0 s1).mono ?_
      rw [HS.out]
      rintro e1 w3 ⟨rfl, rfl⟩
      go_wp2_with fail
      refine (slotAt_any p _ bb G rest cls addr _ (HR.out.below HB2.out) HO.out a0 a1).mono ?_
      rw [HL.out]
      rintro e1 w4 ⟨rfl, hb4⟩
      have HO4 := hide2 (HO2.out.below hb4 hol)
      have HR4 := hide2 (HR2.out.below hb4 hrl2)
      have HB4 : Hid (Below w.heap.size w w4) := HB2.out.trans (hb4.mono HB2.out.size)
      have hol4 := HO4.out.lt
      have hrl4 := HR4.out.lt
      clear hb4 HO2 HR2 hol hrl2
      have o0 := HO4.out.cell (j := 0) rfl
      have o1 := HO4.out.cell (j := 1) rfl
      have o2 := HO4.out.cell (j := 2) rfl
      have o3 := HO4.out.cell (j := 3) rfl
      have o4 := HO4.out.cell (j := 4) rfl
      have o5 := HO4.out.cell (j := 5) rfl
      have o6 := HO4.out.cell (j := 6) rfl
      have o7 := HO4.out.cell (j := 7) rfl
      have o8 := HO4.out.cell (j := 8) rfl
      have o9 := HO4.out.cell (j := 9) rfl
      have r0 := HR4.out.cell (j := 0) rfl
      have r1 := HR4.out.cell (j := 1) rfl
      have r2 := HR4.out.cell (j := 2) rfl
      have r3 := HR4.out.cell (j := 3) rfl
      have r4 := HR4.out.cell (j := 4) rfl
      have r5 := HR4.out.cell (j := 5) rfl
      have r6 := HR4.out.cell (j := 6) rfl
      have r7 := HR4.out.cell (j := 7) rfl
      have r8 := HR4.out.cell (j := 8) rfl
      have r9 := HR4.out.cell (j := 9) rfl
      have rf0 := HR4.out.frozen 0
      have rf1 := HR4.out.frozen 1
      have rf2 := HR4.out.frozen 2
      have rf3 := HR4.out.frozen 3
      have rf4 := HR4.out.frozen 4
      have rf5 := HR4.out.frozen 5
      have rf6 := HR4.out.frozen 6
      have rf7 := HR4.out.frozen 7
      have rf8 := HR4.out.frozen 8
      have rf9 := HR4.out.frozen 9
      clear HO4 HR4
      go_wp2
      refine bodyPost_ret (v := rptV ⟨er, addr, want, tg, 0, 0, 0, 0, 0, []⟩ (.slice none 0 0)) (by simp [results, Tryz.results159, go_sem, rptV, rptCells, *]) rfl ⟨_, rfl, ?_⟩
      exact ⟨below_set10 HB4.out hrbw _ _ _ _ _ _ _ _ _ _, World.ownsRow_nil _ _ _ _, nofun⟩
    · exfalso
      rcases haw with y | y
      · exact hst y
      · rw [hsl] at y; simp at y; omega
end Go.Proofs.YtjikemhmnkckcabGreat
