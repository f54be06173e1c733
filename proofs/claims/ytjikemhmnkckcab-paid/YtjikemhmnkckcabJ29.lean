import Derived.Test.YtjikemhmnkckcabJ22
import Derived.Deep.RegionHeld3
import Derived.Test.YtjikemhmnkckcabJ6
import Derived.WalkLawsBesides
import Derived.Deep.AppendLies
import Derived.Deep.DrawnRows
import Derived.Deep.RegionLaw
/- The program's Realloc. -/
namespace Go.Proofs.Ytjikemhmnkckcab
open Go.RowKit

set_option maxRecDepth 100000 in
set_option maxHeartbeats 1600000 in
theorem greal_ok (p : Nat) (vc : Value) (bb : Nat) (G : GSt) (R : RSt) (q size draw site : Int) (k s k' s' tg : Nat) (w : World) (h : GRep w p vc bb G) (hs : SimB G R) (q1 : q ≤ 9223372036854775807) (hq : q ≠ 0) (hr : ReOk G R q size draw site k s k' s' tg) :
    Calls Try.prog 72 #[.pointer (some ⟨p, 0, none⟩), .int .i64 q, .int .i64 size, .int .i64 draw, .int .i64 site] w fun e w' => e = .returned (.tuple #[.int .i64 (mOut R size draw).1, .int .i64 0]) ∧ GRep w' p vc bb (reG G R q size draw site) ∧ Kept w w' (GFoot p vc bb G) := by
  have hq0 : (q == 0) = false := by rw [beq_eq_false_iff_ne]; exact hq
  have HR := hide2 h
  have HS := hide2 hs
  have HRE := hide2 hr
  have HBL : Hid (gblock G R.cls q = ((k : Int), (s : Int), 0)) := (hs.sim.block q).trans hr.old
  have HM2 : Hid ((mOut R size draw).2 = 0) := by show _ = _; rw [hr.out]
  have hs1 := hs.malloc size draw site
  have HS1 := hide2 hs1
  have hc1 : (mR R size draw site).cls = R.cls := by rw [hr.mr]
  obtain ⟨z, z0, z1, hbz, hn⟩ := hr.n hs
  have hfz := gsz_fit hr.h1 hr.hz
  have hg8 := hs.sim.ok.conf.g1 k' hr.hk'
  have hg8o := hs.sim.ok.conf.g1 k hr.hk
  have hbn := hr.bnew hs
  have hbo := hr.bold hs
  have hoa := hr.oldAt hs
  have hat := hr.out_at hs
  have hml := mG_memlen G R size draw site
  have q0 : 0 ≤ q := ((tame_iff q).1 hoa.1).1
  have m0 : 0 ≤ (mOut R size draw).1 := (mOut_bd hs.sim.rok size draw).1
  have HF : Hid (reG G R q size draw site = fG ⟨(mG G R size draw site).st, (mG G R size draw site).rest, (mG G R size draw site).cs, copyTo (mG G R size draw site).mem ((mOut R size draw).1 % 72057594037927936).toNat (q % 72057594037927936).toNat (R.reN q size draw site)⟩
    ((mR R size draw site).copies ((mOut R size draw).1 % 72057594037927936) (q % 72057594037927936) (R.reN q size draw site)) q site) := by
    show _ = _
    unfold reG
    rw [if_neg (fun x => x.2 (by rw [hr.old])), if_neg (by rintro (x | x); exact x HM2.out; exact hq x)]
  obtain ⟨a, ha⟩ := Int.eq_ofNat_of_zero_le (show 0 ≤ (mOut R size draw).1 % 72057594037927936 by omega)
  obtain ⟨b, hb⟩ := Int.eq_ofNat_of_zero_le (show 0 ≤ q % 72057594037927936 by omega)
  have hfg : ∀ mm : List Int, fG ⟨(mG G R size draw site).st, (mG G R size draw site).rest, (mG G R size draw site).cs, mm⟩ ((mR R size draw site).copies (a : Int) (b : Int) (R.reN q size draw site)) q site =
      GSt.withSlots ⟨(mG G R size draw site).st, (mG G R size draw site).rest, (mG G R size draw site).cs, mm⟩ k (freed ((mG G R size draw site).cs.getD k GCls.no).slots s (mG G R size draw site).rest site) := fun mm => by
    have hcs := (mR R size draw site).copies_same (a : Int) (b : Int) (R.reN q size draw site)
    unfold fG
    rw [hcs.1, hcs.2.2.1, hcs.2.2.2.1, hr.old1 hs, if_pos ⟨hq, rfl⟩]
    rfl
  rw [ha, hb, Int.toNat_natCast, Int.toNat_natCast, hfg] at HF
  clear hfg
  have hlenI : (mG G R size draw site).mem.length = G.mem.length := hml
  have fit1 : a + R.reN q size draw site ≤ (mG G R size draw site).mem.length := by omega
  have fit2 : b + R.reN q size draw site ≤ (mG G R size draw site).mem.length := by omega
  have fit3 : a < (mG G R size draw site).mem.length := by omega
  have fit4 : b < (mG G R size draw site).mem.length := by omega
  have hkl1 : k < (mG G R size draw site).cs.length := by rw [hs1.sim.ok.len, hc1]; exact hr.hk
  have hsl1 : s < ((mG G R size draw site).cs.getD k GCls.no).slots.length := by rw [hs1.sim.len (by rw [hc1]; exact hr.hk), hc1]; exact hr.hs
  have hl4 : (mG G R size draw site).cs.length ≤ 4 := by have := hs1.sim.ok.conf.n1; have := hs1.sim.ok.len; omega
  have hx16 : ((mG G R size draw site).cs.getD k GCls.no).slots.length ≤ 16 := by have := hs1.sim.ok.sl k (by rw [hc1]; exact hr.hk); have := hs1.sim.ok.conf.s1 k (by rw [hc1]; exact hr.hk); omega
  have HRS : Hid (∀ j, j < ((mG G R size draw site).cs.getD k GCls.no).slots.length → (((mG G R size draw site).cs.getD k GCls.no).slots.getD j GSlot.no).rest ≤ 16) := fun j hj => hs1.sim.rest_le (by rw [hc1]; exact hr.hk) j hj
  have HFT : Hid (∀ x, GFoot p vc bb (mG G R size draw site) x ↔ GFoot p vc bb G x) := fun x => mG_foot hs.sim size draw site p vc bb x
  have hsz1 := hr.h1
  have hsz8 : size ≤ 128 := by have := hr.hz; omega
  have HSM := hide2 hs1.sim.small
  have HMAL : Hid (∀ w1, GRep w1 p vc bb G → Calls Try.prog 69 #[.pointer (some ⟨p, 0, none⟩), .int .i64 size, .int .i64 draw, .int .i64 site] w1 fun e w' => e = .returned (.tuple #[.int .i64 (mOut R size draw).1, .int .i64 0]) ∧ GRep w' p vc bb (mG G R size draw site) ∧ Kept w1 w' (GFoot p vc bb G)) := fun w1 hw1 => by
    refine (gmalloc_all p vc bb G R size draw site w1 hw1 HS.out.sim).mono ?_
    rintro e w' ⟨rfl, hx, hy⟩
    exact ⟨by rw [HM2.out], hx, hy⟩
  obtain ⟨bz, hbz'⟩ := Int.eq_ofNat_of_zero_le (show 0 ≤ 16 * z by omega)
  obtain ⟨zz, hzz⟩ := Int.eq_ofNat_of_zero_le (show 0 ≤ 16 * Ref.gsz size by omega)
  have HZZ := hide2 hzz
  have HNN : Hid (R.reN q size draw site = min bz zz) := by show _ = _; omega
  rw [hbz'] at hbz
  have hbz8 : bz ≤ 128 := by omega
  have hzz8 : zz ≤ 128 := by omega
  have HXX := hide2 hx16
  clear h hs hr hs1 hml hlenI hoa hbn hbo hat hn hbz' hfz hg8 hg8o hzz
  rw [HNN.out] at HF fit1 fit2
  generalize mG G R size draw site = G1 at *
  generalize (mOut R size draw).1 = qn at *
  go_enter Try.func72, Try.ntmps72
  go_wp2_with fail
  refine (blockOf_all p vc bb G R.rest R.cls q w HR.out HS.out.sim.ok q1).mono ?_
  rw [HBL.out]
  rintro e1 w1 ⟨rfl, hb1⟩
  go_wp2_with fail
  refine (HMAL.out w1 (HR.out.below hb1)).mono ?_
  rintro e1 w2 ⟨rfl, hG2, hk2⟩
  have HG2 := hide2 hG2
  have HK2 := hide2 ((Kept.of_below hb1 _).trans hk2)
  clear hk2
  obtain ⟨g, cap, rfl, hmax, hgl, c2, d2, x2⟩ := hG2.slotBytes k s hkl1 hsl1
  have c1 := hG2.blk.cell (j := 1) rfl
  have hp := hG2.blk.lt
  have HBK := hide2 (hG2.slots k hkl1)
  have hsb := (hG2.slots k hkl1).lt
  unfold maxLen at hmax
  rw [hbz] at x2
  have hkI : (k : Int) < (G1.cs.length : Int) := by omega
  have hsI : (s : Int) < ((G1.cs.getD k GCls.no).slots.length : Int) := by omega
  have hgs : g ≠ (G1.cs.getD k GCls.no).sb := fun e => (hG2.apS k hkl1).2.2 (by rw [← e]; rfl)
  have hps : p ≠ (G1.cs.getD k GCls.no).sb := fun e => (hG2.apS k hkl1).1 e.symm
  have hbs : (G1.cs.getD k GCls.no).sb ≠ bb := (hG2.apS k hkl1).2.1
  have hpb : p ≠ bb := fun e => hG2.apB e.symm
  have hgb : g ≠ bb := fun e => hG2.apCB (by rw [← e]; rfl)
  have HSL := hide2 (show (freed (G1.cs.getD k GCls.no).slots s G1.rest site).length = (G1.cs.getD k GCls.no).slots.length from freed_len _ _ _ _)
  clear hG2
  generalize hsbe : (G1.cs.getD k GCls.no).sb = sb at *
  generalize hxs : (G1.cs.getD k GCls.no).slots = xs at *
  have HSB := hide2 hsbe
  have HXS := hide2 hxs
  clear hsbe hxs hbz
  have fin : ∀ (w3 : World) (n : Nat), n = min bz zz → GRep w3 p (.slice (some ⟨g, 0, none⟩) G1.cs.length cap) bb ⟨G1.st, G1.rest, G1.cs, copyTo G1.mem a b n⟩ → Kept w2 w3 (· = bb) → ∀ w4, Blk w4 sb 97 ((freed xs s G1.rest site).flatMap slotCells) → Kept w3 w4 (· = sb) →
      GRep w4 p (.slice (some ⟨g, 0, none⟩) G1.cs.length cap) bb (reG G R q size draw site) ∧ Kept w w4 (GFoot p (.slice (some ⟨g, 0, none⟩) G1.cs.length cap) bb G) := fun w3 n hnn hG3 hk3 w4 hb4 hk4 => by
    constructor
    · rw [HF.out, ← hnn]
      exact hG3.setSlots k hkl1 _ (by show _ = (G1.cs.getD k GCls.no).slots.length; rw [HXS.out]; exact HSL.out) (by show Kept w3 w4 (fun b => b = (G1.cs.getD k GCls.no).sb); rw [HSB.out]; exact hk4) (by show Blk w4 (G1.cs.getD k GCls.no).sb _ _; rw [HSB.out]; exact hb4)
    · refine HK2.out.trans ((hk3.mono fun x _ hx => .inr (.inr (.inl hx))).trans (hk4.mono fun x _ hx => ?_))
      exact (HFT.out x).1 (.inr (.inr (.inr ⟨k, hkl1, hx.trans HSB.out.symm⟩)))
  have FIN := hide2 fin
  clear fin
  by_cases hcase : bz < zz
  · have hI : (bz : Int) < (zz : Int) := by omega
    have hmin : min bz zz = bz := by omega
    rw [hmin] at fit1 fit2
    go_wp2_with fail
    refine (whole_any size w2 hsz1 hsz8).mono ?_
    rw [HZZ.out]
    rintro e1 w3 ⟨rfl, rfl⟩
    go_wp2_with fail
    refine (copyBytes_any p _ bb G1 a b bz w2 HG2.out fit1 fit2 fit3 fit4 HSM.out).mono ?_
    rintro e1 w3 ⟨rfl, hG3, hk3⟩
    have c1' := (World.cell?_of_block (a := ⟨p, 1, none⟩) (hk3.block p hp hpb)).trans c1
    have c2' := (World.cell?_of_block (a := ⟨p, 2, none⟩) (hk3.block p hp hpb)).trans c2
    have d2' := (World.cell?_of_block (a := ⟨g, k * 3 + 2, none⟩) (hk3.block g hgl hgb)).trans d2
    have HB3 : Hid (Blk w3 sb 97 (xs.flatMap slotCells)) := (hk3.block sb hsb hbs).trans HBK.out
    have HG3 := hide2 hG3
    have HK3 := hide2 hk3
    have hp3 : p < w3.heap.size := Nat.lt_of_lt_of_le hp hk3.size
    clear c1 c2 d2 x2 hG3 hk3
    go_wp2_with fail
    go_region_held3 (fun w' => w'.cell? ⟨p, 1, none⟩ = some (.int .i64 G1.rest) ∧ w'.cell? ⟨p, 2, none⟩ = some (.slice (some ⟨g, 0, none⟩) G1.cs.length cap)) (go_keep)
      (first | (go_at_call 85; refine (freeSlot_any g (k * 3) sb xs s G1.rest site w3.drew d2' HB3.out hgs hsl1 HXX.out HRS.out).mono ?_; rintro e1 w4 ⟨rfl, hb4, hk4⟩; have c1'' : w4.cell? ⟨p, 1, none⟩ = some (.int .i64 G1.rest) := ((World.cell?_of_block (w := w3.drew) (hk4.block p hp3 hps)).trans c1'); have c2'' : w4.cell? ⟨p, 2, none⟩ = some (.slice (some ⟨g, 0, none⟩) G1.cs.length cap) := ((World.cell?_of_block (w := w3.drew) (hk4.block p hp3 hps)).trans c2')))
    go_wp2
    go_ret2
    have hx := FIN.out w3 bz hmin.symm HG3.out HK3.out w4 hb4 ⟨hk4.os, hk4.tape, hk4.output, hk4.size, hk4.block⟩
    exact ⟨rfl, hx.1, hx.2⟩
  · have hI : (zz : Int) ≤ (bz : Int) := by omega
    have hmin : min bz zz = zz := by omega
    rw [hmin] at fit1 fit2
    go_wp2_with fail
    refine (whole_any size w2 hsz1 hsz8).mono ?_
    rw [HZZ.out]
    rintro e1 w3 ⟨rfl, rfl⟩
    go_wp2_with fail
    refine (copyBytes_any p _ bb G1 a b zz w2 HG2.out fit1 fit2 fit3 fit4 HSM.out).mono ?_
    rintro e1 w3 ⟨rfl, hG3, hk3⟩
    have c1' := (World.cell?_of_block (a := ⟨p, 1, none⟩) (hk3.block p hp hpb)).trans c1
    have c2' := (World.cell?_of_block (a := ⟨p, 2, none⟩) (hk3.block p hp hpb)).trans c2
    have d2' := (World.cell?_of_block (a := ⟨g, k * 3 + 2, none⟩) (hk3.block g hgl hgb)).trans d2
    have HB3 : Hid (Blk w3 sb 97 (xs.flatMap slotCells)) := (hk3.block sb hsb hbs).trans HBK.out
    have HG3 := hide2 hG3
    have HK3 := hide2 hk3
    have hp3 : p < w3.heap.size := Nat.lt_of_lt_of_le hp hk3.size
    clear c1 c2 d2 x2 hG3 hk3
    go_wp2_with fail
    go_region_held3 (fun w' => w'.cell? ⟨p, 1, none⟩ = some (.int .i64 G1.rest) ∧ w'.cell? ⟨p, 2, none⟩ = some (.slice (some ⟨g, 0, none⟩) G1.cs.length cap)) (go_keep)
      (first | (go_at_call 85; refine (freeSlot_any g (k * 3) sb xs s G1.rest site w3.drew d2' HB3.out hgs hsl1 HXX.out HRS.out).mono ?_; rintro e1 w4 ⟨rfl, hb4, hk4⟩; have c1'' : w4.cell? ⟨p, 1, none⟩ = some (.int .i64 G1.rest) := ((World.cell?_of_block (w := w3.drew) (hk4.block p hp3 hps)).trans c1'); have c2'' : w4.cell? ⟨p, 2, none⟩ = some (.slice (some ⟨g, 0, none⟩) G1.cs.length cap) := ((World.cell?_of_block (w := w3.drew) (hk4.block p hp3 hps)).trans c2')))
    go_wp2
    go_ret2
    have hx := FIN.out w3 zz hmin.symm HG3.out HK3.out w4 hb4 ⟨hk4.os, hk4.tape, hk4.output, hk4.size, hk4.block⟩
    exact ⟨rfl, hx.1, hx.2⟩

set_option maxRecDepth 100000 in
set_option maxHeartbeats 1600000 in
theorem greal_any (p : Nat) (vc : Value) (bb : Nat) (G : GSt) (R : RSt) (q size draw site : Int) (w : World) (h : GRep w p vc bb G) (hs : SimB G R) (q1 : q ≤ 9223372036854775807) :
    Calls Try.prog 72 #[.pointer (some ⟨p, 0, none⟩), .int .i64 q, .int .i64 size, .int .i64 draw, .int .i64 site] w fun e w' => e = .returned (.tuple #[.int .i64 (R.reOut q size draw).1, .int .i64 (R.reOut q size draw).2]) ∧ GRep w' p vc bb (reG G R q size draw site) ∧ Kept w w' (GFoot p vc bb G) := by
  have HR := hide2 h
  have HS := hide2 hs
  by_cases hq : q = 0
  · have hnb : ¬ R.reBad q := fun x => x.1 hq
    have HE : Hid (R.reOut q size draw = mOut R size draw) := if_neg hnb
    have HF : Hid (reG G R q size draw site = mG G R size draw site) := (if_neg hnb).trans (if_pos (.inr hq))
    clear hnb h hs
    subst hq
    go_enter Try.func72, Try.ntmps72
    go_wp2_with (go_at_call 69; refine (gmalloc_all p vc bb G R size draw site w HR.out HS.out.sim).mono ?_; rintro e1 w1 ⟨rfl, hG1, hk1⟩)
    all_goals
      go_ret2
      refine ⟨?_, by rw [HF.out]; exact hG1, hk1⟩
      rw [HE.out]
      first | rfl | (rename_i hh; rw [hh]; rfl)
  · have hqb : (q == 0) = false := by rw [beq_eq_false_iff_ne]; exact hq
    rcases re_cases hs q size draw site with x | x | ⟨k, s, k', s', tg, hr⟩
    · have hbad : R.reBad q := ⟨hq, x⟩
      have HE : Hid (R.reOut q size draw = (0, (Ref.block R.st R.cls R.log q).2.2)) := if_pos hbad
      have HF : Hid (reG G R q size draw site = G) := if_pos hbad
      have HBL := hide2 (hs.sim.block q)
      have hxb : ((Ref.block R.st R.cls R.log q).2.2 != 0) = true := by simp [x]
      clear h hs hbad x hq
      go_enter Try.func72, Try.ntmps72
      go_wp2_with (go_at_call 84; refine (blockOf_all p vc bb G R.rest R.cls q w HR.out HS.out.sim.ok q1).mono ?_; rw [HBL.out]; rintro e1 w1 ⟨rfl, hb1⟩)
      go_ret2
      exact ⟨by rw [HE.out]; rfl, by rw [HF.out]; exact HR.out.below hb1, Kept.of_below hb1 _⟩
    · by_cases hbl : (Ref.block R.st R.cls R.log q).2.2 = 0
      · have hnb : ¬ R.reBad q := fun y => y.2 hbl
        have HE : Hid (R.reOut q size draw = mOut R size draw) := if_neg hnb
        have HF : Hid (reG G R q size draw site = mG G R size draw site) := (if_neg hnb).trans (if_pos (.inl x))
        have HM : Hid (mOut R size draw = (0, (mOut R size draw).2)) := by
          show _ = _
          rcases mOut_cases R hs.sim.rok size draw with ⟨_, hm⟩ | ⟨k', _, _, _, _, hm⟩ | ⟨k', s', h1, hk', hkl', hf, hs', hz, hm⟩
          · rw [hm]
          · rw [hm]
          · rw [hm] at x; exact absurd rfl x
        have HBL := hide2 (hs.sim.block q)
        have HB0 := hide2 hbl
        have hxb : ((mOut R size draw).2 != 0) = true := by simp [x]
        clear h hs hnb x hq hbl
        go_enter Try.func72, Try.ntmps72
        go_wp2_with fail
        refine (blockOf_all p vc bb G R.rest R.cls q w HR.out HS.out.sim.ok q1).mono ?_
        rw [HBL.out, HB0.out]
        rintro e1 w1 ⟨rfl, hb1⟩
        go_wp2_with fail
        refine (gmalloc_all p vc bb G R size draw site w1 (HR.out.below hb1) HS.out.sim).mono ?_
        rintro e1 w2 ⟨rfl, hG2, hk2⟩
        go_wp2
        go_ret2
        exact ⟨by rw [HE.out, HM.out]; rfl, by rw [HF.out]; exact hG2, (Kept.of_below hb1 _).trans hk2⟩
      · have hbad : R.reBad q := ⟨hq, hbl⟩
        have HE : Hid (R.reOut q size draw = (0, (Ref.block R.st R.cls R.log q).2.2)) := if_pos hbad
        have HF : Hid (reG G R q size draw site = G) := if_pos hbad
        have HBL := hide2 (hs.sim.block q)
        have hxb : ((Ref.block R.st R.cls R.log q).2.2 != 0) = true := by simp [hbl]
        clear h hs hbad x hq hbl
        go_enter Try.func72, Try.ntmps72
        go_wp2_with (go_at_call 84; refine (blockOf_all p vc bb G R.rest R.cls q w HR.out HS.out.sim.ok q1).mono ?_; rw [HBL.out]; rintro e1 w1 ⟨rfl, hb1⟩)
        go_ret2
        exact ⟨by rw [HE.out]; rfl, by rw [HF.out]; exact HR.out.below hb1, Kept.of_below hb1 _⟩
    · refine (greal_ok p vc bb G R q size draw site k s k' s' tg w h hs q1 hq hr).mono ?_
      rintro e w' ⟨rfl, h1, h2⟩
      have hnb : ¬ R.reBad q := fun y => y.2 (by rw [hr.old])
      have HE : R.reOut q size draw = mOut R size draw := if_neg hnb
      exact ⟨by rw [HE, hr.out], h1, h2⟩
end Go.Proofs.Ytjikemhmnkckcab
/- For the images: a configuration in memory, on both sides, is in CodeConf and what it imports. -/
/- An instruction that may stand in a program, on both sides. -/
namespace Go.Proofs.Ytjikemhmnkckcab
open Go.RowKit

/-- the letters of an operation: R 82, B 66, T 84, Z 90 -/
def opKinds (op : Int) : List Nat :=
  if op = 0 ∨ op = 8 ∨ op = 9 ∨ op = 12 then [82, 90, 90]
  else if op = 1 ∨ op = 10 then [82, 66, 66]
  else if op = 2 ∨ op = 3 ∨ op = 4 ∨ op = 5 ∨ op = 13 ∨ op = 19 then [82, 82, 82]
  else if op = 6 then [84, 90, 90]
  else if op = 7 then [82, 84, 90]
  else if op = 11 ∨ op = 14 then [82, 82, 90]
  else if op = 15 ∨ op = 16 ∨ op = 17 ∨ op = 18 then [82, 82, 66]
  else []
def kindB (k : Int) (v n : Int) : Bool := if k = 82 then withinB v 0 7 else if k = 66 then withinB v 0 255 else if k = 84 then withinB v 0 (n - 1) else withinB v 0 0
def mayB (op a b c n : Int) : Bool := match opKinds op with
  | [x, y, z] => kindB x a n && kindB y b n && kindB z c n
  | _ => false
def kindsV (op : Int) : Value := .string ⟨((opKinds op).map UInt8.ofNat).toArray⟩
theorem opKinds_none {op : Int} (h : op < 0 ∨ 19 < op) : opKinds op = [] := by
  unfold opKinds
  rw [if_neg (by omega), if_neg (by omega), if_neg (by omega), if_neg (by omega), if_neg (by omega), if_neg (by omega), if_neg (by omega)]
theorem op_cases {op : Int} (h : ¬ (op < 0 ∨ 19 < op)) : op = 0 ∨ op = 1 ∨ op = 2 ∨ op = 3 ∨ op = 4 ∨ op = 5 ∨ op = 6 ∨ op = 7 ∨ op = 8 ∨ op = 9 ∨ op = 10 ∨ op = 11 ∨ op = 12 ∨ op = 13 ∨ op = 14 ∨ op = 15 ∨ op = 16 ∨ op = 17 ∨ op = 18 ∨ op = 19 := by omega

set_option maxRecDepth 100000 in
set_option maxHeartbeats 1600000 in
theorem operands_any (op : Int) (w : World) : Calls Try.prog 50 #[.int .i64 op] w fun e w' => e = .returned (kindsV op) ∧ w = w' := by
  by_cases h : op < 0 ∨ 19 < op
  · have HF : Hid (kindsV op = .string ⟨#[]⟩) := by show _ = _; unfold kindsV; rw [opKinds_none h]; rfl
    have q0 : (op == 0) = false := by rw [beq_eq_false_iff_ne]; omega
    have q1 : (op == 1) = false := by rw [beq_eq_false_iff_ne]; omega
    have q2 : (op == 2) = false := by rw [beq_eq_false_iff_ne]; omega
    have q3 : (op == 3) = false := by rw [beq_eq_false_iff_ne]; omega
    have q4 : (op == 4) = false := by rw [beq_eq_false_iff_ne]; omega
    have q5 : (op == 5) = false := by rw [beq_eq_false_iff_ne]; omega
    have q6 : (op == 6) = false := by rw [beq_eq_false_iff_ne]; omega
    have q7 : (op == 7) = false := by rw [beq_eq_false_iff_ne]; omega
    have q8 : (op == 8) = false := by rw [beq_eq_false_iff_ne]; omega
    have q9 : (op == 9) = false := by rw [beq_eq_false_iff_ne]; omega
    have q10 : (op == 10) = false := by rw [beq_eq_false_iff_ne]; omega
    have q11 : (op == 11) = false := by rw [beq_eq_false_iff_ne]; omega
    have q12 : (op == 12) = false := by rw [beq_eq_false_iff_ne]; omega
    have q13 : (op == 13) = false := by rw [beq_eq_false_iff_ne]; omega
    have q14 : (op == 14) = false := by rw [beq_eq_false_iff_ne]; omega
    have q15 : (op == 15) = false := by rw [beq_eq_false_iff_ne]; omega
    have q16 : (op == 16) = false := by rw [beq_eq_false_iff_ne]; omega
    have q17 : (op == 17) = false := by rw [beq_eq_false_iff_ne]; omega
    have q18 : (op == 18) = false := by rw [beq_eq_false_iff_ne]; omega
    have q19 : (op == 19) = false := by rw [beq_eq_false_iff_ne]; omega
    clear h
    go_enter Try.func50, Try.ntmps50
    go_wp2
    go_ret
    exact ⟨by rw [HF.out]; rfl, rfl⟩
  · rcases op_cases h with rfl | rfl | rfl | rfl | rfl | rfl | rfl | rfl | rfl | rfl | rfl | rfl | rfl | rfl | rfl | rfl | rfl | rfl | rfl | rfl
    all_goals
      clear h
      go_enter Try.func50, Try.ntmps50
      go_wp2
      go_ret
      exact ⟨rfl, rfl⟩

set_option maxRecDepth 100000 in
set_option maxHeartbeats 1600000 in
theorem validOperand_any (k v n : Int) (w : World) (n0 : -9223372036854775807 ≤ n) (n1 : n ≤ 9223372036854775807) : Calls Try.prog 51 #[.int .u8 k, .int .i64 v, .int .i64 n] w fun e w' => e = .returned (.bool (kindB k v n)) ∧ w = w' := by
  have HF : Hid (kindB k v n = if k = 82 then withinB v 0 7 else if k = 66 then withinB v 0 255 else if k = 84 then withinB v 0 (n - 1) else withinB v 0 0) := rfl
  generalize kindB k v n = res at *
  by_cases c1 : k = 82
  · rw [if_pos c1] at HF
    subst c1
    go_enter Try.func51, Try.ntmps51
    go_wp2_with (go_at_call 42; refine (within_any v 0 7 _).mono ?_; rintro e1 w1 ⟨rfl, rfl⟩)
    go_ret
    exact ⟨by rw [HF.out]; rfl, rfl⟩
  · rw [if_neg c1] at HF
    have b1 : (k == 82) = false := by rw [beq_eq_false_iff_ne]; exact c1
    by_cases c2 : k = 66
    · rw [if_pos c2] at HF
      subst c2
      go_enter Try.func51, Try.ntmps51
      go_wp2_with (go_at_call 42; refine (within_any v 0 255 _).mono ?_; rintro e1 w1 ⟨rfl, rfl⟩)
      go_ret
      exact ⟨by rw [HF.out]; rfl, rfl⟩
    · rw [if_neg c2] at HF
      have b2 : (k == 66) = false := by rw [beq_eq_false_iff_ne]; exact c2
      by_cases c3 : k = 84
      · rw [if_pos c3] at HF
        subst c3
        go_enter Try.func51, Try.ntmps51
        go_wp2_with (go_at_call 42; refine (within_any v 0 (n - 1) _).mono ?_; rintro e1 w1 ⟨rfl, rfl⟩)
        go_ret
        exact ⟨by rw [HF.out]; rfl, rfl⟩
      · rw [if_neg c3] at HF
        have b3 : (k == 84) = false := by rw [beq_eq_false_iff_ne]; exact c3
        clear c1 c2 c3
        go_enter Try.func51, Try.ntmps51
        go_wp2_with (go_at_call 42; refine (within_any v 0 0 _).mono ?_; rintro e1 w1 ⟨rfl, rfl⟩)
        go_ret
        exact ⟨by rw [HF.out]; rfl, rfl⟩
end Go.Proofs.Ytjikemhmnkckcab
/- validInstr. -/
namespace Go.Proofs.Ytjikemhmnkckcab
open Go.RowKit

theorem opKinds_some {op : Int} (h : ¬ (op < 0 ∨ 19 < op)) : opKinds op = [82, 90, 90] ∨ opKinds op = [82, 66, 66] ∨ opKinds op = [82, 82, 82] ∨ opKinds op = [84, 90, 90] ∨ opKinds op = [82, 84, 90] ∨ opKinds op = [82, 82, 90] ∨ opKinds op = [82, 82, 66] := by
  rcases op_cases h with rfl | rfl | rfl | rfl | rfl | rfl | rfl | rfl | rfl | rfl | rfl | rfl | rfl | rfl | rfl | rfl | rfl | rfl | rfl | rfl <;> decide
/-- what is still to be looked at -/
def restB (x y z a b c n : Int) (m : Nat) : Bool := (decide (0 < m) || kindB x a n) && (decide (1 < m) || kindB y b n) && (decide (2 < m) || kindB z c n)

set_option maxRecDepth 100000 in
set_option maxHeartbeats 1600000 in
theorem validInstr_no (op a b c n : Int) (w : World) (h : op < 0 ∨ 19 < op) :
    Calls Try.prog 43 #[.agg #[.int .i64 op, .int .i64 a, .int .i64 b, .int .i64 c], .int .i64 n] w fun e w' => e = .returned (.bool (mayB op a b c n)) ∧ Below w.heap.size w w' := by
  have HM : Hid (mayB op a b c n = false) := by show _ = _; unfold mayB; rw [opKinds_none h]
  have HK : Hid (kindsV op = .string ⟨#[]⟩) := by show _ = _; unfold kindsV; rw [opKinds_none h]; rfl
  rw [HM.out]
  clear h
  go_enter Try.func43, Try.ntmps43
  go_wp2_with (go_at_call 50; refine (operands_any op _).mono ?_; rw [HK.out]; rintro e2 w2 ⟨rfl, rfl⟩)
  go_ret
  exact ⟨rfl, ((Below.refl _ _).alloc (Nat.le_refl _) _).alloc (by simp) _⟩

set_option maxRecDepth 100000 in
set_option maxHeartbeats 3200000 in
theorem validInstr_at (op a b c n : Int) (x y z : Nat) (w : World) (n0 : 0 ≤ n) (n1 : n ≤ 9223372036854775807) (hx : x < 256) (hy : y < 256) (hz : z < 256) (hk : opKinds op = [x, y, z]) :
    Calls Try.prog 43 #[.agg #[.int .i64 op, .int .i64 a, .int .i64 b, .int .i64 c], .int .i64 n] w fun e w' => e = .returned (.bool (mayB op a b c n)) ∧ Below w.heap.size w w' := by
  have HM : Hid (mayB op a b c n = restB x y z a b c n 0) := by show _ = _; unfold mayB restB; rw [hk]; simp
  have HK : Hid (kindsV op = .string ⟨#[UInt8.ofNat x, UInt8.ofNat y, UInt8.ofNat z]⟩) := by show _ = _; unfold kindsV; rw [hk]; rfl
  have hux : (((UInt8.ofNat x).toNat : Nat) : Int) = (x : Int) := by rw [UInt8.toNat_ofNat']; omega
  have huy : (((UInt8.ofNat y).toNat : Nat) : Int) = (y : Int) := by rw [UInt8.toNat_ofNat']; omega
  have huz : (((UInt8.ofNat z).toNat : Nat) : Int) = (z : Int) := by rw [UInt8.toNat_ofNat']; omega
  generalize mayB op a b c n = res at *
  clear hk
  go_enter Try.func43, Try.ntmps43
  go_wp2_with fail
  obtain ⟨w1, hw1⟩ : ∃ w1, w1 = (w.alloc (.cells #[.int .i64 op, .int .i64 a, .int .i64 b, .int .i64 c] 35)).alloc (.cells #[.int .i64 a, .int .i64 b, .int .i64 c] 88) := ⟨_, rfl⟩
  rw [← hw1]
  have hb1 : Below w.heap.size w w1 := by rw [hw1]; exact ((Below.refl _ _).alloc (Nat.le_refl _) _).alloc (by simp) _
  have HG : Hid (Blk w1 (w.heap.size + 1) 88 [.int .i64 a, .int .i64 b, .int .i64 c]) := by
    show Blk _ _ _ _
    rw [hw1]
    have := Blk.alloc (w.alloc (.cells #[.int .i64 op, .int .i64 a, .int .i64 b, .int .i64 c] 35)) 88 [.int .i64 a, .int .i64 b, .int .i64 c]
    rw [World.size_alloc] at this
    exact this
  have HB1 := hide2 hb1
  obtain ⟨gb, hgb⟩ : ∃ gb, gb = w.heap.size + 1 := ⟨_, rfl⟩
  rw [← hgb] at HG ⊢
  clear hw1 hb1 hgb
  refine (operands_any op w1).mono ?_
  rw [HK.out]
  rintro e2 w2 ⟨rfl, rfl⟩
  go_wp2
  go_loopw [7] (fun i wr => ∃ m : Nat, m ≤ 3 ∧ i = .int .i64 (m : Int) ∧ Below w.heap.size w wr ∧ Hid (Blk wr gb 88 [.int .i64 a, .int .i64 b, .int .i64 c]) ∧ Hid (res = restB x y z a b c n m)) (fun i _ => 3 - (intOf i).toNat)
  case atStart => exact ⟨0, by omega, rfl, HB1.out, HG, HM⟩
  case round =>
    obtain ⟨m, hm, rfl, hb, HGR, HRS⟩ := hrel
    have HB := hide2 hb
    have hgl := HGR.out.lt
    have a0 := HGR.out.cell (j := 0) rfl
    have a1 := HGR.out.cell (j := 1) rfl
    have a2 := HGR.out.cell (j := 2) rfl
    clear hb
    by_cases h3 : m = 3
    · subst h3
      have HT : Hid (res = true) := by show _ = _; rw [HRS.out]; rfl
      go_wp2
      go_ret
      exact ⟨by rw [HT.out]; rfl, HB.out⟩
    · by_cases h0 : m = 0
      · subst h0
        cases hv : kindB x a n
        · have HT : Hid (res = false) := by show _ = _; rw [HRS.out]; unfold restB; rw [hv]; simp
          have HVx : Hid (kindB (((UInt8.ofNat x).toNat : Nat) : Int) a n = false) := by show _ = _; rw [hux]; exact hv
          clear hv
          go_wp2_with fail
          go_quiet (first | (go_at_call 51; refine Calls.quiet_of_same ((validOperand_any _ a n _ (by omega) n1).mono (fun _ _ h => ⟨h.1.trans (congrArg (fun b => Ending.returned (Value.bool b)) (HVx.out)), h.2.symm⟩))))
          go_wp2
          go_ret
          exact ⟨by rw [HT.out]; rfl, below_drewN HB.out _⟩
        · have HT : Hid (res = restB x y z a b c n 1) := by show _ = _; rw [HRS.out]; unfold restB; rw [hv]; simp
          have HVx : Hid (kindB (((UInt8.ofNat x).toNat : Nat) : Int) a n = true) := by show _ = _; rw [hux]; exact hv
          clear hv
          go_wp2_with fail
          go_quiet (first | (go_at_call 51; refine Calls.quiet_of_same ((validOperand_any _ a n _ (by omega) n1).mono (fun _ _ h => ⟨h.1.trans (congrArg (fun b => Ending.returned (Value.bool b)) (HVx.out)), h.2.symm⟩))))
          go_wp2
          go_roundw
          case rel => exact ⟨1, by omega, by go_num, below_drewN HB.out _, HGR.out.below (below_drewN (Below.refl wr.heap.size wr) _) hgl, HT⟩
          case measure => simp [intOf]
      · by_cases h1 : m = 1
        · subst h1
          cases hv : kindB y b n
          · have HT : Hid (res = false) := by show _ = _; rw [HRS.out]; unfold restB; rw [hv]; simp
            have HVy : Hid (kindB (((UInt8.ofNat y).toNat : Nat) : Int) b n = false) := by show _ = _; rw [huy]; exact hv
            clear hv
            go_wp2_with fail
            go_quiet (first | (go_at_call 51; refine Calls.quiet_of_same ((validOperand_any _ b n _ (by omega) n1).mono (fun _ _ h => ⟨h.1.trans (congrArg (fun b => Ending.returned (Value.bool b)) (HVy.out)), h.2.symm⟩))))
            go_wp2
            go_ret
            exact ⟨by rw [HT.out]; rfl, below_drewN HB.out _⟩
          · have HT : Hid (res = restB x y z a b c n 2) := by show _ = _; rw [HRS.out]; unfold restB; rw [hv]; simp
            have HVy : Hid (kindB (((UInt8.ofNat y).toNat : Nat) : Int) b n = true) := by show _ = _; rw [huy]; exact hv
            clear hv
            go_wp2_with fail
            go_quiet (first | (go_at_call 51; refine Calls.quiet_of_same ((validOperand_any _ b n _ (by omega) n1).mono (fun _ _ h => ⟨h.1.trans (congrArg (fun b => Ending.returned (Value.bool b)) (HVy.out)), h.2.symm⟩))))
            go_wp2
            go_roundw
            case rel => exact ⟨2, by omega, by go_num, below_drewN HB.out _, HGR.out.below (below_drewN (Below.refl wr.heap.size wr) _) hgl, HT⟩
            case measure => simp [intOf]
        · obtain rfl : m = 2 := by omega
          cases hv : kindB z c n
          · have HT : Hid (res = false) := by show _ = _; rw [HRS.out]; unfold restB; rw [hv]; simp
            have HVz : Hid (kindB (((UInt8.ofNat z).toNat : Nat) : Int) c n = false) := by show _ = _; rw [huz]; exact hv
            clear hv
            go_wp2_with fail
            go_quiet (first | (go_at_call 51; refine Calls.quiet_of_same ((validOperand_any _ c n _ (by omega) n1).mono (fun _ _ h => ⟨h.1.trans (congrArg (fun b => Ending.returned (Value.bool b)) (HVz.out)), h.2.symm⟩))))
            go_wp2
            go_ret
            exact ⟨by rw [HT.out]; rfl, below_drewN HB.out _⟩
          · have HT : Hid (res = restB x y z a b c n 3) := by show _ = _; rw [HRS.out]; unfold restB; rw [hv]; simp
            have HVz : Hid (kindB (((UInt8.ofNat z).toNat : Nat) : Int) c n = true) := by show _ = _; rw [huz]; exact hv
            clear hv
            go_wp2_with fail
            go_quiet (first | (go_at_call 51; refine Calls.quiet_of_same ((validOperand_any _ c n _ (by omega) n1).mono (fun _ _ h => ⟨h.1.trans (congrArg (fun b => Ending.returned (Value.bool b)) (HVz.out)), h.2.symm⟩))))
            go_wp2
            go_roundw
            case rel => exact ⟨3, by omega, by go_num, below_drewN HB.out _, HGR.out.below (below_drewN (Below.refl wr.heap.size wr) _) hgl, HT⟩
            case measure => simp [intOf]

theorem validInstr_any (op a b c n : Int) (w : World) (n0 : 0 ≤ n) (n1 : n ≤ 9223372036854775807) :
    Calls Try.prog 43 #[.agg #[.int .i64 op, .int .i64 a, .int .i64 b, .int .i64 c], .int .i64 n] w fun e w' => e = .returned (.bool (mayB op a b c n)) ∧ Below w.heap.size w w' := by
  by_cases h : op < 0 ∨ 19 < op
  · exact validInstr_no op a b c n w h
  · rcases opKinds_some h with hk | hk | hk | hk | hk | hk | hk
    all_goals exact validInstr_at op a b c n _ _ _ w n0 n1 (by decide) (by decide) (by decide) hk
end Go.Proofs.Ytjikemhmnkckcab
