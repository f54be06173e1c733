import Derived.Test.YtjikemhmnkckcabGreatJ53
namespace Go.Proofs.YtjikemhmnkckcabGreat
open Go.RowKit
attribute [local go_sem ↓] Go.wp_at_zero Go.wp_at_succ
structure TBox (B : Nat) (w wr : World) (pb : Nat) (st rest : Int) (d : ByteArray) (vc vi : Value) (cls : List (Int × Int)) (code : List Ins) : Prop where
 below : Below B w wr
 blk : Blk wr pb 39 [.int .i64 st, .int .i64 rest, vc, .string d, vi]
 crow : wr.ownsRow 0 84 2 vc cls.length (cls.flatMap clsCells)
 irow : wr.ownsRow 0 60 4 vi code.length (code.flatMap insCells)
 base : B ≤ pb
 cfar : ∀ g, vc.ownBlock = some g → B ≤ g ∧ g ≠ pb
 ifar : ∀ g, vi.ownBlock = some g → B ≤ g ∧ g ≠ pb
 apart : ∀ g, vc.ownBlock = some g → vi.ownBlock ≠ some g
section
variable {B : Nat} {w wr : World} {pb : Nat} {st rest : Int} {d : ByteArray} {vc vi : Value} {cls : List (Int × Int)} {code : List Ins}
theorem TBox.under {wx : World} (h : TBox B w wr pb st rest d vc vi cls code) (hx : Below wr.heap.size wr wx) : TBox B w wx pb st rest d vc vi cls code :=
 ⟨h.below.trans (hx.mono (by have := h.base; have := h.blk.lt; omega)), h.blk.below hx h.blk.lt, row_below h.crow hx (own_lt h.crow), row_below h.irow hx (own_lt h.irow), h.base, h.cfar, h.ifar, h.apart⟩
theorem TBox.data (h : TBox B w wr pb st rest d vc vi cls code) (d' : ByteArray) : TBox B w (wr.setCell ⟨pb, 3, none⟩ (.string d')) pb st rest d' vc vi cls code :=
 ⟨h.below.setCell h.base _, h.blk.setCell 3 _, row_kept h.crow (fun g hg => Below.heap_setCell wr _ _ g (h.cfar g hg).2), row_kept h.irow (fun g hg => Below.heap_setCell wr _ _ g (h.ifar g hg).2), h.base, h.cfar, h.ifar, h.apart⟩
theorem TBox.addI {wx w2 : World} {g cap : Nat} {c : Ins} (h : TBox B w wr pb st rest d vc vi cls code) (hx : Below wr.heap.size wr wx) (hown : w2.ownsRow 0 60 4 (.slice (some ⟨g, 0, none⟩) (code.length + 1) cap) (code.length + 1) (code.flatMap insCells ++ insCells c))
 (hgrow : wx.grownBy w2 vi.ownBlock) (hat : vi.ownBlock = some g ∨ wr.heap.size ≤ g) : TBox B w (w2.setCell ⟨pb, 4, none⟩ (.slice (some ⟨g, 0, none⟩) (code.length + 1) cap)) pb st rest d vc (.slice (some ⟨g, 0, none⟩) (code.length + 1) cap) cls (code ++ [c]) := by
 have hu := h.under hx;have hpl := h.blk.lt;have hxs := hx.size;have hbs := h.base
 have hgp : B ≤ g ∧ g ≠ pb := by
  rcases hat with e | e
  ·exact h.ifar g e
  ·omega
 have hblk : Blk w2 pb 39 [.int .i64 st, .int .i64 rest, vc, .string d, vi] := (hgrow.block pb (by omega) (fun e => (h.ifar pb e.symm).2 rfl)).trans hu.blk;have hbel : Below B w w2 := ⟨by rw [hgrow.os, hu.below.os], by rw [hgrow.tape, hu.below.tape], by rw [hgrow.output, hu.below.output], Nat.le_trans hu.below.size hgrow.size, fun k hk => (hgrow.block k (by omega) (fun e => by have := (h.ifar k e.symm).1; omega)).trans (hu.below.block k hk)⟩
 refine ⟨hbel.setCell h.base _, hblk.setCell 4 _, ?_, ?_, h.base, h.cfar, fun g' hg' => ?_, fun g' hg' => ?_⟩
 ·refine row_kept (row_kept hu.crow (fun g' hg' => hgrow.block g' (own_lt hu.crow g' hg') (fun e => h.apart g' hg' e.symm))) (fun g' hg' => Below.heap_setCell w2 _ _ g' (h.cfar g' hg').2)
 ·refine row_kept ?_ (fun g' hg' => Below.heap_setCell w2 _ _ g' (by simp [Value.ownBlock] at hg'; subst hg'; exact hgp.2))
  simpa using hown
 ·simp [Value.ownBlock] at hg'; subst hg'; exact hgp
 ·simp [Value.ownBlock];intro e2;subst e2
  rcases hat with e | e
  ·exact h.apart g hg' e
  ·have := own_lt h.crow g hg'; omega
end
set_option maxRecDepth 100000 in
set_option maxHeartbeats 3200000 in
theorem tidy_any (st rest : Int) (a : Option Addr) (cap : Nat) (cls : List (Int × Int)) (d : ByteArray) (ia : Option Addr) (icap : Nat) (code : List Ins) (w : World) (h : CRow w a cap cls) (hi : IRow w ia icap code) (hbd : insIn code)
 (b0 : -9223372036854775808 ≤ st) (b1 : st ≤ 9223372036854775807) (b2 : -9223372036854775808 ≤ rest) (b3 : rest ≤ 9223372036854775807) :
 Calls Tryz.prog 23 #[.agg #[.int .i64 st, .int .i64 rest, .slice a cls.length cap, .string d, .slice ia code.length icap]] w fun e w' => ∃ vc vi, e = .returned (.agg #[.int .i64 (kpick st 17), .int .i64 (kpick rest 17), vc, .string (tidyD (kpick st 17) d), vi]) ∧
  Rows2 w' w.heap.size vc vi (kfit cls) (tidyC code) ∧ Below w.heap.size w w' := by
 obtain ⟨j0, hj0, hy0, hy1, hy2⟩ := info_parts info_ins;have hil := hi.len;have hic := hi.cap;unfold maxLen at hic;have HC := hide2 h;have HI := hide2 hi;have HBD := hide2 hbd;clear h hi hbd;go_enter Tryz.func23, Tryz.ntmps23;go_upto_region 1 with (fail);obtain ⟨wa, hwa⟩ : ∃ wa, wa = (w.alloc (.cells #[.int .i64 st, .int .i64 rest, .slice a cls.length cap, .string d, .slice ia code.length icap] 39)).alloc (.cells zProg.toArray 39) := ⟨_, rfl⟩
 have HBA : Hid (Below w.heap.size w wa) := by show Below _ _ _; rw [hwa]; exact ((Below.refl _ _).alloc (Nat.le_refl _) _).alloc (by simp) _
 have HP : Hid (Blk wa w.heap.size 39 [.int .i64 st, .int .i64 rest, .slice a cls.length cap, .string d, .slice ia code.length icap]) := by
  show Blk _ _ _ _; rw [hwa]; exact (Below.heap_alloc _ _ _ (by simp)).trans (heap_alloc_new w _)
 have HZ : Hid (Blk wa (w.heap.size + 1) 39 zProg) := by
  show Blk _ _ _ _;rw [hwa, show w.heap.size + 1 = (w.alloc (.cells #[.int .i64 st, .int .i64 rest, .slice a cls.length cap, .string d, .slice ia code.length icap] 39)).heap.size by simp];exact heap_alloc_new _ _
 have HSA : Hid (wa.heap.size = w.heap.size + 2) := by show _ = _; rw [hwa]; simp
 unfold zProg at hwa;rw [← hwa];clear hwa;have p0 := HP.out.cell (j := 0) rfl;have p1 := HP.out.cell (j := 1) rfl;have p2 := HP.out.cell (j := 2) rfl;have p3 := HP.out.cell (j := 3) rfl;have hpk := kpick_bd st 17 (by omega)
 go_cut [3] from 13 (fun s3 w' => ∃ ob vc, s3 = .pointer (some ⟨ob, 0, none⟩) ∧ Hid (TBox wa.heap.size wa w' ob (kpick st 17) (kpick rest 17) d vc (.slice none 0 0) (kfit cls) []))
 case first =>
  have hn0 := World.new_ne wa ⟨w.heap.size, 0, none⟩ p0
  go_region_held3 (fun w' => w'.cell? ⟨w.heap.size, 0, none⟩ = some (.int .i64 st) ∧ w'.cell? ⟨w.heap.size, 1, none⟩ = some (.int .i64 rest) ∧ w'.cell? ⟨w.heap.size, 2, none⟩ = some (.slice a cls.length cap) ∧ w'.cell? ⟨w.heap.size, 3, none⟩ = some (.string d)) (go_keep)
   (first
     | (go_at_call 41; refine (kfit_any st rest a cap cls wa.drew ((HC.out.below HBA.out).below ((Below.refl _ _).drew)) b0 b1 b2 b3).mono ?_; rintro e1 w1 ⟨v, rfl, hrow, hb1, hfar⟩; obtain ⟨va, vcap, hv, -, -, -⟩ := row_open hrow; subst hv; have HB1 : Hid (Below wa.heap.size wa w1) := ⟨hb1.os, hb1.tape, hb1.output, hb1.size, hb1.block⟩; have HRW := hide2 hrow; have HFR := hide2 hfar; have p0' := (HB1.out.cell (p := ⟨w.heap.size, 0, none⟩) HP.out.lt).trans p0; have p1' := (HB1.out.cell (p := ⟨w.heap.size, 1, none⟩) HP.out.lt).trans p1; have p2' := (HB1.out.cell (p := ⟨w.heap.size, 2, none⟩) HP.out.lt).trans p2; have p3' := (HB1.out.cell (p := ⟨w.heap.size, 3, none⟩) HP.out.lt).trans p3; have hn1 := World.new_ne w1 ⟨w.heap.size, 0, none⟩ p0'; clear hb1 hrow hfar)
     | (go_at_call 41; refine (kfit_any st rest a cap cls (wa.alloc (.cells #[.int .i64 0, .int .i64 0, .slice none 0 0, .string ⟨#[]⟩, .slice none 0 0] 39)).drew (((HC.out.below HBA.out).below ((Below.refl _ _).alloc (Nat.le_refl _) _)).below ((Below.refl _ _).drew)) b0 b1 b2 b3).mono ?_; rintro e1 w1 ⟨v, rfl, hrow, hb1, hfar⟩; obtain ⟨va, vcap, hv, -, -, -⟩ := row_open hrow; subst hv; have hB2 : Below (wa.heap.size + 1) (wa.alloc (.cells #[.int .i64 0, .int .i64 0, .slice none 0 0, .string ⟨#[]⟩, .slice none 0 0] 39)) w1 := ⟨hb1.os, hb1.tape, hb1.output, by have := hb1.size; simpa using this, fun b hb => hb1.block b (by simpa using hb)⟩; have HB1 : Hid (Below wa.heap.size wa w1) := ((Below.refl _ _).alloc (Nat.le_refl _) _).trans (hB2.mono (by omega)); have HRW := hide2 hrow; have HFR : Hid (∀ g, (Value.slice va (kfit cls).length vcap).ownBlock = some g → wa.heap.size + 1 ≤ g) := (fun g hg => by have := hfar g hg; simpa using this); have HRZ : Hid (Blk w1 wa.heap.size 39 [.int .i64 0, .int .i64 0, .slice none 0 0, .string ⟨#[]⟩, .slice none 0 0]) := (Blk.alloc wa 39 [.int .i64 0, .int .i64 0, .slice none 0 0, .string ⟨#[]⟩, .slice none 0 0]).below hB2 (by omega); have rz0 := HRZ.out.cell (j := 0) rfl; have rz1 := HRZ.out.cell (j := 1) rfl; have rz2 := HRZ.out.cell (j := 2) rfl; have rz3 := HRZ.out.cell (j := 3) rfl; have rz4 := HRZ.out.cell (j := 4) rfl; have rzf0 := HRZ.out.frozen 0; have rzf1 := HRZ.out.frozen 1; have rzf2 := HRZ.out.frozen 2; have rzf3 := HRZ.out.frozen 3; have rzf4 := HRZ.out.frozen 4; have hrzl := HRZ.out.lt; have p0' := (HB1.out.cell (p := ⟨w.heap.size, 0, none⟩) HP.out.lt).trans p0; have p1' := (HB1.out.cell (p := ⟨w.heap.size, 1, none⟩) HP.out.lt).trans p1; have p2' := (HB1.out.cell (p := ⟨w.heap.size, 2, none⟩) HP.out.lt).trans p2; have p3' := (HB1.out.cell (p := ⟨w.heap.size, 3, none⟩) HP.out.lt).trans p3; have hn1 := World.new_ne w1 ⟨w.heap.size, 0, none⟩ p0'; clear hb1 hB2 hrow hfar))
  ·go_wp2
   go_meet
   case rel =>
    refine ⟨w1.heap.size, .slice va (kfit cls).length vcap, rfl, ⟨HB1.out.alloc HB1.out.size _, Blk.alloc w1 39 [.int .i64 (kpick st 17), .int .i64 (kpick rest 17), .slice va (kfit cls).length vcap, .string d, .slice none 0 0], row_below HRW.out ((Below.refl _ _).alloc (Nat.le_refl _) _) (own_lt HRW.out), ⟨rfl, .inl ⟨rfl, rfl⟩⟩, HB1.out.size, fun g hg => ⟨HFR.out g hg, by have := own_lt HRW.out g hg; omega⟩, fun g hg => by simp [Value.ownBlock] at hg, fun g hg => by simp [Value.ownBlock]⟩⟩
  ·go_wp2
   go_meet
   case rel =>
    refine ⟨wa.heap.size, .slice va (kfit cls).length vcap, rfl, ⟨((((HB1.out.setCell (Nat.le_refl _) _).setCell (Nat.le_refl _) _).setCell (Nat.le_refl _) _).setCell (Nat.le_refl _) _).setCell (Nat.le_refl _) _, ((((HRZ.out.setCell 0 _).setCell 1 _).setCell 2 _).setCell 3 _).setCell 4 _, row_set5 HRW.out (fun g hg => by have := HFR.out g hg; omega) _ _ _ _ _, ⟨rfl, .inl ⟨rfl, rfl⟩⟩, Nat.le_refl _, fun g hg => ⟨by have := HFR.out g hg; omega, by have := HFR.out g hg; omega⟩, fun g hg => by simp [Value.ownBlock] at hg, fun g hg => by simp [Value.ownBlock]⟩⟩
 case rest =>
  obtain ⟨ob, vc, rfl, HT⟩ := hcut;clear p0 p1 p2 p3;generalize wc = wb at *;generalize hst : kpick st 17 = st' at *;generalize hre : kpick rest 17 = re' at *;have o0 := HT.out.blk.cell (j := 0) rfl;go_upto_if 24 with (fail)
  go_cut [4] from 19 (fun s4 w' => s4 = .int .i64 (tidyM st') ∧ w' = wb)
  case first =>
   by_cases hm : 255 < 16 * st'
   ·have HM : Hid (tidyM st' = 255) := by show _ = _; unfold tidyM; rw [if_pos hm]
    go_wp2
    go_meet
    case rel => exact ⟨by rw [HM.out], by trivial⟩
   ·have HM : Hid (tidyM st' = 16 * st') := by show _ = _; unfold tidyM; rw [if_neg hm]
    go_wp2
    go_meet
    case rel => exact ⟨by rw [HM.out], by trivial⟩
  case rest =>
   obtain ⟨rfl, rfl⟩ := hcut;have o3 := HT.out.blk.cell (j := 3) rfl;have of3 := HT.out.blk.frozen 3;have hmb : 0 ≤ tidyM st' ∧ tidyM st' ≤ 255 := by unfold tidyM; split <;> omega
   have HTD : Hid (tidyD st' d = if tidyM st' < d.size then d.extract 0 (tidyM st').toNat else d) := rfl;generalize tidyM st' = mo at *;go_upto_if 29 with (fail)
   go_cut [4] from 25 (fun s4 w' => s4 = .int .i64 mo ∧ Hid (TBox wa.heap.size wa w' ob st' re' (tidyD st' d) vc (.slice none 0 0) (kfit cls) []))
   case first =>
    by_cases hm : mo < (d.size : Int)
    ·have HM : Hid (tidyD st' d = d.extract 0 mo.toNat) := by show _ = _; rw [HTD.out, if_pos hm]
     go_wp2
     go_meet
     case rel => exact ⟨rfl, by rw [HM.out]; exact HT.out.data _⟩
    ·have HM : Hid (tidyD st' d = d) := by show _ = _; rw [HTD.out, if_neg hm]
     go_wp2
     go_meet
     case rel => exact ⟨rfl, by rw [HM.out]; exact HT⟩
   case rest =>
    obtain ⟨rfl, HT2⟩ := hcut;clear HT o0 o3 of3;generalize wc = wd at *;have hzl := HZ.out.lt;have hpl := HP.out.lt;have HPD := hide2 (HP.out.below HT2.out.below hpl);have p4 := HPD.out.cell (j := 4) rfl;have hnb : tidyN code ≤ 255 ∧ tidyN code ≤ code.length := by unfold tidyN; split <;> omega
    have HTN : Hid (tidyN code = if 255 < code.length then 255 else code.length) := rfl;go_upto_if 39 with (fail)
    go_cut [5] from 35 (fun s5 w' => s5 = .int .i64 (tidyN code : Int) ∧ w' = wd)
    case first =>
     by_cases hm : 255 < code.length
     ·have hI : (255 : Int) < (code.length : Int) := by omega
      have HM : Hid (tidyN code = 255) := by show _ = _; rw [HTN.out, if_pos hm]
      go_wp2
      go_meet
      case rel => exact ⟨by rw [HM.out]; rfl, by trivial⟩
     ·have hI : ¬ ((255 : Int) < (code.length : Int)) := by omega
      have HM : Hid (tidyN code = code.length) := by show _ = _; rw [HTN.out, if_neg hm]
      go_wp2
      go_meet
      case rel => exact ⟨by rw [HM.out], by trivial⟩
    case rest =>
     obtain ⟨rfl, rfl⟩ := hcut;go_wp2
     go_loopw [6] (fun i wr => ∃ (m : Nat) (vi : Value), m ≤ tidyN code ∧ i = .int .i64 (m : Int) ∧ Hid (TBox wa.heap.size wa wr ob st' re' (tidyD st' d) vc vi (kfit cls) (tidyTo code m))) (fun i _ => tidyN code - (intOf i).toNat)
     case atStart => exact ⟨0, _, by omega, rfl, HT2⟩
     case round =>
      obtain ⟨m, vi, hm, rfl, HR⟩ := hrel;clear HT2 p4 HPD
      by_cases hlt : m < tidyN code
      ·have hmI : (m : Int) < (tidyN code : Int) := by omega
       have hmI2 : (m : Int) < (code.length : Int) := by omega
       have HWR : Hid (Below w.heap.size w wr) := HBA.out.trans (HR.out.below.mono HBA.out.size);have HPR := hide2 (HP.out.below HR.out.below hpl);have p4 := HPR.out.cell (j := 4) rfl;obtain ⟨ig, ioff, rfl, higl, hicell⟩ := HI.out.cells (by omega);obtain ⟨e0, e1, e2, e3⟩ := hicell m (by omega);have e0' := (HWR.out.cell (p := ⟨ig, ioff + m * 4, none⟩) higl).trans e0;have e1' := (HWR.out.cell (p := ⟨ig, ioff + m * 4 + 1, none⟩) higl).trans e1;have e2' := (HWR.out.cell (p := ⟨ig, ioff + m * 4 + 2, none⟩) higl).trans e2;have e3' := (HWR.out.cell (p := ⟨ig, ioff + m * 4 + 3, none⟩) higl).trans e3;obtain ⟨⟨o0, o1⟩, ⟨a0, a1⟩, ⟨bb0, bb1⟩, ⟨cc0, cc1⟩⟩ := HBD.out m (by omega);have hlen : (tidyTo code m).length = m := by simp [tidyTo]
       have HNX : Hid (tidyTo code (m + 1) = tidyTo code m ++ [tidyI (code.getD m Ins.no) (tidyN code)]) := by show _ = _; simp [tidyTo, List.range_succ]
       have hcm : (tidyTo code m).length ≤ 255 := by omega
       clear e0 e1 e2 e3 hicell hlen;generalize (code.getD m Ins.no) = x at *;obtain ⟨xo, xa, xb, xc⟩ := x;simp only at o0 o1 a0 a1 bb0 bb1 cc0 cc1 e0' e1' e2' e3';have hko := kpick_bd xo 20 (by omega)
       obtain ⟨k1, k2, k3, hk, l1, l2, l3⟩ : ∃ k1 k2 k3 : Nat, opKinds (kpick xo 20) = [k1, k2, k3] ∧ k1 < 256 ∧ k2 < 256 ∧ k3 < 256 := by
        rcases opKinds_some (op := kpick xo 20) (by omega) with e | e | e | e | e | e | e <;> exact ⟨_, _, _, e, by omega, by omega, by omega⟩
       have HTI : Hid (tidyI ⟨xo, xa, xb, xc⟩ (tidyN code) = ⟨kpick xo 20, partV k1 xa (tidyN code), partV k2 xb (tidyN code), partV k3 xc (tidyN code)⟩) := by show _ = _; unfold tidyI; simp only; rw [hk]
       have HKV : Hid (kindsV (kpick xo 20) = .string ⟨#[UInt8.ofNat k1, UInt8.ofNat k2, UInt8.ofNat k3]⟩) := by show _ = _; unfold kindsV; rw [hk]; rfl
       have hu1 : (((UInt8.ofNat k1).toNat : Nat) : Int) = (k1 : Int) := by rw [UInt8.toNat_ofNat']; omega
       have hu2 : (((UInt8.ofNat k2).toNat : Nat) : Int) = (k2 : Int) := by rw [UInt8.toNat_ofNat']; omega
       have hu3 : (((UInt8.ofNat k3).toNat : Nat) : Int) = (k3 : Int) := by rw [UInt8.toNat_ofNat']; omega
       have HU1 := hide2 hu1;have HU2 := hide2 hu2;have HU3 := hide2 hu3;clear hk hu1 hu2 hu3 l1 l2 l3;generalize tidyTo code m = cs at *;go_upto_region 14 with (fail);obtain ⟨wx, hwx⟩ : ∃ wx, wx = wr.alloc (.cells #[.int .i64 xo, .int .i64 xa, .int .i64 xb, .int .i64 xc] 60) := ⟨_, rfl⟩
       rw [← hwx];have hbx : Below wr.heap.size wr wx := by rw [hwx]; exact (Below.refl _ _).alloc (Nat.le_refl _) _
       have HX := hide2 (HR.out.under hbx);have HXB : Hid (Blk wx wr.heap.size 60 [.int .i64 xo, .int .i64 xa, .int .i64 xb, .int .i64 xc]) := by show Blk _ _ _ _; rw [hwx]; exact Blk.alloc _ _ _
       clear hwx hbx e0' e1' e2' e3' p4 HPR;have x0 := HXB.out.cell (j := 0) rfl;have x1 := HXB.out.cell (j := 1) rfl;have x2 := HXB.out.cell (j := 2) rfl;have x3 := HXB.out.cell (j := 3) rfl;have hnp : 0 < (tidyN code : Int) := by omega
       generalize hN : (tidyN code : Int) = nn at *;go_upto_region 16 with (first | (go_at_call 42; refine (kpick_any xo 20 _ (by omega) o0 o1).mono ?_; rintro e1 w1 ⟨rfl, rfl⟩) | (go_at_call 43; refine (parts_any _ _ (by omega)).mono ?_; rw [HKV.out]; rintro e1 w1 ⟨rfl, rfl⟩));generalize kpick xo 20 = po at *;have HV1 : Hid (partV (((UInt8.ofNat k1).toNat : Nat) : Int) xa nn = partV k1 xa nn) := by show _ = _; rw [HU1.out]
       have HV2 : Hid (partV (((UInt8.ofNat k2).toNat : Nat) : Int) xb nn = partV k2 xb nn) := by show _ = _; rw [HU2.out]
       have HV3 : Hid (partV (((UInt8.ofNat k3).toNat : Nat) : Int) xc nn = partV k3 xc nn) := by show _ = _; rw [HU3.out]
       have hz3 : (⟨#[UInt8.ofNat k1, UInt8.ofNat k2, UInt8.ofNat k3]⟩ : ByteArray).size = 3 := rfl;have g1 : ∀ h, (⟨#[UInt8.ofNat k1, UInt8.ofNat k2, UInt8.ofNat k3]⟩ : ByteArray)[1]'h = UInt8.ofNat k2 := fun _ => rfl
       have g2 : ∀ h, (⟨#[UInt8.ofNat k1, UInt8.ofNat k2, UInt8.ofNat k3]⟩ : ByteArray)[2]'h = UInt8.ofNat k3 := fun _ => rfl
       generalize partV k1 xa nn = pa at *;generalize partV k2 xb nn = pbv at *;generalize partV k3 xc nn = pcv at *
       go_quiet (first | (go_at_call 44; refine Calls.quiet_of_same ((part_any _ xa nn _ hnp a0 a1).mono (fun _ _ h => ⟨h.1.trans (congrArg (fun b => Ending.returned (Value.int .i64 b)) (HV1.out)), h.2.symm⟩))))
       go_upto_region 17 with (fail);obtain ⟨wy1, hwy⟩ : ∃ wy, wy = wx.drewN nq := ⟨_, rfl⟩
       rw [← hwy];have hby : Below wx.heap.size wx wy1 := by rw [hwy]; exact below_drewN (Below.refl _ _) _
       have HX1 := hide2 (HX.out.under hby);have HXB1 := hide2 (HXB.out.below hby HXB.out.lt);clear hwy hby x0 x1 x2 x3 HX HXB nq;have x0 := HXB1.out.cell (j := 0) rfl;have x1 := HXB1.out.cell (j := 1) rfl;have x2 := HXB1.out.cell (j := 2) rfl;have x3 := HXB1.out.cell (j := 3) rfl
       go_quiet (first | (go_at_call 44; refine Calls.quiet_of_same ((part_any _ xb nn _ hnp bb0 bb1).mono (fun _ _ h => ⟨h.1.trans (congrArg (fun b => Ending.returned (Value.int .i64 b)) (HV2.out)), h.2.symm⟩))))
       go_upto_region 18 with (fail);obtain ⟨wy2, hwy⟩ : ∃ wy, wy = wy1.drewN nq := ⟨_, rfl⟩
       rw [← hwy];have hby : Below wy1.heap.size wy1 wy2 := by rw [hwy]; exact below_drewN (Below.refl _ _) _
       have HX2 := hide2 (HX1.out.under hby);have HXB2 := hide2 (HXB1.out.below hby HXB1.out.lt);clear hwy hby x0 x1 x2 x3 HX1 HXB1 nq;have x0 := HXB2.out.cell (j := 0) rfl;have x1 := HXB2.out.cell (j := 1) rfl;have x2 := HXB2.out.cell (j := 2) rfl;have x3 := HXB2.out.cell (j := 3) rfl
       go_quiet (first | (go_at_call 44; refine Calls.quiet_of_same ((part_any _ xc nn _ hnp cc0 cc1).mono (fun _ _ h => ⟨h.1.trans (congrArg (fun b => Ending.returned (Value.int .i64 b)) (HV3.out)), h.2.symm⟩))))
       go_upto_region 19 with (fail);obtain ⟨wy, hwy⟩ : ∃ wy, wy = wy2.drewN nq := ⟨_, rfl⟩
       rw [← hwy];have hby : Below wy2.heap.size wy2 wy := by rw [hwy]; exact below_drewN (Below.refl _ _) _
       have HX3 := hide2 (HX2.out.under hby);have HXB3 := hide2 (HXB2.out.below hby HXB2.out.lt);clear hwy hby x0 x1 x2 x3 HX2 HXB2 nq;have x0 := HXB3.out.cell (j := 0) rfl;have x1 := HXB3.out.cell (j := 1) rfl;have x2 := HXB3.out.cell (j := 2) rfl;have x3 := HXB3.out.cell (j := 3) rfl;have o4 := HX3.out.blk.cell (j := 4) rfl;have of4 := HX3.out.blk.frozen 4;have hol := HX3.out.blk.lt;have HXX : Hid (Below wy.heap.size wy (wy.alloc (.cells #[.int .i64 po, .int .i64 pa, .int .i64 pbv, .int .i64 pcv] 60))) := (Below.refl _ _).alloc (Nat.le_refl _) _;have HRW := hide2 (HX3.out.under HXX.out).irow;have HFAR := hide2 HX3.out.ifar
       go_wp2_with (at_builtin; go_loud (refine wpList_append_lies _ rfl _ _ _ rfl 0 60 j0 _ 4 32 Tryz.underlying37 hj0 hy0 hy1 hy2 rfl (by omega) vi cs.length (cs.flatMap insCells) rfl HRW.out ⟨wy.heap.size, 0, none⟩ 1 1 [.int .i64 po, .int .i64 pa, .int .i64 pbv, .int .i64 pcv] rfl rfl (World.news_of_block (cs := #[.int .i64 po, .int .i64 pa, .int .i64 pbv, .int .i64 pcv]) (t := 60) (fr := (0, 0)) (heap_alloc_new wy _)) (by simp [Value.oneCell']) (by omega) (by simp [maxLen]; omega) (by omega) (by simp) (wy.heap.size + 1) (by simp) ?_; intro gg cap2 w9 hown hgrow hat hlt2; have o4' : w9.cell? ⟨ob, 4, none⟩ = some vi := (by rw [hgrow.cell_far _ (by simp; omega) (fun e => (HFAR.out _ e.symm).2 rfl), World.cell?_alloc_lt _ _ _ hol]; exact o4); have of4' : w9.frozen? ⟨ob, 4, none⟩ = false := (by rw [hgrow.frozen_far _ (by simp; omega) (fun e => (HFAR.out _ e.symm).2 rfl), World.frozen?_alloc_old _ _ _ (by show ob ≠ _; omega)]; exact of4)))
       have HN2 := hide2 (HX3.out.addI (c := ⟨po, pa, pbv, pcv⟩) HXX.out hown hgrow (by rcases hat with e | e; exact .inl e; right; omega));subst hN
       go_roundw
       case rel => exact ⟨m + 1, _, by omega, by go_num, by rw [HNX.out, HTI.out]; exact HN2⟩
       case measure => simp [intOf]; omega
      ·obtain rfl : m = tidyN code := by omega
       go_upto_if 84 with (fail)
       go_cut [5] from 83 (fun s5 w' => s5 = .int .i64 (tidyN code : Int) ∧ ∃ vi', Hid (TBox wa.heap.size wa w' ob st' re' (tidyD st' d) vc vi' (kfit cls) (tidyC code)))
       case first =>
        by_cases hn0 : code.length = 0
        ·have hN0 : tidyN code = 0 := by rw [HTN.out, if_neg (by omega)]; exact hn0
         have HTC : Hid (tidyC code = [⟨0, 0, 0, 0⟩]) := by show _ = _; unfold tidyC; rw [if_pos hn0]
         have hNb : ((tidyN code : Int) == 0) = true := by rw [beq_iff_eq]; omega
         clear hn0 hN0;have o4 := HR.out.blk.cell (j := 4) rfl;have of4 := HR.out.blk.frozen 4;have hol := HR.out.blk.lt;have hn1 := World.new_ne wr ⟨ob, 4, none⟩ o4;go_wp2
         go_meet
         case rel =>
          refine ⟨rfl, .slice (some ⟨wr.heap.size, 0, none⟩) 1 1, ?_⟩;show TBox _ _ _ _ _ _ _ _ _ _ _;rw [HTC.out];have hbs := HR.out.base;obtain ⟨w1, hw1⟩ : ∃ w1, w1 = wr.setCell ⟨ob, 4, none⟩ (.slice (some ⟨wr.heap.size, 0, none⟩) 1 1) := ⟨_, rfl⟩
          have hs1 : w1.heap.size = wr.heap.size := by rw [hw1]; simp
          have hx : Below w1.heap.size w1 (w1.alloc (.cells #[.int .i64 0, .int .i64 0, .int .i64 0, .int .i64 0] 60)) := (Below.refl _ _).alloc (Nat.le_refl _) _;have hb1 : Below wa.heap.size wa w1 := by rw [hw1]; exact HR.out.below.setCell hbs _
          have hk1 : Blk w1 ob 39 [.int .i64 st', .int .i64 re', vc, .string (tidyD st' d), .slice (some ⟨wr.heap.size, 0, none⟩) 1 1] := by rw [hw1]; exact HR.out.blk.setCell 4 _
          have hc1 : w1.ownsRow 0 84 2 vc (kfit cls).length ((kfit cls).flatMap clsCells) := by rw [hw1]; exact row_kept HR.out.crow (fun g hg => Below.heap_setCell _ _ _ g (HR.out.cfar g hg).2)
          rw [← hw1];refine ⟨hb1.trans (hx.mono (by omega)), hk1.below hx hk1.lt, row_below hc1 hx (own_lt hc1), ?_, hbs, HR.out.cfar, fun g hg => by simp [Value.ownBlock] at hg; omega, fun g hg e => by simp [Value.ownBlock] at e; have := own_lt HR.out.crow g hg; omega⟩;refine ⟨rfl, .inr ⟨wr.heap.size, 1, #[.int .i64 0, .int .i64 0, .int .i64 0, .int .i64 0], rfl, Nat.zero_le _, ?_, Nat.le_refl _, by simp [maxLen], rfl, rfl⟩⟩;rw [← hs1];exact heap_alloc_new w1 _
        ·have hNp : ¬ ((tidyN code : Int) = 0) := by rw [HTN.out]; split <;> omega
         have hNb : ((tidyN code : Int) == 0) = false := by rw [beq_eq_false_iff_ne]; exact hNp
         have HTC : Hid (tidyC code = tidyTo code (tidyN code)) := by show _ = _; unfold tidyC; rw [if_neg hn0]
         go_wp2
         go_meet
         case rel => exact ⟨rfl, vi, by rw [HTC.out]; exact HR⟩
       case rest =>
        obtain ⟨rfl, vi', HF⟩ := hcut;generalize wc = wf at *;have HZF := hide2 (HZ.out.below HF.out.below hzl);have hbs := HF.out.base;have hsa := HSA.out;have c0 := HF.out.blk.cell (j := 0) rfl;have c1 := HF.out.blk.cell (j := 1) rfl;have c2 := HF.out.blk.cell (j := 2) rfl;have c3 := HF.out.blk.cell (j := 3) rfl;have c4 := HF.out.blk.cell (j := 4) rfl;obtain ⟨va, vcap, rfl, -, -, -⟩ := row_open HF.out.crow;obtain ⟨via, vicap, rfl, -, -, -⟩ := row_open HF.out.irow;have z0 := HZF.out.cell (j := 0) rfl;have z1 := HZF.out.cell (j := 1) rfl;have z2 := HZF.out.cell (j := 2) rfl;have z3 := HZF.out.cell (j := 3) rfl;have z4 := HZF.out.cell (j := 4) rfl;have zf0 := HZF.out.frozen 0;have zf1 := HZF.out.frozen 1;have zf2 := HZF.out.frozen 2;have zf3 := HZF.out.frozen 3;have zf4 := HZF.out.frozen 4;go_wp2;refine bodyPost_ret (v := .agg #[.int .i64 st', .int .i64 re', .slice va (kfit cls).length vcap, .string (tidyD st' d), .slice via (tidyC code).length vicap]) (by simp [results, Tryz.results23, go_sem, z0, z1, z2, z3, z4]) rfl ?_;rw [hst, hre];refine ⟨_, _, rfl, ?_, ?_⟩
        ·refine ⟨row_set5 HF.out.crow (fun g hg => by have := (HF.out.cfar g hg).1; omega) _ _ _ _ _, row_set5 HF.out.irow (fun g hg => by have := (HF.out.ifar g hg).1; omega) _ _ _ _ _, fun g hg => by have := (HF.out.cfar g hg).1; omega, fun g hg => by have := (HF.out.ifar g hg).1; omega, HF.out.apart⟩
        ·have hB := HBA.out.trans (HF.out.below.mono HBA.out.size);exact ((((hB.setCell (by show _ ≤ w.heap.size + 1; omega) _).setCell (by show _ ≤ w.heap.size + 1; omega) _).setCell (by show _ ≤ w.heap.size + 1; omega) _).setCell (by show _ ≤ w.heap.size + 1; omega) _).setCell (by show _ ≤ w.heap.size + 1; omega) _
end Go.Proofs.YtjikemhmnkckcabGreat
