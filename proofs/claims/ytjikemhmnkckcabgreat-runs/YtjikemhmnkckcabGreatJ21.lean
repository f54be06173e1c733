import Derived.Test.YtjikemhmnkckcabGreatJ3
import Derived.Test.YtjikemhmnkckcabGreatJ17
import Derived.Test.YtjikemhmnkckcabGreatJ20
import Derived.Deep.Cut
/- The document's report: sites. -/
namespace Go.Proofs.YtjikemhmnkckcabGreat
open Go.RowKit

def rAlloc (log : List Ref.Ev) (k s : Int) : Int := if Ref.given log k s < 0 then 0 else (log.getD (Ref.given log k s).toNat Ref.Ev.no).site
def rGone (log : List Ref.Ev) (k s : Int) : Int := if Ref.gone log k s < 0 then 0 else (log.getD (Ref.gone log k s).toNat Ref.Ev.no).site

set_option maxRecDepth 100000 in
set_option maxHeartbeats 1600000 in
theorem rsites_any (p : Nat) (vc vl vm : Value) (R : RSt) (k s : Int) (w : World) (h : RRep w p vc vl vm R) (hg : 0 ≤ Ref.given R.log k s) :
    Calls Tryz.prog 94 #[.pointer (some ⟨p, 0, none⟩), .int .i64 k, .int .i64 s] w fun e w' => e = .returned (.tuple #[.int .i64 (rAlloc R.log k s), .int .i64 (rGone R.log k s)]) ∧ Below w.heap.size w w' := by
  have g2 := Ref.given_hi R.log k s
  have b2 := Ref.gone_hi R.log k s
  have HR := hide2 h
  have hp := h.blk.lt
  have c3 := h.blk.cell (j := 3) rfl
  obtain ⟨a, cap, rfl, hcap, hmax, hrow⟩ := row_open h.log
  obtain ⟨g, rfl, hgl, hcell, _⟩ := hrow (by omega)
  unfold maxLen at hmax
  obtain ⟨gi, hgi⟩ := Int.eq_ofNat_of_zero_le hg
  have HA : Hid (rAlloc R.log k s = (R.log.getD gi Ref.Ev.no).site) := by show _ = _; unfold rAlloc; rw [if_neg (by omega), hgi]; rfl
  obtain ⟨_, _, _, _, _, d5⟩ := ev_cells hcell gi (by omega)
  have HGI := hide2 hgi
  have hgiI : (gi : Int) < (R.log.length : Int) := by omega
  have HC := hide2 hcell
  generalize (R.log.getD gi Ref.Ev.no).site = sa at *
  by_cases hb : Ref.gone R.log k s < 0
  · have HB : Hid (rGone R.log k s = 0) := if_pos hb
    clear h hrow hcell hg hgi g2
    generalize hbe : Ref.gone R.log k s = bi at *
    have HBE := hide2 hbe
    clear hbe
    go_enter Tryz.func94, Tryz.ntmps94
    go_wp2_with fail
    refine (given_any p vc _ vm R k s w HR.out).mono ?_
    rw [HGI.out]
    rintro e1 w1 ⟨rfl, hb1⟩
    have HB1 := hide2 hb1
    clear hb1
    go_wp2_with fail
    refine (gone_any p vc _ vm R k s w1 (HR.out.below HB1.out)).mono ?_
    rw [HBE.out]
    rintro e2 w2 ⟨rfl, hb2⟩
    have HB2 : Hid (Below w.heap.size w w2) := HB1.out.trans (hb2.mono HB1.out.size)
    have c3' := (HB2.out.cell (p := ⟨p, 3, none⟩) hp).trans c3
    have d5' := (HB2.out.cell (p := ⟨g, gi * 6 + 5, none⟩) hgl).trans d5
    clear hb2 c3 d5
    go_wp2
    go_ret2
    exact ⟨by rw [HA.out, HB.out]; rfl, HB2.out⟩
  · obtain ⟨bi, hbi⟩ := Int.eq_ofNat_of_zero_le (show 0 ≤ Ref.gone R.log k s by omega)
    have HB : Hid (rGone R.log k s = (R.log.getD bi Ref.Ev.no).site) := by show _ = _; unfold rGone; rw [if_neg hb, hbi]; rfl
    obtain ⟨_, _, _, _, _, e5⟩ := ev_cells HC.out bi (by omega)
    have HBI := hide2 hbi
    have hbiI : (bi : Int) < (R.log.length : Int) := by omega
    generalize (R.log.getD bi Ref.Ev.no).site = sb at *
    clear h hrow hcell hg hgi g2 hb hbi b2
    go_enter Tryz.func94, Tryz.ntmps94
    go_wp2_with fail
    refine (given_any p vc _ vm R k s w HR.out).mono ?_
    rw [HGI.out]
    rintro e1 w1 ⟨rfl, hb1⟩
    have HB1 := hide2 hb1
    clear hb1
    go_wp2_with fail
    refine (gone_any p vc _ vm R k s w1 (HR.out.below HB1.out)).mono ?_
    rw [HBI.out]
    rintro e2 w2 ⟨rfl, hb2⟩
    have HB2 : Hid (Below w.heap.size w w2) := HB1.out.trans (hb2.mono HB1.out.size)
    have c3' := (HB2.out.cell (p := ⟨p, 3, none⟩) hp).trans c3
    have d5' := (HB2.out.cell (p := ⟨g, gi * 6 + 5, none⟩) hgl).trans d5
    have e5' := (HB2.out.cell (p := ⟨g, bi * 6 + 5, none⟩) hgl).trans e5
    clear hb2 c3 d5 e5
    go_wp2_with fail
    go_quiet (fail)
    go_wp2
    go_ret2
    exact ⟨by rw [HA.out, HB.out]; rfl, below_drewN HB2.out _⟩
end Go.Proofs.YtjikemhmnkckcabGreat
/- The document's report: lies. -/
namespace Go.Proofs.YtjikemhmnkckcabGreat
open Go.RowKit

def rNearAt (R : RSt) (k : Nat) (s want : Int) (i : Nat) : List (Int × Int × Int) :=
  if Ref.state R.log k i ≠ 2 ∧ Ref.last R.log k i = want ∧ (i : Int) - s < 2 ∧ s - (i : Int) < 2 then [((i : Int), rAlloc R.log k i, rGone R.log k i)] else []
def rNearTo (R : RSt) (k : Nat) (s want : Int) : Nat → List (Int × Int × Int)
  | 0 => []
  | m + 1 => rNearTo R k s want m ++ rNearAt R k s want m
theorem rNearTo_len (R : RSt) (k : Nat) (s want : Int) (m : Nat) : (rNearTo R k s want m).length ≤ m := by
  induction m with
  | zero => simp [rNearTo]
  | succ m ih =>
    have : (rNearAt R k s want m).length ≤ 1 := by unfold rNearAt; split <;> simp
    simp only [rNearTo, List.length_append]; omega
def rlies (R : RSt) (er addr want : Int) : Rpt :=
  if (Cf.slot R.st R.cls addr).1 < 0 then ⟨er, addr, want, R.tag addr, if R.tag addr = 0 then 1 else 0, 0, 0, 0, 0, []⟩
  else ⟨er, addr, want, R.tag addr, Ref.state R.log (Cf.slot R.st R.cls addr).1 (Cf.slot R.st R.cls addr).2, (Cf.slot R.st R.cls addr).1, (Cf.slot R.st R.cls addr).2,
    if Ref.state R.log (Cf.slot R.st R.cls addr).1 (Cf.slot R.st R.cls addr).2 = 2 then 0 else rAlloc R.log (Cf.slot R.st R.cls addr).1 (Cf.slot R.st R.cls addr).2,
    if Ref.state R.log (Cf.slot R.st R.cls addr).1 (Cf.slot R.st R.cls addr).2 = 2 then 0 else rGone R.log (Cf.slot R.st R.cls addr).1 (Cf.slot R.st R.cls addr).2,
    rNearTo R (Cf.slot R.st R.cls addr).1.toNat (Cf.slot R.st R.cls addr).2 want (Cf.sl R.cls (Cf.slot R.st R.cls addr).1.toNat).toNat⟩

set_option maxRecDepth 100000 in
set_option maxHeartbeats 3200000 in
theorem rlies_no (p : Nat) (vc vl vm : Value) (R : RSt) (er addr want : Int) (w : World) (h : RRep w p vc vl vm R) (ho : ROk R) (hsl : Cf.slot R.st R.cls addr = (-1, -1)) :
    Calls Tryz.prog 61 #[.pointer (some ⟨p, 0, none⟩), .int .i64 er, .int .i64 addr, .int .i64 want] w fun e w' => ∃ v, e = .returned (rptV (rlies R er addr want) v) ∧ NearRel w (rlies R er addr want).near v w' := by
  have HR := hide2 h
  have HO := hide2 ho
  have hp := h.blk.lt
  obtain ⟨tg, htg⟩ : ∃ tg, R.tag addr = tg := ⟨_, rfl⟩
  have HTG : Hid (Cf.tag R.st R.cls R.log addr = tg) := htg
  obtain ⟨a, cap, hvc, hcr⟩ := CRow.of_row h.cls
  subst hvc
  have HC := hide2 hcr
  have hclen := hcr.len
  have hccap := hcr.cap
  unfold maxLen at hccap
  clear h ho hcr
  have HSL := hide2 hsl
  by_cases h0 : tg = 0
  · have HF : Hid (rlies R er addr want = ⟨er, addr, want, tg, 1, 0, 0, 0, 0, []⟩) := by show _ = _; unfold rlies; rw [hsl, if_pos (by decide), htg, if_pos h0]
    have h0b : (tg == 0) = true := by simp [h0]
    rw [HF.out]
    clear HF htg hsl h0
    go_enter Tryz.func61, Tryz.ntmps61
    go_wp2_with fail
    obtain ⟨wa, hwa⟩ : ∃ wa, wa = w.alloc (.cells (rptCells (Rpt.only 0) (.slice none 0 0)).toArray 26) := ⟨_, rfl⟩
    have hwa' := hwa
    simp only [rptCells, Rpt.only] at hwa'
    rw [← hwa']
    have HBA : Hid (Below w.heap.size w wa) := by show Below _ _ _; rw [hwa]; exact (Below.refl _ _).alloc (Nat.le_refl _) _
    have HRA : Hid (Blk wa w.heap.size 26 (rptCells (Rpt.only 0) (.slice none 0 0))) := by show Blk _ _ _ _; rw [hwa]; exact Blk.alloc _ _ _
    have hwas : wa.heap.size = w.heap.size + 1 := by rw [hwa, World.size_alloc]
    obtain ⟨wb, hwb⟩ : ∃ wb, wb = wa.alloc (.cells (rptCells ⟨er, addr, want, 0, 0, 0, 0, 0, 0, []⟩ (.slice none 0 0)).toArray 26) := ⟨_, rfl⟩
    have hwb' := hwb
    simp only [rptCells] at hwb'
    rw [← hwb']
    have hbb : Below wa.heap.size wa wb := by rw [hwb]; exact (Below.refl _ _).alloc (Nat.le_refl _) _
    have HBB : Hid (Below w.heap.size w wb) := HBA.out.trans (hbb.mono HBA.out.size)
    have HOB : Hid (Blk wb wa.heap.size 26 (rptCells ⟨er, addr, want, 0, 0, 0, 0, 0, 0, []⟩ (.slice none 0 0))) := by show Blk _ _ _ _; rw [hwb]; exact Blk.alloc _ _ _
    have HRB := hide2 (HRA.out.below hbb HRA.out.lt)
    rw [hwas] at HOB
    obtain ⟨rb, hrb⟩ : ∃ rb, rb = w.heap.size := ⟨_, rfl⟩
    obtain ⟨ob, hob⟩ : ∃ ob, ob = w.heap.size + 1 := ⟨_, rfl⟩
    rw [← hob] at HOB
    rw [← hob, ← hrb]
    rw [← hrb] at HRB
    have hne : rb ≠ ob := by omega
    have hne2 : ob ≠ rb := by omega
    have hrbw : w.heap.size ≤ rb := by omega
    have hobw : w.heap.size ≤ ob := by omega
    have hpo : p ≠ ob := by omega
    have hol := HOB.out.lt
    have hrl := HRB.out.lt
    clear hwa hwa' hwb hwb' hbb HRA HBA hwas hob hrb
    refine (rtag_any p _ vl vm R addr wb (HR.out.below HBB.out) HO.out).mono ?_
    rw [HTG.out]
    rintro e1 w1 ⟨rfl, hb1⟩
    have HB1 : Hid (Below w.heap.size w w1) := HBB.out.trans (hb1.mono HBB.out.size)
    have HO1 := hide2 (HOB.out.below hb1 hol)
    have HR1 := hide2 (HRB.out.below hb1 hrl)
    have hol1 := HO1.out.lt
    clear hb1 HOB HRB HBB hol hrl
    have o3 := HO1.out.cell (j := 3) rfl
    have of3 := HO1.out.frozen 3
    go_upto_region 3 with (fail)
    have HO2 : Hid (Blk _ ob 26 (rptCells ⟨er, addr, want, tg, 0, 0, 0, 0, 0, []⟩ (.slice none 0 0))) := HO1.out.setCell 3 (.int .i64 tg)
    have HR2 := hide2 (HR1.out.setCell_other ⟨ob, 3, none⟩ (.int .i64 tg) hne)
    have HB2 := hide2 (HB1.out.setCell (p := ⟨ob, 3, none⟩) hobw (.int .i64 tg))
    clear o3 of3 HO1 HR1 hol1
    generalize w1.setCell ⟨ob, 3, none⟩ (.int .i64 tg) = w2 at *
    have c0 := (HB2.out.cell (p := ⟨p, 0, none⟩) hp).trans (HR.out.blk.cell (j := 0) rfl)
    have c1 := (HB2.out.cell (p := ⟨p, 1, none⟩) hp).trans (HR.out.blk.cell (j := 1) rfl)
    have c2 := (HB2.out.cell (p := ⟨p, 2, none⟩) hp).trans (HR.out.blk.cell (j := 2) rfl)
    have hol2 := HO2.out.lt
    have hrl2 := HR2.out.lt
    have HCW : Hid (CRow w2 a cap R.cls) := HC.out.below (HB2.out.mono (Nat.le_refl _))
    go_wp2_with fail
    refine (slot_any R.st R.rest a cap R.cls addr w2 HO.out.conf HCW.out).mono ?_
    rw [HSL.out]
    rintro e1 w3 ⟨rfl, hb3⟩
    have HB3 : Hid (Below w.heap.size w w3) := HB2.out.trans (hb3.mono HB2.out.size)
    have HO3 := hide2 (HO2.out.below hb3 hol2)
    have HR3 := hide2 (HR2.out.below hb3 hrl2)
    have hol3 := HO3.out.lt
    have hrl3 := HR3.out.lt
    clear hb3 HO2 HR2 hol2 hrl2 c0 c1 c2 HCW
    have o0 := HO3.out.cell (j := 0) rfl
    have o1 := HO3.out.cell (j := 1) rfl
    have o2 := HO3.out.cell (j := 2) rfl
    have o3 := HO3.out.cell (j := 3) rfl
    have o4 := HO3.out.cell (j := 4) rfl
    have o5 := HO3.out.cell (j := 5) rfl
    have o6 := HO3.out.cell (j := 6) rfl
    have o7 := HO3.out.cell (j := 7) rfl
    have o8 := HO3.out.cell (j := 8) rfl
    have o9 := HO3.out.cell (j := 9) rfl
    have of4 := HO3.out.frozen 4
    have r0 := HR3.out.cell (j := 0) rfl
    have r1 := HR3.out.cell (j := 1) rfl
    have r2 := HR3.out.cell (j := 2) rfl
    have r3 := HR3.out.cell (j := 3) rfl
    have r4 := HR3.out.cell (j := 4) rfl
    have r5 := HR3.out.cell (j := 5) rfl
    have r6 := HR3.out.cell (j := 6) rfl
    have r7 := HR3.out.cell (j := 7) rfl
    have r8 := HR3.out.cell (j := 8) rfl
    have r9 := HR3.out.cell (j := 9) rfl
    have rf0 := HR3.out.frozen 0
    have rf1 := HR3.out.frozen 1
    have rf2 := HR3.out.frozen 2
    have rf3 := HR3.out.frozen 3
    have rf4 := HR3.out.frozen 4
    have rf5 := HR3.out.frozen 5
    have rf6 := HR3.out.frozen 6
    have rf7 := HR3.out.frozen 7
    have rf8 := HR3.out.frozen 8
    have rf9 := HR3.out.frozen 9
    clear HO3 HR3
    go_wp2
    refine bodyPost_ret (v := rptV ⟨er, addr, want, tg, 1, 0, 0, 0, 0, []⟩ (.slice none 0 0)) (by simp [results, Tryz.results61, go_sem, rptV, rptCells, *]) rfl ⟨_, rfl, ?_⟩
    exact ⟨below_set10 (HB3.out.setCell (p := ⟨ob, 4, none⟩) hobw _) hrbw _ _ _ _ _ _ _ _ _ _, World.ownsRow_nil _ _ _ _, nofun⟩
  · have HF : Hid (rlies R er addr want = ⟨er, addr, want, tg, 0, 0, 0, 0, 0, []⟩) := by show _ = _; unfold rlies; rw [hsl, if_pos (by decide), htg, if_neg h0]
    have h0b : (tg == 0) = false := by rw [beq_eq_false_iff_ne]; exact h0
    rw [HF.out]
    clear HF htg hsl h0
    go_enter Tryz.func61, Tryz.ntmps61
    go_wp2_with fail
    obtain ⟨wa, hwa⟩ : ∃ wa, wa = w.alloc (.cells (rptCells (Rpt.only 0) (.slice none 0 0)).toArray 26) := ⟨_, rfl⟩
    have hwa' := hwa
    simp only [rptCells, Rpt.only] at hwa'
    rw [← hwa']
    have HBA : Hid (Below w.heap.size w wa) := by show Below _ _ _; rw [hwa]; exact (Below.refl _ _).alloc (Nat.le_refl _) _
    have HRA : Hid (Blk wa w.heap.size 26 (rptCells (Rpt.only 0) (.slice none 0 0))) := by show Blk _ _ _ _; rw [hwa]; exact Blk.alloc _ _ _
    have hwas : wa.heap.size = w.heap.size + 1 := by rw [hwa, World.size_alloc]
    obtain ⟨wb, hwb⟩ : ∃ wb, wb = wa.alloc (.cells (rptCells ⟨er, addr, want, 0, 0, 0, 0, 0, 0, []⟩ (.slice none 0 0)).toArray 26) := ⟨_, rfl⟩
    have hwb' := hwb
    simp only [rptCells] at hwb'
    rw [← hwb']
    have hbb : Below wa.heap.size wa wb := by rw [hwb]; exact (Below.refl _ _).alloc (Nat.le_refl _) _
    have HBB : Hid (Below w.heap.size w wb) := HBA.out.trans (hbb.mono HBA.out.size)
    have HOB : Hid (Blk wb wa.heap.size 26 (rptCells ⟨er, addr, want, 0, 0, 0, 0, 0, 0, []⟩ (.slice none 0 0))) := by show Blk _ _ _ _; rw [hwb]; exact Blk.alloc _ _ _
    have HRB := hide2 (HRA.out.below hbb HRA.out.lt)
    rw [hwas] at HOB
    obtain ⟨rb, hrb⟩ : ∃ rb, rb = w.heap.size := ⟨_, rfl⟩
    obtain ⟨ob, hob⟩ : ∃ ob, ob = w.heap.size + 1 := ⟨_, rfl⟩
    rw [← hob] at HOB
    rw [← hob, ← hrb]
    rw [← hrb] at HRB
    have hne : rb ≠ ob := by omega
    have hne2 : ob ≠ rb := by omega
    have hrbw : w.heap.size ≤ rb := by omega
    have hobw : w.heap.size ≤ ob := by omega
    have hpo : p ≠ ob := by omega
    have hol := HOB.out.lt
    have hrl := HRB.out.lt
    clear hwa hwa' hwb hwb' hbb HRA HBA hwas hob hrb
    refine (rtag_any p _ vl vm R addr wb (HR.out.below HBB.out) HO.out).mono ?_
    rw [HTG.out]
    rintro e1 w1 ⟨rfl, hb1⟩
    have HB1 : Hid (Below w.heap.size w w1) := HBB.out.trans (hb1.mono HBB.out.size)
    have HO1 := hide2 (HOB.out.below hb1 hol)
    have HR1 := hide2 (HRB.out.below hb1 hrl)
    have hol1 := HO1.out.lt
    clear hb1 HOB HRB HBB hol hrl
    have o3 := HO1.out.cell (j := 3) rfl
    have of3 := HO1.out.frozen 3
    go_upto_region 3 with (fail)
    have HO2 : Hid (Blk _ ob 26 (rptCells ⟨er, addr, want, tg, 0, 0, 0, 0, 0, []⟩ (.slice none 0 0))) := HO1.out.setCell 3 (.int .i64 tg)
    have HR2 := hide2 (HR1.out.setCell_other ⟨ob, 3, none⟩ (.int .i64 tg) hne)
    have HB2 := hide2 (HB1.out.setCell (p := ⟨ob, 3, none⟩) hobw (.int .i64 tg))
    clear o3 of3 HO1 HR1 hol1
    generalize w1.setCell ⟨ob, 3, none⟩ (.int .i64 tg) = w2 at *
    have c0 := (HB2.out.cell (p := ⟨p, 0, none⟩) hp).trans (HR.out.blk.cell (j := 0) rfl)
    have c1 := (HB2.out.cell (p := ⟨p, 1, none⟩) hp).trans (HR.out.blk.cell (j := 1) rfl)
    have c2 := (HB2.out.cell (p := ⟨p, 2, none⟩) hp).trans (HR.out.blk.cell (j := 2) rfl)
    have hol2 := HO2.out.lt
    have hrl2 := HR2.out.lt
    have HCW : Hid (CRow w2 a cap R.cls) := HC.out.below (HB2.out.mono (Nat.le_refl _))
    go_wp2_with fail
    refine (slot_any R.st R.rest a cap R.cls addr w2 HO.out.conf HCW.out).mono ?_
    rw [HSL.out]
    rintro e1 w3 ⟨rfl, hb3⟩
    have HB3 : Hid (Below w.heap.size w w3) := HB2.out.trans (hb3.mono HB2.out.size)
    have HO3 := hide2 (HO2.out.below hb3 hol2)
    have HR3 := hide2 (HR2.out.below hb3 hrl2)
    have hol3 := HO3.out.lt
    have hrl3 := HR3.out.lt
    clear hb3 HO2 HR2 hol2 hrl2 c0 c1 c2 HCW
    have o0 := HO3.out.cell (j := 0) rfl
    have o1 := HO3.out.cell (j := 1) rfl
    have o2 := HO3.out.cell (j := 2) rfl
    have o3 := HO3.out.cell (j := 3) rfl
    have o4 := HO3.out.cell (j := 4) rfl
    have o5 := HO3.out.cell (j := 5) rfl
    have o6 := HO3.out.cell (j := 6) rfl
    have o7 := HO3.out.cell (j := 7) rfl
    have o8 := HO3.out.cell (j := 8) rfl
    have o9 := HO3.out.cell (j := 9) rfl
    have of4 := HO3.out.frozen 4
    have r0 := HR3.out.cell (j := 0) rfl
    have r1 := HR3.out.cell (j := 1) rfl
    have r2 := HR3.out.cell (j := 2) rfl
    have r3 := HR3.out.cell (j := 3) rfl
    have r4 := HR3.out.cell (j := 4) rfl
    have r5 := HR3.out.cell (j := 5) rfl
    have r6 := HR3.out.cell (j := 6) rfl
    have r7 := HR3.out.cell (j := 7) rfl
    have r8 := HR3.out.cell (j := 8) rfl
    have r9 := HR3.out.cell (j := 9) rfl
    have rf0 := HR3.out.frozen 0
    have rf1 := HR3.out.frozen 1
    have rf2 := HR3.out.frozen 2
    have rf3 := HR3.out.frozen 3
    have rf4 := HR3.out.frozen 4
    have rf5 := HR3.out.frozen 5
    have rf6 := HR3.out.frozen 6
    have rf7 := HR3.out.frozen 7
    have rf8 := HR3.out.frozen 8
    have rf9 := HR3.out.frozen 9
    clear HO3 HR3
    go_wp2
    refine bodyPost_ret (v := rptV ⟨er, addr, want, tg, 0, 0, 0, 0, 0, []⟩ (.slice none 0 0)) (by simp [results, Tryz.results61, go_sem, rptV, rptCells, *]) rfl ⟨_, rfl, ?_⟩
    exact ⟨below_set10 HB3.out hrbw _ _ _ _ _ _ _ _ _ _, World.ownsRow_nil _ _ _ _, nofun⟩

end Go.Proofs.YtjikemhmnkckcabGreat
