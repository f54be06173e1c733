import Derived.Test.YtjikemhmnkckcabGreatJ21
/- The document's report on an address within a slot. -/
namespace Go.Proofs.YtjikemhmnkckcabGreat
open Go.RowKit

def lieAt (s m : Nat) (stt x : Int) : Int := if s < m ∧ stt ≠ 2 then x else 0
theorem lieAt_same {s m : Nat} {stt x : Int} (h : s = m → stt = 2) : lieAt s (m + 1) stt x = lieAt s m stt x := by
  unfold lieAt
  by_cases c : s < m ∧ stt ≠ 2
  · rw [if_pos c, if_pos ⟨by omega, c.2⟩]
  · rw [if_neg c, if_neg (fun y => c ⟨by have := fun e => y.2 (h e); omega, y.2⟩)]
theorem lieAt_end {s m : Nat} {stt x : Int} (h : s < m) : lieAt s m stt x = if stt = 2 then 0 else x := by
  unfold lieAt
  by_cases c : stt = 2
  · rw [if_pos c, if_neg (fun y => y.2 c)]
  · rw [if_neg c, if_pos ⟨h, c⟩]
theorem lieAt_new {s : Nat} {stt x : Int} (h : stt ≠ 2) : lieAt s (s + 1) stt x = x := if_pos ⟨by omega, h⟩
/-- the report while the slots of the class are gone through -/
structure LieRel (w : World) (ob rb : Nat) (r : Rpt) (l : List (Int × Int × Int)) (v : Value) (wr : World) : Prop where
  near : NearRel w l v wr
  obk : Blk wr ob 26 (rptCells r v)
  rbk : Blk wr rb 26 (rptCells (Rpt.only 0) (.slice none 0 0))
  ap : ∀ g, v.ownBlock = some g → g ≠ ob ∧ g ≠ rb
theorem LieRel.later {w wr w' : World} {ob rb : Nat} {r : Rpt} {l : List (Int × Int × Int)} {v : Value} (h : LieRel w ob rb r l v wr) (b : Below wr.heap.size wr w') : LieRel w ob rb r l v w' :=
  ⟨h.near.later b, h.obk.below b h.obk.lt, h.rbk.below b h.rbk.lt, h.ap⟩
/-- a cell of the report is written that is not the list -/
theorem LieRel.put {w wr : World} {ob rb : Nat} {r r' : Rpt} {l : List (Int × Int × Int)} {v : Value} (h : LieRel w ob rb r l v wr) (j : Nat) (u : Value) (hob : w.heap.size ≤ ob) (hne : rb ≠ ob) (hr : (rptCells r v).set j u = rptCells r' v) : LieRel w ob rb r' l v (wr.setCell ⟨ob, j, none⟩ u) := by
  refine ⟨⟨h.near.below.setCell (p := ⟨ob, j, none⟩) hob u, row_kept h.near.row (fun g hg => Below.heap_setCell _ _ _ g (h.ap g hg).1), h.near.vlo⟩, ?_, h.rbk.setCell_other ⟨ob, j, none⟩ u hne, h.ap⟩
  rw [← hr]; exact h.obk.setCell j u
/-- the list grows -/
theorem LieRel.step {w wr : World} {ob rb : Nat} {r : Rpt} {l : List (Int × Int × Int)} {v : Value} (h : LieRel w ob rb r l v wr) (hob : w.heap.size ≤ ob) (hne : rb ≠ ob) (x : Int × Int × Int) {cs : Array Value} {t : TypeId} {w2 : World} {gg cap2 : Nat}
    (hown1 : w2.ownsRow 0 64 3 (.slice (some ⟨gg, 0, none⟩) (l.length + 1) cap2) (l.length + 1) (l.flatMap nearCells ++ nearCells x))
    (hgrow : (wr.alloc (.cells cs t)).grownBy w2 v.ownBlock) (hat : v.ownBlock = some gg ∨ gg = wr.heap.size + 1) :
    LieRel w ob rb r (l ++ [x]) (.slice (some ⟨gg, 0, none⟩) (l.length + 1) cap2) (w2.setCell ⟨ob, 9, none⟩ (.slice (some ⟨gg, 0, none⟩) (l.length + 1) cap2)) := by
  have hol := h.obk.lt
  have hrl := h.rbk.lt
  have hn := h.near.step x hown1 hgrow hat
  have hgg : gg ≠ ob ∧ gg ≠ rb := by
    rcases hat with e | e
    · exact h.ap gg e
    · omega
  have hap : ∀ g, (Value.slice (some ⟨gg, 0, none⟩) (l.length + 1) cap2).ownBlock = some g → g ≠ ob ∧ g ≠ rb := fun g hg => by
    simp [Value.ownBlock] at hg
    subst hg
    exact hgg
  have hov : some ob ≠ v.ownBlock := fun e => (h.ap ob e.symm).1 rfl
  have hrv : some rb ≠ v.ownBlock := fun e => (h.ap rb e.symm).2 rfl
  have hob2 : Blk w2 ob 26 (rptCells r v) := by
    have e1 := hgrow.block ob (by rw [World.size_alloc]; omega) hov
    exact (e1.trans (Below.heap_alloc wr _ ob hol)).trans h.obk
  have hrb2 : Blk w2 rb 26 (rptCells (Rpt.only 0) (.slice none 0 0)) := by
    have e1 := hgrow.block rb (by rw [World.size_alloc]; omega) hrv
    exact (e1.trans (Below.heap_alloc wr _ rb hrl)).trans h.rbk
  exact ⟨⟨hn.below.setCell (p := ⟨ob, 9, none⟩) hob _, row_kept hn.row (fun g hg => Below.heap_setCell _ _ _ g (hap g hg).1), hn.vlo⟩, hob2.setCell 9 _, hrb2.setCell_other ⟨ob, 9, none⟩ _ hne, hap⟩

set_option maxRecDepth 100000 in
set_option maxHeartbeats 3200000 in
theorem rlies_yes (p : Nat) (vc vl vm : Value) (R : RSt) (er addr want : Int) (w : World) (h : RRep w p vc vl vm R) (ho : ROk R) (k s : Nat) (hsl : Cf.slot R.st R.cls addr = ((k : Int), (s : Int))) (hk : k < R.cls.length) (hs2 : s < (Cf.sl R.cls k).toNat) :
    Calls Tryz.prog 61 #[.pointer (some ⟨p, 0, none⟩), .int .i64 er, .int .i64 addr, .int .i64 want] w fun e w' => ∃ v, e = .returned (rptV (rlies R er addr want) v) ∧ NearRel w (rlies R er addr want).near v w' := by
  have HR := hide2 h
  have HO := hide2 ho
  have hp := h.blk.lt
  obtain ⟨tg, htg⟩ : ∃ tg, R.tag addr = tg := ⟨_, rfl⟩
  have HTG : Hid (Cf.tag R.st R.cls R.log addr = tg) := htg
  obtain ⟨a, cap, hvc, hcr⟩ := CRow.of_row h.cls
  subst hvc
  have HC := hide2 hcr
  have hclen := hcr.len
  have hccap := hcr.cap
  unfold maxLen at hccap
  clear h ho hcr
  have HSL := hide2 hsl
  obtain ⟨n0, hn0, hz0, hz1, hz2⟩ := info_parts info_near
  obtain ⟨cg, coff, rfl, hcgl, hccell⟩ := HC.out.cells HO.out.conf.n0
  obtain ⟨_, ds⟩ := hccell k hk
  have sl0 := HO.out.conf.s0 k hk
  have sl1 := HO.out.conf.s1 k hk
  obtain ⟨sn, hsn⟩ := Int.eq_ofNat_of_zero_le (show 0 ≤ Cf.sl R.cls k by omega)
  obtain ⟨stt, hstt⟩ : ∃ stt, Ref.state R.log k s = stt := ⟨_, rfl⟩
  have HST := hide2 hstt
  have HF : Hid (rlies R er addr want = ⟨er, addr, want, tg, stt, k, s, if stt = 2 then 0 else rAlloc R.log k s, if stt = 2 then 0 else rGone R.log k s, rNearTo R k s want sn⟩) := by
    show _ = _
    unfold rlies
    rw [hsl, if_neg (by simp), htg]
    simp only [Int.toNat_natCast]
    rw [hstt, hsn, Int.toNat_natCast]
  rw [HF.out]
  obtain ⟨al, hal⟩ : ∃ al, (if stt = 2 then 0 else rAlloc R.log k s) = al := ⟨_, rfl⟩
  obtain ⟨go, hgo⟩ : ∃ go, (if stt = 2 then 0 else rGone R.log k s) = go := ⟨_, rfl⟩
  have HAL := hide2 hal
  have HGO := hide2 hgo
  rw [hal, hgo]
  clear hal hgo
  rw [hsn] at ds sl0 sl1
  have hssn : s < sn := by omega
  have hkI : (k : Int) < (R.cls.length : Int) := by omega
  have DS := hide2 ds
  clear HF htg hsl hccell hsn hstt hs2 hk ds
  go_enter Tryz.func61, Tryz.ntmps61
  go_wp2_with fail
  obtain ⟨wa, hwa⟩ : ∃ wa, wa = w.alloc (.cells (rptCells (Rpt.only 0) (.slice none 0 0)).toArray 26) := ⟨_, rfl⟩
  have hwa' := hwa
  simp only [rptCells, Rpt.only] at hwa'
  rw [← hwa']
  have HBA : Hid (Below w.heap.size w wa) := by show Below _ _ _; rw [hwa]; exact (Below.refl _ _).alloc (Nat.le_refl _) _
  have HRA : Hid (Blk wa w.heap.size 26 (rptCells (Rpt.only 0) (.slice none 0 0))) := by show Blk _ _ _ _; rw [hwa]; exact Blk.alloc _ _ _
  have hwas : wa.heap.size = w.heap.size + 1 := by rw [hwa, World.size_alloc]
  obtain ⟨wb, hwb⟩ : ∃ wb, wb = wa.alloc (.cells (rptCells ⟨er, addr, want, 0, 0, 0, 0, 0, 0, []⟩ (.slice none 0 0)).toArray 26) := ⟨_, rfl⟩
  have hwb' := hwb
  simp only [rptCells] at hwb'
  rw [← hwb']
  have hbb : Below wa.heap.size wa wb := by rw [hwb]; exact (Below.refl _ _).alloc (Nat.le_refl _) _
  have HBB : Hid (Below w.heap.size w wb) := HBA.out.trans (hbb.mono HBA.out.size)
  have HOB : Hid (Blk wb wa.heap.size 26 (rptCells ⟨er, addr, want, 0, 0, 0, 0, 0, 0, []⟩ (.slice none 0 0))) := by show Blk _ _ _ _; rw [hwb]; exact Blk.alloc _ _ _
  have HRB := hide2 (HRA.out.below hbb HRA.out.lt)
  rw [hwas] at HOB
  obtain ⟨rb, hrb⟩ : ∃ rb, rb = w.heap.size := ⟨_, rfl⟩
  obtain ⟨ob, hob⟩ : ∃ ob, ob = w.heap.size + 1 := ⟨_, rfl⟩
  rw [← hob] at HOB
  rw [← hob, ← hrb]
  rw [← hrb] at HRB
  have hne : rb ≠ ob := by omega
  have hne2 : ob ≠ rb := by omega
  have hrbw : w.heap.size ≤ rb := by omega
  have hobw : w.heap.size ≤ ob := by omega
  have hpo : p ≠ ob := by omega
  have hol := HOB.out.lt
  have hrl := HRB.out.lt
  clear hwa hwa' hwb hwb' hbb HRA HBA hwas hob hrb
  refine (rtag_any p _ vl vm R addr wb (HR.out.below HBB.out) HO.out).mono ?_
  rw [HTG.out]
  rintro e1 w1 ⟨rfl, hb1⟩
  have HB1 : Hid (Below w.heap.size w w1) := HBB.out.trans (hb1.mono HBB.out.size)
  have HO1 := hide2 (HOB.out.below hb1 hol)
  have HR1 := hide2 (HRB.out.below hb1 hrl)
  have hol1 := HO1.out.lt
  clear hb1 HOB HRB HBB hol hrl
  have o3 := HO1.out.cell (j := 3) rfl
  have of3 := HO1.out.frozen 3
  go_upto_region 3 with (fail)
  have HO2 : Hid (Blk _ ob 26 (rptCells ⟨er, addr, want, tg, 0, 0, 0, 0, 0, []⟩ (.slice none 0 0))) := HO1.out.setCell 3 (.int .i64 tg)
  have HR2 := hide2 (HR1.out.setCell_other ⟨ob, 3, none⟩ (.int .i64 tg) hne)
  have HB2 := hide2 (HB1.out.setCell (p := ⟨ob, 3, none⟩) hobw (.int .i64 tg))
  clear o3 of3 HO1 HR1 hol1
  generalize w1.setCell ⟨ob, 3, none⟩ (.int .i64 tg) = w2 at *
  have c0 := (HB2.out.cell (p := ⟨p, 0, none⟩) hp).trans (HR.out.blk.cell (j := 0) rfl)
  have c1 := (HB2.out.cell (p := ⟨p, 1, none⟩) hp).trans (HR.out.blk.cell (j := 1) rfl)
  have c2 := (HB2.out.cell (p := ⟨p, 2, none⟩) hp).trans (HR.out.blk.cell (j := 2) rfl)
  have hol2 := HO2.out.lt
  have hrl2 := HR2.out.lt
  have HCW : Hid (CRow w2 (some ⟨cg, coff, none⟩) cap R.cls) := HC.out.below (HB2.out.mono (Nat.le_refl _))
  go_wp2_with fail
  refine (slot_any R.st R.rest (some ⟨cg, coff, none⟩) cap R.cls addr w2 HO.out.conf HCW.out).mono ?_
  rw [HSL.out]
  rintro e1 w3 ⟨rfl, hb3⟩
  have HB3 : Hid (Below w.heap.size w w3) := HB2.out.trans (hb3.mono HB2.out.size)
  have HO3 := hide2 (HO2.out.below hb3 hol2)
  have HR3 := hide2 (HR2.out.below hb3 hrl2)
  have hol3 := HO3.out.lt
  have hrl3 := HR3.out.lt
  clear hb3 HO2 HR2 hol2 hrl2 c0 c1 c2 HCW
  have o4 := HO3.out.cell (j := 4) rfl
  have o5 := HO3.out.cell (j := 5) rfl
  have o6 := HO3.out.cell (j := 6) rfl
  have of4 := HO3.out.frozen 4
  have of5 := HO3.out.frozen 5
  have of6 := HO3.out.frozen 6
  go_upto_region 10 with (fail)
  have hO4 := (HO3.out.setCell 5 (.int .i64 (k : Int))).setCell 6 (.int .i64 (s : Int))
  have HO4 : Hid (Blk _ ob 26 (rptCells ⟨er, addr, want, tg, 0, k, s, 0, 0, []⟩ (.slice none 0 0))) := hO4
  have HR4 := hide2 ((HR3.out.setCell_other ⟨ob, 5, none⟩ (.int .i64 (k : Int)) hne).setCell_other ⟨ob, 6, none⟩ (.int .i64 (s : Int)) hne)
  have HB4 := hide2 ((HB3.out.setCell (p := ⟨ob, 5, none⟩) hobw (.int .i64 (k : Int))).setCell (p := ⟨ob, 6, none⟩) hobw (.int .i64 (s : Int)))
  clear hO4 o4 o5 o6 of4 of5 of6 HO3 HR3 hol3 hrl3
  generalize (w3.setCell ⟨ob, 5, none⟩ (.int .i64 (k : Int))).setCell ⟨ob, 6, none⟩ (.int .i64 (s : Int)) = w4 at *
  have hol4 := HO4.out.lt
  have hrl4 := HR4.out.lt
  go_wp2_with fail
  refine (state_any p _ vl vm R k s w4 (HR.out.below HB4.out)).mono ?_
  rw [HST.out]
  rintro e5 w5 ⟨rfl, hb5⟩
  have HB5 : Hid (Below w.heap.size w w5) := HB4.out.trans (hb5.mono HB4.out.size)
  have HO5 := hide2 (HO4.out.below hb5 hol4)
  have HR5 := hide2 (HR4.out.below hb5 hrl4)
  have hol5 := HO5.out.lt
  clear hb5 HO4 HR4 hol4 hrl4
  have o4 := HO5.out.cell (j := 4) rfl
  have of4 := HO5.out.frozen 4
  go_upto_region 11 with (fail)
  have HLR : Hid (LieRel w ob rb ⟨er, addr, want, tg, stt, k, s, 0, 0, []⟩ [] (.slice none 0 0) (w5.setCell ⟨ob, 4, none⟩ (.int .i64 stt))) := by
    have h0 : LieRel w ob rb ⟨er, addr, want, tg, 0, k, s, 0, 0, []⟩ [] (.slice none 0 0) w5 := ⟨⟨HB5.out, World.ownsRow_nil _ _ _ _, nofun⟩, HO5.out, HR5.out, nofun⟩
    exact h0.put 4 (.int .i64 stt) hobw hne rfl
  clear o4 of4 HO5 HR5 hol5
  generalize w5.setCell ⟨ob, 4, none⟩ (.int .i64 stt) = w6 at *
  go_wp2
  go_loopw [12] (fun i wr => ∃ (m : Nat) (v : Value), m ≤ sn ∧ i = .int .i64 (m : Int) ∧ Hid (LieRel w ob rb ⟨er, addr, want, tg, stt, k, s, lieAt s m stt (rAlloc R.log k s), lieAt s m stt (rGone R.log k s), []⟩ (rNearTo R k s want m) v wr)) (fun i _ => sn - (intOf i).toNat)
  case atStart => exact ⟨0, _, by omega, rfl, HLR.out⟩
  case round =>
    obtain ⟨m, v, hm, rfl, HL⟩ := hrel
    clear HLR
    have HBL : Hid (Below w.heap.size w wr) := HL.out.near.below
    have c2 := (HBL.out.cell (p := ⟨p, 2, none⟩) hp).trans (HR.out.blk.cell (j := 2) rfl)
    have ds := (HBL.out.cell (p := ⟨cg, coff + k * 2 + 1, none⟩) hcgl).trans DS.out
    by_cases hlt : m < sn
    · have hmI : (m : Int) < (sn : Int) := by omega
      have m16 : (m : Int) ≤ 16 := by omega
      have s16 : (s : Int) ≤ 16 := by omega
      obtain ⟨stm, hstm⟩ : ∃ stm, Ref.state R.log k m = stm := ⟨_, rfl⟩
      obtain ⟨lam, hlam⟩ : ∃ lam, Ref.last R.log k m = lam := ⟨_, rfl⟩
      have HSM := hide2 hstm
      have HLM := hide2 hlam
      have HNX : Hid (rNearTo R k s want (m + 1) = rNearTo R k s want m ++ rNearAt R k s want m) := rfl
      have hlen := rNearTo_len R k s want m
      clear hlam
      go_wp2_with fail
      refine (state_any p _ vl vm R k m wr (HR.out.below HBL.out)).mono ?_
      rw [HSM.out]
      rintro e7 w7 ⟨rfl, hb7⟩
      have HL7 := hide2 (HL.out.later hb7)
      have HB7 : Hid (Below w.heap.size w w7) := HL7.out.near.below
      clear hb7 HL HBL c2 ds
      go_wp2_with fail
      refine (last_any p _ vl vm R k m w7 (HR.out.below HB7.out)).mono ?_
      rw [HLM.out]
      rintro e8 w8 ⟨rfl, hb8⟩
      have HL8 := hide2 (HL7.out.later hb8)
      have HB8 : Hid (Below w.heap.size w w8) := HL8.out.near.below
      clear hb8 HL7 HB7
      by_cases hv2 : stm = 2
      · have hvb : (stm == 2) = true := by simp [hv2]
        have HN : Hid (rNearTo R k s want (m + 1) = rNearTo R k s want m) := by
          show _ = _
          rw [HNX.out]; unfold rNearAt; rw [if_neg (fun y => y.1 (HSM.out.trans hv2)), List.append_nil]
        have hsame : s = m → stt = 2 := fun e => by rw [← HST.out, e, HSM.out, hv2]
        have HA1 := hide2 (lieAt_same (x := rAlloc R.log k s) hsame)
        have HA2 := hide2 (lieAt_same (x := rGone R.log k s) hsame)
        clear hv2 hstm hsame
        go_wp2
        go_roundw
        case rel => exact ⟨m + 1, v, by omega, by go_num, by rw [HA1.out, HA2.out, HN.out]; exact HL8⟩
        case measure => simp [intOf]; omega
      · have hvb : (stm == 2) = false := by rw [beq_eq_false_iff_ne]; exact hv2
        have hgv : 0 ≤ Ref.given R.log k m := by
          rcases state_of R.log k m with y | y | y
          · exact absurd (hstm.symm.trans y.1) hv2
          · exact y.2.1
          · exact y.2.1
        have HGV := hide2 hgv
        have HV2 := hide2 hv2
        obtain ⟨am, ham⟩ : ∃ am, rAlloc R.log k m = am := ⟨_, rfl⟩
        obtain ⟨gm, hgm⟩ : ∃ gm, rGone R.log k m = gm := ⟨_, rfl⟩
        have HAM := hide2 ham
        have HGM := hide2 hgm
        clear hv2 hstm hgv ham hgm
        go_wp2_with fail
        refine (rsites_any p _ vl vm R k m w8 (HR.out.below HB8.out) HGV.out).mono ?_
        rw [HAM.out, HGM.out]
        rintro e9 w9 ⟨rfl, hb9⟩
        have HL9 := hide2 (HL8.out.later hb9)
        clear hb9 HL8 HB8
        by_cases hms : m = s
        · have hmb : ((m : Int) == (s : Int)) = true := by simp [hms]
          have HN7 : Hid (lieAt s (m + 1) stt (rAlloc R.log k s) = am) := by show _ = _; rw [hms, lieAt_new (by rw [← HST.out, ← hms, HSM.out]; exact HV2.out), ← hms]; exact HAM.out
          have HN8 : Hid (lieAt s (m + 1) stt (rGone R.log k s) = gm) := by show _ = _; rw [hms, lieAt_new (by rw [← HST.out, ← hms, HSM.out]; exact HV2.out), ← hms]; exact HGM.out
          have hd1 : (m : Int) - (s : Int) < 2 := by omega
          have hd2 : (s : Int) - (m : Int) < 2 := by omega
          have o7 := HL9.out.obk.cell (j := 7) rfl
          have o8 := HL9.out.obk.cell (j := 8) rfl
          have of7 := HL9.out.obk.frozen 7
          have of8 := HL9.out.obk.frozen 8
          have ho9 := HL9.out.obk.lt
          clear hms
          go_upto_region 21 with (fail)
          have HL10 : Hid (LieRel w ob rb ⟨er, addr, want, tg, stt, k, s, lieAt s (m + 1) stt (rAlloc R.log k s), lieAt s (m + 1) stt (rGone R.log k s), []⟩ (rNearTo R k s want m) v ((w9.setCell ⟨ob, 7, none⟩ (.int .i64 am)).setCell ⟨ob, 8, none⟩ (.int .i64 gm))) := by
            rw [HN7.out, HN8.out]
            exact (HL9.out.put (r' := ⟨er, addr, want, tg, stt, k, s, am, lieAt s m stt (rGone R.log k s), []⟩) 7 (.int .i64 am) hobw hne rfl).put 8 (.int .i64 gm) hobw hne rfl
          clear o7 o8 of7 of8 ho9 HL9
          generalize (w9.setCell ⟨ob, 7, none⟩ (.int .i64 am)).setCell ⟨ob, 8, none⟩ (.int .i64 gm) = w10 at *
          by_cases hlw : lam = want
          · have hlb : (lam == want) = true := by simp [hlw]
            have HN : Hid (rNearTo R k s want (m + 1) = rNearTo R k s want m ++ [((m : Int), am, gm)]) := by
              show _ = _
              rw [HNX.out]; unfold rNearAt; rw [if_pos ⟨by rw [HSM.out]; exact HV2.out, HLM.out.trans hlw, hd1, hd2⟩, HAM.out, HGM.out]
            have o9 := HL10.out.obk.cell (j := 9) rfl
            have of9 := HL10.out.obk.frozen 9
            have ho10 := HL10.out.obk.lt
            have hrow := hide2 HL10.out.near.row
            have hov : some ob ≠ v.ownBlock := fun e => (HL10.out.ap ob e.symm).1 rfl
            clear hlw
            go_wp2_with (at_builtin; refine wpList_append_lies _ rfl _ _ _ rfl 0 64 n0 _ 3 24 Tryz.underlying24 hn0 hz0 hz1 hz2 rfl (by omega) v (rNearTo R k s want m).length _ rfl (hrow.out.alloc _) ⟨w10.heap.size, 0, none⟩ 1 1 [.int .i64 (m : Int), .int .i64 am, .int .i64 gm] rfl rfl (World.news_of_block (cs := #[.int .i64 (m : Int), .int .i64 am, .int .i64 gm]) (t := 64) (fr := (0, 0)) (heap_alloc_new w10 _)) (by simp [Value.oneCell']) (by omega) (by simp [maxLen]; omega) (by omega) (by simp) (w10.heap.size + 1) (by simp) ?_; intro gg cap2 w11 hown hgrow hat hlt7; have o9' : w11.cell? ⟨ob, 9, none⟩ = some v := (by rw [hgrow.cell_far _ (by simp; omega) hov, World.cell?_alloc_lt _ _ _ ho10]; exact o9); have of9' : w11.frozen? ⟨ob, 9, none⟩ = false := (by rw [hgrow.frozen_far _ (by simp; omega) hov, World.frozen?_alloc_old _ _ _ (by show ob ≠ _; omega)]; exact of9))
            go_roundw
            case rel => exact ⟨m + 1, _, by omega, by go_num, by rw [HN.out]; exact HL10.out.step hobw hne ((m : Int), am, gm) hown hgrow hat⟩
            case measure => simp [intOf]; omega
          · have hlb : (lam == want) = false := by rw [beq_eq_false_iff_ne]; exact hlw
            have HN : Hid (rNearTo R k s want (m + 1) = rNearTo R k s want m) := by
              show _ = _
              rw [HNX.out]; unfold rNearAt; rw [if_neg (fun y => hlw (HLM.out.symm.trans y.2.1)), List.append_nil]
            clear hlw
            go_wp2
            go_roundw
            case rel => exact ⟨m + 1, v, by omega, by go_num, by rw [HN.out]; exact HL10⟩
            case measure => simp [intOf]; omega
        · have hmb : ((m : Int) == (s : Int)) = false := by rw [beq_eq_false_iff_ne]; omega
          have hsame : s = m → stt = 2 := fun e => absurd e.symm hms
          have HA1 := hide2 (lieAt_same (x := rAlloc R.log k s) hsame)
          have HA2 := hide2 (lieAt_same (x := rGone R.log k s) hsame)
          clear hsame
          go_upto_region 21 with (fail)
          have HL10 : Hid (LieRel w ob rb ⟨er, addr, want, tg, stt, k, s, lieAt s (m + 1) stt (rAlloc R.log k s), lieAt s (m + 1) stt (rGone R.log k s), []⟩ (rNearTo R k s want m) v w9) := by rw [HA1.out, HA2.out]; exact HL9
          clear HL9
          generalize w9 = w10 at *
          by_cases hlw : lam = want
          · by_cases hd1 : (m : Int) - (s : Int) < 2
            · by_cases hd2 : (s : Int) - (m : Int) < 2
              · have hlb : (lam == want) = true := by simp [hlw]
                have HN : Hid (rNearTo R k s want (m + 1) = rNearTo R k s want m ++ [((m : Int), am, gm)]) := by
                  show _ = _
                  rw [HNX.out]; unfold rNearAt; rw [if_pos ⟨by rw [HSM.out]; exact HV2.out, HLM.out.trans hlw, hd1, hd2⟩, HAM.out, HGM.out]
                have o9 := HL10.out.obk.cell (j := 9) rfl
                have of9 := HL10.out.obk.frozen 9
                have ho10 := HL10.out.obk.lt
                have hrow := hide2 HL10.out.near.row
                have hov : some ob ≠ v.ownBlock := fun e => (HL10.out.ap ob e.symm).1 rfl
                clear hlw
                go_wp2_with (at_builtin; refine wpList_append_lies _ rfl _ _ _ rfl 0 64 n0 _ 3 24 Tryz.underlying24 hn0 hz0 hz1 hz2 rfl (by omega) v (rNearTo R k s want m).length _ rfl (hrow.out.alloc _) ⟨w10.heap.size, 0, none⟩ 1 1 [.int .i64 (m : Int), .int .i64 am, .int .i64 gm] rfl rfl (World.news_of_block (cs := #[.int .i64 (m : Int), .int .i64 am, .int .i64 gm]) (t := 64) (fr := (0, 0)) (heap_alloc_new w10 _)) (by simp [Value.oneCell']) (by omega) (by simp [maxLen]; omega) (by omega) (by simp) (w10.heap.size + 1) (by simp) ?_; intro gg cap2 w11 hown hgrow hat hlt7; have o9' : w11.cell? ⟨ob, 9, none⟩ = some v := (by rw [hgrow.cell_far _ (by simp; omega) hov, World.cell?_alloc_lt _ _ _ ho10]; exact o9); have of9' : w11.frozen? ⟨ob, 9, none⟩ = false := (by rw [hgrow.frozen_far _ (by simp; omega) hov, World.frozen?_alloc_old _ _ _ (by show ob ≠ _; omega)]; exact of9))
                go_roundw
                case rel => exact ⟨m + 1, _, by omega, by go_num, by rw [HN.out]; exact HL10.out.step hobw hne ((m : Int), am, gm) hown hgrow hat⟩
                case measure => simp [intOf]; omega
              · have hlb : (lam == want) = true := by simp [hlw]
                have HN : Hid (rNearTo R k s want (m + 1) = rNearTo R k s want m) := by
                  show _ = _
                  rw [HNX.out]; unfold rNearAt; rw [if_neg (fun y => hd2 y.2.2.2), List.append_nil]
                clear hlw
                go_wp2
                go_roundw
                case rel => exact ⟨m + 1, v, by omega, by go_num, by rw [HN.out]; exact HL10⟩
                case measure => simp [intOf]; omega
            · have hlb : (lam == want) = true := by simp [hlw]
              have HN : Hid (rNearTo R k s want (m + 1) = rNearTo R k s want m) := by
                show _ = _
                rw [HNX.out]; unfold rNearAt; rw [if_neg (fun y => hd1 y.2.2.1), List.append_nil]
              clear hlw
              go_wp2
              go_roundw
              case rel => exact ⟨m + 1, v, by omega, by go_num, by rw [HN.out]; exact HL10⟩
              case measure => simp [intOf]; omega
          · have hlb : (lam == want) = false := by rw [beq_eq_false_iff_ne]; exact hlw
            have HN : Hid (rNearTo R k s want (m + 1) = rNearTo R k s want m) := by
              show _ = _
              rw [HNX.out]; unfold rNearAt; rw [if_neg (fun y => hlw (HLM.out.symm.trans y.2.1)), List.append_nil]
            clear hlw
            go_wp2
            go_roundw
            case rel => exact ⟨m + 1, v, by omega, by go_num, by rw [HN.out]; exact HL10⟩
            case measure => simp [intOf]; omega
    · obtain rfl : m = sn := by omega
      obtain ⟨na, ncap, hv, -, -, -⟩ := row_open HL.out.near.row
      subst hv
      rw [lieAt_end hssn, lieAt_end hssn, HAL.out, HGO.out] at HL
      have HO9 := hide2 HL.out.obk
      have HR9 := hide2 HL.out.rbk
      have hol9 := HO9.out.lt
      have hrl9 := HR9.out.lt
      generalize hnl : (rNearTo R k s want m).length = nl at *
      have o0 := HO9.out.cell (j := 0) rfl
      have o1 := HO9.out.cell (j := 1) rfl
      have o2 := HO9.out.cell (j := 2) rfl
      have o3 := HO9.out.cell (j := 3) rfl
      have o4 := HO9.out.cell (j := 4) rfl
      have o5 := HO9.out.cell (j := 5) rfl
      have o6 := HO9.out.cell (j := 6) rfl
      have o7 := HO9.out.cell (j := 7) rfl
      have o8 := HO9.out.cell (j := 8) rfl
      have o9 := HO9.out.cell (j := 9) rfl
      have r0 := HR9.out.cell (j := 0) rfl
      have r1 := HR9.out.cell (j := 1) rfl
      have r2 := HR9.out.cell (j := 2) rfl
      have r3 := HR9.out.cell (j := 3) rfl
      have r4 := HR9.out.cell (j := 4) rfl
      have r5 := HR9.out.cell (j := 5) rfl
      have r6 := HR9.out.cell (j := 6) rfl
      have r7 := HR9.out.cell (j := 7) rfl
      have r8 := HR9.out.cell (j := 8) rfl
      have r9 := HR9.out.cell (j := 9) rfl
      have rf0 := HR9.out.frozen 0
      have rf1 := HR9.out.frozen 1
      have rf2 := HR9.out.frozen 2
      have rf3 := HR9.out.frozen 3
      have rf4 := HR9.out.frozen 4
      have rf5 := HR9.out.frozen 5
      have rf6 := HR9.out.frozen 6
      have rf7 := HR9.out.frozen 7
      have rf8 := HR9.out.frozen 8
      have rf9 := HR9.out.frozen 9
      clear HO9 HR9
      go_wp2
      subst hnl
      refine bodyPost_ret (v := rptV ⟨er, addr, want, tg, stt, k, s, al, go, []⟩ (.slice na (rNearTo R k s want m).length ncap)) (by simp [results, Tryz.results61, go_sem, rptV, rptCells, *]) rfl ⟨_, rfl, ?_⟩
      refine ⟨below_set10 HBL.out hrbw _ _ _ _ _ _ _ _ _ _, row_kept HL.out.near.row (fun b hb => ?_), HL.out.near.vlo⟩
      exact heap_set10 wr (HL.out.ap b hb).2 _ _ _ _ _ _ _ _ _ _
end Go.Proofs.YtjikemhmnkckcabGreat
