import Derived.Test.YtjikemhmnkckcabGreatJ19
import Derived.Deep.Cut
import Derived.Test.YtjikemhmnkckcabGreatJ13
import Derived.Test.YtjikemhmnkckcabGreatJ10
/- The program's report on an address within a slot. -/
namespace Go.Proofs.YtjikemhmnkckcabGreat
open Go.RowKit

set_option maxRecDepth 100000 in
set_option maxHeartbeats 1600000 in
theorem report_slot (p : Nat) (vc : Value) (bb : Nat) (G : GSt) (rest : Int) (cls : List (Int × Int)) (er addr want : Int) (w : World) (h : GRep w p vc bb G) (ho : GOk G rest cls) (hbd : GBd G) (a0 : -9223372036854775808 ≤ addr) (a1 : addr ≤ 9223372036854775807) (hst : ¬ (16 ≤ addr ∧ addr < 16 * (1 + G.st))) (k s : Nat) (hsl : Cf.slot G.st cls addr = ((k : Int), (s : Int))) (hk : k < cls.length) (hs2 : s < (Cf.sl cls k).toNat) :
    Calls Tryz.prog 159 #[.pointer (some ⟨p, 0, none⟩), .int .i64 er, .int .i64 addr, .int .i64 want] w fun e w' => ∃ v, e = .returned (rptV (grpt G cls er addr want) v) ∧ NearRel w (grpt G cls er addr want).near v w' := by
  have HR := hide2 h
  have HO := hide2 ho
  have HBD := hide2 hbd
  have hp := h.blk.lt
  have s0 := ho.conf.st0
  have s1 := ho.conf.st1
  have n1 := ho.conf.n1
  have hlen := ho.len
  clear h ho hbd
  obtain ⟨tg, htg⟩ : ∃ tg, gtag G cls addr = tg := ⟨_, rfl⟩
  have HTG := hide2 htg
  have HS : Hid ((decide (16 ≤ addr) && decide (addr < 16 * (1 + G.st))) = false) := by
    show _ = _
    by_cases c : 16 ≤ addr
    · have : ¬ addr < 16 * (1 + G.st) := fun y => hst ⟨c, y⟩
      simp [this]
    · simp [c]
  have hkl : k < G.cs.length := by omega
  have hsl2 := HO.out.sl k hk
  have s1' := HO.out.conf.s1 k hk
  have hsn : s < (G.cs.getD k GCls.no).slots.length := by omega
  obtain ⟨ac, cap, hvc, hcap, hmax, hrow⟩ := row_open HR.out.cls
  subst hvc
  obtain ⟨g, rfl, hgl, hcell, _⟩ := hrow (by omega)
  unfold maxLen at hmax
  obtain ⟨_, _, d2⟩ := gcls_cells hcell k hkl
  have hblk := HR.out.slots k hkl
  have D2 := hide2 d2
  have hbl := hblk.lt
  have HBLK := hide2 hblk
  obtain ⟨e0, e1, e2, e3, e4, e5⟩ := slot_cells hblk s hsn
  have HF : Hid (grpt G cls er addr want = ⟨er, addr, want, tg, ((G.cs.getD k GCls.no).slots.getD s GSlot.no).state, k, s, ((G.cs.getD k GCls.no).slots.getD s GSlot.no).alloc, ((G.cs.getD k GCls.no).slots.getD s GSlot.no).gone, gnear (G.cs.getD k GCls.no).slots s want⟩) := by show _ = _; unfold grpt; rw [if_neg hst, hsl, htg]; rfl
  have HL : Hid (Cf.cslot G.st cls addr = ((k : Int), (s : Int))) := Cf.cslot_yes HO.out.conf _ k s hsl
  rw [HF.out]
  have c2 := HR.out.blk.cell (j := 2) rfl
  have hkI : (k : Int) < (G.cs.length : Int) := by omega
  have hl16 : (G.cs.getD k GCls.no).slots.length ≤ 16 := by omega
  clear hst htg HF hsl hblk hrow hcell hsl2 s1' hs2 hk
  generalize (G.cs.getD k GCls.no).slots = xs at *
  generalize (G.cs.getD k GCls.no).sb = sb at *
  have hsI : (s : Int) < (xs.length : Int) := by omega
  generalize xs.getD s GSlot.no = x at *
  go_enter Tryz.func159, Tryz.ntmps159
  go_wp2_with fail
  obtain ⟨wa, hwa⟩ : ∃ wa, wa = w.alloc (.cells (rptCells (Rpt.only 0) (.slice none 0 0)).toArray 26) := ⟨_, rfl⟩
  have hwa' := hwa
  simp only [rptCells, Rpt.only] at hwa'
  rw [← hwa']
  have HBA : Hid (Below w.heap.size w wa) := by show Below _ _ _; rw [hwa]; exact (Below.refl _ _).alloc (Nat.le_refl _) _
  have HRB : Hid (Blk wa w.heap.size 26 (rptCells (Rpt.only 0) (.slice none 0 0))) := by show Blk _ _ _ _; rw [hwa]; exact Blk.alloc _ _ _
  obtain ⟨rb, hrb⟩ : ∃ rb, rb = w.heap.size := ⟨_, rfl⟩
  rw [← hrb] at HRB ⊢
  have HRBE := hide2 hrb
  have hrl := HRB.out.lt
  clear hwa hwa' hrb
  refine (gtag_any p _ bb G rest cls addr wa (HR.out.below HBA.out) HO.out HBD.out a0 a1).mono ?_
  rw [HTG.out]
  rintro e1 w1 ⟨rfl, hb1⟩
  have HB1 : Hid (Below w.heap.size w w1) := HBA.out.trans (hb1.mono HBA.out.size)
  have HR1 := hide2 (HRB.out.below hb1 hrl)
  have hrl1 := HR1.out.lt
  clear hb1 HRB HBA hrl
  go_wp2_with fail
  obtain ⟨w2, hw2⟩ : ∃ w2, w2 = w1.alloc (.cells (rptCells ⟨er, addr, want, tg, 0, 0, 0, 0, 0, []⟩ (.slice none 0 0)).toArray 26) := ⟨_, rfl⟩
  have hw2' := hw2
  simp only [rptCells] at hw2'
  rw [← hw2']
  have HB2 : Hid (Below w.heap.size w w2) := by show Below _ _ _; rw [hw2]; exact HB1.out.alloc HB1.out.size _
  have HO2 : Hid (Blk w2 w1.heap.size 26 (rptCells ⟨er, addr, want, tg, 0, 0, 0, 0, 0, []⟩ (.slice none 0 0))) := by show Blk _ _ _ _; rw [hw2]; exact Blk.alloc _ _ _
  have HR2 : Hid (Blk w2 rb 26 (rptCells (Rpt.only 0) (.slice none 0 0))) := by show Blk _ _ _ _; rw [hw2]; exact HR1.out.below ((Below.refl _ _).alloc (Nat.le_refl _) _) hrl1
  obtain ⟨ob, hob⟩ : ∃ ob, ob = w1.heap.size := ⟨_, rfl⟩
  rw [← hob] at HO2 ⊢
  have hne : rb ≠ ob := by omega
  have hne2 : ob ≠ rb := by omega
  have hol := HO2.out.lt
  have hrl2 := HR2.out.lt
  have hobw : w.heap.size ≤ ob := by have := HB1.out.size; omega
  have hrbw : w.heap.size ≤ rb := by have := HRBE.out; omega
  clear hw2 hw2' hob HR1 hrl1
  refine (inStatic_any p _ bb G addr w2 (HR.out.below HB2.out) s0 s1).mono ?_
  rw [HS.out]
  rintro e1 w3 ⟨rfl, rfl⟩
  go_wp2_with fail
  refine (slotAt_any p _ bb G rest cls addr _ (HR.out.below HB2.out) HO.out a0 a1).mono ?_
  rw [HL.out]
  rintro e1 w4 ⟨rfl, hb4⟩
  have HO4 := hide2 (HO2.out.below hb4 hol)
  have HR4 := hide2 (HR2.out.below hb4 hrl2)
  have HB4 : Hid (Below w.heap.size w w4) := HB2.out.trans (hb4.mono HB2.out.size)
  have hol4 := HO4.out.lt
  have hrl4 := HR4.out.lt
  have c2' := (HB4.out.cell (p := ⟨p, 2, none⟩) hp).trans c2
  have d2' := (HB4.out.cell (p := ⟨g, k * 3 + 2, none⟩) hgl).trans d2
  have e0' := (HB4.out.cell (p := ⟨sb, s * 6, none⟩) hbl).trans e0
  have e1' := (HB4.out.cell (p := ⟨sb, s * 6 + 1, none⟩) hbl).trans e1
  have e2' := (HB4.out.cell (p := ⟨sb, s * 6 + 2, none⟩) hbl).trans e2
  have e3' := (HB4.out.cell (p := ⟨sb, s * 6 + 3, none⟩) hbl).trans e3
  have e4' := (HB4.out.cell (p := ⟨sb, s * 6 + 4, none⟩) hbl).trans e4
  have e5' := (HB4.out.cell (p := ⟨sb, s * 6 + 5, none⟩) hbl).trans e5
  have hx1 : p ≠ ob := by omega
  have hx2 : g ≠ ob := by omega
  have hx3 : ob ≠ w4.heap.size := by omega
  have hx4 : w4.heap.size ≠ ob := by omega
  clear hb4 HO2 HR2 hol hrl2 e0 e1 e2 e3 e4 e5 d2 c2
  go_upto_region 10 with (fail)
  obtain ⟨w5, hw5⟩ : ∃ w5, w5 = w4.alloc (.cells #[.int .i64 x.state, .int .i64 x.tag, .int .i64 x.bytes, .int .i64 x.rest, .int .i64 x.alloc, .int .i64 x.gone] 146) := ⟨_, rfl⟩
  rw [← hw5]
  have hb5 : Below w4.heap.size w4 w5 := by rw [hw5]; exact (Below.refl _ _).alloc (Nat.le_refl _) _
  have HX5 : Hid (Blk w5 w4.heap.size 146 [.int .i64 x.state, .int .i64 x.tag, .int .i64 x.bytes, .int .i64 x.rest, .int .i64 x.alloc, .int .i64 x.gone]) := by show Blk _ _ _ _; rw [hw5]; exact Blk.alloc _ _ _
  have HO5 := hide2 (HO4.out.below hb5 hol4)
  have HR5 := hide2 (HR4.out.below hb5 hrl4)
  have HB5 : Hid (Below w.heap.size w w5) := HB4.out.trans (hb5.mono HB4.out.size)
  obtain ⟨bx, hbx⟩ : ∃ bx, bx = w4.heap.size := ⟨_, rfl⟩
  rw [← hbx] at HX5 hx3 hx4 ⊢
  have hxl5 := HX5.out.lt
  have hol5 := HO5.out.lt
  have q0 := HX5.out.cell (j := 0) rfl
  have q4 := HX5.out.cell (j := 4) rfl
  have q5 := HX5.out.cell (j := 5) rfl
  have o4 := HO5.out.cell (j := 4) rfl
  have o5 := HO5.out.cell (j := 5) rfl
  have o6 := HO5.out.cell (j := 6) rfl
  have o7 := HO5.out.cell (j := 7) rfl
  have o8 := HO5.out.cell (j := 8) rfl
  have of4 := HO5.out.frozen 4
  have of5 := HO5.out.frozen 5
  have of6 := HO5.out.frozen 6
  have of7 := HO5.out.frozen 7
  have of8 := HO5.out.frozen 8
  clear hw5 hbx hb5 HO4 HR4 e0' e1' e2' e3' e4' e5' c2' d2' hol4 hrl4
  go_upto_region 15 with (fail)
  have hO6 := ((((HO5.out.setCell 4 (.int .i64 x.state)).setCell 5 (.int .i64 (k : Int))).setCell 6 (.int .i64 (s : Int))).setCell 7 (.int .i64 x.alloc)).setCell 8 (.int .i64 x.gone)
  have HO6 : Hid (Blk _ ob 26 (rptCells ⟨er, addr, want, tg, x.state, k, s, x.alloc, x.gone, []⟩ (.slice none 0 0))) := hO6
  have HR6 := hide2 (((((HR5.out.setCell_other ⟨ob, 4, none⟩ (.int .i64 x.state) hne).setCell_other ⟨ob, 5, none⟩ (.int .i64 (k : Int)) hne).setCell_other ⟨ob, 6, none⟩ (.int .i64 (s : Int)) hne).setCell_other ⟨ob, 7, none⟩ (.int .i64 x.alloc) hne).setCell_other ⟨ob, 8, none⟩ (.int .i64 x.gone) hne)
  have HB6 := hide2 (((((HB5.out.setCell (p := ⟨ob, 4, none⟩) hobw (.int .i64 x.state)).setCell (p := ⟨ob, 5, none⟩) hobw (.int .i64 (k : Int))).setCell (p := ⟨ob, 6, none⟩) hobw (.int .i64 (s : Int))).setCell (p := ⟨ob, 7, none⟩) hobw (.int .i64 x.alloc)).setCell (p := ⟨ob, 8, none⟩) hobw (.int .i64 x.gone))
  clear hO6 q0 q4 q5 o4 o5 o6 o7 o8 of4 of5 of6 of7 of8 HO5 HR5 HX5
  generalize (((((w5.setCell ⟨ob, 4, none⟩ (.int .i64 x.state)).setCell ⟨ob, 5, none⟩ (.int .i64 (k : Int))).setCell ⟨ob, 6, none⟩ (.int .i64 (s : Int))).setCell ⟨ob, 7, none⟩ (.int .i64 x.alloc)).setCell ⟨ob, 8, none⟩ (.int .i64 x.gone)) = w6 at *
  have c26 := (HB6.out.cell (p := ⟨p, 2, none⟩) hp).trans (HR.out.blk.cell (j := 2) rfl)
  have d26 := (HB6.out.cell (p := ⟨g, k * 3 + 2, none⟩) hgl).trans D2.out
  have hg6 : g < w6.heap.size := Nat.lt_of_lt_of_le hgl HB6.out.size
  have hb6 := hide2 (HBLK.out.below HB6.out hbl)
  have hol6 := HO6.out.lt
  have hrl6 := HR6.out.lt
  go_wp2_with fail
  refine (near_any g (k * 3) sb xs (s : Int) want w6 d26 hg6 hb6.out hl16 (by omega) (by omega)).mono ?_
  rintro e1 w7 ⟨v, rfl, hn⟩
  obtain ⟨na, ncap, hv, -, -, -⟩ := row_open hn.row
  subst hv
  have HN := hide2 hn
  have HO7 := hide2 (HO6.out.below hn.below hol6)
  have HR7 := hide2 (HR6.out.below hn.below hrl6)
  have HB7 : Hid (Below w.heap.size w w7) := HB6.out.trans (hn.below.mono HB6.out.size)
  have hol7 := HO7.out.lt
  have o9 := HO7.out.cell (j := 9) rfl
  have of9 := HO7.out.frozen 9
  clear hn c26 d26 HO6 HR6
  go_upto_region 16 with (fail)
  have HO8 : Hid (Blk _ ob 26 (rptCells ⟨er, addr, want, tg, x.state, k, s, x.alloc, x.gone, []⟩ (.slice na (gnear xs (s : Int) want).length ncap))) := HO7.out.setCell 9 (.slice na (gnear xs (s : Int) want).length ncap)
  have HR8 := hide2 (HR7.out.setCell_other ⟨ob, 9, none⟩ (.slice na (gnear xs (s : Int) want).length ncap) hne)
  have HB8 := hide2 (HB7.out.setCell (p := ⟨ob, 9, none⟩) hobw (.slice na (gnear xs (s : Int) want).length ncap))
  have HW8 : Hid (∀ b, b ≠ ob → (w7.setCell ⟨ob, 9, none⟩ (.slice na (gnear xs (s : Int) want).length ncap)).heap[b]? = w7.heap[b]?) := fun b hb => Below.heap_setCell _ _ _ b hb
  clear o9 of9 HO7 HR7
  generalize w7.setCell ⟨ob, 9, none⟩ (.slice na (gnear xs (s : Int) want).length ncap) = w8 at *
  have hol8 := HO8.out.lt
  have hrl8 := HR8.out.lt
  have o0 := HO8.out.cell (j := 0) rfl
  have o1 := HO8.out.cell (j := 1) rfl
  have o2 := HO8.out.cell (j := 2) rfl
  have o3 := HO8.out.cell (j := 3) rfl
  have o4 := HO8.out.cell (j := 4) rfl
  have o5 := HO8.out.cell (j := 5) rfl
  have o6 := HO8.out.cell (j := 6) rfl
  have o7 := HO8.out.cell (j := 7) rfl
  have o8 := HO8.out.cell (j := 8) rfl
  have o9 := HO8.out.cell (j := 9) rfl
  have r0 := HR8.out.cell (j := 0) rfl
  have r1 := HR8.out.cell (j := 1) rfl
  have r2 := HR8.out.cell (j := 2) rfl
  have r3 := HR8.out.cell (j := 3) rfl
  have r4 := HR8.out.cell (j := 4) rfl
  have r5 := HR8.out.cell (j := 5) rfl
  have r6 := HR8.out.cell (j := 6) rfl
  have r7 := HR8.out.cell (j := 7) rfl
  have r8 := HR8.out.cell (j := 8) rfl
  have r9 := HR8.out.cell (j := 9) rfl
  have rf0 := HR8.out.frozen 0
  have rf1 := HR8.out.frozen 1
  have rf2 := HR8.out.frozen 2
  have rf3 := HR8.out.frozen 3
  have rf4 := HR8.out.frozen 4
  have rf5 := HR8.out.frozen 5
  have rf6 := HR8.out.frozen 6
  have rf7 := HR8.out.frozen 7
  have rf8 := HR8.out.frozen 8
  have rf9 := HR8.out.frozen 9
  clear HO8 HR8
  go_wp2
  refine bodyPost_ret (v := rptV ⟨er, addr, want, tg, x.state, k, s, x.alloc, x.gone, []⟩ (.slice na (gnear xs (s : Int) want).length ncap)) (by simp [results, Tryz.results159, go_sem, rptV, rptCells, *]) rfl ⟨_, rfl, ?_⟩
  have hvl : ∀ b, (Value.ownBlock (.slice na (gnear xs (s : Int) want).length ncap)) = some b → w6.heap.size ≤ b := HN.out.vlo
  refine ⟨below_set10 HB8.out hrbw _ _ _ _ _ _ _ _ _ _, row_kept HN.out.row (fun b hb => ?_), fun b hb => ?_⟩
  · have := hvl b hb
    rw [heap_set10 w8 (by omega), HW8.out b (by omega)]
  · have := hvl b hb
    have := HB6.out.size
    omega

theorem report_any (p : Nat) (vc : Value) (bb : Nat) (G : GSt) (rest : Int) (cls : List (Int × Int)) (er addr want : Int) (w : World) (h : GRep w p vc bb G) (ho : GOk G rest cls) (hbd : GBd G) (a0 : -9223372036854775808 ≤ addr) (a1 : addr ≤ 9223372036854775807) :
    Calls Tryz.prog 159 #[.pointer (some ⟨p, 0, none⟩), .int .i64 er, .int .i64 addr, .int .i64 want] w fun e w' => ∃ v, e = .returned (rptV (grpt G cls er addr want) v) ∧ NearRel w (grpt G cls er addr want).near v w' := by
  by_cases hst : 16 ≤ addr ∧ addr < 16 * (1 + G.st)
  · exact report_away p vc bb G rest cls er addr want w h ho hbd a0 a1 (.inl hst)
  · rcases Cf.slot_bd G.st cls addr with hsl | ⟨k, s, hsl, hk, hs2, _⟩
    · exact report_away p vc bb G rest cls er addr want w h ho hbd a0 a1 (.inr (by rw [hsl]; decide))
    · exact report_slot p vc bb G rest cls er addr want w h ho hbd a0 a1 hst k s hsl hk hs2
end Go.Proofs.YtjikemhmnkckcabGreat
/- The program's Explain and Blame. -/
namespace Go.Proofs.YtjikemhmnkckcabGreat
open Go.RowKit

def gexplain (G : GSt) (R : RSt) (q n : Int) : Rpt :=
  if (R.access q n).1 = 6 ∨ (R.access q n).1 = 7 then grpt G R.cls (R.access q n).1 (R.access q n).2 (q / 72057594037927936) else Rpt.only (R.access q n).1
def gblame (G : GSt) (R : RSt) (q : Int) : Rpt :=
  if (gblock G R.cls q).2.2 = 0 ∨ (gblock G R.cls q).2.2 = 5 then Rpt.only (gblock G R.cls q).2.2 else grpt G R.cls (gblock G R.cls q).2.2 (q % 72057594037927936) (q / 72057594037927936)

theorem access_refused {R : RSt} {q n : Int} (h : (R.access q n).1 = 6 ∨ (R.access q n).1 = 7) : Ref.tameB q = true ∧ 0 ≤ (R.access q n).2 ∧ (R.access q n).2 ≤ 200000 := by
  unfold RSt.access at h ⊢
  by_cases ha : n < 0 ∨ 65536 < n
  · rw [if_pos ha] at h; simp at h
  · rw [if_neg ha] at h ⊢
    by_cases hz : n = 0
    · rw [if_pos hz] at h; simp at h
    · rw [if_neg hz] at h ⊢
      cases ht : Ref.tameB q
      · rw [ht] at h; simp at h
      · rw [ht, if_pos rfl] at h
        rw [if_pos rfl]
        refine ⟨rfl, ?_⟩
        have htm := (tame_iff q).1 ht
        have aux : ∀ f i : Nat, (Ref.accFrom R.tag (q / 72057594037927936) (q % 72057594037927936) f i).1 ≠ 0 → 0 ≤ (Ref.accFrom R.tag (q / 72057594037927936) (q % 72057594037927936) f i).2 ∧ (Ref.accFrom R.tag (q / 72057594037927936) (q % 72057594037927936) f i).2 ≤ q % 72057594037927936 + i + f := by
          intro f
          induction f with
          | zero => intro i h; simp [Ref.accFrom] at h
          | succ f ih =>
            intro i h
            simp only [Ref.accFrom] at h ⊢
            split
            · simp only; omega
            · split
              · simp only; omega
              · rename_i h1 h2
                rw [if_neg h1, if_neg h2] at h
                have := ih (i + 1) h
                omega
        have := aux n.toNat 0 (by omega)
        omega

set_option maxRecDepth 100000 in
set_option maxHeartbeats 3200000 in
theorem gexplain_any (p : Nat) (vc : Value) (bb : Nat) (G : GSt) (R : RSt) (q n : Int) (w : World) (h : GRep w p vc bb G) (hs : Sim G R) (q1 : q ≤ 9223372036854775807) :
    Calls Tryz.prog 146 #[.pointer (some ⟨p, 0, none⟩), .int .i64 q, .int .i64 n] w fun e w' => ∃ v, e = .returned (rptV (gexplain G R q n) v) ∧ NearRel w (gexplain G R q n).near v w' := by
  have HR := hide2 h
  have HS := hide2 hs
  clear h hs
  by_cases he : (R.access q n).1 = 6 ∨ (R.access q n).1 = 7
  · have HF : Hid (gexplain G R q n = grpt G R.cls (R.access q n).1 (R.access q n).2 (q / 72057594037927936)) := if_pos he
    obtain ⟨ht, x0, x1⟩ := access_refused he
    have q0 : 0 ≤ q := ((tame_iff q).1 ht).1
    rw [HF.out]
    clear HF ht
    obtain ⟨er, her⟩ : ∃ er, (R.access q n).1 = er := ⟨_, rfl⟩
    obtain ⟨ad, had⟩ : ∃ ad, (R.access q n).2 = ad := ⟨_, rfl⟩
    have HE := hide2 her
    have HA := hide2 had
    rw [her] at he ⊢
    rw [had] at x0 x1 ⊢
    clear her had
    rcases he with rfl | rfl
    · obtain ⟨r, hr⟩ : ∃ r, grpt G R.cls 6 ad (q / 72057594037927936) = r := ⟨_, rfl⟩
      have HRP := hide2 hr
      rw [hr]
      clear hr
      go_enter Tryz.func146, Tryz.ntmps146
      go_wp2_with fail
      obtain ⟨wa, hwa⟩ : ∃ wa, wa = w.alloc (.cells (rptCells (Rpt.only 0) (.slice none 0 0)).toArray 26) := ⟨_, rfl⟩
      have hwa' := hwa
      simp only [rptCells, Rpt.only] at hwa'
      rw [← hwa']
      have HBA : Hid (Below w.heap.size w wa) := by show Below _ _ _; rw [hwa]; exact (Below.refl _ _).alloc (Nat.le_refl _) _
      have HRB : Hid (Blk wa w.heap.size 26 (rptCells (Rpt.only 0) (.slice none 0 0))) := by show Blk _ _ _ _; rw [hwa]; exact Blk.alloc _ _ _
      obtain ⟨rb, hrb⟩ : ∃ rb, rb = w.heap.size := ⟨_, rfl⟩
      rw [← hrb] at HRB ⊢
      have hrbw : w.heap.size ≤ rb := by omega
      have hrl := HRB.out.lt
      clear hwa hwa' hrb
      refine (gdecide_any p vc bb G R q n wa (HR.out.below HBA.out) HS.out q1).mono ?_
      rw [HE.out, HA.out]
      rintro e1 w1 ⟨rfl, hb1⟩
      have HB1 : Hid (Below w.heap.size w w1) := HBA.out.trans (hb1.mono HBA.out.size)
      have HR1 := hide2 (HRB.out.below hb1 hrl)
      have hrl1 := HR1.out.lt
      clear hb1 HRB HBA hrl
      go_wp2_with fail
      refine (report_any p vc bb G R.rest R.cls 6 ad (q / 72057594037927936) w1 (HR.out.below HB1.out) HS.out.ok HS.out.bd (by omega) (by omega)).mono ?_
      rw [HRP.out]
      rintro e1 w2 ⟨v, rfl, hn⟩
      obtain ⟨na, ncap, hv, -, -, -⟩ := row_open hn.row
      subst hv
      have HN := hide2 hn
      have HR2 := hide2 (HR1.out.below hn.below hrl1)
      have HB2 : Hid (Below w.heap.size w w2) := HB1.out.trans (hn.below.mono HB1.out.size)
      have hrl2 := HR2.out.lt
      clear hn HR1
      unfold rptV rptCells
      have r0 := HR2.out.cell (j := 0) rfl
      have r1 := HR2.out.cell (j := 1) rfl
      have r2 := HR2.out.cell (j := 2) rfl
      have r3 := HR2.out.cell (j := 3) rfl
      have r4 := HR2.out.cell (j := 4) rfl
      have r5 := HR2.out.cell (j := 5) rfl
      have r6 := HR2.out.cell (j := 6) rfl
      have r7 := HR2.out.cell (j := 7) rfl
      have r8 := HR2.out.cell (j := 8) rfl
      have r9 := HR2.out.cell (j := 9) rfl
      have rf0 := HR2.out.frozen 0
      have rf1 := HR2.out.frozen 1
      have rf2 := HR2.out.frozen 2
      have rf3 := HR2.out.frozen 3
      have rf4 := HR2.out.frozen 4
      have rf5 := HR2.out.frozen 5
      have rf6 := HR2.out.frozen 6
      have rf7 := HR2.out.frozen 7
      have rf8 := HR2.out.frozen 8
      have rf9 := HR2.out.frozen 9
      clear HR2
      generalize hnl : r.near.length = nl at *
      go_wp2
      subst hnl
      refine bodyPost_ret (v := rptV r (.slice na r.near.length ncap)) (by simp [results, Tryz.results146, go_sem, rptV, rptCells, *]) rfl ⟨_, rfl, ?_⟩
      refine ⟨below_set10 HB2.out hrbw _ _ _ _ _ _ _ _ _ _, row_kept HN.out.row (fun b hb => ?_), fun b hb => ?_⟩
      · have := HN.out.vlo b hb
        rw [heap_set10 w2 (by omega)]
      · have := HN.out.vlo b hb
        have := HB1.out.size
        omega
    · obtain ⟨r, hr⟩ : ∃ r, grpt G R.cls 7 ad (q / 72057594037927936) = r := ⟨_, rfl⟩
      have HRP := hide2 hr
      rw [hr]
      clear hr
      go_enter Tryz.func146, Tryz.ntmps146
      go_wp2_with fail
      obtain ⟨wa, hwa⟩ : ∃ wa, wa = w.alloc (.cells (rptCells (Rpt.only 0) (.slice none 0 0)).toArray 26) := ⟨_, rfl⟩
      have hwa' := hwa
      simp only [rptCells, Rpt.only] at hwa'
      rw [← hwa']
      have HBA : Hid (Below w.heap.size w wa) := by show Below _ _ _; rw [hwa]; exact (Below.refl _ _).alloc (Nat.le_refl _) _
      have HRB : Hid (Blk wa w.heap.size 26 (rptCells (Rpt.only 0) (.slice none 0 0))) := by show Blk _ _ _ _; rw [hwa]; exact Blk.alloc _ _ _
      obtain ⟨rb, hrb⟩ : ∃ rb, rb = w.heap.size := ⟨_, rfl⟩
      rw [← hrb] at HRB ⊢
      have hrbw : w.heap.size ≤ rb := by omega
      have hrl := HRB.out.lt
      clear hwa hwa' hrb
      refine (gdecide_any p vc bb G R q n wa (HR.out.below HBA.out) HS.out q1).mono ?_
      rw [HE.out, HA.out]
      rintro e1 w1 ⟨rfl, hb1⟩
      have HB1 : Hid (Below w.heap.size w w1) := HBA.out.trans (hb1.mono HBA.out.size)
      have HR1 := hide2 (HRB.out.below hb1 hrl)
      have hrl1 := HR1.out.lt
      clear hb1 HRB HBA hrl
      go_wp2_with fail
      refine (report_any p vc bb G R.rest R.cls 7 ad (q / 72057594037927936) w1 (HR.out.below HB1.out) HS.out.ok HS.out.bd (by omega) (by omega)).mono ?_
      rw [HRP.out]
      rintro e1 w2 ⟨v, rfl, hn⟩
      obtain ⟨na, ncap, hv, -, -, -⟩ := row_open hn.row
      subst hv
      have HN := hide2 hn
      have HR2 := hide2 (HR1.out.below hn.below hrl1)
      have HB2 : Hid (Below w.heap.size w w2) := HB1.out.trans (hn.below.mono HB1.out.size)
      have hrl2 := HR2.out.lt
      clear hn HR1
      unfold rptV rptCells
      have r0 := HR2.out.cell (j := 0) rfl
      have r1 := HR2.out.cell (j := 1) rfl
      have r2 := HR2.out.cell (j := 2) rfl
      have r3 := HR2.out.cell (j := 3) rfl
      have r4 := HR2.out.cell (j := 4) rfl
      have r5 := HR2.out.cell (j := 5) rfl
      have r6 := HR2.out.cell (j := 6) rfl
      have r7 := HR2.out.cell (j := 7) rfl
      have r8 := HR2.out.cell (j := 8) rfl
      have r9 := HR2.out.cell (j := 9) rfl
      have rf0 := HR2.out.frozen 0
      have rf1 := HR2.out.frozen 1
      have rf2 := HR2.out.frozen 2
      have rf3 := HR2.out.frozen 3
      have rf4 := HR2.out.frozen 4
      have rf5 := HR2.out.frozen 5
      have rf6 := HR2.out.frozen 6
      have rf7 := HR2.out.frozen 7
      have rf8 := HR2.out.frozen 8
      have rf9 := HR2.out.frozen 9
      clear HR2
      generalize hnl : r.near.length = nl at *
      go_wp2
      subst hnl
      refine bodyPost_ret (v := rptV r (.slice na r.near.length ncap)) (by simp [results, Tryz.results146, go_sem, rptV, rptCells, *]) rfl ⟨_, rfl, ?_⟩
      refine ⟨below_set10 HB2.out hrbw _ _ _ _ _ _ _ _ _ _, row_kept HN.out.row (fun b hb => ?_), fun b hb => ?_⟩
      · have := HN.out.vlo b hb
        rw [heap_set10 w2 (by omega)]
      · have := HN.out.vlo b hb
        have := HB1.out.size
        omega
  · have HF : Hid (gexplain G R q n = Rpt.only (R.access q n).1) := if_neg he
    rw [HF.out]
    clear HF
    obtain ⟨er, her⟩ : ∃ er, (R.access q n).1 = er := ⟨_, rfl⟩
    have HE := hide2 her
    rw [her] at he ⊢
    have h6 : (er != 6) = true := by simp; omega
    have h7 : (er != 7) = true := by simp; omega
    clear her he
    go_enter Tryz.func146, Tryz.ntmps146
    go_wp2_with fail
    obtain ⟨wa, hwa⟩ : ∃ wa, wa = w.alloc (.cells (rptCells (Rpt.only 0) (.slice none 0 0)).toArray 26) := ⟨_, rfl⟩
    have hwa' := hwa
    simp only [rptCells, Rpt.only] at hwa'
    rw [← hwa']
    have HBA : Hid (Below w.heap.size w wa) := by show Below _ _ _; rw [hwa]; exact (Below.refl _ _).alloc (Nat.le_refl _) _
    have HRB : Hid (Blk wa w.heap.size 26 (rptCells (Rpt.only 0) (.slice none 0 0))) := by show Blk _ _ _ _; rw [hwa]; exact Blk.alloc _ _ _
    obtain ⟨rb, hrb⟩ : ∃ rb, rb = w.heap.size := ⟨_, rfl⟩
    rw [← hrb] at HRB ⊢
    have hrbw : w.heap.size ≤ rb := by omega
    have hrl := HRB.out.lt
    clear hwa hwa' hrb
    refine (gdecide_any p vc bb G R q n wa (HR.out.below HBA.out) HS.out q1).mono ?_
    rw [HE.out]
    rintro e1 w1 ⟨rfl, hb1⟩
    have HB1 : Hid (Below w.heap.size w w1) := HBA.out.trans (hb1.mono HBA.out.size)
    have HR1 := hide2 (HRB.out.below hb1 hrl)
    have hrl1 := HR1.out.lt
    clear hb1 HRB HBA hrl
    have r0 := HR1.out.cell (j := 0) rfl
    have r1 := HR1.out.cell (j := 1) rfl
    have r2 := HR1.out.cell (j := 2) rfl
    have r3 := HR1.out.cell (j := 3) rfl
    have r4 := HR1.out.cell (j := 4) rfl
    have r5 := HR1.out.cell (j := 5) rfl
    have r6 := HR1.out.cell (j := 6) rfl
    have r7 := HR1.out.cell (j := 7) rfl
    have r8 := HR1.out.cell (j := 8) rfl
    have r9 := HR1.out.cell (j := 9) rfl
    have rf0 := HR1.out.frozen 0
    have rf1 := HR1.out.frozen 1
    have rf2 := HR1.out.frozen 2
    have rf3 := HR1.out.frozen 3
    have rf4 := HR1.out.frozen 4
    have rf5 := HR1.out.frozen 5
    have rf6 := HR1.out.frozen 6
    have rf7 := HR1.out.frozen 7
    have rf8 := HR1.out.frozen 8
    have rf9 := HR1.out.frozen 9
    clear HR1
    go_wp2
    refine bodyPost_ret (v := rptV (Rpt.only er) (.slice none 0 0)) (by simp [results, Tryz.results146, go_sem, rptV, rptCells, Rpt.only, *]) rfl ⟨_, rfl, ?_⟩
    exact ⟨below_set10 HB1.out hrbw _ _ _ _ _ _ _ _ _ _, World.ownsRow_nil _ _ _ _, nofun⟩

set_option maxRecDepth 100000 in
set_option maxHeartbeats 3200000 in
theorem gblame_any (p : Nat) (vc : Value) (bb : Nat) (G : GSt) (R : RSt) (q : Int) (w : World) (h : GRep w p vc bb G) (hs : Sim G R) (q1 : q ≤ 9223372036854775807) :
    Calls Tryz.prog 141 #[.pointer (some ⟨p, 0, none⟩), .int .i64 q] w fun e w' => ∃ v, e = .returned (rptV (gblame G R q) v) ∧ NearRel w (gblame G R q).near v w' := by
  have HR := hide2 h
  have HS := hide2 hs
  clear h hs
  by_cases he : (gblock G R.cls q).2.2 = 0 ∨ (gblock G R.cls q).2.2 = 5
  · have HF : Hid (gblame G R q = Rpt.only (gblock G R.cls q).2.2) := if_pos he
    rw [HF.out]
    clear HF
    obtain ⟨er, her⟩ : ∃ er, (gblock G R.cls q).2.2 = er := ⟨_, rfl⟩
    have HE := hide2 her
    rw [her] at he ⊢
    clear her
    by_cases h0 : er = 0
    · have h0b : (er == 0) = true := by simp [h0]
      clear he h0
      go_enter Tryz.func141, Tryz.ntmps141
      go_wp2_with fail
      obtain ⟨wa, hwa⟩ : ∃ wa, wa = w.alloc (.cells (rptCells (Rpt.only 0) (.slice none 0 0)).toArray 26) := ⟨_, rfl⟩
      have hwa' := hwa
      simp only [rptCells, Rpt.only] at hwa'
      rw [← hwa']
      have HBA : Hid (Below w.heap.size w wa) := by show Below _ _ _; rw [hwa]; exact (Below.refl _ _).alloc (Nat.le_refl _) _
      have HRB : Hid (Blk wa w.heap.size 26 (rptCells (Rpt.only 0) (.slice none 0 0))) := by show Blk _ _ _ _; rw [hwa]; exact Blk.alloc _ _ _
      obtain ⟨rb, hrb⟩ : ∃ rb, rb = w.heap.size := ⟨_, rfl⟩
      rw [← hrb] at HRB ⊢
      have hrbw : w.heap.size ≤ rb := by omega
      have hrl := HRB.out.lt
      clear hwa hwa' hrb
      refine (blockOf_all p vc bb G R.rest R.cls q wa (HR.out.below HBA.out) HS.out.ok q1).mono ?_
      rw [HE.out]
      rintro e1 w1 ⟨rfl, hb1⟩
      have HB1 : Hid (Below w.heap.size w w1) := HBA.out.trans (hb1.mono HBA.out.size)
      have HR1 := hide2 (HRB.out.below hb1 hrl)
      have hrl1 := HR1.out.lt
      clear hb1 HRB HBA hrl
      have r0 := HR1.out.cell (j := 0) rfl
      have r1 := HR1.out.cell (j := 1) rfl
      have r2 := HR1.out.cell (j := 2) rfl
      have r3 := HR1.out.cell (j := 3) rfl
      have r4 := HR1.out.cell (j := 4) rfl
      have r5 := HR1.out.cell (j := 5) rfl
      have r6 := HR1.out.cell (j := 6) rfl
      have r7 := HR1.out.cell (j := 7) rfl
      have r8 := HR1.out.cell (j := 8) rfl
      have r9 := HR1.out.cell (j := 9) rfl
      have rf0 := HR1.out.frozen 0
      have rf1 := HR1.out.frozen 1
      have rf2 := HR1.out.frozen 2
      have rf3 := HR1.out.frozen 3
      have rf4 := HR1.out.frozen 4
      have rf5 := HR1.out.frozen 5
      have rf6 := HR1.out.frozen 6
      have rf7 := HR1.out.frozen 7
      have rf8 := HR1.out.frozen 8
      have rf9 := HR1.out.frozen 9
      clear HR1
      go_wp2
      refine bodyPost_ret (v := rptV (Rpt.only er) (.slice none 0 0)) (by simp [results, Tryz.results141, go_sem, rptV, rptCells, Rpt.only, *]) rfl ⟨_, rfl, ?_⟩
      exact ⟨below_set10 HB1.out hrbw _ _ _ _ _ _ _ _ _ _, World.ownsRow_nil _ _ _ _, nofun⟩
    · have h0b : (er == 0) = false := by rw [beq_eq_false_iff_ne]; exact h0
      have h5b : (er == 5) = true := by rw [beq_iff_eq]; omega
      clear he h0
      go_enter Tryz.func141, Tryz.ntmps141
      go_wp2_with fail
      obtain ⟨wa, hwa⟩ : ∃ wa, wa = w.alloc (.cells (rptCells (Rpt.only 0) (.slice none 0 0)).toArray 26) := ⟨_, rfl⟩
      have hwa' := hwa
      simp only [rptCells, Rpt.only] at hwa'
      rw [← hwa']
      have HBA : Hid (Below w.heap.size w wa) := by show Below _ _ _; rw [hwa]; exact (Below.refl _ _).alloc (Nat.le_refl _) _
      have HRB : Hid (Blk wa w.heap.size 26 (rptCells (Rpt.only 0) (.slice none 0 0))) := by show Blk _ _ _ _; rw [hwa]; exact Blk.alloc _ _ _
      obtain ⟨rb, hrb⟩ : ∃ rb, rb = w.heap.size := ⟨_, rfl⟩
      rw [← hrb] at HRB ⊢
      have hrbw : w.heap.size ≤ rb := by omega
      have hrl := HRB.out.lt
      clear hwa hwa' hrb
      refine (blockOf_all p vc bb G R.rest R.cls q wa (HR.out.below HBA.out) HS.out.ok q1).mono ?_
      rw [HE.out]
      rintro e1 w1 ⟨rfl, hb1⟩
      have HB1 : Hid (Below w.heap.size w w1) := HBA.out.trans (hb1.mono HBA.out.size)
      have HR1 := hide2 (HRB.out.below hb1 hrl)
      have hrl1 := HR1.out.lt
      clear hb1 HRB HBA hrl
      have r0 := HR1.out.cell (j := 0) rfl
      have r1 := HR1.out.cell (j := 1) rfl
      have r2 := HR1.out.cell (j := 2) rfl
      have r3 := HR1.out.cell (j := 3) rfl
      have r4 := HR1.out.cell (j := 4) rfl
      have r5 := HR1.out.cell (j := 5) rfl
      have r6 := HR1.out.cell (j := 6) rfl
      have r7 := HR1.out.cell (j := 7) rfl
      have r8 := HR1.out.cell (j := 8) rfl
      have r9 := HR1.out.cell (j := 9) rfl
      have rf0 := HR1.out.frozen 0
      have rf1 := HR1.out.frozen 1
      have rf2 := HR1.out.frozen 2
      have rf3 := HR1.out.frozen 3
      have rf4 := HR1.out.frozen 4
      have rf5 := HR1.out.frozen 5
      have rf6 := HR1.out.frozen 6
      have rf7 := HR1.out.frozen 7
      have rf8 := HR1.out.frozen 8
      have rf9 := HR1.out.frozen 9
      clear HR1
      go_wp2
      refine bodyPost_ret (v := rptV (Rpt.only er) (.slice none 0 0)) (by simp [results, Tryz.results141, go_sem, rptV, rptCells, Rpt.only, *]) rfl ⟨_, rfl, ?_⟩
      exact ⟨below_set10 HB1.out hrbw _ _ _ _ _ _ _ _ _ _, World.ownsRow_nil _ _ _ _, nofun⟩
  · have HF : Hid (gblame G R q = grpt G R.cls (gblock G R.cls q).2.2 (q % 72057594037927936) (q / 72057594037927936)) := if_neg he
    have ht : Ref.tameB q = true := by
      cases ht : Ref.tameB q
      · exact absurd (.inr (by rw [gblock_wild G R.cls q ht])) he
      · rfl
    have q0 : 0 ≤ q := ((tame_iff q).1 ht).1
    rw [HF.out]
    clear HF ht
    obtain ⟨er, her⟩ : ∃ er, (gblock G R.cls q).2.2 = er := ⟨_, rfl⟩
    have HE := hide2 her
    rw [her] at he ⊢
    have h0b : (er == 0) = false := by rw [beq_eq_false_iff_ne]; omega
    have h5b : (er == 5) = false := by rw [beq_eq_false_iff_ne]; omega
    clear her he
    obtain ⟨r, hr⟩ : ∃ r, grpt G R.cls er (q % 72057594037927936) (q / 72057594037927936) = r := ⟨_, rfl⟩
    have HRP := hide2 hr
    rw [hr]
    clear hr
    go_enter Tryz.func141, Tryz.ntmps141
    go_wp2_with fail
    obtain ⟨wa, hwa⟩ : ∃ wa, wa = w.alloc (.cells (rptCells (Rpt.only 0) (.slice none 0 0)).toArray 26) := ⟨_, rfl⟩
    have hwa' := hwa
    simp only [rptCells, Rpt.only] at hwa'
    rw [← hwa']
    have HBA : Hid (Below w.heap.size w wa) := by show Below _ _ _; rw [hwa]; exact (Below.refl _ _).alloc (Nat.le_refl _) _
    have HRB : Hid (Blk wa w.heap.size 26 (rptCells (Rpt.only 0) (.slice none 0 0))) := by show Blk _ _ _ _; rw [hwa]; exact Blk.alloc _ _ _
    obtain ⟨rb, hrb⟩ : ∃ rb, rb = w.heap.size := ⟨_, rfl⟩
    rw [← hrb] at HRB ⊢
    have hrbw : w.heap.size ≤ rb := by omega
    have hrl := HRB.out.lt
    clear hwa hwa' hrb
    refine (blockOf_all p vc bb G R.rest R.cls q wa (HR.out.below HBA.out) HS.out.ok q1).mono ?_
    rw [HE.out]
    rintro e1 w1 ⟨rfl, hb1⟩
    have HB1 : Hid (Below w.heap.size w w1) := HBA.out.trans (hb1.mono HBA.out.size)
    have HR1 := hide2 (HRB.out.below hb1 hrl)
    have hrl1 := HR1.out.lt
    clear hb1 HRB HBA hrl
    go_wp2_with fail
    refine (report_any p vc bb G R.rest R.cls er (q % 72057594037927936) (q / 72057594037927936) w1 (HR.out.below HB1.out) HS.out.ok HS.out.bd (by omega) (by omega)).mono ?_
    rw [HRP.out]
    rintro e1 w2 ⟨v, rfl, hn⟩
    obtain ⟨na, ncap, hv, -, -, -⟩ := row_open hn.row
    subst hv
    have HN := hide2 hn
    have HR2 := hide2 (HR1.out.below hn.below hrl1)
    have HB2 : Hid (Below w.heap.size w w2) := HB1.out.trans (hn.below.mono HB1.out.size)
    have hrl2 := HR2.out.lt
    clear hn HR1
    unfold rptV rptCells
    have r0 := HR2.out.cell (j := 0) rfl
    have r1 := HR2.out.cell (j := 1) rfl
    have r2 := HR2.out.cell (j := 2) rfl
    have r3 := HR2.out.cell (j := 3) rfl
    have r4 := HR2.out.cell (j := 4) rfl
    have r5 := HR2.out.cell (j := 5) rfl
    have r6 := HR2.out.cell (j := 6) rfl
    have r7 := HR2.out.cell (j := 7) rfl
    have r8 := HR2.out.cell (j := 8) rfl
    have r9 := HR2.out.cell (j := 9) rfl
    have rf0 := HR2.out.frozen 0
    have rf1 := HR2.out.frozen 1
    have rf2 := HR2.out.frozen 2
    have rf3 := HR2.out.frozen 3
    have rf4 := HR2.out.frozen 4
    have rf5 := HR2.out.frozen 5
    have rf6 := HR2.out.frozen 6
    have rf7 := HR2.out.frozen 7
    have rf8 := HR2.out.frozen 8
    have rf9 := HR2.out.frozen 9
    clear HR2
    generalize hnl : r.near.length = nl at *
    go_wp2
    subst hnl
    refine bodyPost_ret (v := rptV r (.slice na r.near.length ncap)) (by simp [results, Tryz.results141, go_sem, rptV, rptCells, *]) rfl ⟨_, rfl, ?_⟩
    refine ⟨below_set10 HB2.out hrbw _ _ _ _ _ _ _ _ _ _, row_kept HN.out.row (fun b hb => ?_), fun b hb => ?_⟩
    · have := HN.out.vlo b hb
      rw [heap_set10 w2 (by omega)]
    · have := HN.out.vlo b hb
      have := HB1.out.size
      omega
end Go.Proofs.YtjikemhmnkckcabGreat
