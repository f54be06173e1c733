import Derived.Test.YtjikemhmnkckcaaJ34
/- The program's report. -/
namespace Go.Proofs.Ytjikemhmnkckcaa
open Go.RowKit

structure Rpt where
  err : Int
  addr : Int
  want : Int
  found : Int
  state : Int
  cls : Int
  slot : Int
  alloc : Int
  gone : Int
  near : List (Int × Int × Int)
def rptCells (r : Rpt) (vn : Value) : List Value := [.int .i64 r.err, .int .i64 r.addr, .int .i64 r.want, .int .i64 r.found, .int .i64 r.state, .int .i64 r.cls, .int .i64 r.slot, .int .i64 r.alloc, .int .i64 r.gone, vn]
def rptV (r : Rpt) (vn : Value) : Value := .agg (rptCells r vn).toArray
/-- a report that speaks of an error alone -/
def Rpt.only (e : Int) : Rpt := ⟨e, 0, 0, 0, 0, 0, 0, 0, 0, []⟩

def grpt (G : GSt) (cls : List (Int × Int)) (e addr want : Int) : Rpt :=
  if 16 ≤ addr ∧ addr < 16 * (1 + G.st) then ⟨e, addr, want, gtag G cls addr, 1, 0, 0, 0, 0, []⟩
  else if (Cf.slot G.st cls addr).1 < 0 then ⟨e, addr, want, gtag G cls addr, 0, 0, 0, 0, 0, []⟩
  else ⟨e, addr, want, gtag G cls addr, (slotOf G (Cf.slot G.st cls addr).1.toNat (Cf.slot G.st cls addr).2.toNat).state, (Cf.slot G.st cls addr).1, (Cf.slot G.st cls addr).2, (slotOf G (Cf.slot G.st cls addr).1.toNat (Cf.slot G.st cls addr).2.toNat).alloc, (slotOf G (Cf.slot G.st cls addr).1.toNat (Cf.slot G.st cls addr).2.toNat).gone,
    gnear (G.cs.getD (Cf.slot G.st cls addr).1.toNat GCls.no).slots (Cf.slot G.st cls addr).2 want⟩

theorem below_set10 {B : Nat} {a w : World} (h : Below B a w) {b : Nat} (hb : B ≤ b) (v0 v1 v2 v3 v4 v5 v6 v7 v8 v9 : Value) :
    Below B a ((((((((((w.setCell ⟨b, 0, none⟩ v0).setCell ⟨b, 1, none⟩ v1).setCell ⟨b, 2, none⟩ v2).setCell ⟨b, 3, none⟩ v3).setCell ⟨b, 4, none⟩ v4).setCell ⟨b, 5, none⟩ v5).setCell ⟨b, 6, none⟩ v6).setCell ⟨b, 7, none⟩ v7).setCell ⟨b, 8, none⟩ v8).setCell ⟨b, 9, none⟩ v9) :=
  (((((((((h.setCell (p := ⟨b, 0, none⟩) hb _).setCell (p := ⟨b, 1, none⟩) hb _).setCell (p := ⟨b, 2, none⟩) hb _).setCell (p := ⟨b, 3, none⟩) hb _).setCell (p := ⟨b, 4, none⟩) hb _).setCell (p := ⟨b, 5, none⟩) hb _).setCell (p := ⟨b, 6, none⟩) hb _).setCell (p := ⟨b, 7, none⟩) hb _).setCell (p := ⟨b, 8, none⟩) hb _).setCell (p := ⟨b, 9, none⟩) hb _
theorem heap_set10 (w : World) {b g : Nat} (hg : g ≠ b) (v0 v1 v2 v3 v4 v5 v6 v7 v8 v9 : Value) :
    ((((((((((w.setCell ⟨b, 0, none⟩ v0).setCell ⟨b, 1, none⟩ v1).setCell ⟨b, 2, none⟩ v2).setCell ⟨b, 3, none⟩ v3).setCell ⟨b, 4, none⟩ v4).setCell ⟨b, 5, none⟩ v5).setCell ⟨b, 6, none⟩ v6).setCell ⟨b, 7, none⟩ v7).setCell ⟨b, 8, none⟩ v8).setCell ⟨b, 9, none⟩ v9).heap[g]? = w.heap[g]? := by
  rw [Below.heap_setCell _ ⟨b, 9, none⟩ _ g hg, Below.heap_setCell _ ⟨b, 8, none⟩ _ g hg, Below.heap_setCell _ ⟨b, 7, none⟩ _ g hg, Below.heap_setCell _ ⟨b, 6, none⟩ _ g hg, Below.heap_setCell _ ⟨b, 5, none⟩ _ g hg, Below.heap_setCell _ ⟨b, 4, none⟩ _ g hg, Below.heap_setCell _ ⟨b, 3, none⟩ _ g hg, Below.heap_setCell _ ⟨b, 2, none⟩ _ g hg, Below.heap_setCell _ ⟨b, 1, none⟩ _ g hg, Below.heap_setCell _ ⟨b, 0, none⟩ _ g hg]

set_option maxRecDepth 100000 in
set_option maxHeartbeats 6400000 in
theorem report_away (p : Nat) (vc : Value) (bb : Nat) (G : GSt) (rest : Int) (cls : List (Int × Int)) (er addr want : Int) (w : World) (h : GRep w p vc bb G) (ho : GOk G rest cls) (hbd : GBd G) (a0 : -9223372036854775808 ≤ addr) (a1 : addr ≤ 9223372036854775807) (haw : (16 ≤ addr ∧ addr < 16 * (1 + G.st)) ∨ (Cf.slot G.st cls addr).1 < 0) :
    Calls Try.prog 72 #[.pointer (some ⟨p, 0, none⟩), .int .i64 er, .int .i64 addr, .int .i64 want] w fun e w' => ∃ v, e = .returned (rptV (grpt G cls er addr want) v) ∧ NearRel w (grpt G cls er addr want).near v w' := by
  have HR := hide2 h
  have HO := hide2 ho
  have HBD := hide2 hbd
  have hp := h.blk.lt
  have s0 := ho.conf.st0
  have s1 := ho.conf.st1
  have n1 := ho.conf.n1
  have hlen := ho.len
  clear h ho hbd
  obtain ⟨tg, htg⟩ : ∃ tg, gtag G cls addr = tg := ⟨_, rfl⟩
  have HTG := hide2 htg
  by_cases hst : 16 ≤ addr ∧ addr < 16 * (1 + G.st)
  · have HF : Hid (grpt G cls er addr want = ⟨er, addr, want, tg, 1, 0, 0, 0, 0, []⟩) := by show _ = _; unfold grpt; rw [if_pos hst, htg]
    have HS : Hid ((decide (16 ≤ addr) && decide (addr < 16 * (1 + G.st))) = true) := by show _ = _; simp [hst.1, hst.2]
    rw [HF.out]
    clear hst htg HF
    go_enter Try.func72, Try.ntmps72
    go_wp2_with fail
    obtain ⟨wa, hwa⟩ : ∃ wa, wa = w.alloc (.cells (rptCells (Rpt.only 0) (.slice none 0 0)).toArray 64) := ⟨_, rfl⟩
    have hwa' := hwa
    simp only [rptCells, Rpt.only] at hwa'
    rw [← hwa']
    have HBA : Hid (Below w.heap.size w wa) := by show Below _ _ _; rw [hwa]; exact (Below.refl _ _).alloc (Nat.le_refl _) _
    have HRB : Hid (Blk wa w.heap.size 64 (rptCells (Rpt.only 0) (.slice none 0 0))) := by show Blk _ _ _ _; rw [hwa]; exact Blk.alloc _ _ _
    obtain ⟨rb, hrb⟩ : ∃ rb, rb = w.heap.size := ⟨_, rfl⟩
    rw [← hrb] at HRB ⊢
    have HRBE := hide2 hrb
    have hrl := HRB.out.lt
    clear hwa hwa' hrb
    refine (gtag_any p _ bb G rest cls addr wa (HR.out.below HBA.out) HO.out HBD.out a0 a1).mono ?_
    rw [HTG.out]
    rintro e1 w1 ⟨rfl, hb1⟩
    have HB1 : Hid (Below w.heap.size w w1) := HBA.out.trans (hb1.mono HBA.out.size)
    have HR1 := hide2 (HRB.out.below hb1 hrl)
    have hrl1 := HR1.out.lt
    clear hb1 HRB HBA hrl
    go_wp2_with fail
    obtain ⟨w2, hw2⟩ : ∃ w2, w2 = w1.alloc (.cells (rptCells ⟨er, addr, want, tg, 0, 0, 0, 0, 0, []⟩ (.slice none 0 0)).toArray 64) := ⟨_, rfl⟩
    have hw2' := hw2
    simp only [rptCells] at hw2'
    rw [← hw2']
    have HB2 : Hid (Below w.heap.size w w2) := by show Below _ _ _; rw [hw2]; exact HB1.out.alloc HB1.out.size _
    have HO2 : Hid (Blk w2 w1.heap.size 64 (rptCells ⟨er, addr, want, tg, 0, 0, 0, 0, 0, []⟩ (.slice none 0 0))) := by show Blk _ _ _ _; rw [hw2]; exact Blk.alloc _ _ _
    have HR2 : Hid (Blk w2 rb 64 (rptCells (Rpt.only 0) (.slice none 0 0))) := by show Blk _ _ _ _; rw [hw2]; exact HR1.out.below ((Below.refl _ _).alloc (Nat.le_refl _) _) hrl1
    obtain ⟨ob, hob⟩ : ∃ ob, ob = w1.heap.size := ⟨_, rfl⟩
    rw [← hob] at HO2 ⊢
    have hne : rb ≠ ob := by omega
    have hne2 : ob ≠ rb := by omega
    have hol := HO2.out.lt
    have hrl2 := HR2.out.lt
    have hobw : w.heap.size ≤ ob := by have := HB1.out.size; omega
    have hrbw : w.heap.size ≤ rb := by have := HRBE.out; omega
    clear hw2 hw2' hob HR1 hrl1
    refine (inStatic_any p _ bb G addr w2 (HR.out.below HB2.out) s0 s1).mono ?_
    rw [HS.out]
    rintro e1 w3 ⟨rfl, rfl⟩
    have o0 := HO2.out.cell (j := 0) rfl
    have o1 := HO2.out.cell (j := 1) rfl
    have o2 := HO2.out.cell (j := 2) rfl
    have o3 := HO2.out.cell (j := 3) rfl
    have o4 := HO2.out.cell (j := 4) rfl
    have o5 := HO2.out.cell (j := 5) rfl
    have o6 := HO2.out.cell (j := 6) rfl
    have o7 := HO2.out.cell (j := 7) rfl
    have o8 := HO2.out.cell (j := 8) rfl
    have o9 := HO2.out.cell (j := 9) rfl
    have of4 := HO2.out.frozen 4
    have r0 := HR2.out.cell (j := 0) rfl
    have r1 := HR2.out.cell (j := 1) rfl
    have r2 := HR2.out.cell (j := 2) rfl
    have r3 := HR2.out.cell (j := 3) rfl
    have r4 := HR2.out.cell (j := 4) rfl
    have r5 := HR2.out.cell (j := 5) rfl
    have r6 := HR2.out.cell (j := 6) rfl
    have r7 := HR2.out.cell (j := 7) rfl
    have r8 := HR2.out.cell (j := 8) rfl
    have r9 := HR2.out.cell (j := 9) rfl
    have rf0 := HR2.out.frozen 0
    have rf1 := HR2.out.frozen 1
    have rf2 := HR2.out.frozen 2
    have rf3 := HR2.out.frozen 3
    have rf4 := HR2.out.frozen 4
    have rf5 := HR2.out.frozen 5
    have rf6 := HR2.out.frozen 6
    have rf7 := HR2.out.frozen 7
    have rf8 := HR2.out.frozen 8
    have rf9 := HR2.out.frozen 9
    clear HO2 HR2
    go_wp2
    refine bodyPost_ret (v := rptV ⟨er, addr, want, tg, 1, 0, 0, 0, 0, []⟩ (.slice none 0 0)) (by simp [results, Try.results72, go_sem, rptV, rptCells, *]) rfl ⟨_, rfl, ?_⟩
    exact ⟨below_set10 (HB2.out.setCell (p := ⟨ob, 4, none⟩) hobw _) hrbw _ _ _ _ _ _ _ _ _ _, World.ownsRow_nil _ _ _ _, nofun⟩
  · have HS : Hid ((decide (16 ≤ addr) && decide (addr < 16 * (1 + G.st))) = false) := by
      show _ = _
      by_cases c : 16 ≤ addr
      · have : ¬ addr < 16 * (1 + G.st) := fun y => hst ⟨c, y⟩
        simp [this]
      · simp [c]
    rcases Cf.slot_bd G.st cls addr with hsl | ⟨k, s, hsl, hk, hs2, _⟩
    · have HF : Hid (grpt G cls er addr want = ⟨er, addr, want, tg, 0, 0, 0, 0, 0, []⟩) := by show _ = _; unfold grpt; rw [if_neg hst, hsl, if_pos (by decide), htg]
      have HL : Hid (Cf.cslot G.st cls addr = (-1, 0)) := Cf.cslot_no HO.out.conf _ hsl
      rw [HF.out]
      clear hst htg HF hsl
      go_enter Try.func72, Try.ntmps72
      go_wp2_with fail
      obtain ⟨wa, hwa⟩ : ∃ wa, wa = w.alloc (.cells (rptCells (Rpt.only 0) (.slice none 0 0)).toArray 64) := ⟨_, rfl⟩
      have hwa' := hwa
      simp only [rptCells, Rpt.only] at hwa'
      rw [← hwa']
      have HBA : Hid (Below w.heap.size w wa) := by show Below _ _ _; rw [hwa]; exact (Below.refl _ _).alloc (Nat.le_refl _) _
      have HRB : Hid (Blk wa w.heap.size 64 (rptCells (Rpt.only 0) (.slice none 0 0))) := by show Blk _ _ _ _; rw [hwa]; exact Blk.alloc _ _ _
      obtain ⟨rb, hrb⟩ : ∃ rb, rb = w.heap.size := ⟨_, rfl⟩
      rw [← hrb] at HRB ⊢
      have HRBE := hide2 hrb
      have hrl := HRB.out.lt
      clear hwa hwa' hrb
      refine (gtag_any p _ bb G rest cls addr wa (HR.out.below HBA.out) HO.out HBD.out a0 a1).mono ?_
      rw [HTG.out]
      rintro e1 w1 ⟨rfl, hb1⟩
      have HB1 : Hid (Below w.heap.size w w1) := HBA.out.trans (hb1.mono HBA.out.size)
      have HR1 := hide2 (HRB.out.below hb1 hrl)
      have hrl1 := HR1.out.lt
      clear hb1 HRB HBA hrl
      go_wp2_with fail
      obtain ⟨w2, hw2⟩ : ∃ w2, w2 = w1.alloc (.cells (rptCells ⟨er, addr, want, tg, 0, 0, 0, 0, 0, []⟩ (.slice none 0 0)).toArray 64) := ⟨_, rfl⟩
      have hw2' := hw2
      simp only [rptCells] at hw2'
      rw [← hw2']
      have HB2 : Hid (Below w.heap.size w w2) := by show Below _ _ _; rw [hw2]; exact HB1.out.alloc HB1.out.size _
      have HO2 : Hid (Blk w2 w1.heap.size 64 (rptCells ⟨er, addr, want, tg, 0, 0, 0, 0, 0, []⟩ (.slice none 0 0))) := by show Blk _ _ _ _; rw [hw2]; exact Blk.alloc _ _ _
      have HR2 : Hid (Blk w2 rb 64 (rptCells (Rpt.only 0) (.slice none 0 0))) := by show Blk _ _ _ _; rw [hw2]; exact HR1.out.below ((Below.refl _ _).alloc (Nat.le_refl _) _) hrl1
      obtain ⟨ob, hob⟩ : ∃ ob, ob = w1.heap.size := ⟨_, rfl⟩
      rw [← hob] at HO2 ⊢
      have hne : rb ≠ ob := by omega
      have hne2 : ob ≠ rb := by omega
      have hol := HO2.out.lt
      have hrl2 := HR2.out.lt
      have hobw : w.heap.size ≤ ob := by have := HB1.out.size; omega
      have hrbw : w.heap.size ≤ rb := by have := HRBE.out; omega
      clear hw2 hw2' hob HR1 hrl1
      refine (inStatic_any p _ bb G addr w2 (HR.out.below HB2.out) s0 s1).mono ?_
      rw [HS.out]
      rintro e1 w3 ⟨rfl, rfl⟩
      go_wp2_with fail
      refine (slotAt_any p _ bb G rest cls addr _ (HR.out.below HB2.out) HO.out a0 a1).mono ?_
      rw [HL.out]
      rintro e1 w4 ⟨rfl, hb4⟩
      have HO4 := hide2 (HO2.out.below hb4 hol)
      have HR4 := hide2 (HR2.out.below hb4 hrl2)
      have HB4 : Hid (Below w.heap.size w w4) := HB2.out.trans (hb4.mono HB2.out.size)
      have hol4 := HO4.out.lt
      have hrl4 := HR4.out.lt
      clear hb4 HO2 HR2 hol hrl2
      have o0 := HO4.out.cell (j := 0) rfl
      have o1 := HO4.out.cell (j := 1) rfl
      have o2 := HO4.out.cell (j := 2) rfl
      have o3 := HO4.out.cell (j := 3) rfl
      have o4 := HO4.out.cell (j := 4) rfl
      have o5 := HO4.out.cell (j := 5) rfl
      have o6 := HO4.out.cell (j := 6) rfl
      have o7 := HO4.out.cell (j := 7) rfl
      have o8 := HO4.out.cell (j := 8) rfl
      have o9 := HO4.out.cell (j := 9) rfl
      have r0 := HR4.out.cell (j := 0) rfl
      have r1 := HR4.out.cell (j := 1) rfl
      have r2 := HR4.out.cell (j := 2) rfl
      have r3 := HR4.out.cell (j := 3) rfl
      have r4 := HR4.out.cell (j := 4) rfl
      have r5 := HR4.out.cell (j := 5) rfl
      have r6 := HR4.out.cell (j := 6) rfl
      have r7 := HR4.out.cell (j := 7) rfl
      have r8 := HR4.out.cell (j := 8) rfl
      have r9 := HR4.out.cell (j := 9) rfl
      have rf0 := HR4.out.frozen 0
      have rf1 := HR4.out.frozen 1
      have rf2 := HR4.out.frozen 2
      have rf3 := HR4.out.frozen 3
      have rf4 := HR4.out.frozen 4
      have rf5 := HR4.out.frozen 5
      have rf6 := HR4.out.frozen 6
      have rf7 := HR4.out.frozen 7
      have rf8 := HR4.out.frozen 8
      have rf9 := HR4.out.frozen 9
      clear HO4 HR4
      go_wp2
      refine bodyPost_ret (v := rptV ⟨er, addr, want, tg, 0, 0, 0, 0, 0, []⟩ (.slice none 0 0)) (by simp [results, Try.results72, go_sem, rptV, rptCells, *]) rfl ⟨_, rfl, ?_⟩
      exact ⟨below_set10 HB4.out hrbw _ _ _ _ _ _ _ _ _ _, World.ownsRow_nil _ _ _ _, nofun⟩
    · exfalso
      rcases haw with y | y
      · exact hst y
      · rw [hsl] at y; simp at y; omega
end Go.Proofs.Ytjikemhmnkckcaa
