import Derived.Test.YtjikemhmnkckcaaJ36
import Derived.Test.YtjikemhmnkckcaaJ28
import Derived.Test.YtjikemhmnkckcaaJ18
/- The program's Explain and Blame. -/
namespace Go.Proofs.Ytjikemhmnkckcaa
open Go.RowKit

def gexplain (G : GSt) (R : RSt) (q n : Int) : Rpt :=
  if (R.access q n).1 = 6 ∨ (R.access q n).1 = 7 then grpt G R.cls (R.access q n).1 (R.access q n).2 (q / 72057594037927936) else Rpt.only (R.access q n).1
def gblame (G : GSt) (R : RSt) (q : Int) : Rpt :=
  if (gblock G R.cls q).2.2 = 0 ∨ (gblock G R.cls q).2.2 = 5 then Rpt.only (gblock G R.cls q).2.2 else grpt G R.cls (gblock G R.cls q).2.2 (q % 72057594037927936) (q / 72057594037927936)

theorem access_refused {R : RSt} {q n : Int} (h : (R.access q n).1 = 6 ∨ (R.access q n).1 = 7) : Ref.tameB q = true ∧ 0 ≤ (R.access q n).2 ∧ (R.access q n).2 ≤ 200000 := by
  unfold RSt.access at h ⊢
  by_cases ha : n < 0 ∨ 65536 < n
  · rw [if_pos ha] at h; simp at h
  · rw [if_neg ha] at h ⊢
    by_cases hz : n = 0
    · rw [if_pos hz] at h; simp at h
    · rw [if_neg hz] at h ⊢
      cases ht : Ref.tameB q
      · rw [ht] at h; simp at h
      · rw [ht, if_pos rfl] at h
        rw [if_pos rfl]
        refine ⟨rfl, ?_⟩
        have htm := (tame_iff q).1 ht
        have aux : ∀ f i : Nat, (Ref.accFrom R.tag (q / 72057594037927936) (q % 72057594037927936) f i).1 ≠ 0 → 0 ≤ (Ref.accFrom R.tag (q / 72057594037927936) (q % 72057594037927936) f i).2 ∧ (Ref.accFrom R.tag (q / 72057594037927936) (q % 72057594037927936) f i).2 ≤ q % 72057594037927936 + i + f := by
          intro f
          induction f with
          | zero => intro i h; simp [Ref.accFrom] at h
          | succ f ih =>
            intro i h
            simp only [Ref.accFrom] at h ⊢
            split
            · simp only; omega
            · split
              · simp only; omega
              · rename_i h1 h2
                rw [if_neg h1, if_neg h2] at h
                have := ih (i + 1) h
                omega
        have := aux n.toNat 0 (by omega)
        omega

set_option maxRecDepth 100000 in
set_option maxHeartbeats 3200000 in
theorem gexplain_any (p : Nat) (vc : Value) (bb : Nat) (G : GSt) (R : RSt) (q n : Int) (w : World) (h : GRep w p vc bb G) (hs : Sim G R) (q1 : q ≤ 9223372036854775807) :
    Calls Try.prog 73 #[.pointer (some ⟨p, 0, none⟩), .int .i64 q, .int .i64 n] w fun e w' => ∃ v, e = .returned (rptV (gexplain G R q n) v) ∧ NearRel w (gexplain G R q n).near v w' := by
  have HR := hide2 h
  have HS := hide2 hs
  clear h hs
  by_cases he : (R.access q n).1 = 6 ∨ (R.access q n).1 = 7
  · have HF : Hid (gexplain G R q n = grpt G R.cls (R.access q n).1 (R.access q n).2 (q / 72057594037927936)) := if_pos he
    obtain ⟨ht, x0, x1⟩ := access_refused he
    have q0 : 0 ≤ q := ((tame_iff q).1 ht).1
    rw [HF.out]
    clear HF ht
    obtain ⟨er, her⟩ : ∃ er, (R.access q n).1 = er := ⟨_, rfl⟩
    obtain ⟨ad, had⟩ : ∃ ad, (R.access q n).2 = ad := ⟨_, rfl⟩
    have HE := hide2 her
    have HA := hide2 had
    rw [her] at he ⊢
    rw [had] at x0 x1 ⊢
    clear her had
    rcases he with rfl | rfl
    · obtain ⟨r, hr⟩ : ∃ r, grpt G R.cls 6 ad (q / 72057594037927936) = r := ⟨_, rfl⟩
      have HRP := hide2 hr
      rw [hr]
      clear hr
      go_enter Try.func73, Try.ntmps73
      go_wp2_with fail
      obtain ⟨wa, hwa⟩ : ∃ wa, wa = w.alloc (.cells (rptCells (Rpt.only 0) (.slice none 0 0)).toArray 64) := ⟨_, rfl⟩
      have hwa' := hwa
      simp only [rptCells, Rpt.only] at hwa'
      rw [← hwa']
      have HBA : Hid (Below w.heap.size w wa) := by show Below _ _ _; rw [hwa]; exact (Below.refl _ _).alloc (Nat.le_refl _) _
      have HRB : Hid (Blk wa w.heap.size 64 (rptCells (Rpt.only 0) (.slice none 0 0))) := by show Blk _ _ _ _; rw [hwa]; exact Blk.alloc _ _ _
      obtain ⟨rb, hrb⟩ : ∃ rb, rb = w.heap.size := ⟨_, rfl⟩
      rw [← hrb] at HRB ⊢
      have hrbw : w.heap.size ≤ rb := by omega
      have hrl := HRB.out.lt
      clear hwa hwa' hrb
      refine (gdecide_any p vc bb G R q n wa (HR.out.below HBA.out) HS.out q1).mono ?_
      rw [HE.out, HA.out]
      rintro e1 w1 ⟨rfl, hb1⟩
      have HB1 : Hid (Below w.heap.size w w1) := HBA.out.trans (hb1.mono HBA.out.size)
      have HR1 := hide2 (HRB.out.below hb1 hrl)
      have hrl1 := HR1.out.lt
      clear hb1 HRB HBA hrl
      go_wp2_with fail
      refine (report_any p vc bb G R.rest R.cls 6 ad (q / 72057594037927936) w1 (HR.out.below HB1.out) HS.out.ok HS.out.bd (by omega) (by omega)).mono ?_
      rw [HRP.out]
      rintro e1 w2 ⟨v, rfl, hn⟩
      obtain ⟨na, ncap, hv, -, -, -⟩ := row_open hn.row
      subst hv
      have HN := hide2 hn
      have HR2 := hide2 (HR1.out.below hn.below hrl1)
      have HB2 : Hid (Below w.heap.size w w2) := HB1.out.trans (hn.below.mono HB1.out.size)
      have hrl2 := HR2.out.lt
      clear hn HR1
      unfold rptV rptCells
      have r0 := HR2.out.cell (j := 0) rfl
      have r1 := HR2.out.cell (j := 1) rfl
      have r2 := HR2.out.cell (j := 2) rfl
      have r3 := HR2.out.cell (j := 3) rfl
      have r4 := HR2.out.cell (j := 4) rfl
      have r5 := HR2.out.cell (j := 5) rfl
      have r6 := HR2.out.cell (j := 6) rfl
      have r7 := HR2.out.cell (j := 7) rfl
      have r8 := HR2.out.cell (j := 8) rfl
      have r9 := HR2.out.cell (j := 9) rfl
      have rf0 := HR2.out.frozen 0
      have rf1 := HR2.out.frozen 1
      have rf2 := HR2.out.frozen 2
      have rf3 := HR2.out.frozen 3
      have rf4 := HR2.out.frozen 4
      have rf5 := HR2.out.frozen 5
      have rf6 := HR2.out.frozen 6
      have rf7 := HR2.out.frozen 7
      have rf8 := HR2.out.frozen 8
      have rf9 := HR2.out.frozen 9
      clear HR2
      generalize hnl : r.near.length = nl at *
      go_wp2
      subst hnl
      refine bodyPost_ret (v := rptV r (.slice na r.near.length ncap)) (by simp [results, Try.results73, go_sem, rptV, rptCells, *]) rfl ⟨_, rfl, ?_⟩
      refine ⟨below_set10 HB2.out hrbw _ _ _ _ _ _ _ _ _ _, row_kept HN.out.row (fun b hb => ?_), fun b hb => ?_⟩
      · have := HN.out.vlo b hb
        rw [heap_set10 w2 (by omega)]
      · have := HN.out.vlo b hb
        have := HB1.out.size
        omega
    · obtain ⟨r, hr⟩ : ∃ r, grpt G R.cls 7 ad (q / 72057594037927936) = r := ⟨_, rfl⟩
      have HRP := hide2 hr
      rw [hr]
      clear hr
      go_enter Try.func73, Try.ntmps73
      go_wp2_with fail
      obtain ⟨wa, hwa⟩ : ∃ wa, wa = w.alloc (.cells (rptCells (Rpt.only 0) (.slice none 0 0)).toArray 64) := ⟨_, rfl⟩
      have hwa' := hwa
      simp only [rptCells, Rpt.only] at hwa'
      rw [← hwa']
      have HBA : Hid (Below w.heap.size w wa) := by show Below _ _ _; rw [hwa]; exact (Below.refl _ _).alloc (Nat.le_refl _) _
      have HRB : Hid (Blk wa w.heap.size 64 (rptCells (Rpt.only 0) (.slice none 0 0))) := by show Blk _ _ _ _; rw [hwa]; exact Blk.alloc _ _ _
      obtain ⟨rb, hrb⟩ : ∃ rb, rb = w.heap.size := ⟨_, rfl⟩
      rw [← hrb] at HRB ⊢
      have hrbw : w.heap.size ≤ rb := by omega
      have hrl := HRB.out.lt
      clear hwa hwa' hrb
      refine (gdecide_any p vc bb G R q n wa (HR.out.below HBA.out) HS.out q1).mono ?_
      rw [HE.out, HA.out]
      rintro e1 w1 ⟨rfl, hb1⟩
      have HB1 : Hid (Below w.heap.size w w1) := HBA.out.trans (hb1.mono HBA.out.size)
      have HR1 := hide2 (HRB.out.below hb1 hrl)
      have hrl1 := HR1.out.lt
      clear hb1 HRB HBA hrl
      go_wp2_with fail
      refine (report_any p vc bb G R.rest R.cls 7 ad (q / 72057594037927936) w1 (HR.out.below HB1.out) HS.out.ok HS.out.bd (by omega) (by omega)).mono ?_
      rw [HRP.out]
      rintro e1 w2 ⟨v, rfl, hn⟩
      obtain ⟨na, ncap, hv, -, -, -⟩ := row_open hn.row
      subst hv
      have HN := hide2 hn
      have HR2 := hide2 (HR1.out.below hn.below hrl1)
      have HB2 : Hid (Below w.heap.size w w2) := HB1.out.trans (hn.below.mono HB1.out.size)
      have hrl2 := HR2.out.lt
      clear hn HR1
      unfold rptV rptCells
      have r0 := HR2.out.cell (j := 0) rfl
      have r1 := HR2.out.cell (j := 1) rfl
      have r2 := HR2.out.cell (j := 2) rfl
      have r3 := HR2.out.cell (j := 3) rfl
      have r4 := HR2.out.cell (j := 4) rfl
      have r5 := HR2.out.cell (j := 5) rfl
      have r6 := HR2.out.cell (j := 6) rfl
      have r7 := HR2.out.cell (j := 7) rfl
      have r8 := HR2.out.cell (j := 8) rfl
      have r9 := HR2.out.cell (j := 9) rfl
      have rf0 := HR2.out.frozen 0
      have rf1 := HR2.out.frozen 1
      have rf2 := HR2.out.frozen 2
      have rf3 := HR2.out.frozen 3
      have rf4 := HR2.out.frozen 4
      have rf5 := HR2.out.frozen 5
      have rf6 := HR2.out.frozen 6
      have rf7 := HR2.out.frozen 7
      have rf8 := HR2.out.frozen 8
      have rf9 := HR2.out.frozen 9
      clear HR2
      generalize hnl : r.near.length = nl at *
      go_wp2
      subst hnl
      refine bodyPost_ret (v := rptV r (.slice na r.near.length ncap)) (by simp [results, Try.results73, go_sem, rptV, rptCells, *]) rfl ⟨_, rfl, ?_⟩
      refine ⟨below_set10 HB2.out hrbw _ _ _ _ _ _ _ _ _ _, row_kept HN.out.row (fun b hb => ?_), fun b hb => ?_⟩
      · have := HN.out.vlo b hb
        rw [heap_set10 w2 (by omega)]
      · have := HN.out.vlo b hb
        have := HB1.out.size
        omega
  · have HF : Hid (gexplain G R q n = Rpt.only (R.access q n).1) := if_neg he
    rw [HF.out]
    clear HF
    obtain ⟨er, her⟩ : ∃ er, (R.access q n).1 = er := ⟨_, rfl⟩
    have HE := hide2 her
    rw [her] at he ⊢
    have h6 : (er != 6) = true := by simp; omega
    have h7 : (er != 7) = true := by simp; omega
    clear her he
    go_enter Try.func73, Try.ntmps73
    go_wp2_with fail
    obtain ⟨wa, hwa⟩ : ∃ wa, wa = w.alloc (.cells (rptCells (Rpt.only 0) (.slice none 0 0)).toArray 64) := ⟨_, rfl⟩
    have hwa' := hwa
    simp only [rptCells, Rpt.only] at hwa'
    rw [← hwa']
    have HBA : Hid (Below w.heap.size w wa) := by show Below _ _ _; rw [hwa]; exact (Below.refl _ _).alloc (Nat.le_refl _) _
    have HRB : Hid (Blk wa w.heap.size 64 (rptCells (Rpt.only 0) (.slice none 0 0))) := by show Blk _ _ _ _; rw [hwa]; exact Blk.alloc _ _ _
    obtain ⟨rb, hrb⟩ : ∃ rb, rb = w.heap.size := ⟨_, rfl⟩
    rw [← hrb] at HRB ⊢
    have hrbw : w.heap.size ≤ rb := by omega
    have hrl := HRB.out.lt
    clear hwa hwa' hrb
    refine (gdecide_any p vc bb G R q n wa (HR.out.below HBA.out) HS.out q1).mono ?_
    rw [HE.out]
    rintro e1 w1 ⟨rfl, hb1⟩
    have HB1 : Hid (Below w.heap.size w w1) := HBA.out.trans (hb1.mono HBA.out.size)
    have HR1 := hide2 (HRB.out.below hb1 hrl)
    have hrl1 := HR1.out.lt
    clear hb1 HRB HBA hrl
    have r0 := HR1.out.cell (j := 0) rfl
    have r1 := HR1.out.cell (j := 1) rfl
    have r2 := HR1.out.cell (j := 2) rfl
    have r3 := HR1.out.cell (j := 3) rfl
    have r4 := HR1.out.cell (j := 4) rfl
    have r5 := HR1.out.cell (j := 5) rfl
    have r6 := HR1.out.cell (j := 6) rfl
    have r7 := HR1.out.cell (j := 7) rfl
    have r8 := HR1.out.cell (j := 8) rfl
    have r9 := HR1.out.cell (j := 9) rfl
    have rf0 := HR1.out.frozen 0
    have rf1 := HR1.out.frozen 1
    have rf2 := HR1.out.frozen 2
    have rf3 := HR1.out.frozen 3
    have rf4 := HR1.out.frozen 4
    have rf5 := HR1.out.frozen 5
    have rf6 := HR1.out.frozen 6
    have rf7 := HR1.out.frozen 7
    have rf8 := HR1.out.frozen 8
    have rf9 := HR1.out.frozen 9
    clear HR1
    go_wp2
    refine bodyPost_ret (v := rptV (Rpt.only er) (.slice none 0 0)) (by simp [results, Try.results73, go_sem, rptV, rptCells, Rpt.only, *]) rfl ⟨_, rfl, ?_⟩
    exact ⟨below_set10 HB1.out hrbw _ _ _ _ _ _ _ _ _ _, World.ownsRow_nil _ _ _ _, nofun⟩

set_option maxRecDepth 100000 in
set_option maxHeartbeats 3200000 in
theorem gblame_any (p : Nat) (vc : Value) (bb : Nat) (G : GSt) (R : RSt) (q : Int) (w : World) (h : GRep w p vc bb G) (hs : Sim G R) (q1 : q ≤ 9223372036854775807) :
    Calls Try.prog 33 #[.pointer (some ⟨p, 0, none⟩), .int .i64 q] w fun e w' => ∃ v, e = .returned (rptV (gblame G R q) v) ∧ NearRel w (gblame G R q).near v w' := by
  have HR := hide2 h
  have HS := hide2 hs
  clear h hs
  by_cases he : (gblock G R.cls q).2.2 = 0 ∨ (gblock G R.cls q).2.2 = 5
  · have HF : Hid (gblame G R q = Rpt.only (gblock G R.cls q).2.2) := if_pos he
    rw [HF.out]
    clear HF
    obtain ⟨er, her⟩ : ∃ er, (gblock G R.cls q).2.2 = er := ⟨_, rfl⟩
    have HE := hide2 her
    rw [her] at he ⊢
    clear her
    by_cases h0 : er = 0
    · have h0b : (er == 0) = true := by simp [h0]
      clear he h0
      go_enter Try.func33, Try.ntmps33
      go_wp2_with fail
      obtain ⟨wa, hwa⟩ : ∃ wa, wa = w.alloc (.cells (rptCells (Rpt.only 0) (.slice none 0 0)).toArray 64) := ⟨_, rfl⟩
      have hwa' := hwa
      simp only [rptCells, Rpt.only] at hwa'
      rw [← hwa']
      have HBA : Hid (Below w.heap.size w wa) := by show Below _ _ _; rw [hwa]; exact (Below.refl _ _).alloc (Nat.le_refl _) _
      have HRB : Hid (Blk wa w.heap.size 64 (rptCells (Rpt.only 0) (.slice none 0 0))) := by show Blk _ _ _ _; rw [hwa]; exact Blk.alloc _ _ _
      obtain ⟨rb, hrb⟩ : ∃ rb, rb = w.heap.size := ⟨_, rfl⟩
      rw [← hrb] at HRB ⊢
      have hrbw : w.heap.size ≤ rb := by omega
      have hrl := HRB.out.lt
      clear hwa hwa' hrb
      refine (blockOf_all p vc bb G R.rest R.cls q wa (HR.out.below HBA.out) HS.out.ok q1).mono ?_
      rw [HE.out]
      rintro e1 w1 ⟨rfl, hb1⟩
      have HB1 : Hid (Below w.heap.size w w1) := HBA.out.trans (hb1.mono HBA.out.size)
      have HR1 := hide2 (HRB.out.below hb1 hrl)
      have hrl1 := HR1.out.lt
      clear hb1 HRB HBA hrl
      have r0 := HR1.out.cell (j := 0) rfl
      have r1 := HR1.out.cell (j := 1) rfl
      have r2 := HR1.out.cell (j := 2) rfl
      have r3 := HR1.out.cell (j := 3) rfl
      have r4 := HR1.out.cell (j := 4) rfl
      have r5 := HR1.out.cell (j := 5) rfl
      have r6 := HR1.out.cell (j := 6) rfl
      have r7 := HR1.out.cell (j := 7) rfl
      have r8 := HR1.out.cell (j := 8) rfl
      have r9 := HR1.out.cell (j := 9) rfl
      have rf0 := HR1.out.frozen 0
      have rf1 := HR1.out.frozen 1
      have rf2 := HR1.out.frozen 2
      have rf3 := HR1.out.frozen 3
      have rf4 := HR1.out.frozen 4
      have rf5 := HR1.out.frozen 5
      have rf6 := HR1.out.frozen 6
      have rf7 := HR1.out.frozen 7
      have rf8 := HR1.out.frozen 8
      have rf9 := HR1.out.frozen 9
      clear HR1
      go_wp2
      refine bodyPost_ret (v := rptV (Rpt.only er) (.slice none 0 0)) (by simp [results, Try.results33, go_sem, rptV, rptCells, Rpt.only, *]) rfl ⟨_, rfl, ?_⟩
      exact ⟨below_set10 HB1.out hrbw _ _ _ _ _ _ _ _ _ _, World.ownsRow_nil _ _ _ _, nofun⟩
    · have h0b : (er == 0) = false := by rw [beq_eq_false_iff_ne]; exact h0
      have h5b : (er == 5) = true := by rw [beq_iff_eq]; omega
      clear he h0
      go_enter Try.func33, Try.ntmps33
      go_wp2_with fail
      obtain ⟨wa, hwa⟩ : ∃ wa, wa = w.alloc (.cells (rptCells (Rpt.only 0) (.slice none 0 0)).toArray 64) := ⟨_, rfl⟩
      have hwa' := hwa
      simp only [rptCells, Rpt.only] at hwa'
      rw [← hwa']
      have HBA : Hid (Below w.heap.size w wa) := by show Below _ _ _; rw [hwa]; exact (Below.refl _ _).alloc (Nat.le_refl _) _
      have HRB : Hid (Blk wa w.heap.size 64 (rptCells (Rpt.only 0) (.slice none 0 0))) := by show Blk _ _ _ _; rw [hwa]; exact Blk.alloc _ _ _
      obtain ⟨rb, hrb⟩ : ∃ rb, rb = w.heap.size := ⟨_, rfl⟩
      rw [← hrb] at HRB ⊢
      have hrbw : w.heap.size ≤ rb := by omega
      have hrl := HRB.out.lt
      clear hwa hwa' hrb
      refine (blockOf_all p vc bb G R.rest R.cls q wa (HR.out.below HBA.out) HS.out.ok q1).mono ?_
      rw [HE.out]
      rintro e1 w1 ⟨rfl, hb1⟩
      have HB1 : Hid (Below w.heap.size w w1) := HBA.out.trans (hb1.mono HBA.out.size)
      have HR1 := hide2 (HRB.out.below hb1 hrl)
      have hrl1 := HR1.out.lt
      clear hb1 HRB HBA hrl
      have r0 := HR1.out.cell (j := 0) rfl
      have r1 := HR1.out.cell (j := 1) rfl
      have r2 := HR1.out.cell (j := 2) rfl
      have r3 := HR1.out.cell (j := 3) rfl
      have r4 := HR1.out.cell (j := 4) rfl
      have r5 := HR1.out.cell (j := 5) rfl
      have r6 := HR1.out.cell (j := 6) rfl
      have r7 := HR1.out.cell (j := 7) rfl
      have r8 := HR1.out.cell (j := 8) rfl
      have r9 := HR1.out.cell (j := 9) rfl
      have rf0 := HR1.out.frozen 0
      have rf1 := HR1.out.frozen 1
      have rf2 := HR1.out.frozen 2
      have rf3 := HR1.out.frozen 3
      have rf4 := HR1.out.frozen 4
      have rf5 := HR1.out.frozen 5
      have rf6 := HR1.out.frozen 6
      have rf7 := HR1.out.frozen 7
      have rf8 := HR1.out.frozen 8
      have rf9 := HR1.out.frozen 9
      clear HR1
      go_wp2
      refine bodyPost_ret (v := rptV (Rpt.only er) (.slice none 0 0)) (by simp [results, Try.results33, go_sem, rptV, rptCells, Rpt.only, *]) rfl ⟨_, rfl, ?_⟩
      exact ⟨below_set10 HB1.out hrbw _ _ _ _ _ _ _ _ _ _, World.ownsRow_nil _ _ _ _, nofun⟩
  · have HF : Hid (gblame G R q = grpt G R.cls (gblock G R.cls q).2.2 (q % 72057594037927936) (q / 72057594037927936)) := if_neg he
    have ht : Ref.tameB q = true := by
      cases ht : Ref.tameB q
      · exact absurd (.inr (by rw [gblock_wild G R.cls q ht])) he
      · rfl
    have q0 : 0 ≤ q := ((tame_iff q).1 ht).1
    rw [HF.out]
    clear HF ht
    obtain ⟨er, her⟩ : ∃ er, (gblock G R.cls q).2.2 = er := ⟨_, rfl⟩
    have HE := hide2 her
    rw [her] at he ⊢
    have h0b : (er == 0) = false := by rw [beq_eq_false_iff_ne]; omega
    have h5b : (er == 5) = false := by rw [beq_eq_false_iff_ne]; omega
    clear her he
    obtain ⟨r, hr⟩ : ∃ r, grpt G R.cls er (q % 72057594037927936) (q / 72057594037927936) = r := ⟨_, rfl⟩
    have HRP := hide2 hr
    rw [hr]
    clear hr
    go_enter Try.func33, Try.ntmps33
    go_wp2_with fail
    obtain ⟨wa, hwa⟩ : ∃ wa, wa = w.alloc (.cells (rptCells (Rpt.only 0) (.slice none 0 0)).toArray 64) := ⟨_, rfl⟩
    have hwa' := hwa
    simp only [rptCells, Rpt.only] at hwa'
    rw [← hwa']
    have HBA : Hid (Below w.heap.size w wa) := by show Below _ _ _; rw [hwa]; exact (Below.refl _ _).alloc (Nat.le_refl _) _
    have HRB : Hid (Blk wa w.heap.size 64 (rptCells (Rpt.only 0) (.slice none 0 0))) := by show Blk _ _ _ _; rw [hwa]; exact Blk.alloc _ _ _
    obtain ⟨rb, hrb⟩ : ∃ rb, rb = w.heap.size := ⟨_, rfl⟩
    rw [← hrb] at HRB ⊢
    have hrbw : w.heap.size ≤ rb := by omega
    have hrl := HRB.out.lt
    clear hwa hwa' hrb
    refine (blockOf_all p vc bb G R.rest R.cls q wa (HR.out.below HBA.out) HS.out.ok q1).mono ?_
    rw [HE.out]
    rintro e1 w1 ⟨rfl, hb1⟩
    have HB1 : Hid (Below w.heap.size w w1) := HBA.out.trans (hb1.mono HBA.out.size)
    have HR1 := hide2 (HRB.out.below hb1 hrl)
    have hrl1 := HR1.out.lt
    clear hb1 HRB HBA hrl
    go_wp2_with fail
    refine (report_any p vc bb G R.rest R.cls er (q % 72057594037927936) (q / 72057594037927936) w1 (HR.out.below HB1.out) HS.out.ok HS.out.bd (by omega) (by omega)).mono ?_
    rw [HRP.out]
    rintro e1 w2 ⟨v, rfl, hn⟩
    obtain ⟨na, ncap, hv, -, -, -⟩ := row_open hn.row
    subst hv
    have HN := hide2 hn
    have HR2 := hide2 (HR1.out.below hn.below hrl1)
    have HB2 : Hid (Below w.heap.size w w2) := HB1.out.trans (hn.below.mono HB1.out.size)
    have hrl2 := HR2.out.lt
    clear hn HR1
    unfold rptV rptCells
    have r0 := HR2.out.cell (j := 0) rfl
    have r1 := HR2.out.cell (j := 1) rfl
    have r2 := HR2.out.cell (j := 2) rfl
    have r3 := HR2.out.cell (j := 3) rfl
    have r4 := HR2.out.cell (j := 4) rfl
    have r5 := HR2.out.cell (j := 5) rfl
    have r6 := HR2.out.cell (j := 6) rfl
    have r7 := HR2.out.cell (j := 7) rfl
    have r8 := HR2.out.cell (j := 8) rfl
    have r9 := HR2.out.cell (j := 9) rfl
    have rf0 := HR2.out.frozen 0
    have rf1 := HR2.out.frozen 1
    have rf2 := HR2.out.frozen 2
    have rf3 := HR2.out.frozen 3
    have rf4 := HR2.out.frozen 4
    have rf5 := HR2.out.frozen 5
    have rf6 := HR2.out.frozen 6
    have rf7 := HR2.out.frozen 7
    have rf8 := HR2.out.frozen 8
    have rf9 := HR2.out.frozen 9
    clear HR2
    generalize hnl : r.near.length = nl at *
    go_wp2
    subst hnl
    refine bodyPost_ret (v := rptV r (.slice na r.near.length ncap)) (by simp [results, Try.results33, go_sem, rptV, rptCells, *]) rfl ⟨_, rfl, ?_⟩
    refine ⟨below_set10 HB2.out hrbw _ _ _ _ _ _ _ _ _ _, row_kept HN.out.row (fun b hb => ?_), fun b hb => ?_⟩
    · have := HN.out.vlo b hb
      rw [heap_set10 w2 (by omega)]
    · have := HN.out.vlo b hb
      have := HB1.out.size
      omega
end Go.Proofs.Ytjikemhmnkckcaa
