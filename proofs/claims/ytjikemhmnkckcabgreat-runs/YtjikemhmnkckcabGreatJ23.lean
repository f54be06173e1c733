import Derived.Test.YtjikemhmnkckcabGreatJ22
import Derived.Test.YtjikemhmnkckcabGreatJ15
/- The document's Explain and Blame. -/
namespace Go.Proofs.YtjikemhmnkckcabGreat
open Go.RowKit

theorem rlies_any (p : Nat) (vc vl vm : Value) (R : RSt) (er addr want : Int) (w : World) (h : RRep w p vc vl vm R) (ho : ROk R) :
    Calls Tryz.prog 61 #[.pointer (some ⟨p, 0, none⟩), .int .i64 er, .int .i64 addr, .int .i64 want] w fun e w' => ∃ v, e = .returned (rptV (rlies R er addr want) v) ∧ NearRel w (rlies R er addr want).near v w' := by
  rcases Cf.slot_bd R.st R.cls addr with hsl | ⟨k, s, hsl, hk, hs2, _⟩
  · exact rlies_no p vc vl vm R er addr want w h ho hsl
  · exact rlies_yes p vc vl vm R er addr want w h ho k s hsl hk hs2

def rexplain (R : RSt) (q n : Int) : Rpt :=
  if (R.access q n).1 = 6 ∨ (R.access q n).1 = 7 then rlies R (R.access q n).1 (R.access q n).2 (q / 72057594037927936) else Rpt.only (R.access q n).1
def rblame (R : RSt) (q : Int) : Rpt :=
  if (Ref.block R.st R.cls R.log q).2.2 = 0 ∨ (Ref.block R.st R.cls R.log q).2.2 = 5 then Rpt.only (Ref.block R.st R.cls R.log q).2.2 else rlies R (Ref.block R.st R.cls R.log q).2.2 (q % 72057594037927936) (q / 72057594037927936)

theorem access_errs (R : RSt) (q n : Int) : (R.access q n).1 = 0 ∨ (R.access q n).1 = 2 ∨ (R.access q n).1 = 5 ∨ (R.access q n).1 = 6 ∨ (R.access q n).1 = 7 := by
  have aux : ∀ f i : Nat, (Ref.accFrom R.tag (q / 72057594037927936) (q % 72057594037927936) f i).1 = 0 ∨ (Ref.accFrom R.tag (q / 72057594037927936) (q % 72057594037927936) f i).1 = 6 ∨ (Ref.accFrom R.tag (q / 72057594037927936) (q % 72057594037927936) f i).1 = 7 := by
    intro f
    induction f with
    | zero => intro i; exact .inl rfl
    | succ f ih =>
      intro i
      simp only [Ref.accFrom]
      split
      · exact .inr (.inl rfl)
      · split
        · exact .inr (.inr rfl)
        · exact ih (i + 1)
  unfold RSt.access
  split
  · exact .inr (.inl rfl)
  · split
    · exact .inl rfl
    · split
      · rcases aux n.toNat 0 with h | h | h
        · exact .inl h
        · exact .inr (.inr (.inr (.inl h)))
        · exact .inr (.inr (.inr (.inr h)))
      · exact .inr (.inr (.inl rfl))

set_option maxRecDepth 100000 in
set_option maxHeartbeats 3200000 in
theorem rexplain_any (p : Nat) (vc vl vm : Value) (R : RSt) (q n : Int) (w : World) (h : RRep w p vc vl vm R) (ho : ROk R) (q1 : q ≤ 9223372036854775807) :
    Calls Tryz.prog 63 #[.pointer (some ⟨p, 0, none⟩), .int .i64 q, .int .i64 n] w fun e w' => ∃ v, e = .returned (rptV (rexplain R q n) v) ∧ NearRel w (rexplain R q n).near v w' := by
  have HR := hide2 h
  have HO := hide2 ho
  clear h ho
  by_cases he : (R.access q n).1 = 6 ∨ (R.access q n).1 = 7
  · have HF : Hid (rexplain R q n = rlies R (R.access q n).1 (R.access q n).2 (q / 72057594037927936)) := if_pos he
    obtain ⟨ht, x0, x1⟩ := access_refused he
    have HTM := hide2 ht
    rw [HF.out]
    clear HF ht x0 x1
    obtain ⟨er, her⟩ : ∃ er, (R.access q n).1 = er := ⟨_, rfl⟩
    obtain ⟨ad, had⟩ : ∃ ad, (R.access q n).2 = ad := ⟨_, rfl⟩
    have HE := hide2 her
    have HA := hide2 had
    rw [her] at he ⊢
    rw [had]
    clear her had
    rcases he with rfl | rfl
    · obtain ⟨r, hr⟩ : ∃ r, rlies R 6 ad (q / 72057594037927936) = r := ⟨_, rfl⟩
      have HRP := hide2 hr
      rw [hr]
      clear hr
      go_enter Tryz.func63, Tryz.ntmps63
      go_wp2_with fail
      obtain ⟨wa, hwa⟩ : ∃ wa, wa = w.alloc (.cells (rptCells (Rpt.only 0) (.slice none 0 0)).toArray 26) := ⟨_, rfl⟩
      have hwa' := hwa
      simp only [rptCells, Rpt.only] at hwa'
      rw [← hwa']
      have HBA : Hid (Below w.heap.size w wa) := by show Below _ _ _; rw [hwa]; exact (Below.refl _ _).alloc (Nat.le_refl _) _
      have HRB : Hid (Blk wa w.heap.size 26 (rptCells (Rpt.only 0) (.slice none 0 0))) := by show Blk _ _ _ _; rw [hwa]; exact Blk.alloc _ _ _
      obtain ⟨rb, hrb⟩ : ∃ rb, rb = w.heap.size := ⟨_, rfl⟩
      rw [← hrb] at HRB ⊢
      have hrbw : w.heap.size ≤ rb := by omega
      have hrl := HRB.out.lt
      clear hwa hwa' hrb
      refine (raccess_any p vc vl vm R q n wa (HR.out.below HBA.out) HO.out q1).mono ?_
      rw [HE.out, HA.out]
      rintro e1 w1 ⟨rfl, hb1⟩
      have HB1 : Hid (Below w.heap.size w w1) := HBA.out.trans (hb1.mono HBA.out.size)
      have HR1 := hide2 (HRB.out.below hb1 hrl)
      have hrl1 := HR1.out.lt
      clear hb1 HRB HBA hrl
      go_wp2_with fail
      refine (tame_yes q w1 q1 HTM.out).mono ?_
      rintro e2 w2 ⟨rfl, rfl⟩
      go_wp2_with fail
      refine (rlies_any p vc vl vm R 6 ad (q / 72057594037927936) w1 (HR.out.below HB1.out) HO.out).mono ?_
      rw [HRP.out]
      rintro e1 w2 ⟨v, rfl, hn⟩
      obtain ⟨na, ncap, hv, -, -, -⟩ := row_open hn.row
      subst hv
      have HN := hide2 hn
      have HR2 := hide2 (HR1.out.below hn.below hrl1)
      have HB2 : Hid (Below w.heap.size w w2) := HB1.out.trans (hn.below.mono HB1.out.size)
      have hrl2 := HR2.out.lt
      clear hn HR1
      unfold rptV rptCells
      have r0 := HR2.out.cell (j := 0) rfl
      have r1 := HR2.out.cell (j := 1) rfl
      have r2 := HR2.out.cell (j := 2) rfl
      have r3 := HR2.out.cell (j := 3) rfl
      have r4 := HR2.out.cell (j := 4) rfl
      have r5 := HR2.out.cell (j := 5) rfl
      have r6 := HR2.out.cell (j := 6) rfl
      have r7 := HR2.out.cell (j := 7) rfl
      have r8 := HR2.out.cell (j := 8) rfl
      have r9 := HR2.out.cell (j := 9) rfl
      have rf0 := HR2.out.frozen 0
      have rf1 := HR2.out.frozen 1
      have rf2 := HR2.out.frozen 2
      have rf3 := HR2.out.frozen 3
      have rf4 := HR2.out.frozen 4
      have rf5 := HR2.out.frozen 5
      have rf6 := HR2.out.frozen 6
      have rf7 := HR2.out.frozen 7
      have rf8 := HR2.out.frozen 8
      have rf9 := HR2.out.frozen 9
      clear HR2
      generalize hnl : r.near.length = nl at *
      go_wp2
      subst hnl
      refine bodyPost_ret (v := rptV r (.slice na r.near.length ncap)) (by simp [results, Tryz.results63, go_sem, rptV, rptCells, *]) rfl ⟨_, rfl, ?_⟩
      refine ⟨below_set10 HB2.out hrbw _ _ _ _ _ _ _ _ _ _, row_kept HN.out.row (fun b hb => ?_), fun b hb => ?_⟩
      · have := HN.out.vlo b hb
        rw [heap_set10 w2 (by omega)]
      · have := HN.out.vlo b hb
        have := HB1.out.size
        omega
    · obtain ⟨r, hr⟩ : ∃ r, rlies R 7 ad (q / 72057594037927936) = r := ⟨_, rfl⟩
      have HRP := hide2 hr
      rw [hr]
      clear hr
      go_enter Tryz.func63, Tryz.ntmps63
      go_wp2_with fail
      obtain ⟨wa, hwa⟩ : ∃ wa, wa = w.alloc (.cells (rptCells (Rpt.only 0) (.slice none 0 0)).toArray 26) := ⟨_, rfl⟩
      have hwa' := hwa
      simp only [rptCells, Rpt.only] at hwa'
      rw [← hwa']
      have HBA : Hid (Below w.heap.size w wa) := by show Below _ _ _; rw [hwa]; exact (Below.refl _ _).alloc (Nat.le_refl _) _
      have HRB : Hid (Blk wa w.heap.size 26 (rptCells (Rpt.only 0) (.slice none 0 0))) := by show Blk _ _ _ _; rw [hwa]; exact Blk.alloc _ _ _
      obtain ⟨rb, hrb⟩ : ∃ rb, rb = w.heap.size := ⟨_, rfl⟩
      rw [← hrb] at HRB ⊢
      have hrbw : w.heap.size ≤ rb := by omega
      have hrl := HRB.out.lt
      clear hwa hwa' hrb
      refine (raccess_any p vc vl vm R q n wa (HR.out.below HBA.out) HO.out q1).mono ?_
      rw [HE.out, HA.out]
      rintro e1 w1 ⟨rfl, hb1⟩
      have HB1 : Hid (Below w.heap.size w w1) := HBA.out.trans (hb1.mono HBA.out.size)
      have HR1 := hide2 (HRB.out.below hb1 hrl)
      have hrl1 := HR1.out.lt
      clear hb1 HRB HBA hrl
      go_wp2_with fail
      refine (tame_yes q w1 q1 HTM.out).mono ?_
      rintro e2 w2 ⟨rfl, rfl⟩
      go_wp2_with fail
      refine (rlies_any p vc vl vm R 7 ad (q / 72057594037927936) w1 (HR.out.below HB1.out) HO.out).mono ?_
      rw [HRP.out]
      rintro e1 w2 ⟨v, rfl, hn⟩
      obtain ⟨na, ncap, hv, -, -, -⟩ := row_open hn.row
      subst hv
      have HN := hide2 hn
      have HR2 := hide2 (HR1.out.below hn.below hrl1)
      have HB2 : Hid (Below w.heap.size w w2) := HB1.out.trans (hn.below.mono HB1.out.size)
      have hrl2 := HR2.out.lt
      clear hn HR1
      unfold rptV rptCells
      have r0 := HR2.out.cell (j := 0) rfl
      have r1 := HR2.out.cell (j := 1) rfl
      have r2 := HR2.out.cell (j := 2) rfl
      have r3 := HR2.out.cell (j := 3) rfl
      have r4 := HR2.out.cell (j := 4) rfl
      have r5 := HR2.out.cell (j := 5) rfl
      have r6 := HR2.out.cell (j := 6) rfl
      have r7 := HR2.out.cell (j := 7) rfl
      have r8 := HR2.out.cell (j := 8) rfl
      have r9 := HR2.out.cell (j := 9) rfl
      have rf0 := HR2.out.frozen 0
      have rf1 := HR2.out.frozen 1
      have rf2 := HR2.out.frozen 2
      have rf3 := HR2.out.frozen 3
      have rf4 := HR2.out.frozen 4
      have rf5 := HR2.out.frozen 5
      have rf6 := HR2.out.frozen 6
      have rf7 := HR2.out.frozen 7
      have rf8 := HR2.out.frozen 8
      have rf9 := HR2.out.frozen 9
      clear HR2
      generalize hnl : r.near.length = nl at *
      go_wp2
      subst hnl
      refine bodyPost_ret (v := rptV r (.slice na r.near.length ncap)) (by simp [results, Tryz.results63, go_sem, rptV, rptCells, *]) rfl ⟨_, rfl, ?_⟩
      refine ⟨below_set10 HB2.out hrbw _ _ _ _ _ _ _ _ _ _, row_kept HN.out.row (fun b hb => ?_), fun b hb => ?_⟩
      · have := HN.out.vlo b hb
        rw [heap_set10 w2 (by omega)]
      · have := HN.out.vlo b hb
        have := HB1.out.size
        omega
  · have HF : Hid (rexplain R q n = Rpt.only (R.access q n).1) := if_neg he
    have hes := access_errs R q n
    rw [HF.out]
    clear HF
    obtain ⟨er, her⟩ : ∃ er, (R.access q n).1 = er := ⟨_, rfl⟩
    have HE := hide2 her
    rw [her] at he hes ⊢
    have hes2 : er = 0 ∨ er = 2 ∨ er = 5 := by omega
    clear her he hes
    rcases hes2 with rfl | rfl | rfl
    · go_enter Tryz.func63, Tryz.ntmps63
      go_wp2_with fail
      obtain ⟨wa, hwa⟩ : ∃ wa, wa = w.alloc (.cells (rptCells (Rpt.only 0) (.slice none 0 0)).toArray 26) := ⟨_, rfl⟩
      have hwa' := hwa
      simp only [rptCells, Rpt.only] at hwa'
      rw [← hwa']
      have HBA : Hid (Below w.heap.size w wa) := by show Below _ _ _; rw [hwa]; exact (Below.refl _ _).alloc (Nat.le_refl _) _
      have HRB : Hid (Blk wa w.heap.size 26 (rptCells (Rpt.only 0) (.slice none 0 0))) := by show Blk _ _ _ _; rw [hwa]; exact Blk.alloc _ _ _
      obtain ⟨rb, hrb⟩ : ∃ rb, rb = w.heap.size := ⟨_, rfl⟩
      rw [← hrb] at HRB ⊢
      have hrbw : w.heap.size ≤ rb := by omega
      have hrl := HRB.out.lt
      clear hwa hwa' hrb
      refine (raccess_any p vc vl vm R q n wa (HR.out.below HBA.out) HO.out q1).mono ?_
      rw [HE.out]
      rintro e1 w1 ⟨rfl, hb1⟩
      have HB1 : Hid (Below w.heap.size w w1) := HBA.out.trans (hb1.mono HBA.out.size)
      have HR1 := hide2 (HRB.out.below hb1 hrl)
      have hrl1 := HR1.out.lt
      clear hb1 HRB HBA hrl
      have r0 := HR1.out.cell (j := 0) rfl
      have r1 := HR1.out.cell (j := 1) rfl
      have r2 := HR1.out.cell (j := 2) rfl
      have r3 := HR1.out.cell (j := 3) rfl
      have r4 := HR1.out.cell (j := 4) rfl
      have r5 := HR1.out.cell (j := 5) rfl
      have r6 := HR1.out.cell (j := 6) rfl
      have r7 := HR1.out.cell (j := 7) rfl
      have r8 := HR1.out.cell (j := 8) rfl
      have r9 := HR1.out.cell (j := 9) rfl
      have rf0 := HR1.out.frozen 0
      have rf1 := HR1.out.frozen 1
      have rf2 := HR1.out.frozen 2
      have rf3 := HR1.out.frozen 3
      have rf4 := HR1.out.frozen 4
      have rf5 := HR1.out.frozen 5
      have rf6 := HR1.out.frozen 6
      have rf7 := HR1.out.frozen 7
      have rf8 := HR1.out.frozen 8
      have rf9 := HR1.out.frozen 9
      clear HR1
      go_wp2
      refine bodyPost_ret (v := rptV (Rpt.only 0) (.slice none 0 0)) (by simp [results, Tryz.results63, go_sem, rptV, rptCells, Rpt.only, *]) rfl ⟨_, rfl, ?_⟩
      exact ⟨below_set10 HB1.out hrbw _ _ _ _ _ _ _ _ _ _, World.ownsRow_nil _ _ _ _, nofun⟩
    · go_enter Tryz.func63, Tryz.ntmps63
      go_wp2_with fail
      obtain ⟨wa, hwa⟩ : ∃ wa, wa = w.alloc (.cells (rptCells (Rpt.only 0) (.slice none 0 0)).toArray 26) := ⟨_, rfl⟩
      have hwa' := hwa
      simp only [rptCells, Rpt.only] at hwa'
      rw [← hwa']
      have HBA : Hid (Below w.heap.size w wa) := by show Below _ _ _; rw [hwa]; exact (Below.refl _ _).alloc (Nat.le_refl _) _
      have HRB : Hid (Blk wa w.heap.size 26 (rptCells (Rpt.only 0) (.slice none 0 0))) := by show Blk _ _ _ _; rw [hwa]; exact Blk.alloc _ _ _
      obtain ⟨rb, hrb⟩ : ∃ rb, rb = w.heap.size := ⟨_, rfl⟩
      rw [← hrb] at HRB ⊢
      have hrbw : w.heap.size ≤ rb := by omega
      have hrl := HRB.out.lt
      clear hwa hwa' hrb
      refine (raccess_any p vc vl vm R q n wa (HR.out.below HBA.out) HO.out q1).mono ?_
      rw [HE.out]
      rintro e1 w1 ⟨rfl, hb1⟩
      have HB1 : Hid (Below w.heap.size w w1) := HBA.out.trans (hb1.mono HBA.out.size)
      have HR1 := hide2 (HRB.out.below hb1 hrl)
      have hrl1 := HR1.out.lt
      clear hb1 HRB HBA hrl
      have r0 := HR1.out.cell (j := 0) rfl
      have r1 := HR1.out.cell (j := 1) rfl
      have r2 := HR1.out.cell (j := 2) rfl
      have r3 := HR1.out.cell (j := 3) rfl
      have r4 := HR1.out.cell (j := 4) rfl
      have r5 := HR1.out.cell (j := 5) rfl
      have r6 := HR1.out.cell (j := 6) rfl
      have r7 := HR1.out.cell (j := 7) rfl
      have r8 := HR1.out.cell (j := 8) rfl
      have r9 := HR1.out.cell (j := 9) rfl
      have rf0 := HR1.out.frozen 0
      have rf1 := HR1.out.frozen 1
      have rf2 := HR1.out.frozen 2
      have rf3 := HR1.out.frozen 3
      have rf4 := HR1.out.frozen 4
      have rf5 := HR1.out.frozen 5
      have rf6 := HR1.out.frozen 6
      have rf7 := HR1.out.frozen 7
      have rf8 := HR1.out.frozen 8
      have rf9 := HR1.out.frozen 9
      clear HR1
      go_wp2
      refine bodyPost_ret (v := rptV (Rpt.only 2) (.slice none 0 0)) (by simp [results, Tryz.results63, go_sem, rptV, rptCells, Rpt.only, *]) rfl ⟨_, rfl, ?_⟩
      exact ⟨below_set10 HB1.out hrbw _ _ _ _ _ _ _ _ _ _, World.ownsRow_nil _ _ _ _, nofun⟩
    · go_enter Tryz.func63, Tryz.ntmps63
      go_wp2_with fail
      obtain ⟨wa, hwa⟩ : ∃ wa, wa = w.alloc (.cells (rptCells (Rpt.only 0) (.slice none 0 0)).toArray 26) := ⟨_, rfl⟩
      have hwa' := hwa
      simp only [rptCells, Rpt.only] at hwa'
      rw [← hwa']
      have HBA : Hid (Below w.heap.size w wa) := by show Below _ _ _; rw [hwa]; exact (Below.refl _ _).alloc (Nat.le_refl _) _
      have HRB : Hid (Blk wa w.heap.size 26 (rptCells (Rpt.only 0) (.slice none 0 0))) := by show Blk _ _ _ _; rw [hwa]; exact Blk.alloc _ _ _
      obtain ⟨rb, hrb⟩ : ∃ rb, rb = w.heap.size := ⟨_, rfl⟩
      rw [← hrb] at HRB ⊢
      have hrbw : w.heap.size ≤ rb := by omega
      have hrl := HRB.out.lt
      clear hwa hwa' hrb
      refine (raccess_any p vc vl vm R q n wa (HR.out.below HBA.out) HO.out q1).mono ?_
      rw [HE.out]
      rintro e1 w1 ⟨rfl, hb1⟩
      have HB1 : Hid (Below w.heap.size w w1) := HBA.out.trans (hb1.mono HBA.out.size)
      have HR1 := hide2 (HRB.out.below hb1 hrl)
      have hrl1 := HR1.out.lt
      clear hb1 HRB HBA hrl
      have r0 := HR1.out.cell (j := 0) rfl
      have r1 := HR1.out.cell (j := 1) rfl
      have r2 := HR1.out.cell (j := 2) rfl
      have r3 := HR1.out.cell (j := 3) rfl
      have r4 := HR1.out.cell (j := 4) rfl
      have r5 := HR1.out.cell (j := 5) rfl
      have r6 := HR1.out.cell (j := 6) rfl
      have r7 := HR1.out.cell (j := 7) rfl
      have r8 := HR1.out.cell (j := 8) rfl
      have r9 := HR1.out.cell (j := 9) rfl
      have rf0 := HR1.out.frozen 0
      have rf1 := HR1.out.frozen 1
      have rf2 := HR1.out.frozen 2
      have rf3 := HR1.out.frozen 3
      have rf4 := HR1.out.frozen 4
      have rf5 := HR1.out.frozen 5
      have rf6 := HR1.out.frozen 6
      have rf7 := HR1.out.frozen 7
      have rf8 := HR1.out.frozen 8
      have rf9 := HR1.out.frozen 9
      clear HR1
      go_wp2
      refine bodyPost_ret (v := rptV (Rpt.only 5) (.slice none 0 0)) (by simp [results, Tryz.results63, go_sem, rptV, rptCells, Rpt.only, *]) rfl ⟨_, rfl, ?_⟩
      exact ⟨below_set10 HB1.out hrbw _ _ _ _ _ _ _ _ _ _, World.ownsRow_nil _ _ _ _, nofun⟩

set_option maxRecDepth 100000 in
set_option maxHeartbeats 3200000 in
theorem rblame_any (p : Nat) (vc vl vm : Value) (R : RSt) (q : Int) (w : World) (h : RRep w p vc vl vm R) (ho : ROk R) (q1 : q ≤ 9223372036854775807) :
    Calls Tryz.prog 37 #[.pointer (some ⟨p, 0, none⟩), .int .i64 q] w fun e w' => ∃ v, e = .returned (rptV (rblame R q) v) ∧ NearRel w (rblame R q).near v w' := by
  have HR := hide2 h
  have HO := hide2 ho
  clear h ho
  by_cases he : (Ref.block R.st R.cls R.log q).2.2 = 0 ∨ (Ref.block R.st R.cls R.log q).2.2 = 5
  · have HF : Hid (rblame R q = Rpt.only (Ref.block R.st R.cls R.log q).2.2) := if_pos he
    rw [HF.out]
    clear HF
    obtain ⟨er, her⟩ : ∃ er, (Ref.block R.st R.cls R.log q).2.2 = er := ⟨_, rfl⟩
    have HE := hide2 her
    rw [her] at he ⊢
    clear her
    rcases he with rfl | rfl
    · go_enter Tryz.func37, Tryz.ntmps37
      go_wp2_with fail
      obtain ⟨wa, hwa⟩ : ∃ wa, wa = w.alloc (.cells (rptCells (Rpt.only 0) (.slice none 0 0)).toArray 26) := ⟨_, rfl⟩
      have hwa' := hwa
      simp only [rptCells, Rpt.only] at hwa'
      rw [← hwa']
      have HBA : Hid (Below w.heap.size w wa) := by show Below _ _ _; rw [hwa]; exact (Below.refl _ _).alloc (Nat.le_refl _) _
      have HRB : Hid (Blk wa w.heap.size 26 (rptCells (Rpt.only 0) (.slice none 0 0))) := by show Blk _ _ _ _; rw [hwa]; exact Blk.alloc _ _ _
      obtain ⟨rb, hrb⟩ : ∃ rb, rb = w.heap.size := ⟨_, rfl⟩
      rw [← hrb] at HRB ⊢
      have hrbw : w.heap.size ≤ rb := by omega
      have hrl := HRB.out.lt
      clear hwa hwa' hrb
      refine (rblock_any p vc vl vm R q wa (HR.out.below HBA.out) HO.out q1).mono ?_
      rw [HE.out]
      rintro e1 w1 ⟨rfl, hb1⟩
      have HB1 : Hid (Below w.heap.size w w1) := HBA.out.trans (hb1.mono HBA.out.size)
      have HR1 := hide2 (HRB.out.below hb1 hrl)
      have hrl1 := HR1.out.lt
      clear hb1 HRB HBA hrl
      have r0 := HR1.out.cell (j := 0) rfl
      have r1 := HR1.out.cell (j := 1) rfl
      have r2 := HR1.out.cell (j := 2) rfl
      have r3 := HR1.out.cell (j := 3) rfl
      have r4 := HR1.out.cell (j := 4) rfl
      have r5 := HR1.out.cell (j := 5) rfl
      have r6 := HR1.out.cell (j := 6) rfl
      have r7 := HR1.out.cell (j := 7) rfl
      have r8 := HR1.out.cell (j := 8) rfl
      have r9 := HR1.out.cell (j := 9) rfl
      have rf0 := HR1.out.frozen 0
      have rf1 := HR1.out.frozen 1
      have rf2 := HR1.out.frozen 2
      have rf3 := HR1.out.frozen 3
      have rf4 := HR1.out.frozen 4
      have rf5 := HR1.out.frozen 5
      have rf6 := HR1.out.frozen 6
      have rf7 := HR1.out.frozen 7
      have rf8 := HR1.out.frozen 8
      have rf9 := HR1.out.frozen 9
      clear HR1
      go_wp2
      refine bodyPost_ret (v := rptV (Rpt.only 0) (.slice none 0 0)) (by simp [results, Tryz.results37, go_sem, rptV, rptCells, Rpt.only, *]) rfl ⟨_, rfl, ?_⟩
      exact ⟨below_set10 HB1.out hrbw _ _ _ _ _ _ _ _ _ _, World.ownsRow_nil _ _ _ _, nofun⟩
    · go_enter Tryz.func37, Tryz.ntmps37
      go_wp2_with fail
      obtain ⟨wa, hwa⟩ : ∃ wa, wa = w.alloc (.cells (rptCells (Rpt.only 0) (.slice none 0 0)).toArray 26) := ⟨_, rfl⟩
      have hwa' := hwa
      simp only [rptCells, Rpt.only] at hwa'
      rw [← hwa']
      have HBA : Hid (Below w.heap.size w wa) := by show Below _ _ _; rw [hwa]; exact (Below.refl _ _).alloc (Nat.le_refl _) _
      have HRB : Hid (Blk wa w.heap.size 26 (rptCells (Rpt.only 0) (.slice none 0 0))) := by show Blk _ _ _ _; rw [hwa]; exact Blk.alloc _ _ _
      obtain ⟨rb, hrb⟩ : ∃ rb, rb = w.heap.size := ⟨_, rfl⟩
      rw [← hrb] at HRB ⊢
      have hrbw : w.heap.size ≤ rb := by omega
      have hrl := HRB.out.lt
      clear hwa hwa' hrb
      refine (rblock_any p vc vl vm R q wa (HR.out.below HBA.out) HO.out q1).mono ?_
      rw [HE.out]
      rintro e1 w1 ⟨rfl, hb1⟩
      have HB1 : Hid (Below w.heap.size w w1) := HBA.out.trans (hb1.mono HBA.out.size)
      have HR1 := hide2 (HRB.out.below hb1 hrl)
      have hrl1 := HR1.out.lt
      clear hb1 HRB HBA hrl
      have r0 := HR1.out.cell (j := 0) rfl
      have r1 := HR1.out.cell (j := 1) rfl
      have r2 := HR1.out.cell (j := 2) rfl
      have r3 := HR1.out.cell (j := 3) rfl
      have r4 := HR1.out.cell (j := 4) rfl
      have r5 := HR1.out.cell (j := 5) rfl
      have r6 := HR1.out.cell (j := 6) rfl
      have r7 := HR1.out.cell (j := 7) rfl
      have r8 := HR1.out.cell (j := 8) rfl
      have r9 := HR1.out.cell (j := 9) rfl
      have rf0 := HR1.out.frozen 0
      have rf1 := HR1.out.frozen 1
      have rf2 := HR1.out.frozen 2
      have rf3 := HR1.out.frozen 3
      have rf4 := HR1.out.frozen 4
      have rf5 := HR1.out.frozen 5
      have rf6 := HR1.out.frozen 6
      have rf7 := HR1.out.frozen 7
      have rf8 := HR1.out.frozen 8
      have rf9 := HR1.out.frozen 9
      clear HR1
      go_wp2
      refine bodyPost_ret (v := rptV (Rpt.only 5) (.slice none 0 0)) (by simp [results, Tryz.results37, go_sem, rptV, rptCells, Rpt.only, *]) rfl ⟨_, rfl, ?_⟩
      exact ⟨below_set10 HB1.out hrbw _ _ _ _ _ _ _ _ _ _, World.ownsRow_nil _ _ _ _, nofun⟩
  · have HF : Hid (rblame R q = rlies R (Ref.block R.st R.cls R.log q).2.2 (q % 72057594037927936) (q / 72057594037927936)) := if_neg he
    have ht : Ref.tameB q = true := by
      cases ht : Ref.tameB q
      · exact absurd (.inr (by unfold Ref.block; rw [ht]; rfl)) he
      · rfl
    have HTM := hide2 ht
    rw [HF.out]
    clear HF ht
    obtain ⟨er, her⟩ : ∃ er, (Ref.block R.st R.cls R.log q).2.2 = er := ⟨_, rfl⟩
    have HE := hide2 her
    rw [her] at he ⊢
    have h0b : (er == 0) = false := by rw [beq_eq_false_iff_ne]; omega
    have h5b : (er == 5) = false := by rw [beq_eq_false_iff_ne]; omega
    clear her he
    obtain ⟨r, hr⟩ : ∃ r, rlies R er (q % 72057594037927936) (q / 72057594037927936) = r := ⟨_, rfl⟩
    have HRP := hide2 hr
    rw [hr]
    clear hr
    go_enter Tryz.func37, Tryz.ntmps37
    go_wp2_with fail
    obtain ⟨wa, hwa⟩ : ∃ wa, wa = w.alloc (.cells (rptCells (Rpt.only 0) (.slice none 0 0)).toArray 26) := ⟨_, rfl⟩
    have hwa' := hwa
    simp only [rptCells, Rpt.only] at hwa'
    rw [← hwa']
    have HBA : Hid (Below w.heap.size w wa) := by show Below _ _ _; rw [hwa]; exact (Below.refl _ _).alloc (Nat.le_refl _) _
    have HRB : Hid (Blk wa w.heap.size 26 (rptCells (Rpt.only 0) (.slice none 0 0))) := by show Blk _ _ _ _; rw [hwa]; exact Blk.alloc _ _ _
    obtain ⟨rb, hrb⟩ : ∃ rb, rb = w.heap.size := ⟨_, rfl⟩
    rw [← hrb] at HRB ⊢
    have hrbw : w.heap.size ≤ rb := by omega
    have hrl := HRB.out.lt
    clear hwa hwa' hrb
    refine (rblock_any p vc vl vm R q wa (HR.out.below HBA.out) HO.out q1).mono ?_
    rw [HE.out]
    rintro e1 w1 ⟨rfl, hb1⟩
    have HB1 : Hid (Below w.heap.size w w1) := HBA.out.trans (hb1.mono HBA.out.size)
    have HR1 := hide2 (HRB.out.below hb1 hrl)
    have hrl1 := HR1.out.lt
    clear hb1 HRB HBA hrl
    go_wp2_with fail
    refine (tame_yes q w1 q1 HTM.out).mono ?_
    rintro e2 w2 ⟨rfl, rfl⟩
    go_wp2_with fail
    refine (rlies_any p vc vl vm R er (q % 72057594037927936) (q / 72057594037927936) w1 (HR.out.below HB1.out) HO.out).mono ?_
    rw [HRP.out]
    rintro e1 w2 ⟨v, rfl, hn⟩
    obtain ⟨na, ncap, hv, -, -, -⟩ := row_open hn.row
    subst hv
    have HN := hide2 hn
    have HR2 := hide2 (HR1.out.below hn.below hrl1)
    have HB2 : Hid (Below w.heap.size w w2) := HB1.out.trans (hn.below.mono HB1.out.size)
    have hrl2 := HR2.out.lt
    clear hn HR1
    unfold rptV rptCells
    have r0 := HR2.out.cell (j := 0) rfl
    have r1 := HR2.out.cell (j := 1) rfl
    have r2 := HR2.out.cell (j := 2) rfl
    have r3 := HR2.out.cell (j := 3) rfl
    have r4 := HR2.out.cell (j := 4) rfl
    have r5 := HR2.out.cell (j := 5) rfl
    have r6 := HR2.out.cell (j := 6) rfl
    have r7 := HR2.out.cell (j := 7) rfl
    have r8 := HR2.out.cell (j := 8) rfl
    have r9 := HR2.out.cell (j := 9) rfl
    have rf0 := HR2.out.frozen 0
    have rf1 := HR2.out.frozen 1
    have rf2 := HR2.out.frozen 2
    have rf3 := HR2.out.frozen 3
    have rf4 := HR2.out.frozen 4
    have rf5 := HR2.out.frozen 5
    have rf6 := HR2.out.frozen 6
    have rf7 := HR2.out.frozen 7
    have rf8 := HR2.out.frozen 8
    have rf9 := HR2.out.frozen 9
    clear HR2
    generalize hnl : r.near.length = nl at *
    go_wp2
    subst hnl
    refine bodyPost_ret (v := rptV r (.slice na r.near.length ncap)) (by simp [results, Tryz.results37, go_sem, rptV, rptCells, *]) rfl ⟨_, rfl, ?_⟩
    refine ⟨below_set10 HB2.out hrbw _ _ _ _ _ _ _ _ _ _, row_kept HN.out.row (fun b hb => ?_), fun b hb => ?_⟩
    · have := HN.out.vlo b hb
      rw [heap_set10 w2 (by omega)]
    · have := HN.out.vlo b hb
      have := HB1.out.size
      omega
end Go.Proofs.YtjikemhmnkckcabGreat
/- Both reports are the same. Plain mathematics. -/
namespace Go.Proofs.YtjikemhmnkckcabGreat
open Go.RowKit

theorem ghad_iff2 (x : GSlot) (t : Int) : ghad x t = true ↔ x.state ≠ 2 ∧ x.tag = t := by
  unfold ghad
  rw [Bool.and_eq_true, bne_iff_ne, beq_iff_eq]
theorem gnear_eq2 (xs : List GSlot) (i tag : Int) : gnear xs i tag = nearAt xs (i - 1) tag ++ nearAt xs i tag ++ nearAt xs (i + 1) tag := by
  unfold gnear
  simp only [nearTo, List.nil_append]
  rw [show i - 1 + ((0 : Nat) : Int) = i - 1 by omega, show i - 1 + ((1 : Nat) : Int) = i by omega, show i - 1 + ((2 : Nat) : Int) = i + 1 by omega]

section
variable {G : GSt} {R : RSt}
theorem slot_alloc (hs : Sim G R) {k s : Nat} (hk : k < R.cls.length) (hsl : s < (Cf.sl R.cls k).toNat) : (slotOf G k s).alloc = (if Ref.state R.log k s = 2 then 0 else rAlloc R.log k s) ∧ (slotOf G k s).gone = (if Ref.state R.log k s = 2 then 0 else rGone R.log k s) := by
  have hx := hs.slots k s hk hsl
  unfold rAlloc rGone
  rcases state_of R.log k s with y | y | y
  · rw [hx.alloc, hx.gone, if_pos y.1, if_pos y.2, if_neg (by omega), if_pos y.1]; exact ⟨rfl, rfl⟩
  · rw [hx.alloc, hx.gone, if_neg (c := Ref.state R.log k s = 2) (by omega), if_neg (by omega), if_neg (c := Ref.state R.log k s = 4) (by omega), if_neg (c := Ref.state R.log k s = 2) (by omega), if_pos (by omega)]; exact ⟨rfl, rfl⟩
  · rw [hx.alloc, hx.gone, if_neg (c := Ref.state R.log k s = 2) (by omega), if_neg (by omega), if_pos y.1, if_neg (c := Ref.state R.log k s = 2) (by omega), if_neg (by omega)]; exact ⟨rfl, rfl⟩

/-- one slot's entry, as both find it -/
theorem nearAt_sim (hs : Sim G R) {k : Nat} (hk : k < R.cls.length) (s want : Int) (i : Nat) (hi : i < (Cf.sl R.cls k).toNat) (hd : (i : Int) - s < 2 ∧ s - (i : Int) < 2) : rNearAt R k s want i = nearAt (G.cs.getD k GCls.no).slots i want := by
  have hx := hs.slots k i hk hi
  have hl := hs.len hk
  have ha := slot_alloc hs hk hi
  unfold rNearAt nearAt
  rw [Int.toNat_natCast]
  have hg : (ghad ((G.cs.getD k GCls.no).slots.getD i GSlot.no) want = true) ↔ (Ref.state R.log k i ≠ 2 ∧ Ref.last R.log k i = want) := by
    have := ghad_iff2 (slotOf G k i) want
    rw [hx.st, hx.tag] at this
    exact this
  by_cases c : Ref.state R.log k i ≠ 2 ∧ Ref.last R.log k i = want
  · rw [if_pos ⟨c.1, c.2, hd.1, hd.2⟩, if_pos ⟨by omega, by omega, hg.2 c⟩]
    rw [if_neg c.1, if_neg c.1] at ha
    change _ = [((i : Int), (slotOf G k i).alloc, (slotOf G k i).gone)]
    rw [ha.1, ha.2]
  · rw [if_neg (fun y => c ⟨y.1, y.2.1⟩), if_neg (fun y => c (hg.1 y.2.2))]
theorem nearAt_out (xs : List GSlot) (j t : Int) (h : j < 0 ∨ (xs.length : Int) ≤ j) : nearAt xs j t = [] := by
  unfold nearAt; rw [if_neg (by omega)]
theorem rNearTo_sim (hs : Sim G R) {k : Nat} (hk : k < R.cls.length) (s : Nat) (want : Int) (m : Nat) (hm : m ≤ (Cf.sl R.cls k).toNat) :
    rNearTo R k s want m = (if (s : Int) - 1 < m then nearAt (G.cs.getD k GCls.no).slots ((s : Int) - 1) want else []) ++ (if (s : Int) < m then nearAt (G.cs.getD k GCls.no).slots s want else []) ++ (if (s : Int) + 1 < m then nearAt (G.cs.getD k GCls.no).slots ((s : Int) + 1) want else []) := by
  induction m with
  | zero =>
    by_cases c : (s : Int) - 1 < ((0 : Nat) : Int)
    · rw [if_pos c, if_neg (by omega), if_neg (by omega), nearAt_out _ _ _ (.inl (by omega))]; rfl
    · rw [if_neg c, if_neg (by omega), if_neg (by omega)]; rfl
  | succ m ih =>
    simp only [rNearTo]
    rw [ih (by omega)]
    by_cases c0 : (m : Int) + 1 < s
    · rw [if_neg (by omega), if_neg (by omega), if_neg (by omega), if_neg (by omega), if_neg (by omega), if_neg (by omega)]
      unfold rNearAt; rw [if_neg (fun y => by have := y.2.2.2; omega)]; rfl
    · by_cases c1 : (m : Int) + 1 = s
      · rw [if_neg (by omega), if_neg (by omega), if_neg (by omega), if_pos (by omega), if_neg (by omega), if_neg (by omega), nearAt_sim hs hk s want m (by omega) ⟨by omega, by omega⟩, show (s : Int) - 1 = (m : Int) by omega]
        simp
      · by_cases c2 : m = s
        · subst c2
          rw [if_pos (by omega), if_neg (by omega), if_neg (by omega), if_pos (by omega), if_pos (by omega), if_neg (by omega), nearAt_sim hs hk m want m (by omega) ⟨by omega, by omega⟩]
          simp
        · by_cases c3 : (m : Int) = s + 1
          · rw [if_pos (by omega), if_pos (by omega), if_neg (by omega), if_pos (by omega), if_pos (by omega), if_pos (by omega), nearAt_sim hs hk s want m (by omega) ⟨by omega, by omega⟩, show (m : Int) = (s : Int) + 1 from c3]
            simp
          · rw [if_pos (by omega), if_pos (by omega), if_pos (by omega), if_pos (by omega), if_pos (by omega), if_pos (by omega)]
            unfold rNearAt; rw [if_neg (fun y => by have := y.2.2.1; omega), List.append_nil]
theorem rNear_sim (hs : Sim G R) {k : Nat} (hk : k < R.cls.length) (s : Nat) (hsl : s < (Cf.sl R.cls k).toNat) (want : Int) : rNearTo R k s want (Cf.sl R.cls k).toNat = gnear (G.cs.getD k GCls.no).slots s want := by
  have hl := hs.len hk
  rw [rNearTo_sim hs hk s want _ (Nat.le_refl _), gnear_eq2, if_pos (by omega), if_pos (by omega)]
  by_cases c : (s : Int) + 1 < ((Cf.sl R.cls k).toNat : Int)
  · rw [if_pos c]
  · rw [if_neg c, nearAt_out _ ((s : Int) + 1) want (.inr (by omega))]

theorem lies_sim (hs : Sim G R) (er addr want : Int) : grpt G R.cls er addr want = rlies R er addr want := by
  have hv := hs.rok.conf
  unfold grpt rlies
  rw [hs.tag, hs.st]
  change (if _ then (⟨er, addr, want, R.tag addr, 1, 0, 0, 0, 0, []⟩ : Rpt) else if _ then ⟨er, addr, want, R.tag addr, 0, 0, 0, 0, 0, []⟩ else ⟨er, addr, want, R.tag addr, _, _, _, _, _, _⟩) = _
  by_cases hst : 16 ≤ addr ∧ addr < 16 * (1 + R.st)
  · have hsl := static_slot hv addr hst.2
    have h0 : R.tag addr = 0 := by unfold RSt.tag Cf.tag; rw [if_pos hst]
    rw [if_pos hst, hsl, if_pos (by decide), h0, if_pos rfl]
  · rw [if_neg hst]
    rcases Cf.slot_bd R.st R.cls addr with hsl | ⟨k, s, hsl, hk, hs2, _⟩
    · have h0 : R.tag addr = -1 := by unfold RSt.tag Cf.tag; rw [if_neg hst, hsl, if_pos (by decide)]
      rw [hsl, if_pos (by decide), if_pos (by decide), h0, if_neg (by decide)]
    · have hx := hs.slots k s hk hs2
      have ha := slot_alloc hs hk hs2
      rw [hsl, if_neg (by simp), if_neg (by simp)]
      simp only [Int.toNat_natCast]
      rw [hx.st, ha.1, ha.2, rNear_sim hs hk s hs2 want]
theorem explain_sim (hs : Sim G R) (q n : Int) : gexplain G R q n = rexplain R q n := by
  unfold gexplain rexplain
  rw [lies_sim hs]
theorem blame_sim (hs : Sim G R) (q : Int) : gblame G R q = rblame R q := by
  unfold gblame rblame
  rw [hs.block q, lies_sim hs]
end
end Go.Proofs.YtjikemhmnkckcabGreat
namespace Go.Proofs.YtjikemhmnkckcabGreat
open Go.RowKit

theorem fsim {w1 w2 : World} {ph : Nat} {gc : Value} {bb : Nat} {G : GSt} {pr : Nat} {vc vl' vm : Value} {R : RSt} {q site : Int} (hs : Sim G R)
    (h1 : (¬ fDoes R q ∧ GRep w1 ph gc bb G) ∨ ∃ k s : Nat, fDoes R q ∧ Ref.block R.st R.cls R.log q = ((k : Int), (s : Int), 0) ∧ k < R.cls.length ∧ s < (Cf.sl R.cls k).toNat ∧ Ref.state R.log k s = 3 ∧ GRep w1 ph gc bb (G.withSlots k (freed (G.cs.getD k GCls.no).slots s G.rest site)))
    (h2 : (¬ fDoes R q ∧ RRep w2 pr vc vl' vm R) ∨ ∃ k s : Nat, fDoes R q ∧ Ref.block R.st R.cls R.log q = ((k : Int), (s : Int), 0) ∧ RRep w2 pr vc vl' vm ⟨R.st, R.rest, R.cls, R.log ++ [⟨true, k, s, 0, 0, site⟩], R.marks⟩) :
    ∃ G' R', GRep w1 ph gc bb G' ∧ RRep w2 pr vc vl' vm R' ∧ Sim G' R' ∧ (∀ b, GFoot ph gc bb G' b ↔ GFoot ph gc bb G b) ∧ R'.log.length ≤ R.log.length + 1 := by
  rcases h1 with ⟨n1, g1⟩ | ⟨k, s, d1, b1, hk, hsl, h3, g1⟩
  · rcases h2 with ⟨n2, g2⟩ | ⟨k2, s2, d2, b2, g2⟩
    · exact ⟨G, R, g1, g2, hs, fun _ => Iff.rfl, by omega⟩
    · exact absurd d2 n1
  · rcases h2 with ⟨n2, g2⟩ | ⟨k2, s2, d2, b2, g2⟩
    · exact absurd d1 n2
    · rw [b1] at b2
      simp only [Prod.mk.injEq] at b2
      have ek : k = k2 := by omega
      have es : s = s2 := by omega
      subst ek es
      have hkl : k < G.cs.length := by rw [hs.ok.len]; exact hk
      exact ⟨_, _, g1, g2, hs.free k s hk hsl h3 site, fun b => withSlots_foot G k _ hkl ph gc bb b, by simp⟩

end Go.Proofs.YtjikemhmnkckcabGreat
