import Derived.Test.YtjikemhmnkckcaaJ39
/- The document's Explain and Blame. -/
namespace Go.Proofs.Ytjikemhmnkckcaa
open Go.RowKit

theorem rlies_any (p : Nat) (vc vl vm : Value) (R : RSt) (er addr want : Int) (w : World) (h : RRep w p vc vl vm R) (ho : ROk R) :
    Calls Try.prog 118 #[.pointer (some ⟨p, 0, none⟩), .int .i64 er, .int .i64 addr, .int .i64 want] w fun e w' => ∃ v, e = .returned (rptV (rlies R er addr want) v) ∧ NearRel w (rlies R er addr want).near v w' := by
  rcases Cf.slot_bd R.st R.cls addr with hsl | ⟨k, s, hsl, hk, hs2, _⟩
  · exact rlies_no p vc vl vm R er addr want w h ho hsl
  · exact rlies_yes p vc vl vm R er addr want w h ho k s hsl hk hs2

def rexplain (R : RSt) (q n : Int) : Rpt :=
  if (R.access q n).1 = 6 ∨ (R.access q n).1 = 7 then rlies R (R.access q n).1 (R.access q n).2 (q / 72057594037927936) else Rpt.only (R.access q n).1
def rblame (R : RSt) (q : Int) : Rpt :=
  if (Ref.block R.st R.cls R.log q).2.2 = 0 ∨ (Ref.block R.st R.cls R.log q).2.2 = 5 then Rpt.only (Ref.block R.st R.cls R.log q).2.2 else rlies R (Ref.block R.st R.cls R.log q).2.2 (q % 72057594037927936) (q / 72057594037927936)

theorem access_errs (R : RSt) (q n : Int) : (R.access q n).1 = 0 ∨ (R.access q n).1 = 2 ∨ (R.access q n).1 = 5 ∨ (R.access q n).1 = 6 ∨ (R.access q n).1 = 7 := by
  have aux : ∀ f i : Nat, (Ref.accFrom R.tag (q / 72057594037927936) (q % 72057594037927936) f i).1 = 0 ∨ (Ref.accFrom R.tag (q / 72057594037927936) (q % 72057594037927936) f i).1 = 6 ∨ (Ref.accFrom R.tag (q / 72057594037927936) (q % 72057594037927936) f i).1 = 7 := by
    intro f
    induction f with
    | zero => intro i; exact .inl rfl
    | succ f ih =>
      intro i
      simp only [Ref.accFrom]
      split
      · exact .inr (.inl rfl)
      · split
        · exact .inr (.inr rfl)
        · exact ih (i + 1)
  unfold RSt.access
  split
  · exact .inr (.inl rfl)
  · split
    · exact .inl rfl
    · split
      · rcases aux n.toNat 0 with h | h | h
        · exact .inl h
        · exact .inr (.inr (.inr (.inl h)))
        · exact .inr (.inr (.inr (.inr h)))
      · exact .inr (.inr (.inl rfl))

set_option maxRecDepth 100000 in
set_option maxHeartbeats 3200000 in
theorem rexplain_any (p : Nat) (vc vl vm : Value) (R : RSt) (q n : Int) (w : World) (h : RRep w p vc vl vm R) (ho : ROk R) (q1 : q ≤ 9223372036854775807) :
    Calls Try.prog 88 #[.pointer (some ⟨p, 0, none⟩), .int .i64 q, .int .i64 n] w fun e w' => ∃ v, e = .returned (rptV (rexplain R q n) v) ∧ NearRel w (rexplain R q n).near v w' := by
  have HR := hide2 h
  have HO := hide2 ho
  clear h ho
  by_cases he : (R.access q n).1 = 6 ∨ (R.access q n).1 = 7
  · have HF : Hid (rexplain R q n = rlies R (R.access q n).1 (R.access q n).2 (q / 72057594037927936)) := if_pos he
    obtain ⟨ht, x0, x1⟩ := access_refused he
    have HTM := hide2 ht
    rw [HF.out]
    clear HF ht x0 x1
    obtain ⟨er, her⟩ : ∃ er, (R.access q n).1 = er := ⟨_, rfl⟩
    obtain ⟨ad, had⟩ : ∃ ad, (R.access q n).2 = ad := ⟨_, rfl⟩
    have HE := hide2 her
    have HA := hide2 had
    rw [her] at he ⊢
    rw [had]
    clear her had
    rcases he with rfl | rfl
    · obtain ⟨r, hr⟩ : ∃ r, rlies R 6 ad (q / 72057594037927936) = r := ⟨_, rfl⟩
      have HRP := hide2 hr
      rw [hr]
      clear hr
      go_enter Try.func88, Try.ntmps88
      go_wp2_with fail
      obtain ⟨wa, hwa⟩ : ∃ wa, wa = w.alloc (.cells (rptCells (Rpt.only 0) (.slice none 0 0)).toArray 64) := ⟨_, rfl⟩
      have hwa' := hwa
      simp only [rptCells, Rpt.only] at hwa'
      rw [← hwa']
      have HBA : Hid (Below w.heap.size w wa) := by show Below _ _ _; rw [hwa]; exact (Below.refl _ _).alloc (Nat.le_refl _) _
      have HRB : Hid (Blk wa w.heap.size 64 (rptCells (Rpt.only 0) (.slice none 0 0))) := by show Blk _ _ _ _; rw [hwa]; exact Blk.alloc _ _ _
      obtain ⟨rb, hrb⟩ : ∃ rb, rb = w.heap.size := ⟨_, rfl⟩
      rw [← hrb] at HRB ⊢
      have hrbw : w.heap.size ≤ rb := by omega
      have hrl := HRB.out.lt
      clear hwa hwa' hrb
      refine (raccess_any p vc vl vm R q n wa (HR.out.below HBA.out) HO.out q1).mono ?_
      rw [HE.out, HA.out]
      rintro e1 w1 ⟨rfl, hb1⟩
      have HB1 : Hid (Below w.heap.size w w1) := HBA.out.trans (hb1.mono HBA.out.size)
      have HR1 := hide2 (HRB.out.below hb1 hrl)
      have hrl1 := HR1.out.lt
      clear hb1 HRB HBA hrl
      go_wp2_with fail
      refine (tame_yes q w1 q1 HTM.out).mono ?_
      rintro e2 w2 ⟨rfl, rfl⟩
      go_wp2_with fail
      refine (rlies_any p vc vl vm R 6 ad (q / 72057594037927936) w1 (HR.out.below HB1.out) HO.out).mono ?_
      rw [HRP.out]
      rintro e1 w2 ⟨v, rfl, hn⟩
      obtain ⟨na, ncap, hv, -, -, -⟩ := row_open hn.row
      subst hv
      have HN := hide2 hn
      have HR2 := hide2 (HR1.out.below hn.below hrl1)
      have HB2 : Hid (Below w.heap.size w w2) := HB1.out.trans (hn.below.mono HB1.out.size)
      have hrl2 := HR2.out.lt
      clear hn HR1
      unfold rptV rptCells
      have r0 := HR2.out.cell (j := 0) rfl
      have r1 := HR2.out.cell (j := 1) rfl
      have r2 := HR2.out.cell (j := 2) rfl
      have r3 := HR2.out.cell (j := 3) rfl
      have r4 := HR2.out.cell (j := 4) rfl
      have r5 := HR2.out.cell (j := 5) rfl
      have r6 := HR2.out.cell (j := 6) rfl
      have r7 := HR2.out.cell (j := 7) rfl
      have r8 := HR2.out.cell (j := 8) rfl
      have r9 := HR2.out.cell (j := 9) rfl
      have rf0 := HR2.out.frozen 0
      have rf1 := HR2.out.frozen 1
      have rf2 := HR2.out.frozen 2
      have rf3 := HR2.out.frozen 3
      have rf4 := HR2.out.frozen 4
      have rf5 := HR2.out.frozen 5
      have rf6 := HR2.out.frozen 6
      have rf7 := HR2.out.frozen 7
      have rf8 := HR2.out.frozen 8
      have rf9 := HR2.out.frozen 9
      clear HR2
      generalize hnl : r.near.length = nl at *
      go_wp2
      subst hnl
      refine bodyPost_ret (v := rptV r (.slice na r.near.length ncap)) (by simp [results, Try.results88, go_sem, rptV, rptCells, *]) rfl ⟨_, rfl, ?_⟩
      refine ⟨below_set10 HB2.out hrbw _ _ _ _ _ _ _ _ _ _, row_kept HN.out.row (fun b hb => ?_), fun b hb => ?_⟩
      · have := HN.out.vlo b hb
        rw [heap_set10 w2 (by omega)]
      · have := HN.out.vlo b hb
        have := HB1.out.size
        omega
    · obtain ⟨r, hr⟩ : ∃ r, rlies R 7 ad (q / 72057594037927936) = r := ⟨_, rfl⟩
      have HRP := hide2 hr
      rw [hr]
      clear hr
      go_enter Try.func88, Try.ntmps88
      go_wp2_with fail
      obtain ⟨wa, hwa⟩ : ∃ wa, wa = w.alloc (.cells (rptCells (Rpt.only 0) (.slice none 0 0)).toArray 64) := ⟨_, rfl⟩
      have hwa' := hwa
      simp only [rptCells, Rpt.only] at hwa'
      rw [← hwa']
      have HBA : Hid (Below w.heap.size w wa) := by show Below _ _ _; rw [hwa]; exact (Below.refl _ _).alloc (Nat.le_refl _) _
      have HRB : Hid (Blk wa w.heap.size 64 (rptCells (Rpt.only 0) (.slice none 0 0))) := by show Blk _ _ _ _; rw [hwa]; exact Blk.alloc _ _ _
      obtain ⟨rb, hrb⟩ : ∃ rb, rb = w.heap.size := ⟨_, rfl⟩
      rw [← hrb] at HRB ⊢
      have hrbw : w.heap.size ≤ rb := by omega
      have hrl := HRB.out.lt
      clear hwa hwa' hrb
      refine (raccess_any p vc vl vm R q n wa (HR.out.below HBA.out) HO.out q1).mono ?_
      rw [HE.out, HA.out]
      rintro e1 w1 ⟨rfl, hb1⟩
      have HB1 : Hid (Below w.heap.size w w1) := HBA.out.trans (hb1.mono HBA.out.size)
      have HR1 := hide2 (HRB.out.below hb1 hrl)
      have hrl1 := HR1.out.lt
      clear hb1 HRB HBA hrl
      go_wp2_with fail
      refine (tame_yes q w1 q1 HTM.out).mono ?_
      rintro e2 w2 ⟨rfl, rfl⟩
      go_wp2_with fail
      refine (rlies_any p vc vl vm R 7 ad (q / 72057594037927936) w1 (HR.out.below HB1.out) HO.out).mono ?_
      rw [HRP.out]
      rintro e1 w2 ⟨v, rfl, hn⟩
      obtain ⟨na, ncap, hv, -, -, -⟩ := row_open hn.row
      subst hv
      have HN := hide2 hn
      have HR2 := hide2 (HR1.out.below hn.below hrl1)
      have HB2 : Hid (Below w.heap.size w w2) := HB1.out.trans (hn.below.mono HB1.out.size)
      have hrl2 := HR2.out.lt
      clear hn HR1
      unfold rptV rptCells
      have r0 := HR2.out.cell (j := 0) rfl
      have r1 := HR2.out.cell (j := 1) rfl
      have r2 := HR2.out.cell (j := 2) rfl
      have r3 := HR2.out.cell (j := 3) rfl
      have r4 := HR2.out.cell (j := 4) rfl
      have r5 := HR2.out.cell (j := 5) rfl
      have r6 := HR2.out.cell (j := 6) rfl
      have r7 := HR2.out.cell (j := 7) rfl
      have r8 := HR2.out.cell (j := 8) rfl
      have r9 := HR2.out.cell (j := 9) rfl
      have rf0 := HR2.out.frozen 0
      have rf1 := HR2.out.frozen 1
      have rf2 := HR2.out.frozen 2
      have rf3 := HR2.out.frozen 3
      have rf4 := HR2.out.frozen 4
      have rf5 := HR2.out.frozen 5
      have rf6 := HR2.out.frozen 6
      have rf7 := HR2.out.frozen 7
      have rf8 := HR2.out.frozen 8
      have rf9 := HR2.out.frozen 9
      clear HR2
      generalize hnl : r.near.length = nl at *
      go_wp2
      subst hnl
      refine bodyPost_ret (v := rptV r (.slice na r.near.length ncap)) (by simp [results, Try.results88, go_sem, rptV, rptCells, *]) rfl ⟨_, rfl, ?_⟩
      refine ⟨below_set10 HB2.out hrbw _ _ _ _ _ _ _ _ _ _, row_kept HN.out.row (fun b hb => ?_), fun b hb => ?_⟩
      · have := HN.out.vlo b hb
        rw [heap_set10 w2 (by omega)]
      · have := HN.out.vlo b hb
        have := HB1.out.size
        omega
  · have HF : Hid (rexplain R q n = Rpt.only (R.access q n).1) := if_neg he
    have hes := access_errs R q n
    rw [HF.out]
    clear HF
    obtain ⟨er, her⟩ : ∃ er, (R.access q n).1 = er := ⟨_, rfl⟩
    have HE := hide2 her
    rw [her] at he hes ⊢
    have hes2 : er = 0 ∨ er = 2 ∨ er = 5 := by omega
    clear her he hes
    rcases hes2 with rfl | rfl | rfl
    · go_enter Try.func88, Try.ntmps88
      go_wp2_with fail
      obtain ⟨wa, hwa⟩ : ∃ wa, wa = w.alloc (.cells (rptCells (Rpt.only 0) (.slice none 0 0)).toArray 64) := ⟨_, rfl⟩
      have hwa' := hwa
      simp only [rptCells, Rpt.only] at hwa'
      rw [← hwa']
      have HBA : Hid (Below w.heap.size w wa) := by show Below _ _ _; rw [hwa]; exact (Below.refl _ _).alloc (Nat.le_refl _) _
      have HRB : Hid (Blk wa w.heap.size 64 (rptCells (Rpt.only 0) (.slice none 0 0))) := by show Blk _ _ _ _; rw [hwa]; exact Blk.alloc _ _ _
      obtain ⟨rb, hrb⟩ : ∃ rb, rb = w.heap.size := ⟨_, rfl⟩
      rw [← hrb] at HRB ⊢
      have hrbw : w.heap.size ≤ rb := by omega
      have hrl := HRB.out.lt
      clear hwa hwa' hrb
      refine (raccess_any p vc vl vm R q n wa (HR.out.below HBA.out) HO.out q1).mono ?_
      rw [HE.out]
      rintro e1 w1 ⟨rfl, hb1⟩
      have HB1 : Hid (Below w.heap.size w w1) := HBA.out.trans (hb1.mono HBA.out.size)
      have HR1 := hide2 (HRB.out.below hb1 hrl)
      have hrl1 := HR1.out.lt
      clear hb1 HRB HBA hrl
      have r0 := HR1.out.cell (j := 0) rfl
      have r1 := HR1.out.cell (j := 1) rfl
      have r2 := HR1.out.cell (j := 2) rfl
      have r3 := HR1.out.cell (j := 3) rfl
      have r4 := HR1.out.cell (j := 4) rfl
      have r5 := HR1.out.cell (j := 5) rfl
      have r6 := HR1.out.cell (j := 6) rfl
      have r7 := HR1.out.cell (j := 7) rfl
      have r8 := HR1.out.cell (j := 8) rfl
      have r9 := HR1.out.cell (j := 9) rfl
      have rf0 := HR1.out.frozen 0
      have rf1 := HR1.out.frozen 1
      have rf2 := HR1.out.frozen 2
      have rf3 := HR1.out.frozen 3
      have rf4 := HR1.out.frozen 4
      have rf5 := HR1.out.frozen 5
      have rf6 := HR1.out.frozen 6
      have rf7 := HR1.out.frozen 7
      have rf8 := HR1.out.frozen 8
      have rf9 := HR1.out.frozen 9
      clear HR1
      go_wp2
      refine bodyPost_ret (v := rptV (Rpt.only 0) (.slice none 0 0)) (by simp [results, Try.results88, go_sem, rptV, rptCells, Rpt.only, *]) rfl ⟨_, rfl, ?_⟩
      exact ⟨below_set10 HB1.out hrbw _ _ _ _ _ _ _ _ _ _, World.ownsRow_nil _ _ _ _, nofun⟩
    · go_enter Try.func88, Try.ntmps88
      go_wp2_with fail
      obtain ⟨wa, hwa⟩ : ∃ wa, wa = w.alloc (.cells (rptCells (Rpt.only 0) (.slice none 0 0)).toArray 64) := ⟨_, rfl⟩
      have hwa' := hwa
      simp only [rptCells, Rpt.only] at hwa'
      rw [← hwa']
      have HBA : Hid (Below w.heap.size w wa) := by show Below _ _ _; rw [hwa]; exact (Below.refl _ _).alloc (Nat.le_refl _) _
      have HRB : Hid (Blk wa w.heap.size 64 (rptCells (Rpt.only 0) (.slice none 0 0))) := by show Blk _ _ _ _; rw [hwa]; exact Blk.alloc _ _ _
      obtain ⟨rb, hrb⟩ : ∃ rb, rb = w.heap.size := ⟨_, rfl⟩
      rw [← hrb] at HRB ⊢
      have hrbw : w.heap.size ≤ rb := by omega
      have hrl := HRB.out.lt
      clear hwa hwa' hrb
      refine (raccess_any p vc vl vm R q n wa (HR.out.below HBA.out) HO.out q1).mono ?_
      rw [HE.out]
      rintro e1 w1 ⟨rfl, hb1⟩
      have HB1 : Hid (Below w.heap.size w w1) := HBA.out.trans (hb1.mono HBA.out.size)
      have HR1 := hide2 (HRB.out.below hb1 hrl)
      have hrl1 := HR1.out.lt
      clear hb1 HRB HBA hrl
      have r0 := HR1.out.cell (j := 0) rfl
      have r1 := HR1.out.cell (j := 1) rfl
      have r2 := HR1.out.cell (j := 2) rfl
      have r3 := HR1.out.cell (j := 3) rfl
      have r4 := HR1.out.cell (j := 4) rfl
      have r5 := HR1.out.cell (j := 5) rfl
      have r6 := HR1.out.cell (j := 6) rfl
      have r7 := HR1.out.cell (j := 7) rfl
      have r8 := HR1.out.cell (j := 8) rfl
      have r9 := HR1.out.cell (j := 9) rfl
      have rf0 := HR1.out.frozen 0
      have rf1 := HR1.out.frozen 1
      have rf2 := HR1.out.frozen 2
      have rf3 := HR1.out.frozen 3
      have rf4 := HR1.out.frozen 4
      have rf5 := HR1.out.frozen 5
      have rf6 := HR1.out.frozen 6
      have rf7 := HR1.out.frozen 7
      have rf8 := HR1.out.frozen 8
      have rf9 := HR1.out.frozen 9
      clear HR1
      go_wp2
      refine bodyPost_ret (v := rptV (Rpt.only 2) (.slice none 0 0)) (by simp [results, Try.results88, go_sem, rptV, rptCells, Rpt.only, *]) rfl ⟨_, rfl, ?_⟩
      exact ⟨below_set10 HB1.out hrbw _ _ _ _ _ _ _ _ _ _, World.ownsRow_nil _ _ _ _, nofun⟩
    · go_enter Try.func88, Try.ntmps88
      go_wp2_with fail
      obtain ⟨wa, hwa⟩ : ∃ wa, wa = w.alloc (.cells (rptCells (Rpt.only 0) (.slice none 0 0)).toArray 64) := ⟨_, rfl⟩
      have hwa' := hwa
      simp only [rptCells, Rpt.only] at hwa'
      rw [← hwa']
      have HBA : Hid (Below w.heap.size w wa) := by show Below _ _ _; rw [hwa]; exact (Below.refl _ _).alloc (Nat.le_refl _) _
      have HRB : Hid (Blk wa w.heap.size 64 (rptCells (Rpt.only 0) (.slice none 0 0))) := by show Blk _ _ _ _; rw [hwa]; exact Blk.alloc _ _ _
      obtain ⟨rb, hrb⟩ : ∃ rb, rb = w.heap.size := ⟨_, rfl⟩
      rw [← hrb] at HRB ⊢
      have hrbw : w.heap.size ≤ rb := by omega
      have hrl := HRB.out.lt
      clear hwa hwa' hrb
      refine (raccess_any p vc vl vm R q n wa (HR.out.below HBA.out) HO.out q1).mono ?_
      rw [HE.out]
      rintro e1 w1 ⟨rfl, hb1⟩
      have HB1 : Hid (Below w.heap.size w w1) := HBA.out.trans (hb1.mono HBA.out.size)
      have HR1 := hide2 (HRB.out.below hb1 hrl)
      have hrl1 := HR1.out.lt
      clear hb1 HRB HBA hrl
      have r0 := HR1.out.cell (j := 0) rfl
      have r1 := HR1.out.cell (j := 1) rfl
      have r2 := HR1.out.cell (j := 2) rfl
      have r3 := HR1.out.cell (j := 3) rfl
      have r4 := HR1.out.cell (j := 4) rfl
      have r5 := HR1.out.cell (j := 5) rfl
      have r6 := HR1.out.cell (j := 6) rfl
      have r7 := HR1.out.cell (j := 7) rfl
      have r8 := HR1.out.cell (j := 8) rfl
      have r9 := HR1.out.cell (j := 9) rfl
      have rf0 := HR1.out.frozen 0
      have rf1 := HR1.out.frozen 1
      have rf2 := HR1.out.frozen 2
      have rf3 := HR1.out.frozen 3
      have rf4 := HR1.out.frozen 4
      have rf5 := HR1.out.frozen 5
      have rf6 := HR1.out.frozen 6
      have rf7 := HR1.out.frozen 7
      have rf8 := HR1.out.frozen 8
      have rf9 := HR1.out.frozen 9
      clear HR1
      go_wp2
      refine bodyPost_ret (v := rptV (Rpt.only 5) (.slice none 0 0)) (by simp [results, Try.results88, go_sem, rptV, rptCells, Rpt.only, *]) rfl ⟨_, rfl, ?_⟩
      exact ⟨below_set10 HB1.out hrbw _ _ _ _ _ _ _ _ _ _, World.ownsRow_nil _ _ _ _, nofun⟩

set_option maxRecDepth 100000 in
set_option maxHeartbeats 3200000 in
theorem rblame_any (p : Nat) (vc vl vm : Value) (R : RSt) (q : Int) (w : World) (h : RRep w p vc vl vm R) (ho : ROk R) (q1 : q ≤ 9223372036854775807) :
    Calls Try.prog 91 #[.pointer (some ⟨p, 0, none⟩), .int .i64 q] w fun e w' => ∃ v, e = .returned (rptV (rblame R q) v) ∧ NearRel w (rblame R q).near v w' := by
  have HR := hide2 h
  have HO := hide2 ho
  clear h ho
  by_cases he : (Ref.block R.st R.cls R.log q).2.2 = 0 ∨ (Ref.block R.st R.cls R.log q).2.2 = 5
  · have HF : Hid (rblame R q = Rpt.only (Ref.block R.st R.cls R.log q).2.2) := if_pos he
    rw [HF.out]
    clear HF
    obtain ⟨er, her⟩ : ∃ er, (Ref.block R.st R.cls R.log q).2.2 = er := ⟨_, rfl⟩
    have HE := hide2 her
    rw [her] at he ⊢
    clear her
    rcases he with rfl | rfl
    · go_enter Try.func91, Try.ntmps91
      go_wp2_with fail
      obtain ⟨wa, hwa⟩ : ∃ wa, wa = w.alloc (.cells (rptCells (Rpt.only 0) (.slice none 0 0)).toArray 64) := ⟨_, rfl⟩
      have hwa' := hwa
      simp only [rptCells, Rpt.only] at hwa'
      rw [← hwa']
      have HBA : Hid (Below w.heap.size w wa) := by show Below _ _ _; rw [hwa]; exact (Below.refl _ _).alloc (Nat.le_refl _) _
      have HRB : Hid (Blk wa w.heap.size 64 (rptCells (Rpt.only 0) (.slice none 0 0))) := by show Blk _ _ _ _; rw [hwa]; exact Blk.alloc _ _ _
      obtain ⟨rb, hrb⟩ : ∃ rb, rb = w.heap.size := ⟨_, rfl⟩
      rw [← hrb] at HRB ⊢
      have hrbw : w.heap.size ≤ rb := by omega
      have hrl := HRB.out.lt
      clear hwa hwa' hrb
      refine (rblock_any p vc vl vm R q wa (HR.out.below HBA.out) HO.out q1).mono ?_
      rw [HE.out]
      rintro e1 w1 ⟨rfl, hb1⟩
      have HB1 : Hid (Below w.heap.size w w1) := HBA.out.trans (hb1.mono HBA.out.size)
      have HR1 := hide2 (HRB.out.below hb1 hrl)
      have hrl1 := HR1.out.lt
      clear hb1 HRB HBA hrl
      have r0 := HR1.out.cell (j := 0) rfl
      have r1 := HR1.out.cell (j := 1) rfl
      have r2 := HR1.out.cell (j := 2) rfl
      have r3 := HR1.out.cell (j := 3) rfl
      have r4 := HR1.out.cell (j := 4) rfl
      have r5 := HR1.out.cell (j := 5) rfl
      have r6 := HR1.out.cell (j := 6) rfl
      have r7 := HR1.out.cell (j := 7) rfl
      have r8 := HR1.out.cell (j := 8) rfl
      have r9 := HR1.out.cell (j := 9) rfl
      have rf0 := HR1.out.frozen 0
      have rf1 := HR1.out.frozen 1
      have rf2 := HR1.out.frozen 2
      have rf3 := HR1.out.frozen 3
      have rf4 := HR1.out.frozen 4
      have rf5 := HR1.out.frozen 5
      have rf6 := HR1.out.frozen 6
      have rf7 := HR1.out.frozen 7
      have rf8 := HR1.out.frozen 8
      have rf9 := HR1.out.frozen 9
      clear HR1
      go_wp2
      refine bodyPost_ret (v := rptV (Rpt.only 0) (.slice none 0 0)) (by simp [results, Try.results91, go_sem, rptV, rptCells, Rpt.only, *]) rfl ⟨_, rfl, ?_⟩
      exact ⟨below_set10 HB1.out hrbw _ _ _ _ _ _ _ _ _ _, World.ownsRow_nil _ _ _ _, nofun⟩
    · go_enter Try.func91, Try.ntmps91
      go_wp2_with fail
      obtain ⟨wa, hwa⟩ : ∃ wa, wa = w.alloc (.cells (rptCells (Rpt.only 0) (.slice none 0 0)).toArray 64) := ⟨_, rfl⟩
      have hwa' := hwa
      simp only [rptCells, Rpt.only] at hwa'
      rw [← hwa']
      have HBA : Hid (Below w.heap.size w wa) := by show Below _ _ _; rw [hwa]; exact (Below.refl _ _).alloc (Nat.le_refl _) _
      have HRB : Hid (Blk wa w.heap.size 64 (rptCells (Rpt.only 0) (.slice none 0 0))) := by show Blk _ _ _ _; rw [hwa]; exact Blk.alloc _ _ _
      obtain ⟨rb, hrb⟩ : ∃ rb, rb = w.heap.size := ⟨_, rfl⟩
      rw [← hrb] at HRB ⊢
      have hrbw : w.heap.size ≤ rb := by omega
      have hrl := HRB.out.lt
      clear hwa hwa' hrb
      refine (rblock_any p vc vl vm R q wa (HR.out.below HBA.out) HO.out q1).mono ?_
      rw [HE.out]
      rintro e1 w1 ⟨rfl, hb1⟩
      have HB1 : Hid (Below w.heap.size w w1) := HBA.out.trans (hb1.mono HBA.out.size)
      have HR1 := hide2 (HRB.out.below hb1 hrl)
      have hrl1 := HR1.out.lt
      clear hb1 HRB HBA hrl
      have r0 := HR1.out.cell (j := 0) rfl
      have r1 := HR1.out.cell (j := 1) rfl
      have r2 := HR1.out.cell (j := 2) rfl
      have r3 := HR1.out.cell (j := 3) rfl
      have r4 := HR1.out.cell (j := 4) rfl
      have r5 := HR1.out.cell (j := 5) rfl
      have r6 := HR1.out.cell (j := 6) rfl
      have r7 := HR1.out.cell (j := 7) rfl
      have r8 := HR1.out.cell (j := 8) rfl
      have r9 := HR1.out.cell (j := 9) rfl
      have rf0 := HR1.out.frozen 0
      have rf1 := HR1.out.frozen 1
      have rf2 := HR1.out.frozen 2
      have rf3 := HR1.out.frozen 3
      have rf4 := HR1.out.frozen 4
      have rf5 := HR1.out.frozen 5
      have rf6 := HR1.out.frozen 6
      have rf7 := HR1.out.frozen 7
      have rf8 := HR1.out.frozen 8
      have rf9 := HR1.out.frozen 9
      clear HR1
      go_wp2
      refine bodyPost_ret (v := rptV (Rpt.only 5) (.slice none 0 0)) (by simp [results, Try.results91, go_sem, rptV, rptCells, Rpt.only, *]) rfl ⟨_, rfl, ?_⟩
      exact ⟨below_set10 HB1.out hrbw _ _ _ _ _ _ _ _ _ _, World.ownsRow_nil _ _ _ _, nofun⟩
  · have HF : Hid (rblame R q = rlies R (Ref.block R.st R.cls R.log q).2.2 (q % 72057594037927936) (q / 72057594037927936)) := if_neg he
    have ht : Ref.tameB q = true := by
      cases ht : Ref.tameB q
      · exact absurd (.inr (by unfold Ref.block; rw [ht]; rfl)) he
      · rfl
    have HTM := hide2 ht
    rw [HF.out]
    clear HF ht
    obtain ⟨er, her⟩ : ∃ er, (Ref.block R.st R.cls R.log q).2.2 = er := ⟨_, rfl⟩
    have HE := hide2 her
    rw [her] at he ⊢
    have h0b : (er == 0) = false := by rw [beq_eq_false_iff_ne]; omega
    have h5b : (er == 5) = false := by rw [beq_eq_false_iff_ne]; omega
    clear her he
    obtain ⟨r, hr⟩ : ∃ r, rlies R er (q % 72057594037927936) (q / 72057594037927936) = r := ⟨_, rfl⟩
    have HRP := hide2 hr
    rw [hr]
    clear hr
    go_enter Try.func91, Try.ntmps91
    go_wp2_with fail
    obtain ⟨wa, hwa⟩ : ∃ wa, wa = w.alloc (.cells (rptCells (Rpt.only 0) (.slice none 0 0)).toArray 64) := ⟨_, rfl⟩
    have hwa' := hwa
    simp only [rptCells, Rpt.only] at hwa'
    rw [← hwa']
    have HBA : Hid (Below w.heap.size w wa) := by show Below _ _ _; rw [hwa]; exact (Below.refl _ _).alloc (Nat.le_refl _) _
    have HRB : Hid (Blk wa w.heap.size 64 (rptCells (Rpt.only 0) (.slice none 0 0))) := by show Blk _ _ _ _; rw [hwa]; exact Blk.alloc _ _ _
    obtain ⟨rb, hrb⟩ : ∃ rb, rb = w.heap.size := ⟨_, rfl⟩
    rw [← hrb] at HRB ⊢
    have hrbw : w.heap.size ≤ rb := by omega
    have hrl := HRB.out.lt
    clear hwa hwa' hrb
    refine (rblock_any p vc vl vm R q wa (HR.out.below HBA.out) HO.out q1).mono ?_
    rw [HE.out]
    rintro e1 w1 ⟨rfl, hb1⟩
    have HB1 : Hid (Below w.heap.size w w1) := HBA.out.trans (hb1.mono HBA.out.size)
    have HR1 := hide2 (HRB.out.below hb1 hrl)
    have hrl1 := HR1.out.lt
    clear hb1 HRB HBA hrl
    go_wp2_with fail
    refine (tame_yes q w1 q1 HTM.out).mono ?_
    rintro e2 w2 ⟨rfl, rfl⟩
    go_wp2_with fail
    refine (rlies_any p vc vl vm R er (q % 72057594037927936) (q / 72057594037927936) w1 (HR.out.below HB1.out) HO.out).mono ?_
    rw [HRP.out]
    rintro e1 w2 ⟨v, rfl, hn⟩
    obtain ⟨na, ncap, hv, -, -, -⟩ := row_open hn.row
    subst hv
    have HN := hide2 hn
    have HR2 := hide2 (HR1.out.below hn.below hrl1)
    have HB2 : Hid (Below w.heap.size w w2) := HB1.out.trans (hn.below.mono HB1.out.size)
    have hrl2 := HR2.out.lt
    clear hn HR1
    unfold rptV rptCells
    have r0 := HR2.out.cell (j := 0) rfl
    have r1 := HR2.out.cell (j := 1) rfl
    have r2 := HR2.out.cell (j := 2) rfl
    have r3 := HR2.out.cell (j := 3) rfl
    have r4 := HR2.out.cell (j := 4) rfl
    have r5 := HR2.out.cell (j := 5) rfl
    have r6 := HR2.out.cell (j := 6) rfl
    have r7 := HR2.out.cell (j := 7) rfl
    have r8 := HR2.out.cell (j := 8) rfl
    have r9 := HR2.out.cell (j := 9) rfl
    have rf0 := HR2.out.frozen 0
    have rf1 := HR2.out.frozen 1
    have rf2 := HR2.out.frozen 2
    have rf3 := HR2.out.frozen 3
    have rf4 := HR2.out.frozen 4
    have rf5 := HR2.out.frozen 5
    have rf6 := HR2.out.frozen 6
    have rf7 := HR2.out.frozen 7
    have rf8 := HR2.out.frozen 8
    have rf9 := HR2.out.frozen 9
    clear HR2
    generalize hnl : r.near.length = nl at *
    go_wp2
    subst hnl
    refine bodyPost_ret (v := rptV r (.slice na r.near.length ncap)) (by simp [results, Try.results91, go_sem, rptV, rptCells, *]) rfl ⟨_, rfl, ?_⟩
    refine ⟨below_set10 HB2.out hrbw _ _ _ _ _ _ _ _ _ _, row_kept HN.out.row (fun b hb => ?_), fun b hb => ?_⟩
    · have := HN.out.vlo b hb
      rw [heap_set10 w2 (by omega)]
    · have := HN.out.vlo b hb
      have := HB1.out.size
      omega
end Go.Proofs.Ytjikemhmnkckcaa
