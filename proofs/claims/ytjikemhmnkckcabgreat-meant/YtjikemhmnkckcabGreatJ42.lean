import Derived.Test.YtjikemhmnkckcabGreatJ41
namespace Go.Proofs.YtjikemhmnkckcabGreat
open Go.RowKit
def gexplain (G : GSt) (R : RSt) (q n : Int) : Rpt :=
 if (R.access q n).1 = 6 ∨ (R.access q n).1 = 7 then grpt G R.cls (R.access q n).1 (R.access q n).2 (q / 72057594037927936) else Rpt.only (R.access q n).1
def gblame (G : GSt) (R : RSt) (q : Int) : Rpt :=
 if (gblock G R.cls q).2.2 = 0 ∨ (gblock G R.cls q).2.2 = 5 then Rpt.only (gblock G R.cls q).2.2 else grpt G R.cls (gblock G R.cls q).2.2 (q % 72057594037927936) (q / 72057594037927936)
theorem access_refused {R : RSt} {q n : Int} (h : (R.access q n).1 = 6 ∨ (R.access q n).1 = 7) : Ref.tameB q = true ∧ 0 ≤ (R.access q n).2 ∧ (R.access q n).2 ≤ 200000 := by
 unfold RSt.access at h ⊢
 by_cases ha : n < 0 ∨ 65536 < n
 ·rw [if_pos ha] at h; simp at h
 ·rw [if_neg ha] at h ⊢
  by_cases hz : n = 0
  ·rw [if_pos hz] at h; simp at h
  ·rw [if_neg hz] at h ⊢
   cases ht : Ref.tameB q
   ·rw [ht] at h; simp at h
   ·rw [ht, if_pos rfl] at h;rw [if_pos rfl];refine ⟨rfl, ?_⟩;have htm := (tame_iff q).1 ht
    have aux : ∀ f i : Nat, (Ref.accFrom R.tag (q / 72057594037927936) (q % 72057594037927936) f i).1 ≠ 0 → 0 ≤ (Ref.accFrom R.tag (q / 72057594037927936) (q % 72057594037927936) f i).2 ∧ (Ref.accFrom R.tag (q / 72057594037927936) (q % 72057594037927936) f i).2 ≤ q % 72057594037927936 + i + f := by
     intro f
     induction f with
     | zero => intro i h; simp [Ref.accFrom] at h
     | succ f ih =>
       intro i h;simp only [Ref.accFrom] at h ⊢
       split
       ·simp only; omega
       ·split
        ·simp only; omega
        ·rename_i h1 h2
         rw [if_neg h1, if_neg h2] at h;have := ih (i + 1) h;omega
    have := aux n.toNat 0 (by omega);omega
set_option maxRecDepth 100000 in
set_option maxHeartbeats 3200000 in
theorem gexplain_any (p : Nat) (vc : Value) (bb : Nat) (G : GSt) (R : RSt) (q n : Int) (w : World) (h : GRep w p vc bb G) (hs : Sim G R) (q1 : q ≤ 9223372036854775807) :
 Calls Tryz.prog 146 #[.pointer (some ⟨p, 0, none⟩), .int .i64 q, .int .i64 n] w fun e w' => ∃ v, e = .returned (rptV (gexplain G R q n) v) ∧ NearRel w (gexplain G R q n).near v w' := by
 have HR := hide2 h;have HS := hide2 hs;clear h hs
 by_cases he : (R.access q n).1 = 6 ∨ (R.access q n).1 = 7
 ·have HF : Hid (gexplain G R q n = grpt G R.cls (R.access q n).1 (R.access q n).2 (q / 72057594037927936)) := if_pos he;obtain ⟨ht, x0, x1⟩ := access_refused he;have q0 : 0 ≤ q := ((tame_iff q).1 ht).1;rw [HF.out];clear HF ht;obtain ⟨er, her⟩ : ∃ er, (R.access q n).1 = er := ⟨_, rfl⟩
  obtain ⟨ad, had⟩ : ∃ ad, (R.access q n).2 = ad := ⟨_, rfl⟩
  have HE := hide2 her;have HA := hide2 had;rw [her] at he ⊢;rw [had] at x0 x1 ⊢;clear her had
  rcases he with rfl | rfl
  ·obtain ⟨r, hr⟩ : ∃ r, grpt G R.cls 6 ad (q / 72057594037927936) = r := ⟨_, rfl⟩
   have HRP := hide2 hr;rw [hr];clear hr;go_enter Tryz.func146, Tryz.ntmps146
   go_wp2_with fail
   obtain ⟨wa, hwa⟩ : ∃ wa, wa = w.alloc (.cells (rptCells (Rpt.only 0) (.slice none 0 0)).toArray 26) := ⟨_, rfl⟩
   have hwa' := hwa;simp only [rptCells, Rpt.only] at hwa';rw [← hwa'];have HBA : Hid (Below w.heap.size w wa) := by show Below _ _ _; rw [hwa]; exact (Below.refl _ _).alloc (Nat.le_refl _) _
   have HRB : Hid (Blk wa w.heap.size 26 (rptCells (Rpt.only 0) (.slice none 0 0))) := by show Blk _ _ _ _; rw [hwa]; exact Blk.alloc _ _ _
   obtain ⟨rb, hrb⟩ : ∃ rb, rb = w.heap.size := ⟨_, rfl⟩
   rw [← hrb] at HRB ⊢;have hrbw : w.heap.size ≤ rb := by omega
   have hrl := HRB.out.lt;clear hwa hwa' hrb;refine (gdecide_any p vc bb G R q n wa (HR.out.below HBA.out) HS.out q1).mono ?_;rw [HE.out, HA.out];rintro e1 w1 ⟨rfl, hb1⟩;have HB1 : Hid (Below w.heap.size w w1) := HBA.out.trans (hb1.mono HBA.out.size);have HR1 := hide2 (HRB.out.below hb1 hrl);have hrl1 := HR1.out.lt;clear hb1 HRB HBA hrl
   go_wp2_with fail
   refine (report_any p vc bb G R.rest R.cls 6 ad (q / 72057594037927936) w1 (HR.out.below HB1.out) HS.out.ok HS.out.bd (by omega) (by omega)).mono ?_;rw [HRP.out];rintro e1 w2 ⟨v, rfl, hn⟩;obtain ⟨na, ncap, hv, -, -, -⟩ := row_open hn.row;subst hv;have HN := hide2 hn;have HR2 := hide2 (HR1.out.below hn.below hrl1);have HB2 : Hid (Below w.heap.size w w2) := HB1.out.trans (hn.below.mono HB1.out.size);have hrl2 := HR2.out.lt;clear hn HR1;unfold rptV rptCells;have r0 := HR2.out.cell (j := 0) rfl;have r1 := HR2.out.cell (j := 1) rfl;have r2 := HR2.out.cell (j := 2) rfl;have r3 := HR2.out.cell (j := 3) rfl;have r4 := HR2.out.cell (j := 4) rfl;have r5 := HR2.out.cell (j := 5) rfl;have r6 := HR2.out.cell (j := 6) rfl;have r7 := HR2.out.cell (j := 7) rfl;have r8 := HR2.out.cell (j := 8) rfl;have r9 := HR2.out.cell (j := 9) rfl;have rf0 := HR2.out.frozen 0;have rf1 := HR2.out.frozen 1;have rf2 := HR2.out.frozen 2;have rf3 := HR2.out.frozen 3;have rf4 := HR2.out.frozen 4;have rf5 := HR2.out.frozen 5;have rf6 := HR2.out.frozen 6;have rf7 := HR2.out.frozen 7;have rf8 := HR2.out.frozen 8;have rf9 := HR2.out.frozen 9;clear HR2;generalize hnl : r.near.length = nl at *;go_wp2;subst hnl;refine bodyPost_ret (v := rptV r (.slice na r.near.length ncap)) (by simp [results, Tryz.results146, go_sem, rptV, rptCells, *]) rfl ⟨_, rfl, ?_⟩;refine ⟨below_set10 HB2.out hrbw _ _ _ _ _ _ _ _ _ _, row_kept HN.out.row (fun b hb => ?_), fun b hb => ?_⟩
   ·have := HN.out.vlo b hb;rw [heap_set10 w2 (by omega)]
   ·have := HN.out.vlo b hb;have := HB1.out.size;omega
  ·obtain ⟨r, hr⟩ : ∃ r, grpt G R.cls 7 ad (q / 72057594037927936) = r := ⟨_, rfl⟩
   have HRP := hide2 hr;rw [hr];clear hr;go_enter Tryz.func146, Tryz.ntmps146
   go_wp2_with fail
   obtain ⟨wa, hwa⟩ : ∃ wa, wa = w.alloc (.cells (rptCells (Rpt.only 0) (.slice none 0 0)).toArray 26) := ⟨_, rfl⟩
   have hwa' := hwa;simp only [rptCells, Rpt.only] at hwa';rw [← hwa'];have HBA : Hid (Below w.heap.size w wa) := by show Below _ _ _; rw [hwa]; exact (Below.refl _ _).alloc (Nat.le_refl _) _
   have HRB : Hid (Blk wa w.heap.size 26 (rptCells (Rpt.only 0) (.slice none 0 0))) := by show Blk _ _ _ _; rw [hwa]; exact Blk.alloc _ _ _
   obtain ⟨rb, hrb⟩ : ∃ rb, rb = w.heap.size := ⟨_, rfl⟩
   rw [← hrb] at HRB ⊢;have hrbw : w.heap.size ≤ rb := by omega
   have hrl := HRB.out.lt;clear hwa hwa' hrb;refine (gdecide_any p vc bb G R q n wa (HR.out.below HBA.out) HS.out q1).mono ?_;rw [HE.out, HA.out];rintro e1 w1 ⟨rfl, hb1⟩;have HB1 : Hid (Below w.heap.size w w1) := HBA.out.trans (hb1.mono HBA.out.size);have HR1 := hide2 (HRB.out.below hb1 hrl);have hrl1 := HR1.out.lt;clear hb1 HRB HBA hrl
   go_wp2_with fail
   refine (report_any p vc bb G R.rest R.cls 7 ad (q / 72057594037927936) w1 (HR.out.below HB1.out) HS.out.ok HS.out.bd (by omega) (by omega)).mono ?_;rw [HRP.out];rintro e1 w2 ⟨v, rfl, hn⟩;obtain ⟨na, ncap, hv, -, -, -⟩ := row_open hn.row;subst hv;have HN := hide2 hn;have HR2 := hide2 (HR1.out.below hn.below hrl1);have HB2 : Hid (Below w.heap.size w w2) := HB1.out.trans (hn.below.mono HB1.out.size);have hrl2 := HR2.out.lt;clear hn HR1;unfold rptV rptCells;have r0 := HR2.out.cell (j := 0) rfl;have r1 := HR2.out.cell (j := 1) rfl;have r2 := HR2.out.cell (j := 2) rfl;have r3 := HR2.out.cell (j := 3) rfl;have r4 := HR2.out.cell (j := 4) rfl;have r5 := HR2.out.cell (j := 5) rfl;have r6 := HR2.out.cell (j := 6) rfl;have r7 := HR2.out.cell (j := 7) rfl;have r8 := HR2.out.cell (j := 8) rfl;have r9 := HR2.out.cell (j := 9) rfl;have rf0 := HR2.out.frozen 0;have rf1 := HR2.out.frozen 1;have rf2 := HR2.out.frozen 2;have rf3 := HR2.out.frozen 3;have rf4 := HR2.out.frozen 4;have rf5 := HR2.out.frozen 5;have rf6 := HR2.out.frozen 6;have rf7 := HR2.out.frozen 7;have rf8 := HR2.out.frozen 8;have rf9 := HR2.out.frozen 9;clear HR2;generalize hnl : r.near.length = nl at *;go_wp2;subst hnl;refine bodyPost_ret (v := rptV r (.slice na r.near.length ncap)) (by simp [results, Tryz.results146, go_sem, rptV, rptCells, *]) rfl ⟨_, rfl, ?_⟩;refine ⟨below_set10 HB2.out hrbw _ _ _ _ _ _ _ _ _ _, row_kept HN.out.row (fun b hb => ?_), fun b hb => ?_⟩
   ·have := HN.out.vlo b hb;rw [heap_set10 w2 (by omega)]
   ·have := HN.out.vlo b hb;have := HB1.out.size;omega
 ·have HF : Hid (gexplain G R q n = Rpt.only (R.access q n).1) := if_neg he;rw [HF.out];clear HF;obtain ⟨er, her⟩ : ∃ er, (R.access q n).1 = er := ⟨_, rfl⟩
  have HE := hide2 her;rw [her] at he ⊢;have h6 : (er != 6) = true := by simp; omega
  have h7 : (er != 7) = true := by simp; omega
  clear her he;go_enter Tryz.func146, Tryz.ntmps146
  go_wp2_with fail
  obtain ⟨wa, hwa⟩ : ∃ wa, wa = w.alloc (.cells (rptCells (Rpt.only 0) (.slice none 0 0)).toArray 26) := ⟨_, rfl⟩
  have hwa' := hwa;simp only [rptCells, Rpt.only] at hwa';rw [← hwa'];have HBA : Hid (Below w.heap.size w wa) := by show Below _ _ _; rw [hwa]; exact (Below.refl _ _).alloc (Nat.le_refl _) _
  have HRB : Hid (Blk wa w.heap.size 26 (rptCells (Rpt.only 0) (.slice none 0 0))) := by show Blk _ _ _ _; rw [hwa]; exact Blk.alloc _ _ _
  obtain ⟨rb, hrb⟩ : ∃ rb, rb = w.heap.size := ⟨_, rfl⟩
  rw [← hrb] at HRB ⊢;have hrbw : w.heap.size ≤ rb := by omega
  have hrl := HRB.out.lt;clear hwa hwa' hrb;refine (gdecide_any p vc bb G R q n wa (HR.out.below HBA.out) HS.out q1).mono ?_;rw [HE.out];rintro e1 w1 ⟨rfl, hb1⟩;have HB1 : Hid (Below w.heap.size w w1) := HBA.out.trans (hb1.mono HBA.out.size);have HR1 := hide2 (HRB.out.below hb1 hrl);have hrl1 := HR1.out.lt;clear hb1 HRB HBA hrl;have r0 := HR1.out.cell (j := 0) rfl;have r1 := HR1.out.cell (j := 1) rfl;have r2 := HR1.out.cell (j := 2) rfl;have r3 := HR1.out.cell (j := 3) rfl;have r4 := HR1.out.cell (j := 4) rfl;have r5 := HR1.out.cell (j := 5) rfl;have r6 := HR1.out.cell (j := 6) rfl;have r7 := HR1.out.cell (j := 7) rfl;have r8 := HR1.out.cell (j := 8) rfl;have r9 := HR1.out.cell (j := 9) rfl;have rf0 := HR1.out.frozen 0;have rf1 := HR1.out.frozen 1;have rf2 := HR1.out.frozen 2;have rf3 := HR1.out.frozen 3;have rf4 := HR1.out.frozen 4;have rf5 := HR1.out.frozen 5;have rf6 := HR1.out.frozen 6;have rf7 := HR1.out.frozen 7;have rf8 := HR1.out.frozen 8;have rf9 := HR1.out.frozen 9;clear HR1;go_wp2;refine bodyPost_ret (v := rptV (Rpt.only er) (.slice none 0 0)) (by simp [results, Tryz.results146, go_sem, rptV, rptCells, Rpt.only, *]) rfl ⟨_, rfl, ?_⟩;exact ⟨below_set10 HB1.out hrbw _ _ _ _ _ _ _ _ _ _, World.ownsRow_nil _ _ _ _, nofun⟩
set_option maxRecDepth 100000 in
set_option maxHeartbeats 3200000 in
theorem gblame_any (p : Nat) (vc : Value) (bb : Nat) (G : GSt) (R : RSt) (q : Int) (w : World) (h : GRep w p vc bb G) (hs : Sim G R) (q1 : q ≤ 9223372036854775807) :
 Calls Tryz.prog 141 #[.pointer (some ⟨p, 0, none⟩), .int .i64 q] w fun e w' => ∃ v, e = .returned (rptV (gblame G R q) v) ∧ NearRel w (gblame G R q).near v w' := by
 have HR := hide2 h;have HS := hide2 hs;clear h hs
 by_cases he : (gblock G R.cls q).2.2 = 0 ∨ (gblock G R.cls q).2.2 = 5
 ·have HF : Hid (gblame G R q = Rpt.only (gblock G R.cls q).2.2) := if_pos he;rw [HF.out];clear HF;obtain ⟨er, her⟩ : ∃ er, (gblock G R.cls q).2.2 = er := ⟨_, rfl⟩
  have HE := hide2 her;rw [her] at he ⊢;clear her
  by_cases h0 : er = 0
  ·have h0b : (er == 0) = true := by simp [h0]
   clear he h0;go_enter Tryz.func141, Tryz.ntmps141
   go_wp2_with fail
   obtain ⟨wa, hwa⟩ : ∃ wa, wa = w.alloc (.cells (rptCells (Rpt.only 0) (.slice none 0 0)).toArray 26) := ⟨_, rfl⟩
   have hwa' := hwa;simp only [rptCells, Rpt.only] at hwa';rw [← hwa'];have HBA : Hid (Below w.heap.size w wa) := by show Below _ _ _; rw [hwa]; exact (Below.refl _ _).alloc (Nat.le_refl _) _
   have HRB : Hid (Blk wa w.heap.size 26 (rptCells (Rpt.only 0) (.slice none 0 0))) := by show Blk _ _ _ _; rw [hwa]; exact Blk.alloc _ _ _
   obtain ⟨rb, hrb⟩ : ∃ rb, rb = w.heap.size := ⟨_, rfl⟩
   rw [← hrb] at HRB ⊢;have hrbw : w.heap.size ≤ rb := by omega
   have hrl := HRB.out.lt;clear hwa hwa' hrb;refine (blockOf_all p vc bb G R.rest R.cls q wa (HR.out.below HBA.out) HS.out.ok q1).mono ?_;rw [HE.out];rintro e1 w1 ⟨rfl, hb1⟩;have HB1 : Hid (Below w.heap.size w w1) := HBA.out.trans (hb1.mono HBA.out.size);have HR1 := hide2 (HRB.out.below hb1 hrl);have hrl1 := HR1.out.lt;clear hb1 HRB HBA hrl;have r0 := HR1.out.cell (j := 0) rfl;have r1 := HR1.out.cell (j := 1) rfl;have r2 := HR1.out.cell (j := 2) rfl;have r3 := HR1.out.cell (j := 3) rfl;have r4 := HR1.out.cell (j := 4) rfl;have r5 := HR1.out.cell (j := 5) rfl;have r6 := HR1.out.cell (j := 6) rfl;have r7 := HR1.out.cell (j := 7) rfl;have r8 := HR1.out.cell (j := 8) rfl;have r9 := HR1.out.cell (j := 9) rfl;have rf0 := HR1.out.frozen 0;have rf1 := HR1.out.frozen 1;have rf2 := HR1.out.frozen 2;have rf3 := HR1.out.frozen 3;have rf4 := HR1.out.frozen 4;have rf5 := HR1.out.frozen 5;have rf6 := HR1.out.frozen 6;have rf7 := HR1.out.frozen 7;have rf8 := HR1.out.frozen 8;have rf9 := HR1.out.frozen 9;clear HR1;go_wp2;refine bodyPost_ret (v := rptV (Rpt.only er) (.slice none 0 0)) (by simp [results, Tryz.results141, go_sem, rptV, rptCells, Rpt.only, *]) rfl ⟨_, rfl, ?_⟩;exact ⟨below_set10 HB1.out hrbw _ _ _ _ _ _ _ _ _ _, World.ownsRow_nil _ _ _ _, nofun⟩
  ·have h0b : (er == 0) = false := by rw [beq_eq_false_iff_ne]; exact h0
   have h5b : (er == 5) = true := by rw [beq_iff_eq]; omega
   clear he h0;go_enter Tryz.func141, Tryz.ntmps141
   go_wp2_with fail
   obtain ⟨wa, hwa⟩ : ∃ wa, wa = w.alloc (.cells (rptCells (Rpt.only 0) (.slice none 0 0)).toArray 26) := ⟨_, rfl⟩
   have hwa' := hwa;simp only [rptCells, Rpt.only] at hwa';rw [← hwa'];have HBA : Hid (Below w.heap.size w wa) := by show Below _ _ _; rw [hwa]; exact (Below.refl _ _).alloc (Nat.le_refl _) _
   have HRB : Hid (Blk wa w.heap.size 26 (rptCells (Rpt.only 0) (.slice none 0 0))) := by show Blk _ _ _ _; rw [hwa]; exact Blk.alloc _ _ _
   obtain ⟨rb, hrb⟩ : ∃ rb, rb = w.heap.size := ⟨_, rfl⟩
   rw [← hrb] at HRB ⊢;have hrbw : w.heap.size ≤ rb := by omega
   have hrl := HRB.out.lt;clear hwa hwa' hrb;refine (blockOf_all p vc bb G R.rest R.cls q wa (HR.out.below HBA.out) HS.out.ok q1).mono ?_;rw [HE.out];rintro e1 w1 ⟨rfl, hb1⟩;have HB1 : Hid (Below w.heap.size w w1) := HBA.out.trans (hb1.mono HBA.out.size);have HR1 := hide2 (HRB.out.below hb1 hrl);have hrl1 := HR1.out.lt;clear hb1 HRB HBA hrl;have r0 := HR1.out.cell (j := 0) rfl;have r1 := HR1.out.cell (j := 1) rfl;have r2 := HR1.out.cell (j := 2) rfl;have r3 := HR1.out.cell (j := 3) rfl;have r4 := HR1.out.cell (j := 4) rfl;have r5 := HR1.out.cell (j := 5) rfl;have r6 := HR1.out.cell (j := 6) rfl;have r7 := HR1.out.cell (j := 7) rfl;have r8 := HR1.out.cell (j := 8) rfl;have r9 := HR1.out.cell (j := 9) rfl;have rf0 := HR1.out.frozen 0;have rf1 := HR1.out.frozen 1;have rf2 := HR1.out.frozen 2;have rf3 := HR1.out.frozen 3;have rf4 := HR1.out.frozen 4;have rf5 := HR1.out.frozen 5;have rf6 := HR1.out.frozen 6;have rf7 := HR1.out.frozen 7;have rf8 := HR1.out.frozen 8;have rf9 := HR1.out.frozen 9;clear HR1;go_wp2;refine bodyPost_ret (v := rptV (Rpt.only er) (.slice none 0 0)) (by simp [results, Tryz.results141, go_sem, rptV, rptCells, Rpt.only, *]) rfl ⟨_, rfl, ?_⟩;exact ⟨below_set10 HB1.out hrbw _ _ _ _ _ _ _ _ _ _, World.ownsRow_nil _ _ _ _, nofun⟩
 ·have HF : Hid (gblame G R q = grpt G R.cls (gblock G R.cls q).2.2 (q % 72057594037927936) (q / 72057594037927936)) := if_neg he
  have ht : Ref.tameB q = true := by
   cases ht : Ref.tameB q
   ·exact absurd (.inr (by rw [gblock_wild G R.cls q ht])) he
   ·rfl
  have q0 : 0 ≤ q := ((tame_iff q).1 ht).1;rw [HF.out];clear HF ht;obtain ⟨er, her⟩ : ∃ er, (gblock G R.cls q).2.2 = er := ⟨_, rfl⟩
  have HE := hide2 her;rw [her] at he ⊢;have h0b : (er == 0) = false := by rw [beq_eq_false_iff_ne]; omega
  have h5b : (er == 5) = false := by rw [beq_eq_false_iff_ne]; omega
  clear her he;obtain ⟨r, hr⟩ : ∃ r, grpt G R.cls er (q % 72057594037927936) (q / 72057594037927936) = r := ⟨_, rfl⟩
  have HRP := hide2 hr;rw [hr];clear hr;go_enter Tryz.func141, Tryz.ntmps141
  go_wp2_with fail
  obtain ⟨wa, hwa⟩ : ∃ wa, wa = w.alloc (.cells (rptCells (Rpt.only 0) (.slice none 0 0)).toArray 26) := ⟨_, rfl⟩
  have hwa' := hwa;simp only [rptCells, Rpt.only] at hwa';rw [← hwa'];have HBA : Hid (Below w.heap.size w wa) := by show Below _ _ _; rw [hwa]; exact (Below.refl _ _).alloc (Nat.le_refl _) _
  have HRB : Hid (Blk wa w.heap.size 26 (rptCells (Rpt.only 0) (.slice none 0 0))) := by show Blk _ _ _ _; rw [hwa]; exact Blk.alloc _ _ _
  obtain ⟨rb, hrb⟩ : ∃ rb, rb = w.heap.size := ⟨_, rfl⟩
  rw [← hrb] at HRB ⊢;have hrbw : w.heap.size ≤ rb := by omega
  have hrl := HRB.out.lt;clear hwa hwa' hrb;refine (blockOf_all p vc bb G R.rest R.cls q wa (HR.out.below HBA.out) HS.out.ok q1).mono ?_;rw [HE.out];rintro e1 w1 ⟨rfl, hb1⟩;have HB1 : Hid (Below w.heap.size w w1) := HBA.out.trans (hb1.mono HBA.out.size);have HR1 := hide2 (HRB.out.below hb1 hrl);have hrl1 := HR1.out.lt;clear hb1 HRB HBA hrl
  go_wp2_with fail
  refine (report_any p vc bb G R.rest R.cls er (q % 72057594037927936) (q / 72057594037927936) w1 (HR.out.below HB1.out) HS.out.ok HS.out.bd (by omega) (by omega)).mono ?_;rw [HRP.out];rintro e1 w2 ⟨v, rfl, hn⟩;obtain ⟨na, ncap, hv, -, -, -⟩ := row_open hn.row;subst hv;have HN := hide2 hn;have HR2 := hide2 (HR1.out.below hn.below hrl1);have HB2 : Hid (Below w.heap.size w w2) := HB1.out.trans (hn.below.mono HB1.out.size);have hrl2 := HR2.out.lt;clear hn HR1;unfold rptV rptCells;have r0 := HR2.out.cell (j := 0) rfl;have r1 := HR2.out.cell (j := 1) rfl;have r2 := HR2.out.cell (j := 2) rfl;have r3 := HR2.out.cell (j := 3) rfl;have r4 := HR2.out.cell (j := 4) rfl;have r5 := HR2.out.cell (j := 5) rfl;have r6 := HR2.out.cell (j := 6) rfl;have r7 := HR2.out.cell (j := 7) rfl;have r8 := HR2.out.cell (j := 8) rfl;have r9 := HR2.out.cell (j := 9) rfl;have rf0 := HR2.out.frozen 0;have rf1 := HR2.out.frozen 1;have rf2 := HR2.out.frozen 2;have rf3 := HR2.out.frozen 3;have rf4 := HR2.out.frozen 4;have rf5 := HR2.out.frozen 5;have rf6 := HR2.out.frozen 6;have rf7 := HR2.out.frozen 7;have rf8 := HR2.out.frozen 8;have rf9 := HR2.out.frozen 9;clear HR2;generalize hnl : r.near.length = nl at *;go_wp2;subst hnl;refine bodyPost_ret (v := rptV r (.slice na r.near.length ncap)) (by simp [results, Tryz.results141, go_sem, rptV, rptCells, *]) rfl ⟨_, rfl, ?_⟩;refine ⟨below_set10 HB2.out hrbw _ _ _ _ _ _ _ _ _ _, row_kept HN.out.row (fun b hb => ?_), fun b hb => ?_⟩
  ·have := HN.out.vlo b hb;rw [heap_set10 w2 (by omega)]
  ·have := HN.out.vlo b hb;have := HB1.out.size;omega
end Go.Proofs.YtjikemhmnkckcabGreat
namespace Go.Proofs.YtjikemhmnkckcabGreat
open Go.RowKit
attribute [local go_sem ↓] Go.wp_at_zero Go.wp_at_succ
set_option maxRecDepth 100000 in
set_option maxHeartbeats 3200000 in
theorem fault_any (mb : Nat) (ph vcode : Value) (r0 r1 r2 r3 r4 r5 r6 r7 : Int) (inp : ByteArray) (heard : Int) (vd : Value) (drawn : Int) (vo : Value) (pc next steps en ex : Int) (x0 x1 x2 x3 x4 x5 x6 x7 x8 : Int) (vx : Value) (y : Rpt) (ya : Option Addr) (yn ycap : Nat) (w : World)
 (h : Blk w mb 81 (mCells ph vcode [r0, r1, r2, r3, r4, r5, r6, r7] inp heard vd drawn vo pc next steps en ex [.int .i64 x0, .int .i64 x1, .int .i64 x2, .int .i64 x3, .int .i64 x4, .int .i64 x5, .int .i64 x6, .int .i64 x7, .int .i64 x8, vx])) :
 Calls Tryz.prog 142 #[.pointer (some ⟨mb, 0, none⟩), rptV y (.slice ya yn ycap)] w fun e w' => e = .returned (.tuple #[]) ∧ Blk w' mb 81 (mCells ph vcode [r0, r1, r2, r3, r4, r5, r6, r7] inp heard vd drawn vo pc next steps 5 ex (rptCells y (.slice ya yn ycap))) ∧ Kept w w' (· = mb) := by
 obtain ⟨y0, y1, y2, y3, y4, y5, y6, y7, y8, yl⟩ := y;unfold rptV rptCells;simp only;go_enter Tryz.func142, Tryz.ntmps142;go_upto_region 1 with (fail);obtain ⟨wa, hwa⟩ : ∃ wa, wa = w.alloc (.cells #[.int .i64 y0, .int .i64 y1, .int .i64 y2, .int .i64 y3, .int .i64 y4, .int .i64 y5, .int .i64 y6, .int .i64 y7, .int .i64 y8, .slice ya yn ycap] 26) := ⟨_, rfl⟩
 have hbl : Below w.heap.size w wa := by rw [hwa]; exact (Below.refl _ _).alloc (Nat.le_refl _) _
 have HX : Hid (Blk wa w.heap.size 26 [.int .i64 y0, .int .i64 y1, .int .i64 y2, .int .i64 y3, .int .i64 y4, .int .i64 y5, .int .i64 y6, .int .i64 y7, .int .i64 y8, .slice ya yn ycap]) := by show Blk _ _ _ _; rw [hwa]; exact Blk.alloc _ _ _
 have HM := hide2 (h.below hbl h.lt);have hne : w.heap.size ≠ mb := by have := h.lt; omega
 have HK : Hid (Kept w wa (· = mb)) := Kept.of_below hbl _;rw [← hwa];clear hwa hbl h;have c18 := HM.out.cell (j := 18) rfl;have f18 := HM.out.frozen 18;go_upto_region 2 with (fail);obtain ⟨wb, hwb⟩ : ∃ wb, wb = wa.setCell ⟨mb, 18, none⟩ (.int .i64 5) := ⟨_, rfl⟩
 rw [← hwb];have HM2 := hide2 (HM.out.setCell 18 (.int .i64 5));have HX2 := hide2 (HX.out.setCell_other ⟨mb, 18, none⟩ (.int .i64 5) hne);have HK2 := hide2 (HK.out.setCell ⟨mb, 18, none⟩ (.int .i64 5) rfl);rw [← hwb] at HM2 HX2 HK2;clear hwb c18 f18 HM HX HK;have a0 := HX2.out.cell (j := 0) rfl;have a1 := HX2.out.cell (j := 1) rfl;have a2 := HX2.out.cell (j := 2) rfl;have a3 := HX2.out.cell (j := 3) rfl;have a4 := HX2.out.cell (j := 4) rfl;have a5 := HX2.out.cell (j := 5) rfl;have a6 := HX2.out.cell (j := 6) rfl;have a7 := HX2.out.cell (j := 7) rfl;have a8 := HX2.out.cell (j := 8) rfl;have a9 := HX2.out.cell (j := 9) rfl;have m20 := HM2.out.cell (j := 20) rfl;have mf20 := HM2.out.frozen 20;have m21 := HM2.out.cell (j := 21) rfl;have mf21 := HM2.out.frozen 21;have m22 := HM2.out.cell (j := 22) rfl;have mf22 := HM2.out.frozen 22;have m23 := HM2.out.cell (j := 23) rfl;have mf23 := HM2.out.frozen 23;have m24 := HM2.out.cell (j := 24) rfl;have mf24 := HM2.out.frozen 24;have m25 := HM2.out.cell (j := 25) rfl;have mf25 := HM2.out.frozen 25;have m26 := HM2.out.cell (j := 26) rfl;have mf26 := HM2.out.frozen 26;have m27 := HM2.out.cell (j := 27) rfl;have mf27 := HM2.out.frozen 27;have m28 := HM2.out.cell (j := 28) rfl;have mf28 := HM2.out.frozen 28;have m29 := HM2.out.cell (j := 29) rfl;have mf29 := HM2.out.frozen 29;go_wp2;go_end0;exact ⟨rfl, ((((((((((HM2.out.setCell 20 _).setCell 21 _).setCell 22 _).setCell 23 _).setCell 24 _).setCell 25 _).setCell 26 _).setCell 27 _).setCell 28 _).setCell 29 _), ((((((((((HK2.out.setCell _ _ rfl).setCell _ _ rfl).setCell _ _ rfl).setCell _ _ rfl).setCell _ _ rfl).setCell _ _ rfl).setCell _ _ rfl).setCell _ _ rfl).setCell _ _ rfl).setCell _ _ rfl)⟩
set_option maxRecDepth 100000 in
set_option maxHeartbeats 3200000 in
theorem mblame_any (mb p : Nat) (gc : Value) (bb : Nat) (G : GSt) (R : RSt) (vcode : Value) (r0 r1 r2 r3 r4 r5 r6 r7 : Int) (inp : ByteArray) (heard : Int) (vd : Value) (drawn : Int) (vo : Value) (pc next steps en ex : Int) (x0 x1 x2 x3 x4 x5 x6 x7 x8 : Int) (vx : Value) (q : Int) (w : World) (hg : GRep w p gc bb G) (hs : Sim G R) (q1 : q ≤ 9223372036854775807)
 (h : Blk w mb 81 (mCells (.pointer (some ⟨p, 0, none⟩)) vcode [r0, r1, r2, r3, r4, r5, r6, r7] inp heard vd drawn vo pc next steps en ex [.int .i64 x0, .int .i64 x1, .int .i64 x2, .int .i64 x3, .int .i64 x4, .int .i64 x5, .int .i64 x6, .int .i64 x7, .int .i64 x8, vx])) :
 Calls Tryz.prog 112 #[.pointer (some ⟨mb, 0, none⟩), .int .i64 q] w fun e w' => ∃ v, e = .returned (.tuple #[]) ∧ Blk w' mb 81 (mCells (.pointer (some ⟨p, 0, none⟩)) vcode [r0, r1, r2, r3, r4, r5, r6, r7] inp heard vd drawn vo pc next steps 5 ex (rptCells (gblame G R q) v)) ∧
  w'.ownsRow 0 64 3 v (gblame G R q).near.length ((gblame G R q).near.flatMap nearCells) ∧ (∀ g, v.ownBlock = some g → w.heap.size ≤ g) ∧ Kept w w' (· = mb) := by
 have HG := hide2 hg;have HS := hide2 hs;have H := hide2 h;have c0 := h.cell (j := 0) rfl;have hml := h.lt;clear h hg hs;generalize hgb : gblame G R q = gb at *;have HGB := hide2 hgb;clear hgb;go_enter Tryz.func112, Tryz.ntmps112;go_upto_region 1 with (go_at_call 141; refine (gblame_any p gc bb G R q w HG.out HS.out q1).mono ?_; rw [HGB.out]; rintro e1 w1 ⟨v, rfl, hn⟩; obtain ⟨na, ncap, hv, -, -, -⟩ := row_open hn.row; subst hv; have HN := hide2 hn; clear hn; unfold rptV rptCells);obtain ⟨w2, hw2⟩ : ∃ w2, w2 = w1.alloc (.cells (rptCells gb (.slice na gb.near.length ncap)).toArray 26) := ⟨_, rfl⟩
 have HX2 : Hid (Below w1.heap.size w1 w2) := by show Below _ _ _; rw [hw2]; exact (Below.refl _ _).alloc (Nat.le_refl _) _
 have HP2 : Hid (Blk w2 w1.heap.size 26 (rptCells gb (.slice na gb.near.length ncap))) := by show Blk _ _ _ _; rw [hw2]; exact Blk.alloc _ _ _
 unfold rptCells at hw2;rw [← hw2];clear hw2;have HN2 := hide2 (HN.out.later HX2.out);have HM2 := hide2 (H.out.below HN2.out.below hml);have a0 := HP2.out.cell (j := 0) rfl;have a1 := HP2.out.cell (j := 1) rfl;have a2 := HP2.out.cell (j := 2) rfl;have a3 := HP2.out.cell (j := 3) rfl;have a4 := HP2.out.cell (j := 4) rfl;have a5 := HP2.out.cell (j := 5) rfl;have a6 := HP2.out.cell (j := 6) rfl;have a7 := HP2.out.cell (j := 7) rfl;have a8 := HP2.out.cell (j := 8) rfl;have a9 := HP2.out.cell (j := 9) rfl
 go_wp2_with (go_at_call 142; refine (fault_any mb _ vcode r0 r1 r2 r3 r4 r5 r6 r7 inp heard vd drawn vo pc next steps en ex x0 x1 x2 x3 x4 x5 x6 x7 x8 vx gb na gb.near.length ncap w2 HM2.out).mono ?_; rintro e2 w3 ⟨rfl, hm3, hk3⟩; have HM3 := hide2 hm3; have HK3 := hide2 hk3; clear hm3 hk3)
 go_end0;refine ⟨.slice na gb.near.length ncap, rfl, HM3.out, row_kept HN2.out.row (fun g hg => HK3.out.block g (row_lt HN2.out.row hg) (by have := HN2.out.vlo g hg; omega)), HN2.out.vlo, ?_⟩;have hb := HN2.out.below;have hk := HK3.out;exact ⟨by rw [hk.os, hb.os], by rw [hk.tape, hb.tape], by rw [hk.output, hb.output], Nat.le_trans hb.size hk.size, fun k hkk hs => (hk.block k (Nat.lt_of_lt_of_le hkk hb.size) hs).trans (hb.block k hkk)⟩
set_option maxRecDepth 100000 in
set_option maxHeartbeats 3200000 in
theorem mexplain_any (mb p : Nat) (gc : Value) (bb : Nat) (G : GSt) (R : RSt) (vcode : Value) (r0 r1 r2 r3 r4 r5 r6 r7 : Int) (inp : ByteArray) (heard : Int) (vd : Value) (drawn : Int) (vo : Value) (pc next steps en ex : Int) (x0 x1 x2 x3 x4 x5 x6 x7 x8 : Int) (vx : Value) (q n : Int) (w : World) (hg : GRep w p gc bb G) (hs : Sim G R) (q1 : q ≤ 9223372036854775807)
 (h : Blk w mb 81 (mCells (.pointer (some ⟨p, 0, none⟩)) vcode [r0, r1, r2, r3, r4, r5, r6, r7] inp heard vd drawn vo pc next steps en ex [.int .i64 x0, .int .i64 x1, .int .i64 x2, .int .i64 x3, .int .i64 x4, .int .i64 x5, .int .i64 x6, .int .i64 x7, .int .i64 x8, vx])) :
 Calls Tryz.prog 116 #[.pointer (some ⟨mb, 0, none⟩), .int .i64 q, .int .i64 n] w fun e w' => ∃ v, e = .returned (.tuple #[]) ∧ Blk w' mb 81 (mCells (.pointer (some ⟨p, 0, none⟩)) vcode [r0, r1, r2, r3, r4, r5, r6, r7] inp heard vd drawn vo pc next steps 5 ex (rptCells (gexplain G R q n) v)) ∧
  w'.ownsRow 0 64 3 v (gexplain G R q n).near.length ((gexplain G R q n).near.flatMap nearCells) ∧ (∀ g, v.ownBlock = some g → w.heap.size ≤ g) ∧ Kept w w' (· = mb) := by
 have HG := hide2 hg;have HS := hide2 hs;have H := hide2 h;have c0 := h.cell (j := 0) rfl;have hml := h.lt;clear h hg hs;generalize hgb : gexplain G R q n = gb at *;have HGB := hide2 hgb;clear hgb;go_enter Tryz.func116, Tryz.ntmps116;go_upto_region 1 with (go_at_call 146; refine (gexplain_any p gc bb G R q n w HG.out HS.out q1).mono ?_; rw [HGB.out]; rintro e1 w1 ⟨v, rfl, hn⟩; obtain ⟨na, ncap, hv, -, -, -⟩ := row_open hn.row; subst hv; have HN := hide2 hn; clear hn; unfold rptV rptCells);obtain ⟨w2, hw2⟩ : ∃ w2, w2 = w1.alloc (.cells (rptCells gb (.slice na gb.near.length ncap)).toArray 26) := ⟨_, rfl⟩
 have HX2 : Hid (Below w1.heap.size w1 w2) := by show Below _ _ _; rw [hw2]; exact (Below.refl _ _).alloc (Nat.le_refl _) _
 have HP2 : Hid (Blk w2 w1.heap.size 26 (rptCells gb (.slice na gb.near.length ncap))) := by show Blk _ _ _ _; rw [hw2]; exact Blk.alloc _ _ _
 unfold rptCells at hw2;rw [← hw2];clear hw2;have HN2 := hide2 (HN.out.later HX2.out);have HM2 := hide2 (H.out.below HN2.out.below hml);have a0 := HP2.out.cell (j := 0) rfl;have a1 := HP2.out.cell (j := 1) rfl;have a2 := HP2.out.cell (j := 2) rfl;have a3 := HP2.out.cell (j := 3) rfl;have a4 := HP2.out.cell (j := 4) rfl;have a5 := HP2.out.cell (j := 5) rfl;have a6 := HP2.out.cell (j := 6) rfl;have a7 := HP2.out.cell (j := 7) rfl;have a8 := HP2.out.cell (j := 8) rfl;have a9 := HP2.out.cell (j := 9) rfl
 go_wp2_with (go_at_call 142; refine (fault_any mb _ vcode r0 r1 r2 r3 r4 r5 r6 r7 inp heard vd drawn vo pc next steps en ex x0 x1 x2 x3 x4 x5 x6 x7 x8 vx gb na gb.near.length ncap w2 HM2.out).mono ?_; rintro e2 w3 ⟨rfl, hm3, hk3⟩; have HM3 := hide2 hm3; have HK3 := hide2 hk3; clear hm3 hk3)
 go_end0;refine ⟨.slice na gb.near.length ncap, rfl, HM3.out, row_kept HN2.out.row (fun g hg => HK3.out.block g (row_lt HN2.out.row hg) (by have := HN2.out.vlo g hg; omega)), HN2.out.vlo, ?_⟩;have hb := HN2.out.below;have hk := HK3.out;exact ⟨by rw [hk.os, hb.os], by rw [hk.tape, hb.tape], by rw [hk.output, hb.output], Nat.le_trans hb.size hk.size, fun k hkk hs => (hk.block k (Nat.lt_of_lt_of_le hkk hb.size) hs).trans (hb.block k hkk)⟩
end Go.Proofs.YtjikemhmnkckcabGreat
namespace Go.Proofs.YtjikemhmnkckcabGreat
open Go.RowKit
set_option maxRecDepth 100000 in
set_option maxHeartbeats 1600000 in
theorem greal_ok (p : Nat) (vc : Value) (bb : Nat) (G : GSt) (R : RSt) (q size draw site : Int) (k s k' s' tg : Nat) (w : World) (h : GRep w p vc bb G) (hs : SimB G R) (q1 : q ≤ 9223372036854775807) (hq : q ≠ 0) (hr : ReOk G R q size draw site k s k' s' tg) :
 Calls Tryz.prog 113 #[.pointer (some ⟨p, 0, none⟩), .int .i64 q, .int .i64 size, .int .i64 draw, .int .i64 site] w fun e w' => e = .returned (.tuple #[.int .i64 (mOut R size draw).1, .int .i64 0]) ∧ GRep w' p vc bb (reG G R q size draw site) ∧ Kept w w' (GFoot p vc bb G) := by
 have hq0 : (q == 0) = false := by rw [beq_eq_false_iff_ne]; exact hq
 have HR := hide2 h;have HS := hide2 hs;have HRE := hide2 hr;have HBL : Hid (gblock G R.cls q = ((k : Int), (s : Int), 0)) := (hs.sim.block q).trans hr.old;have HM2 : Hid ((mOut R size draw).2 = 0) := by show _ = _; rw [hr.out]
 have hs1 := hs.malloc size draw site;have HS1 := hide2 hs1;have hc1 : (mR R size draw site).cls = R.cls := by rw [hr.mr]
 obtain ⟨z, z0, z1, hbz, hn⟩ := hr.n hs;have hfz := gsz_fit hr.h1 hr.hz;have hg8 := hs.sim.ok.conf.g1 k' hr.hk';have hg8o := hs.sim.ok.conf.g1 k hr.hk;have hbn := hr.bnew hs;have hbo := hr.bold hs;have hoa := hr.oldAt hs;have hat := hr.out_at hs;have hml := mG_memlen G R size draw site;have q0 : 0 ≤ q := ((tame_iff q).1 hoa.1).1;have m0 : 0 ≤ (mOut R size draw).1 := (mOut_bd hs.sim.rok size draw).1
 have HF : Hid (reG G R q size draw site = fG ⟨(mG G R size draw site).st, (mG G R size draw site).rest, (mG G R size draw site).cs, copyTo (mG G R size draw site).mem ((mOut R size draw).1 % 72057594037927936).toNat (q % 72057594037927936).toNat (R.reN q size draw site)⟩
  ((mR R size draw site).copies ((mOut R size draw).1 % 72057594037927936) (q % 72057594037927936) (R.reN q size draw site)) q site) := by
  show _ = _;unfold reG;rw [if_neg (fun x => x.2 (by rw [hr.old])), if_neg (by rintro (x | x); exact x HM2.out; exact hq x)]
 obtain ⟨a, ha⟩ := Int.eq_ofNat_of_zero_le (show 0 ≤ (mOut R size draw).1 % 72057594037927936 by omega);obtain ⟨b, hb⟩ := Int.eq_ofNat_of_zero_le (show 0 ≤ q % 72057594037927936 by omega)
 have hfg : ∀ mm : List Int, fG ⟨(mG G R size draw site).st, (mG G R size draw site).rest, (mG G R size draw site).cs, mm⟩ ((mR R size draw site).copies (a : Int) (b : Int) (R.reN q size draw site)) q site =
  GSt.withSlots ⟨(mG G R size draw site).st, (mG G R size draw site).rest, (mG G R size draw site).cs, mm⟩ k (freed ((mG G R size draw site).cs.getD k GCls.no).slots s (mG G R size draw site).rest site) := fun mm => by
  have hcs := (mR R size draw site).copies_same (a : Int) (b : Int) (R.reN q size draw site);unfold fG;rw [hcs.1, hcs.2.2.1, hcs.2.2.2.1, hr.old1 hs, if_pos ⟨hq, rfl⟩];rfl
 rw [ha, hb, Int.toNat_natCast, Int.toNat_natCast, hfg] at HF;clear hfg;have hlenI : (mG G R size draw site).mem.length = G.mem.length := hml;have fit1 : a + R.reN q size draw site ≤ (mG G R size draw site).mem.length := by omega
 have fit2 : b + R.reN q size draw site ≤ (mG G R size draw site).mem.length := by omega
 have fit3 : a < (mG G R size draw site).mem.length := by omega
 have fit4 : b < (mG G R size draw site).mem.length := by omega
 have hkl1 : k < (mG G R size draw site).cs.length := by rw [hs1.sim.ok.len, hc1]; exact hr.hk
 have hsl1 : s < ((mG G R size draw site).cs.getD k GCls.no).slots.length := by rw [hs1.sim.len (by rw [hc1]; exact hr.hk), hc1]; exact hr.hs
 have hl4 : (mG G R size draw site).cs.length ≤ 4 := by have := hs1.sim.ok.conf.n1; have := hs1.sim.ok.len; omega
 have hx16 : ((mG G R size draw site).cs.getD k GCls.no).slots.length ≤ 16 := by have := hs1.sim.ok.sl k (by rw [hc1]; exact hr.hk); have := hs1.sim.ok.conf.s1 k (by rw [hc1]; exact hr.hk); omega
 have HRS : Hid (∀ j, j < ((mG G R size draw site).cs.getD k GCls.no).slots.length → (((mG G R size draw site).cs.getD k GCls.no).slots.getD j GSlot.no).rest ≤ 16) := fun j hj => hs1.sim.rest_le (by rw [hc1]; exact hr.hk) j hj
 have HFT : Hid (∀ x, GFoot p vc bb (mG G R size draw site) x ↔ GFoot p vc bb G x) := fun x => mG_foot hs.sim size draw site p vc bb x
 have hsz1 := hr.h1;have hsz8 : size ≤ 128 := by have := hr.hz; omega
 have HSM := hide2 hs1.sim.small
 have HMAL : Hid (∀ w1, GRep w1 p vc bb G → Calls Tryz.prog 110 #[.pointer (some ⟨p, 0, none⟩), .int .i64 size, .int .i64 draw, .int .i64 site] w1 fun e w' => e = .returned (.tuple #[.int .i64 (mOut R size draw).1, .int .i64 0]) ∧ GRep w' p vc bb (mG G R size draw site) ∧ Kept w1 w' (GFoot p vc bb G)) := fun w1 hw1 => by
  refine (gmalloc_all p vc bb G R size draw site w1 hw1 HS.out.sim).mono ?_;rintro e w' ⟨rfl, hx, hy⟩;exact ⟨by rw [HM2.out], hx, hy⟩
 obtain ⟨bz, hbz'⟩ := Int.eq_ofNat_of_zero_le (show 0 ≤ 16 * z by omega);obtain ⟨zz, hzz⟩ := Int.eq_ofNat_of_zero_le (show 0 ≤ 16 * Ref.gsz size by omega);have HZZ := hide2 hzz;have HNN : Hid (R.reN q size draw site = min bz zz) := by show _ = _; omega
 rw [hbz'] at hbz;have hbz8 : bz ≤ 128 := by omega
 have hzz8 : zz ≤ 128 := by omega
 have HXX := hide2 hx16;clear h hs hr hs1 hml hlenI hoa hbn hbo hat hn hbz' hfz hg8 hg8o hzz;rw [HNN.out] at HF fit1 fit2;generalize mG G R size draw site = G1 at *;generalize (mOut R size draw).1 = qn at *;go_enter Tryz.func113, Tryz.ntmps113
 go_wp2_with fail
 refine (blockOf_all p vc bb G R.rest R.cls q w HR.out HS.out.sim.ok q1).mono ?_;rw [HBL.out];rintro e1 w1 ⟨rfl, hb1⟩
 go_wp2_with fail
 refine (HMAL.out w1 (HR.out.below hb1)).mono ?_;rintro e1 w2 ⟨rfl, hG2, hk2⟩;have HG2 := hide2 hG2;have HK2 := hide2 ((Kept.of_below hb1 _).trans hk2);clear hk2;obtain ⟨g, cap, rfl, hmax, hgl, c2, d2, x2⟩ := hG2.slotBytes k s hkl1 hsl1;have c1 := hG2.blk.cell (j := 1) rfl;have hp := hG2.blk.lt;have HBK := hide2 (hG2.slots k hkl1);have hsb := (hG2.slots k hkl1).lt;unfold maxLen at hmax;rw [hbz] at x2;have hkI : (k : Int) < (G1.cs.length : Int) := by omega
 have hsI : (s : Int) < ((G1.cs.getD k GCls.no).slots.length : Int) := by omega
 have hgs : g ≠ (G1.cs.getD k GCls.no).sb := fun e => (hG2.apS k hkl1).2.2 (by rw [← e]; rfl)
 have hps : p ≠ (G1.cs.getD k GCls.no).sb := fun e => (hG2.apS k hkl1).1 e.symm
 have hbs : (G1.cs.getD k GCls.no).sb ≠ bb := (hG2.apS k hkl1).2.1;have hpb : p ≠ bb := fun e => hG2.apB e.symm
 have hgb : g ≠ bb := fun e => hG2.apCB (by rw [← e]; rfl)
 have HSL := hide2 (show (freed (G1.cs.getD k GCls.no).slots s G1.rest site).length = (G1.cs.getD k GCls.no).slots.length from freed_len _ _ _ _);clear hG2;generalize hsbe : (G1.cs.getD k GCls.no).sb = sb at *;generalize hxs : (G1.cs.getD k GCls.no).slots = xs at *;have HSB := hide2 hsbe;have HXS := hide2 hxs;clear hsbe hxs hbz
 have fin : ∀ (w3 : World) (n : Nat), n = min bz zz → GRep w3 p (.slice (some ⟨g, 0, none⟩) G1.cs.length cap) bb ⟨G1.st, G1.rest, G1.cs, copyTo G1.mem a b n⟩ → Kept w2 w3 (· = bb) → ∀ w4, Blk w4 sb 146 ((freed xs s G1.rest site).flatMap slotCells) → Kept w3 w4 (· = sb) →
  GRep w4 p (.slice (some ⟨g, 0, none⟩) G1.cs.length cap) bb (reG G R q size draw site) ∧ Kept w w4 (GFoot p (.slice (some ⟨g, 0, none⟩) G1.cs.length cap) bb G) := fun w3 n hnn hG3 hk3 w4 hb4 hk4 => by
  constructor
  ·rw [HF.out, ← hnn];exact hG3.setSlots k hkl1 _ (by show _ = (G1.cs.getD k GCls.no).slots.length; rw [HXS.out]; exact HSL.out) (by show Kept w3 w4 (fun b => b = (G1.cs.getD k GCls.no).sb); rw [HSB.out]; exact hk4) (by show Blk w4 (G1.cs.getD k GCls.no).sb _ _; rw [HSB.out]; exact hb4)
  ·refine HK2.out.trans ((hk3.mono fun x _ hx => .inr (.inr (.inl hx))).trans (hk4.mono fun x _ hx => ?_));exact (HFT.out x).1 (.inr (.inr (.inr ⟨k, hkl1, hx.trans HSB.out.symm⟩)))
 have FIN := hide2 fin;clear fin
 by_cases hcase : bz < zz
 ·have hI : (bz : Int) < (zz : Int) := by omega
  have hmin : min bz zz = bz := by omega
  rw [hmin] at fit1 fit2
  go_wp2_with fail
  refine (whole_any size w2 hsz1 hsz8).mono ?_;rw [HZZ.out];rintro e1 w3 ⟨rfl, rfl⟩
  go_wp2_with fail
  refine (copyBytes_any p _ bb G1 a b bz w2 HG2.out fit1 fit2 fit3 fit4 HSM.out).mono ?_;rintro e1 w3 ⟨rfl, hG3, hk3⟩;have c1' := (World.cell?_of_block (a := ⟨p, 1, none⟩) (hk3.block p hp hpb)).trans c1;have c2' := (World.cell?_of_block (a := ⟨p, 2, none⟩) (hk3.block p hp hpb)).trans c2;have d2' := (World.cell?_of_block (a := ⟨g, k * 3 + 2, none⟩) (hk3.block g hgl hgb)).trans d2;have HB3 : Hid (Blk w3 sb 146 (xs.flatMap slotCells)) := (hk3.block sb hsb hbs).trans HBK.out;have HG3 := hide2 hG3;have HK3 := hide2 hk3;have hp3 : p < w3.heap.size := Nat.lt_of_lt_of_le hp hk3.size;clear c1 c2 d2 x2 hG3 hk3
  go_wp2_with fail
  go_region_held3 (fun w' => w'.cell? ⟨p, 1, none⟩ = some (.int .i64 G1.rest) ∧ w'.cell? ⟨p, 2, none⟩ = some (.slice (some ⟨g, 0, none⟩) G1.cs.length cap)) (go_keep)
   (first | (go_at_call 140; refine (freeSlot_any g (k * 3) sb xs s G1.rest site w3.drew d2' HB3.out hgs hsl1 HXX.out HRS.out).mono ?_; rintro e1 w4 ⟨rfl, hb4, hk4⟩; have c1'' : w4.cell? ⟨p, 1, none⟩ = some (.int .i64 G1.rest) := ((World.cell?_of_block (w := w3.drew) (hk4.block p hp3 hps)).trans c1'); have c2'' : w4.cell? ⟨p, 2, none⟩ = some (.slice (some ⟨g, 0, none⟩) G1.cs.length cap) := ((World.cell?_of_block (w := w3.drew) (hk4.block p hp3 hps)).trans c2')))
  go_wp2;go_ret2;have hx := FIN.out w3 bz hmin.symm HG3.out HK3.out w4 hb4 ⟨hk4.os, hk4.tape, hk4.output, hk4.size, hk4.block⟩;exact ⟨rfl, hx.1, hx.2⟩
 ·have hI : (zz : Int) ≤ (bz : Int) := by omega
  have hmin : min bz zz = zz := by omega
  rw [hmin] at fit1 fit2
  go_wp2_with fail
  refine (whole_any size w2 hsz1 hsz8).mono ?_;rw [HZZ.out];rintro e1 w3 ⟨rfl, rfl⟩
  go_wp2_with fail
  refine (copyBytes_any p _ bb G1 a b zz w2 HG2.out fit1 fit2 fit3 fit4 HSM.out).mono ?_;rintro e1 w3 ⟨rfl, hG3, hk3⟩;have c1' := (World.cell?_of_block (a := ⟨p, 1, none⟩) (hk3.block p hp hpb)).trans c1;have c2' := (World.cell?_of_block (a := ⟨p, 2, none⟩) (hk3.block p hp hpb)).trans c2;have d2' := (World.cell?_of_block (a := ⟨g, k * 3 + 2, none⟩) (hk3.block g hgl hgb)).trans d2;have HB3 : Hid (Blk w3 sb 146 (xs.flatMap slotCells)) := (hk3.block sb hsb hbs).trans HBK.out;have HG3 := hide2 hG3;have HK3 := hide2 hk3;have hp3 : p < w3.heap.size := Nat.lt_of_lt_of_le hp hk3.size;clear c1 c2 d2 x2 hG3 hk3
  go_wp2_with fail
  go_region_held3 (fun w' => w'.cell? ⟨p, 1, none⟩ = some (.int .i64 G1.rest) ∧ w'.cell? ⟨p, 2, none⟩ = some (.slice (some ⟨g, 0, none⟩) G1.cs.length cap)) (go_keep)
   (first | (go_at_call 140; refine (freeSlot_any g (k * 3) sb xs s G1.rest site w3.drew d2' HB3.out hgs hsl1 HXX.out HRS.out).mono ?_; rintro e1 w4 ⟨rfl, hb4, hk4⟩; have c1'' : w4.cell? ⟨p, 1, none⟩ = some (.int .i64 G1.rest) := ((World.cell?_of_block (w := w3.drew) (hk4.block p hp3 hps)).trans c1'); have c2'' : w4.cell? ⟨p, 2, none⟩ = some (.slice (some ⟨g, 0, none⟩) G1.cs.length cap) := ((World.cell?_of_block (w := w3.drew) (hk4.block p hp3 hps)).trans c2')))
  go_wp2;go_ret2;have hx := FIN.out w3 zz hmin.symm HG3.out HK3.out w4 hb4 ⟨hk4.os, hk4.tape, hk4.output, hk4.size, hk4.block⟩;exact ⟨rfl, hx.1, hx.2⟩
set_option maxRecDepth 100000 in
set_option maxHeartbeats 1600000 in
theorem greal_any (p : Nat) (vc : Value) (bb : Nat) (G : GSt) (R : RSt) (q size draw site : Int) (w : World) (h : GRep w p vc bb G) (hs : SimB G R) (q1 : q ≤ 9223372036854775807) :
 Calls Tryz.prog 113 #[.pointer (some ⟨p, 0, none⟩), .int .i64 q, .int .i64 size, .int .i64 draw, .int .i64 site] w fun e w' => e = .returned (.tuple #[.int .i64 (R.reOut q size draw).1, .int .i64 (R.reOut q size draw).2]) ∧ GRep w' p vc bb (reG G R q size draw site) ∧ Kept w w' (GFoot p vc bb G) := by
 have HR := hide2 h;have HS := hide2 hs
 by_cases hq : q = 0
 ·have hnb : ¬ R.reBad q := fun x => x.1 hq
  have HE : Hid (R.reOut q size draw = mOut R size draw) := if_neg hnb;have HF : Hid (reG G R q size draw site = mG G R size draw site) := (if_neg hnb).trans (if_pos (.inr hq));clear hnb h hs;subst hq;go_enter Tryz.func113, Tryz.ntmps113
  go_wp2_with (go_at_call 110; refine (gmalloc_all p vc bb G R size draw site w HR.out HS.out.sim).mono ?_; rintro e1 w1 ⟨rfl, hG1, hk1⟩)
  all_goals
   go_ret2;refine ⟨?_, by rw [HF.out]; exact hG1, hk1⟩;rw [HE.out]
   first | rfl | (rename_i hh; rw [hh]; rfl)
 ·have hqb : (q == 0) = false := by rw [beq_eq_false_iff_ne]; exact hq
  rcases re_cases hs q size draw site with x | x | ⟨k, s, k', s', tg, hr⟩
  ·have hbad : R.reBad q := ⟨hq, x⟩
   have HE : Hid (R.reOut q size draw = (0, (Ref.block R.st R.cls R.log q).2.2)) := if_pos hbad;have HF : Hid (reG G R q size draw site = G) := if_pos hbad;have HBL := hide2 (hs.sim.block q);have hxb : ((Ref.block R.st R.cls R.log q).2.2 != 0) = true := by simp [x]
   clear h hs hbad x hq;go_enter Tryz.func113, Tryz.ntmps113
   go_wp2_with (go_at_call 139; refine (blockOf_all p vc bb G R.rest R.cls q w HR.out HS.out.sim.ok q1).mono ?_; rw [HBL.out]; rintro e1 w1 ⟨rfl, hb1⟩)
   go_ret2;exact ⟨by rw [HE.out]; rfl, by rw [HF.out]; exact HR.out.below hb1, Kept.of_below hb1 _⟩
  ·by_cases hbl : (Ref.block R.st R.cls R.log q).2.2 = 0
   ·have hnb : ¬ R.reBad q := fun y => y.2 hbl
    have HE : Hid (R.reOut q size draw = mOut R size draw) := if_neg hnb;have HF : Hid (reG G R q size draw site = mG G R size draw site) := (if_neg hnb).trans (if_pos (.inl x))
    have HM : Hid (mOut R size draw = (0, (mOut R size draw).2)) := by
     show _ = _
     rcases mOut_cases R hs.sim.rok size draw with ⟨_, hm⟩ | ⟨k', _, _, _, _, hm⟩ | ⟨k', s', h1, hk', hkl', hf, hs', hz, hm⟩
     ·rw [hm]
     ·rw [hm]
     ·rw [hm] at x; exact absurd rfl x
    have HBL := hide2 (hs.sim.block q);have HB0 := hide2 hbl;have hxb : ((mOut R size draw).2 != 0) = true := by simp [x]
    clear h hs hnb x hq hbl;go_enter Tryz.func113, Tryz.ntmps113
    go_wp2_with fail
    refine (blockOf_all p vc bb G R.rest R.cls q w HR.out HS.out.sim.ok q1).mono ?_;rw [HBL.out, HB0.out];rintro e1 w1 ⟨rfl, hb1⟩
    go_wp2_with fail
    refine (gmalloc_all p vc bb G R size draw site w1 (HR.out.below hb1) HS.out.sim).mono ?_;rintro e1 w2 ⟨rfl, hG2, hk2⟩;go_wp2;go_ret2;exact ⟨by rw [HE.out, HM.out]; rfl, by rw [HF.out]; exact hG2, (Kept.of_below hb1 _).trans hk2⟩
   ·have hbad : R.reBad q := ⟨hq, hbl⟩
    have HE : Hid (R.reOut q size draw = (0, (Ref.block R.st R.cls R.log q).2.2)) := if_pos hbad;have HF : Hid (reG G R q size draw site = G) := if_pos hbad;have HBL := hide2 (hs.sim.block q);have hxb : ((Ref.block R.st R.cls R.log q).2.2 != 0) = true := by simp [hbl]
    clear h hs hbad x hq hbl;go_enter Tryz.func113, Tryz.ntmps113
    go_wp2_with (go_at_call 139; refine (blockOf_all p vc bb G R.rest R.cls q w HR.out HS.out.sim.ok q1).mono ?_; rw [HBL.out]; rintro e1 w1 ⟨rfl, hb1⟩)
    go_ret2;exact ⟨by rw [HE.out]; rfl, by rw [HF.out]; exact HR.out.below hb1, Kept.of_below hb1 _⟩
  ·refine (greal_ok p vc bb G R q size draw site k s k' s' tg w h hs q1 hq hr).mono ?_;rintro e w' ⟨rfl, h1, h2⟩;have hnb : ¬ R.reBad q := fun y => y.2 (by rw [hr.old])
   have HE : R.reOut q size draw = mOut R size draw := if_neg hnb;exact ⟨by rw [HE, hr.out], h1, h2⟩
end Go.Proofs.YtjikemhmnkckcabGreat
