import Derived.Test.YtjikemhmnkckcabImgScan4
/- The program's scanner: the whole program. -/
namespace Go.Proofs.Ytjikemhmnkckcab
open Go.RowKit

theorem kept_setCell {w wr : World} {q : Nat} (h : Kept w wr (· = q)) (b j : Nat) (v : Value) (hb : w.heap.size ≤ b) : Kept w (wr.setCell ⟨b, j, none⟩ v) (· = q) :=
  ⟨h.os, h.tape, h.output, by rw [World.size_setCell]; exact h.size, fun k hk hs => (Below.heap_setCell wr _ _ k (by show k ≠ b; omega)).trans (h.block k hk hs)⟩

set_option maxRecDepth 100000 in
set_option maxHeartbeats 3200000 in
theorem program_any (q : Nat) (d : ByteArray) (w : World) (h : Blk w q 59 (scV d 0 false)) (hd : (d.size : Int) ≤ 9223372036854775807) :
    Calls Try.prog 24 #[.pointer (some ⟨q, 0, none⟩)] w fun e w' => ∃ a cap ia icap, e = .returned (.agg #[.int .i64 (byteAt d 2), .int .i64 (byteAt d 3), .slice a (pCls d).length cap, .string (pDataG d (pM d)), .slice ia (pCode d).length icap]) ∧
      Rows2 w' (w.heap.size + 2) (.slice a (pCls d).length cap) (.slice ia (pCode d).length icap) (pCls d) (pCode d) ∧ Blk w' q 59 (scV d (pEnd d) (!pHead d)) ∧ Kept w w' (· = q) := by
  have hql := h.lt
  have H := hide2 h
  clear h
  go_enter Try.func24, Try.ntmps24
  go_upto_region 2 with (fail)
  obtain ⟨wa, hwa⟩ : ∃ wa, wa = (w.alloc (.cells zProg.toArray 27)).alloc (.cells zProg.toArray 27) := ⟨_, rfl⟩
  have hbl : Below w.heap.size w wa := by rw [hwa]; exact ((Below.refl _ _).alloc (Nat.le_refl _) _).alloc (by simp) _
  have hsa : wa.heap.size = w.heap.size + 2 := by rw [hwa]; simp
  have HZ : Hid (Blk wa w.heap.size 27 zProg) := by
    show Blk _ _ _ _; rw [hwa]; exact (Below.heap_alloc _ _ _ (by simp)).trans (heap_alloc_new w _)
  have HP : Hid (Blk wa (w.heap.size + 1) 27 zProg) := by
    show Blk _ _ _ _
    rw [hwa, show w.heap.size + 1 = (w.alloc (.cells zProg.toArray 27)).heap.size by simp]
    exact heap_alloc_new _ _
  have HS := hide2 (H.out.below hbl hql)
  have HK : Hid (Kept w wa (· = q)) := Kept.of_below hbl _
  have HSA := hide2 hsa
  unfold zProg at hwa
  rw [← hwa]
  clear hwa hbl hsa
  have hpq : w.heap.size + 1 ≠ q := by omega
  have hzq : w.heap.size ≠ q := by omega
  go_upto_region 3 with (go_at_call 37; refine (head_any q d _ HS.out hd).mono ?_; rintro e1 w1 ⟨rfl, hb1, hk1, hz1⟩; have HS1 := hide2 hb1; have HK1 := hide2 (HK.out.trans hk1); have HP1 := hide2 (HP.out.kept hk1 hpq); have HZ1 := hide2 (HZ.out.kept hk1 hzq); have HSZ1 : Hid (w.heap.size + 2 ≤ w1.heap.size) := (by show _ ≤ _; rw [hz1, HSA.out]; omega); clear hb1 hk1 hz1)
  clear HS HK HP HZ HSA
  have c0 := HP1.out.cell (j := 0) rfl
  have c1 := HP1.out.cell (j := 1) rfl
  have c2 := HP1.out.cell (j := 2) rfl
  have f0 := HP1.out.frozen 0
  have f1 := HP1.out.frozen 1
  have f2 := HP1.out.frozen 2
  go_upto_region 4 with (go_at_call 38; refine (conf_any q d _ _ HS1.out hd).mono ?_; rintro e1 w2 ⟨a, cap, rfl, hrow, hfar, hb1, hk1⟩; have HS2 := hide2 hb1; have HK2 := hide2 (HK1.out.trans hk1); have HP2 := hide2 (HP1.out.kept hk1 hpq); have HZ2 := hide2 (HZ1.out.kept hk1 hzq); have HRW := hide2 hrow; have HFR := hide2 hfar; have HSZ2 : Hid (w1.heap.size ≤ w2.heap.size) := hk1.size; have c0' := HP2.out.cell (j := 0) rfl; have c1' := HP2.out.cell (j := 1) rfl; have c2' := HP2.out.cell (j := 2) rfl; have f0' := HP2.out.frozen 0; have f1' := HP2.out.frozen 1; have f2' := HP2.out.frozen 2; clear hb1 hk1 hrow hfar)
  generalize hst : byteAt d 2 = st at *
  generalize hre : byteAt d 3 = re at *
  have HST := hide2 hst
  have HRE := hide2 hre
  clear hst hre
  obtain ⟨w3, hw3⟩ : ∃ w3, w3 = ((w2.setCell ⟨w.heap.size + 1, 0, none⟩ (.int .i64 st)).setCell ⟨w.heap.size + 1, 1, none⟩ (.int .i64 re)).setCell ⟨w.heap.size + 1, 2, none⟩ (.slice a (pCls d).length cap) := ⟨_, rfl⟩
  rw [← hw3]
  have hsz1 := HSZ1.out
  have hsz2 := HSZ2.out
  have HP3 : Hid (Blk w3 (w.heap.size + 1) 27 [.int .i64 st, .int .i64 re, .slice a (pCls d).length cap, .string ⟨#[]⟩, .slice none 0 0]) := by show Blk _ _ _ _; rw [hw3]; exact ((HP2.out.setCell 0 _).setCell 1 _).setCell 2 _
  have hzp : w.heap.size ≠ w.heap.size + 1 := by omega
  have HZ3 : Hid (Blk w3 w.heap.size 27 zProg) := by show Blk _ _ _ _; rw [hw3]; exact ((HZ2.out.setCell_other _ _ hzp).setCell_other _ _ hzp).setCell_other _ _ hzp
  have hqp : q ≠ w.heap.size + 1 := by omega
  have HS3 : Hid (Blk w3 q 59 (scV d (pD d) (!pHead d))) := by show Blk _ _ _ _; rw [hw3]; exact ((HS2.out.setCell_other _ _ hqp).setCell_other _ _ hqp).setCell_other _ _ hqp
  have HK3 : Hid (Kept w w3 (· = q)) := by show Kept _ _ _; rw [hw3]; exact kept_setCell (kept_setCell (kept_setCell HK2.out _ _ _ (by omega)) _ _ _ (by omega)) _ _ _ (by omega)
  have HR3 : Hid (w3.ownsRow 0 37 2 (.slice a (pCls d).length cap) (pCls d).length ((pCls d).flatMap clsCells)) := by
    show w3.ownsRow _ _ _ _ _ _
    refine row_kept HRW.out (fun g hg => ?_)
    have hn : g ≠ w.heap.size + 1 := by have := HFR.out g hg; omega
    rw [hw3, Below.heap_setCell _ _ _ g hn, Below.heap_setCell _ _ _ g hn, Below.heap_setCell _ _ _ g hn]
  have HSZ3 : Hid (w3.heap.size = w2.heap.size) := by show _ = _; rw [hw3]; simp
  clear hw3 c0 c1 c2 f0 f1 f2 c0' c1' c2' f0' f1' f2' HP1 HP2 HZ1 HZ2 HS1 HS2 HK1 HK2 HRW
  have c3 := HP3.out.cell (j := 3) rfl
  have f3 := HP3.out.frozen 3
  go_upto_region 5 with (go_at_call 39; refine (data_any q d _ _ HS3.out hd).mono ?_; rintro e1 w4 ⟨rfl, hb1, hk1⟩; have HS4 := hide2 hb1; have HK4 := hide2 (HK3.out.trans hk1); have HP4 := hide2 (HP3.out.kept hk1 hpq); have HZ4 := hide2 (HZ3.out.kept hk1 hzq); have HKK := hide2 hk1; have HSZ4 : Hid (w3.heap.size ≤ w4.heap.size) := hk1.size; have c3' := HP4.out.cell (j := 3) rfl; have f3' := HP4.out.frozen 3; clear hb1 hk1)
  generalize hdt : pDataG d (pM d) = dt at *
  have HDT := hide2 hdt
  clear hdt
  obtain ⟨w5, hw5⟩ : ∃ w5, w5 = w4.setCell ⟨w.heap.size + 1, 3, none⟩ (.string dt) := ⟨_, rfl⟩
  rw [← hw5]
  have HP5 : Hid (Blk w5 (w.heap.size + 1) 27 [.int .i64 st, .int .i64 re, .slice a (pCls d).length cap, .string dt, .slice none 0 0]) := by show Blk _ _ _ _; rw [hw5]; exact HP4.out.setCell 3 _
  have HZ5 : Hid (Blk w5 w.heap.size 27 zProg) := by show Blk _ _ _ _; rw [hw5]; exact HZ4.out.setCell_other _ _ hzp
  have HS5 : Hid (Blk w5 q 59 (scV d (pF d) (!pHead d))) := by show Blk _ _ _ _; rw [hw5]; exact HS4.out.setCell_other _ _ hqp
  have HK5 : Hid (Kept w w5 (· = q)) := by show Kept _ _ _; rw [hw5]; exact kept_setCell HK4.out _ _ _ (by omega)
  have hfq : ∀ g, (Value.slice a (pCls d).length cap).ownBlock = some g → g ≠ q ∧ g ≠ w.heap.size + 1 ∧ g ≠ w.heap.size := fun g hg => by have := HFR.out g hg; omega
  have HFQ := hide2 hfq
  have HR5 : Hid (w5.ownsRow 0 37 2 (.slice a (pCls d).length cap) (pCls d).length ((pCls d).flatMap clsCells)) := by
    show w5.ownsRow _ _ _ _ _ _
    refine row_kept HR3.out (fun g hg => ?_)
    rw [hw5, Below.heap_setCell _ _ _ g (HFQ.out g hg).2.1, HKK.out.block g (own_lt HR3.out g hg) (HFQ.out g hg).1]
  have HSZ5 : Hid (w5.heap.size = w4.heap.size) := by show _ = _; rw [hw5]; simp
  clear hw5 c3 f3 c3' f3' HP3 HP4 HZ3 HZ4 HS3 HS4 HK3 HK4 HR3 HKK hfq
  have c4 := HP5.out.cell (j := 4) rfl
  have f4 := HP5.out.frozen 4
  go_upto_region 6 with (go_at_call 40; refine (code_any q d _ _ HS5.out hd).mono ?_; rintro e1 w6 ⟨ia, icap, rfl, hrow, hfar, hb1, hk1⟩; have HS6 := hide2 hb1; have HK6 := hide2 (HK5.out.trans hk1); have HP6 := hide2 (HP5.out.kept hk1 hpq); have HZ6 := hide2 (HZ5.out.kept hk1 hzq); have HRI := hide2 hrow; have HFI := hide2 hfar; have HKK := hide2 hk1; have c4' := HP6.out.cell (j := 4) rfl; have f4' := HP6.out.frozen 4; clear hb1 hk1 hrow hfar)
  obtain ⟨w7, hw7⟩ : ∃ w7, w7 = w6.setCell ⟨w.heap.size + 1, 4, none⟩ (.slice ia (pCode d).length icap) := ⟨_, rfl⟩
  rw [← hw7]
  have HP7 : Hid (Blk w7 (w.heap.size + 1) 27 [.int .i64 st, .int .i64 re, .slice a (pCls d).length cap, .string dt, .slice ia (pCode d).length icap]) := by show Blk _ _ _ _; rw [hw7]; exact HP6.out.setCell 4 _
  have HZ7 : Hid (Blk w7 w.heap.size 27 zProg) := by show Blk _ _ _ _; rw [hw7]; exact HZ6.out.setCell_other _ _ hzp
  have HS7 : Hid (Blk w7 q 59 (scV d (pEnd d) (!pHead d))) := by show Blk _ _ _ _; rw [hw7]; exact HS6.out.setCell_other _ _ hqp
  have HK7 : Hid (Kept w w7 (· = q)) := by show Kept _ _ _; rw [hw7]; exact kept_setCell HK6.out _ _ _ (by omega)
  have hs3 := HSZ3.out
  have hs4 := HSZ4.out
  have hs5 := HSZ5.out
  have HR7 : Hid (Rows2 w7 (w.heap.size + 2) (.slice a (pCls d).length cap) (.slice ia (pCode d).length icap) (pCls d) (pCode d)) := by
    refine ⟨row_kept HR5.out (fun g hg => ?_), row_kept HRI.out (fun g hg => ?_), fun g hg => by have := HFR.out g hg; omega, fun g hg => by have := HFI.out g hg; omega, fun g hg e => ?_⟩
    · rw [hw7, Below.heap_setCell _ _ _ g (HFQ.out g hg).2.1, HKK.out.block g (own_lt HR5.out g hg) (HFQ.out g hg).1]
    · rw [hw7, Below.heap_setCell _ _ _ g (by have := HFI.out g hg; show g ≠ w.heap.size + 1; omega)]
    · have h1 := own_lt HR5.out g hg
      have h2 := HFI.out g e
      omega
  clear hw7 c4 f4 c4' f4' HP5 HP6 HZ5 HZ6 HS5 HS6 HK5 HK6 HR5 HKK HRI HFI
  have c0 := HP7.out.cell (j := 0) rfl
  have c1 := HP7.out.cell (j := 1) rfl
  have c2 := HP7.out.cell (j := 2) rfl
  have c3 := HP7.out.cell (j := 3) rfl
  have c4 := HP7.out.cell (j := 4) rfl
  have z0 := HZ7.out.cell (j := 0) rfl
  have z1 := HZ7.out.cell (j := 1) rfl
  have z2 := HZ7.out.cell (j := 2) rfl
  have z3 := HZ7.out.cell (j := 3) rfl
  have z4 := HZ7.out.cell (j := 4) rfl
  have zf0 := HZ7.out.frozen 0
  have zf1 := HZ7.out.frozen 1
  have zf2 := HZ7.out.frozen 2
  have zf3 := HZ7.out.frozen 3
  have zf4 := HZ7.out.frozen 4
  go_wp2
  refine bodyPost_ret (v := .agg #[.int .i64 st, .int .i64 re, .slice a (pCls d).length cap, .string dt, .slice ia (pCode d).length icap]) (by simp [results, Try.results24, go_sem, z0, z1, z2, z3, z4]) rfl ?_
  rw [HST.out, HRE.out, HDT.out]
  refine ⟨a, cap, ia, icap, rfl, HR7.out.kept (fun g hg _ => ?_), ?_, ?_⟩
  · have hn : g ≠ w.heap.size := by omega
    rw [Below.heap_setCell _ _ _ g hn, Below.heap_setCell _ _ _ g hn, Below.heap_setCell _ _ _ g hn, Below.heap_setCell _ _ _ g hn, Below.heap_setCell _ _ _ g hn]
  · exact ((((HS7.out.setCell_other _ _ hzq.symm).setCell_other _ _ hzq.symm).setCell_other _ _ hzq.symm).setCell_other _ _ hzq.symm).setCell_other _ _ hzq.symm
  · exact kept_setCell (kept_setCell (kept_setCell (kept_setCell (kept_setCell HK7.out _ _ _ (Nat.le_refl _)) _ _ _ (Nat.le_refl _)) _ _ _ (Nat.le_refl _)) _ _ _ (Nat.le_refl _)) _ _ _ (Nat.le_refl _)
end Go.Proofs.Ytjikemhmnkckcab
