import Derived.Test.YtjikemhmnkckcabJ37
namespace Go.Proofs.Ytjikemhmnkckcab
open Go.RowKit
attribute [local go_sem ↓] Go.wp_at_zero Go.wp_at_succ

set_option maxRecDepth 100000 in
set_option maxHeartbeats 3200000 in
theorem kfit_big (st rest : Int) (a : Option Addr) (cap : Nat) (cls : List (Int × Int)) (w : World) (h : CRow w a cap cls) (h5 : 4 < cls.length) (b0 : -9223372036854775808 ≤ st) (b1 : st ≤ 9223372036854775807) (b2 : -9223372036854775808 ≤ rest) (b3 : rest ≤ 9223372036854775807) :
    Calls Try.prog 31 #[.agg #[.int .i64 st, .int .i64 rest, .slice a cls.length cap]] w fun e w' => ∃ v, e = .returned (.agg #[.int .i64 (kpick st 17), .int .i64 (kpick rest 17), v]) ∧
      w'.ownsRow 0 37 2 v (kfit cls).length ((kfit cls).flatMap clsCells) ∧ Below w.heap.size w w' ∧ ∀ g, v.ownBlock = some g → w.heap.size ≤ g := by
  have HC := hide2 h
  obtain ⟨g, off, rfl, hgl, hcell⟩ := h.cells (by omega)
  obtain ⟨i0, hi0, hz0, hz1, hz2⟩ := info_parts info_cls
  have hlen := h.len
  have hcap := h.cap
  unfold maxLen at hcap
  have HCL := hide2 hcell
  have h4' : (4 : Int) < (cls.length : Int) := by omega
  have h4 : 4 ≤ 4 := Nat.le_refl _
  have h0 : 0 < cls.length := by omega
  clear h hcell
  go_enter Try.func31, Try.ntmps31
  go_wp2_with fail
  obtain ⟨wa, hwa⟩ : ∃ wa, wa = ((w.alloc (.cells #[.int .i64 st, .int .i64 rest, .slice (some ⟨g, off, none⟩) cls.length cap] 24)).alloc (.cells #[.int .i64 0, .int .i64 0, .slice none 0 0] 24)) := ⟨_, rfl⟩
  rw [← hwa]
  have c0 : wa.cell? ⟨w.heap.size, 0, none⟩ = some (.int .i64 st) := by rw [hwa, World.cell?_alloc_lt _ _ _ (by show w.heap.size < _; simp)]; exact World.cell?_alloc_new _ _ _ _
  have c1 : wa.cell? ⟨w.heap.size, 1, none⟩ = some (.int .i64 rest) := by rw [hwa, World.cell?_alloc_lt _ _ _ (by show w.heap.size < _; simp)]; exact World.cell?_alloc_new _ _ _ _
  have c2 : wa.cell? ⟨w.heap.size, 2, none⟩ = some (.slice (some ⟨g, off, none⟩) cls.length cap) := by rw [hwa, World.cell?_alloc_lt _ _ _ (by show w.heap.size < _; simp)]; exact World.cell?_alloc_new _ _ _ _
  have HBA : Hid (Below w.heap.size w wa) := by show Below _ _ _; rw [hwa]; exact ((Below.refl _ _).alloc (Nat.le_refl _) _).alloc (by simp) _
  have HFA : Hid (Blk wa (w.heap.size + 1) 24 [.int .i64 0, .int .i64 0, .slice none 0 0]) := by
    show Blk _ _ _ _
    rw [hwa]
    have := Blk.alloc (w.alloc (.cells #[.int .i64 st, .int .i64 rest, .slice (some ⟨g, off, none⟩) cls.length cap] 24)) 24 [.int .i64 0, .int .i64 0, .slice none 0 0]
    rwa [World.size_alloc] at this
  have HSA : Hid (wa.heap.size = w.heap.size + 2) := by show _ = _; rw [hwa]; simp
  have hsa : w.heap.size < wa.heap.size := by rw [HSA.out]; omega
  clear hwa
  refine (fun (key : Unit → ?T) => ?region) (fun _ => ?pf)
  case region =>
    go_region_held3 (fun w' => w'.cell? ⟨w.heap.size, 0, none⟩ = some (.int .i64 st) ∧ w'.cell? ⟨w.heap.size, 1, none⟩ = some (.int .i64 rest)) (go_keep)
      (first | (go_at_call 20; refine (kpick_any _ _ _ (by omega) (by omega) (by omega)).mono ?_; rintro e1 w1 ⟨rfl, rfl⟩))
    all_goals exact key ()
  generalize hst : kpick st 17 = st'
  generalize hrs : kpick rest 17 = rest'
  obtain ⟨wf, hwf⟩ : ∃ wf, wf = (wa.alloc (.cells #[.int .i64 st', .int .i64 rest', .slice none 0 0] 24)).drew := ⟨_, rfl⟩
  rw [← hwf]
  have e2 : wf.cell? ⟨w.heap.size, 2, none⟩ = some (.slice (some ⟨g, off, none⟩) cls.length cap) := by rw [hwf, World.cell?_drew, World.cell?_alloc_lt _ _ _ hsa]; exact c2
  have HR0 : Hid (NewRel w st' rest' (kfitTo cls 4 4).1 w.heap.size wa.heap.size (.slice (some ⟨g, off, none⟩) cls.length cap) 0 (.slice none 0 0) wf) := by
    show NewRel _ _ _ _ _ _ _ _ _ _
    refine ⟨?_, Nat.le_refl _, e2, ?_, by omega, by omega, ?_, ?_, ?_⟩
    · rw [hwf]; exact ((HBA.out.alloc HBA.out.size _).drew)
    · rw [hwf, World.size_drew, World.size_alloc]; omega
    · rw [hwf]; exact Blk.alloc _ _ _
    · simpa using World.ownsRow_nil _ _ _ _
    · intro g h; cases h
  have HF0 : Hid (FitRes wf (w.heap.size + 1) (.slice none 0 0)) := by
    show FitRes _ _ _
    refine ⟨?_, fun g h => by cases h⟩
    rw [hwf]
    exact (Below.heap_alloc wa _ _ (by rw [HSA.out]; omega) : _).trans HFA.out
  clear hwf c0 c1 c2
  go_wp2_with fail
  go_loopw [5, 6] (fun x i wr => ∃ (m : Nat) (v : Value), m ≤ 4 ∧ i = .int .i64 (m : Int) ∧ x = .int .i64 (kfitTo cls 4 m).2 ∧ NewRel w st' rest' (kfitTo cls 4 4).1 w.heap.size wa.heap.size (.slice (some ⟨g, off, none⟩) cls.length cap) m v wr ∧ FitRes wr (w.heap.size + 1) v) (fun _ i _ => 4 - (intOf i).toNat)
  case atStart => exact ⟨0, _, by omega, rfl, rfl, HR0.out, HF0.out⟩
  case round =>
    obtain ⟨m, v, hm, rfl, rfl, hr, hfr⟩ := hrel
    have HFR := hide2 hfr
    have r2 := hr.pbc
    have HRR := hide2 hr
    by_cases hlt : m < 4
    · obtain ⟨d0, d1⟩ := HCL.out m (by omega)
      have d0' := (hr.below.cell (p := ⟨g, off + m * 2, none⟩) hgl).trans d0
      have d1' := (hr.below.cell (p := ⟨g, off + m * 2 + 1, none⟩) hgl).trans d1
      have o2 := hr.obk.cell (j := 2) rfl
      have of2 := hr.obk.frozen 2
      have obl := hr.obk.lt
      have pbl := hr.pbl
      have hsz := hr.below.size
      have x0 : (0 : Int) ≤ (m : Int) := by omega
      have x1 : (m : Int) < (cls.length : Int) := by omega
      have x2 : (m : Int) < 4 := by omega
      have HTO := hide2 (kfitTo_at cls 4 h4 4 (Nat.le_refl _) m hlt)
      have hbd := kfitTo_bd cls 4 h4 m (by omega)
      obtain ⟨l0, l1, l2, _⟩ := hbd
      have HGD : Hid (kfitG cls 4 m (kfitTo cls 4 m).2 = (kfitTo cls 4 m).2 + 1 + kpick (wrap64 (wrap64 (Cf.gr cls m - (kfitTo cls 4 m).2) - 1)) (8 - (kfitTo cls 4 m).2 - (3 - m))) := rfl
      have HSD : Hid (kfitS cls m = 1 + kpick (wrap64 (Cf.sl cls m - 1)) 16) := rfl
      have HNX : Hid ((kfitTo cls 4 (m + 1)).2 = kfitG cls 4 m (kfitTo cls 4 m).2) := rfl
      have hrow := hide2 hr.row
      have vlo := hide2 hr.vlo
      generalize (kfitTo cls 4 m).2 = last at *
      generalize Cf.gr cls m = x at *
      generalize Cf.sl cls m = y at *
      clear d0 d1 hr hfr e2
      go_wp2_with fail
      have hz1' := wrap64_bd (wrap64 (x - last) - 1)
      have hz2' := wrap64_bd (y - 1)
      refine (kpick_any _ _ _ (by omega) (by omega) (by omega)).mono ?_
      rintro e1 w1 ⟨rfl, rfl⟩
      have hk1 := kpick_bd (wrap64 (wrap64 (x - last) - 1)) (8 - last - (3 - m)) (by omega)
      generalize kpick (wrap64 (wrap64 (x - last) - 1)) (8 - last - (3 - m)) = kg at *
      have hk2 := kpick_bd (wrap64 (y - 1)) 16 (by omega)
      go_wp2_with fail
      refine (kpick_any _ _ _ (by omega) (by omega) (by omega)).mono ?_
      rintro e1 w1 ⟨rfl, rfl⟩
      generalize kpick (wrap64 (y - 1)) 16 = ks at *
      generalize hgx : last + 1 + kg = gx at *
      have HX : Hid (Cf.gr (kfitTo cls 4 4).1 m = gx ∧ Cf.sl (kfitTo cls 4 4).1 m = 1 + ks) := ⟨by rw [HTO.out.1, HGD.out], by rw [HTO.out.2, HSD.out]⟩
      have HNX2 : Hid ((kfitTo cls 4 (m + 1)).2 = gx) := by show _ = _; rw [HNX.out, HGD.out]
      clear hgx HGD HSD HNX HTO d0' d1' hz1' hz2' hk1
      go_wp2_with (at_builtin; refine wpList_append_lies _ rfl _ _ _ rfl 0 37 i0 _ 2 16 Try.underlying22 hi0 hz0 hz1 hz2 rfl (by omega) v m (((kfitTo cls 4 4).1.take m).flatMap clsCells) rfl (hrow.out.alloc _) ⟨wr.heap.size, 0, none⟩ 1 1 [.int .i64 gx, .int .i64 (1 + ks)] rfl rfl (World.news_of_block (cs := #[.int .i64 gx, .int .i64 (1 + ks)]) (t := 37) (fr := (0, 0)) (heap_alloc_new wr _)) (by simp [Value.oneCell']) (by omega) (by simp [maxLen]; omega) (by omega) (by simp) (wr.heap.size + 1) (by simp) ?_; intro gg cap2 w2 hown1 hgrow hat hlt2; have o2' : w2.cell? ⟨wa.heap.size, 2, none⟩ = some v := (by rw [hgrow.cell_far _ (by simp; omega) (fun e => (vlo.out _ e.symm).2.2 rfl), World.cell?_alloc_lt _ _ _ obl]; exact o2); have of2' : w2.frozen? ⟨wa.heap.size, 2, none⟩ = false := (by rw [hgrow.frozen_far _ (by simp; omega) (fun e => (vlo.out _ e.symm).2.2 rfl), World.frozen?_alloc_old _ _ _ (by show wa.heap.size ≠ _; omega)]; exact of2))
      go_roundw
      case rel => exact ⟨m + 1, _, by omega, by go_num, by rw [HNX2.out], HRR.out.step (by have := (kfitTo_bd cls 4 h4 4 (Nat.le_refl _)).2.2.2; omega) HX.out hown1 (show (World.drew _).grownBy _ _ from ⟨hgrow.os, hgrow.tape, hgrow.output, hgrow.size, hgrow.block⟩) hat, HFR.out.step (by rw [HSA.out]; omega) hgrow hat⟩
      case measure => simp [intOf]; omega
    · obtain rfl : m = 4 := by omega
      obtain ⟨a2, cap2, rfl, -⟩ := row_open HRR.out.row
      have o0 := hr.obk.cell (j := 0) rfl
      have o1 := hr.obk.cell (j := 1) rfl
      have o2 := hr.obk.cell (j := 2) rfl
      have p0 := hfr.blk.cell (j := 0) rfl
      have p1 := hfr.blk.cell (j := 1) rfl
      have p2 := hfr.blk.cell (j := 2) rfl
      have f0 := hfr.blk.frozen 0
      have f1 := hfr.blk.frozen 1
      have f2 := hfr.blk.frozen 2
      clear hr hfr e2
      go_wp2
      have hN : kfitN cls = 4 := by unfold kfitN; rw [if_pos (by omega)]
      have hF : kfit cls = (kfitTo cls 4 4).1 := by unfold kfit; rw [hN, if_neg (by omega)]
      have hl := (kfitTo_bd cls 4 h4 4 (Nat.le_refl _)).2.2.2
      have hrw := HRR.out.row
      have ht : (kfitTo cls 4 4).1.take 4 = (kfitTo cls 4 4).1 := List.take_of_length_le (by omega)
      rw [ht] at hrw
      have hge : w.heap.size ≤ w.heap.size + 1 := Nat.le_succ _
      refine bodyPost_ret (v := .agg #[.int .i64 st', .int .i64 rest', .slice a2 4 cap2]) (by simp [results, Try.results31, go_sem, p0, p1, p2]) rfl ⟨_, by rw [hst, hrs], ?_, ((HRR.out.below.setCell (p := ⟨w.heap.size + 1, 0, none⟩) hge _).setCell (p := ⟨w.heap.size + 1, 1, none⟩) hge _).setCell (p := ⟨w.heap.size + 1, 2, none⟩) hge _, fun g hg => (HRR.out.vlo g hg).1⟩
      rw [hF, hl]
      refine row_kept hrw (fun g hg => ?_)
      have hne := HFR.out.ne g hg
      rw [Below.heap_setCell _ _ _ g (by show g ≠ w.heap.size + 1; exact hne), Below.heap_setCell _ _ _ g (by show g ≠ w.heap.size + 1; exact hne), Below.heap_setCell _ _ _ g (by show g ≠ w.heap.size + 1; exact hne)]
end Go.Proofs.Ytjikemhmnkckcab
