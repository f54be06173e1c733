import Derived.Test.YtjikemhmnkckcaaJ38
namespace Go.Proofs.Ytjikemhmnkckcaa
open Go.RowKit
attribute [local go_sem ↓] Go.wp_at_zero Go.wp_at_succ

set_option maxRecDepth 100000 in
set_option maxHeartbeats 3200000 in
theorem kfit_big (st rest : Int) (a : Option Addr) (cap : Nat) (cls : List (Int × Int)) (w : World) (h : CRow w a cap cls) (h5 : 4 < cls.length) (b0 : -9223372036854775808 ≤ st) (b1 : st ≤ 9223372036854775807) (b2 : -9223372036854775808 ≤ rest) (b3 : rest ≤ 9223372036854775807) :
    Calls Try.prog 54 #[.agg #[.int .i64 st, .int .i64 rest, .slice a cls.length cap]] w fun e w' => ∃ v, e = .returned (.agg #[.int .i64 (kpick st 17), .int .i64 (kpick rest 17), v]) ∧
      w'.ownsRow 0 67 2 v (kfit cls).length ((kfit cls).flatMap clsCells) ∧ Below w.heap.size w w' ∧ ∀ g, v.ownBlock = some g → w.heap.size ≤ g := by
  have HC := hide2 h
  obtain ⟨g, off, rfl, hgl, hcell⟩ := h.cells (by omega)
  obtain ⟨i0, hi0, hz0, hz1, hz2⟩ := info_parts info_cls
  have hlen := h.len
  have hcap := h.cap
  unfold maxLen at hcap
  have HCL := hide2 hcell
  have h4' : (4 : Int) < (cls.length : Int) := by omega
  have h4 : 4 ≤ 4 := Nat.le_refl _
  have h0 : 0 < cls.length := by omega
  clear h hcell
  go_enter Try.func54, Try.ntmps54
  go_wp2_with fail
  obtain ⟨wa, hwa⟩ : ∃ wa, wa = ((w.alloc (.cells #[.int .i64 st, .int .i64 rest, .slice (some ⟨g, off, none⟩) cls.length cap] 24)).alloc (.cells #[.int .i64 0, .int .i64 0, .slice none 0 0] 24)) := ⟨_, rfl⟩
  rw [← hwa]
  have c0 : wa.cell? ⟨w.heap.size, 0, none⟩ = some (.int .i64 st) := by rw [hwa, World.cell?_alloc_lt _ _ _ (by show w.heap.size < _; simp)]; exact World.cell?_alloc_new _ _ _ _
  have c1 : wa.cell? ⟨w.heap.size, 1, none⟩ = some (.int .i64 rest) := by rw [hwa, World.cell?_alloc_lt _ _ _ (by show w.heap.size < _; simp)]; exact World.cell?_alloc_new _ _ _ _
  have c2 : wa.cell? ⟨w.heap.size, 2, none⟩ = some (.slice (some ⟨g, off, none⟩) cls.length cap) := by rw [hwa, World.cell?_alloc_lt _ _ _ (by show w.heap.size < _; simp)]; exact World.cell?_alloc_new _ _ _ _
  have HBA : Hid (Below w.heap.size w wa) := by show Below _ _ _; rw [hwa]; exact ((Below.refl _ _).alloc (Nat.le_refl _) _).alloc (by simp) _
  have HFA : Hid (Blk wa (w.heap.size + 1) 24 [.int .i64 0, .int .i64 0, .slice none 0 0]) := by
    show Blk _ _ _ _
    rw [hwa]
    have := Blk.alloc (w.alloc (.cells #[.int .i64 st, .int .i64 rest, .slice (some ⟨g, off, none⟩) cls.length cap] 24)) 24 [.int .i64 0, .int .i64 0, .slice none 0 0]
    rwa [World.size_alloc] at this
  have HSA : Hid (wa.heap.size = w.heap.size + 2) := by show _ = _; rw [hwa]; simp
  have hsa : w.heap.size < wa.heap.size := by rw [HSA.out]; omega
  clear hwa
  refine (fun (key : Unit → ?T) => ?region) (fun _ => ?pf)
  case region =>
    go_region_held3 (fun w' => w'.cell? ⟨w.heap.size, 0, none⟩ = some (.int .i64 st) ∧ w'.cell? ⟨w.heap.size, 1, none⟩ = some (.int .i64 rest)) (go_keep)
      (first | (go_at_call 28; refine (kpick_any _ _ _ (by omega) (by omega) (by omega)).mono ?_; rintro e1 w1 ⟨rfl, rfl⟩))
    all_goals exact key ()
  generalize hst : kpick st 17 = st'
  generalize hrs : kpick rest 17 = rest'
  obtain ⟨wf, hwf⟩ : ∃ wf, wf = (wa.alloc (.cells #[.int .i64 st', .int .i64 rest', .slice none 0 0] 24)).drew := ⟨_, rfl⟩
  rw [← hwf]
  have e2 : wf.cell? ⟨w.heap.size, 2, none⟩ = some (.slice (some ⟨g, off, none⟩) cls.length cap) := by rw [hwf, World.cell?_drew, World.cell?_alloc_lt _ _ _ hsa]; exact c2
  have HR0 : Hid (NewRel w st' rest' (kfitTo cls 4 4).1 w.heap.size wa.heap.size (.slice (some ⟨g, off, none⟩) cls.length cap) 0 (.slice none 0 0) wf) := by
    show NewRel _ _ _ _ _ _ _ _ _ _
    refine ⟨?_, Nat.le_refl _, e2, ?_, by omega, by omega, ?_, ?_, ?_⟩
    · rw [hwf]; exact ((HBA.out.alloc HBA.out.size _).drew)
    · rw [hwf, World.size_drew, World.size_alloc]; omega
    · rw [hwf]; exact Blk.alloc _ _ _
    · simpa using World.ownsRow_nil _ _ _ _
    · intro g h; cases h
  have HF0 : Hid (FitRes wf (w.heap.size + 1) (.slice none 0 0)) := by
    show FitRes _ _ _
    refine ⟨?_, fun g h => by cases h⟩
    rw [hwf]
    exact (Below.heap_alloc wa _ _ (by rw [HSA.out]; omega) : _).trans HFA.out
  clear hwf c0 c1 c2
  go_wp2_with fail
  go_loopw [5, 6] (fun x i wr => ∃ (m : Nat) (v : Value), m ≤ 4 ∧ i = .int .i64 (m : Int) ∧ x = .int .i64 (kfitTo cls 4 m).2 ∧ NewRel w st' rest' (kfitTo cls 4 4).1 w.heap.size wa.heap.size (.slice (some ⟨g, off, none⟩) cls.length cap) m v wr ∧ FitRes wr (w.heap.size + 1) v) (fun _ i _ => 4 - (intOf i).toNat)
  case atStart => exact ⟨0, _, by omega, rfl, rfl, HR0.out, HF0.out⟩
  case round =>
    obtain ⟨m, v, hm, rfl, rfl, hr, hfr⟩ := hrel
    have HFR := hide2 hfr
    have r2 := hr.pbc
    have HRR := hide2 hr
    by_cases hlt : m < 4
    · obtain ⟨d0, d1⟩ := HCL.out m (by omega)
      have d0' := (hr.below.cell (p := ⟨g, off + m * 2, none⟩) hgl).trans d0
      have d1' := (hr.below.cell (p := ⟨g, off + m * 2 + 1, none⟩) hgl).trans d1
      have o2 := hr.obk.cell (j := 2) rfl
      have of2 := hr.obk.frozen 2
      have obl := hr.obk.lt
      have pbl := hr.pbl
      have hsz := hr.below.size
      have x0 : (0 : Int) ≤ (m : Int) := by omega
      have x1 : (m : Int) < (cls.length : Int) := by omega
      have x2 : (m : Int) < 4 := by omega
      have HTO := hide2 (kfitTo_at cls 4 h4 4 (Nat.le_refl _) m hlt)
      have hbd := kfitTo_bd cls 4 h4 m (by omega)
      obtain ⟨l0, l1, l2, _⟩ := hbd
      have HGD : Hid (kfitG cls 4 m (kfitTo cls 4 m).2 = (kfitTo cls 4 m).2 + 1 + kpick (wrap64 (wrap64 (Cf.gr cls m - (kfitTo cls 4 m).2) - 1)) (8 - (kfitTo cls 4 m).2 - (3 - m))) := rfl
      have HSD : Hid (kfitS cls m = 1 + kpick (wrap64 (Cf.sl cls m - 1)) 16) := rfl
      have HNX : Hid ((kfitTo cls 4 (m + 1)).2 = kfitG cls 4 m (kfitTo cls 4 m).2) := rfl
      have hrow := hide2 hr.row
      have vlo := hide2 hr.vlo
      generalize (kfitTo cls 4 m).2 = last at *
      generalize Cf.gr cls m = x at *
      generalize Cf.sl cls m = y at *
      clear d0 d1 hr hfr e2
      go_wp2_with fail
      have hz1' := wrap64_bd (wrap64 (x - last) - 1)
      have hz2' := wrap64_bd (y - 1)
      refine (kpick_any _ _ _ (by omega) (by omega) (by omega)).mono ?_
      rintro e1 w1 ⟨rfl, rfl⟩
      have hk1 := kpick_bd (wrap64 (wrap64 (x - last) - 1)) (8 - last - (3 - m)) (by omega)
      generalize kpick (wrap64 (wrap64 (x - last) - 1)) (8 - last - (3 - m)) = kg at *
      have hk2 := kpick_bd (wrap64 (y - 1)) 16 (by omega)
      go_wp2_with fail
      refine (kpick_any _ _ _ (by omega) (by omega) (by omega)).mono ?_
      rintro e1 w1 ⟨rfl, rfl⟩
      generalize kpick (wrap64 (y - 1)) 16 = ks at *
      generalize hgx : last + 1 + kg = gx at *
      have HX : Hid (Cf.gr (kfitTo cls 4 4).1 m = gx ∧ Cf.sl (kfitTo cls 4 4).1 m = 1 + ks) := ⟨by rw [HTO.out.1, HGD.out], by rw [HTO.out.2, HSD.out]⟩
      have HNX2 : Hid ((kfitTo cls 4 (m + 1)).2 = gx) := by show _ = _; rw [HNX.out, HGD.out]
      clear hgx HGD HSD HNX HTO d0' d1' hz1' hz2' hk1
      go_wp2_with (at_builtin; refine wpList_append_lies _ rfl _ _ _ rfl 0 67 i0 _ 2 16 Try.underlying22 hi0 hz0 hz1 hz2 rfl (by omega) v m (((kfitTo cls 4 4).1.take m).flatMap clsCells) rfl (hrow.out.alloc _) ⟨wr.heap.size, 0, none⟩ 1 1 [.int .i64 gx, .int .i64 (1 + ks)] rfl rfl (World.news_of_block (cs := #[.int .i64 gx, .int .i64 (1 + ks)]) (t := 67) (fr := (0, 0)) (heap_alloc_new wr _)) (by simp [Value.oneCell']) (by omega) (by simp [maxLen]; omega) (by omega) (by simp) (wr.heap.size + 1) (by simp) ?_; intro gg cap2 w2 hown1 hgrow hat hlt2; have o2' : w2.cell? ⟨wa.heap.size, 2, none⟩ = some v := (by rw [hgrow.cell_far _ (by simp; omega) (fun e => (vlo.out _ e.symm).2.2 rfl), World.cell?_alloc_lt _ _ _ obl]; exact o2); have of2' : w2.frozen? ⟨wa.heap.size, 2, none⟩ = false := (by rw [hgrow.frozen_far _ (by simp; omega) (fun e => (vlo.out _ e.symm).2.2 rfl), World.frozen?_alloc_old _ _ _ (by show wa.heap.size ≠ _; omega)]; exact of2))
      go_roundw
      case rel => exact ⟨m + 1, _, by omega, by go_num, by rw [HNX2.out], HRR.out.step (by have := (kfitTo_bd cls 4 h4 4 (Nat.le_refl _)).2.2.2; omega) HX.out hown1 (show (World.drew _).grownBy _ _ from ⟨hgrow.os, hgrow.tape, hgrow.output, hgrow.size, hgrow.block⟩) hat, HFR.out.step (by rw [HSA.out]; omega) hgrow hat⟩
      case measure => simp [intOf]; omega
    · obtain rfl : m = 4 := by omega
      obtain ⟨a2, cap2, rfl, -⟩ := row_open HRR.out.row
      have o0 := hr.obk.cell (j := 0) rfl
      have o1 := hr.obk.cell (j := 1) rfl
      have o2 := hr.obk.cell (j := 2) rfl
      have p0 := hfr.blk.cell (j := 0) rfl
      have p1 := hfr.blk.cell (j := 1) rfl
      have p2 := hfr.blk.cell (j := 2) rfl
      have f0 := hfr.blk.frozen 0
      have f1 := hfr.blk.frozen 1
      have f2 := hfr.blk.frozen 2
      clear hr hfr e2
      go_wp2
      have hN : kfitN cls = 4 := by unfold kfitN; rw [if_pos (by omega)]
      have hF : kfit cls = (kfitTo cls 4 4).1 := by unfold kfit; rw [hN, if_neg (by omega)]
      have hl := (kfitTo_bd cls 4 h4 4 (Nat.le_refl _)).2.2.2
      have hrw := HRR.out.row
      have ht : (kfitTo cls 4 4).1.take 4 = (kfitTo cls 4 4).1 := List.take_of_length_le (by omega)
      rw [ht] at hrw
      have hge : w.heap.size ≤ w.heap.size + 1 := Nat.le_succ _
      refine bodyPost_ret (v := .agg #[.int .i64 st', .int .i64 rest', .slice a2 4 cap2]) (by simp [results, Try.results54, go_sem, p0, p1, p2]) rfl ⟨_, by rw [hst, hrs], ?_, ((HRR.out.below.setCell (p := ⟨w.heap.size + 1, 0, none⟩) hge _).setCell (p := ⟨w.heap.size + 1, 1, none⟩) hge _).setCell (p := ⟨w.heap.size + 1, 2, none⟩) hge _, fun g hg => (HRR.out.vlo g hg).1⟩
      rw [hF, hl]
      refine row_kept hrw (fun g hg => ?_)
      have hne := HFR.out.ne g hg
      rw [Below.heap_setCell _ _ _ g (by show g ≠ w.heap.size + 1; exact hne), Below.heap_setCell _ _ _ g (by show g ≠ w.heap.size + 1; exact hne), Below.heap_setCell _ _ _ g (by show g ≠ w.heap.size + 1; exact hne)]
end Go.Proofs.Ytjikemhmnkckcaa
namespace Go.Proofs.Ytjikemhmnkckcaa
open Go.RowKit
attribute [local go_sem ↓] Go.wp_at_zero Go.wp_at_succ

set_option maxRecDepth 100000 in
set_option maxHeartbeats 3200000 in
theorem kfit_none (st rest : Int) (a : Option Addr) (cap : Nat) (w : World) (b0 : -9223372036854775808 ≤ st) (b1 : st ≤ 9223372036854775807) (b2 : -9223372036854775808 ≤ rest) (b3 : rest ≤ 9223372036854775807) :
    Calls Try.prog 54 #[.agg #[.int .i64 st, .int .i64 rest, .slice a 0 cap]] w fun e w' => ∃ v, e = .returned (.agg #[.int .i64 (kpick st 17), .int .i64 (kpick rest 17), v]) ∧
      w'.ownsRow 0 67 2 v 1 [.int .i64 1, .int .i64 1] ∧ Below w.heap.size w w' ∧ ∀ g, v.ownBlock = some g → w.heap.size ≤ g := by
  go_enter Try.func54, Try.ntmps54
  go_wp2_with fail
  obtain ⟨wa, hwa⟩ : ∃ wa, wa = ((w.alloc (.cells #[.int .i64 st, .int .i64 rest, .slice a 0 cap] 24)).alloc (.cells #[.int .i64 0, .int .i64 0, .slice none 0 0] 24)) := ⟨_, rfl⟩
  rw [← hwa]
  have c0 : wa.cell? ⟨w.heap.size, 0, none⟩ = some (.int .i64 st) := by rw [hwa, World.cell?_alloc_lt _ _ _ (by show w.heap.size < _; simp)]; exact World.cell?_alloc_new _ _ _ _
  have c1 : wa.cell? ⟨w.heap.size, 1, none⟩ = some (.int .i64 rest) := by rw [hwa, World.cell?_alloc_lt _ _ _ (by show w.heap.size < _; simp)]; exact World.cell?_alloc_new _ _ _ _
  have c2 : wa.cell? ⟨w.heap.size, 2, none⟩ = some (.slice a 0 cap) := by rw [hwa, World.cell?_alloc_lt _ _ _ (by show w.heap.size < _; simp)]; exact World.cell?_alloc_new _ _ _ _
  have HBA : Hid (Below w.heap.size w wa) := by show Below _ _ _; rw [hwa]; exact ((Below.refl _ _).alloc (Nat.le_refl _) _).alloc (by simp) _
  have HFA : Hid (Blk wa (w.heap.size + 1) 24 [.int .i64 0, .int .i64 0, .slice none 0 0]) := by
    show Blk _ _ _ _
    rw [hwa]
    have := Blk.alloc (w.alloc (.cells #[.int .i64 st, .int .i64 rest, .slice a 0 cap] 24)) 24 [.int .i64 0, .int .i64 0, .slice none 0 0]
    rwa [World.size_alloc] at this
  have HSA : Hid (wa.heap.size = w.heap.size + 2) := by show _ = _; rw [hwa]; simp
  have hsa : w.heap.size < wa.heap.size := by rw [HSA.out]; omega
  clear hwa
  refine (fun (key : Unit → ?T) => ?region) (fun _ => ?pf)
  case region =>
    go_region_held3 (fun w' => w'.cell? ⟨w.heap.size, 0, none⟩ = some (.int .i64 st) ∧ w'.cell? ⟨w.heap.size, 1, none⟩ = some (.int .i64 rest)) (go_keep)
      (first | (go_at_call 28; refine (kpick_any _ _ _ (by omega) (by omega) (by omega)).mono ?_; rintro e1 w1 ⟨rfl, rfl⟩))
    all_goals exact key ()
  generalize hst : kpick st 17 = st'
  generalize hrs : kpick rest 17 = rest'
  obtain ⟨wf, hwf⟩ : ∃ wf, wf = (wa.alloc (.cells #[.int .i64 st', .int .i64 rest', .slice none 0 0] 24)).drew := ⟨_, rfl⟩
  rw [← hwf]
  have e2 : wf.cell? ⟨w.heap.size, 2, none⟩ = some (.slice a 0 cap) := by rw [hwf, World.cell?_drew, World.cell?_alloc_lt _ _ _ hsa]; exact c2
  have HBF : Hid (Below w.heap.size w wf) := by show Below _ _ _; rw [hwf]; exact (HBA.out.alloc HBA.out.size _).drew
  have HFF : Hid (Blk wf wa.heap.size 24 [.int .i64 st', .int .i64 rest', .slice none 0 0]) := by show Blk _ _ _ _; rw [hwf]; exact Blk.alloc _ _ _
  have HFR : Hid (Blk wf (w.heap.size + 1) 24 [.int .i64 0, .int .i64 0, .slice none 0 0]) := by
    show Blk _ _ _ _
    rw [hwf]
    exact (Below.heap_alloc wa _ _ (by rw [HSA.out]; omega) : _).trans HFA.out
  have hsf : wf.heap.size = wa.heap.size + 1 := by rw [hwf, World.size_drew, World.size_alloc]
  clear hwf c0 c1 c2
  go_wp2_with fail
  go_loopw [6] (fun i wr => i = .int .i64 0 ∧ wr = wf) (fun _ _ => 0)
  case atStart => exact ⟨rfl, rfl⟩
  case round =>
    obtain ⟨rfl, rfl⟩ := hrel
    have HFF2 : Hid (Blk (wr.alloc (.cells #[.int .i64 1, .int .i64 1] 67)) wa.heap.size 24 [.int .i64 st', .int .i64 rest', .slice none 0 0]) := (Below.heap_alloc wr _ _ (by omega) : _).trans HFF.out
    have HFR2 : Hid (Blk (wr.alloc (.cells #[.int .i64 1, .int .i64 1] 67)) (w.heap.size + 1) 24 [.int .i64 0, .int .i64 0, .slice none 0 0]) := (Below.heap_alloc wr _ _ HFR.out.lt : _).trans HFR.out
    have o0 := HFF2.out.cell (j := 0) rfl
    have o1 := HFF2.out.cell (j := 1) rfl
    have o2 := HFF2.out.cell (j := 2) rfl
    have of2 := HFF2.out.frozen 2
    have p0 := HFR2.out.cell (j := 0) rfl
    have p1 := HFR2.out.cell (j := 1) rfl
    have p2 := HFR2.out.cell (j := 2) rfl
    have f0 := HFR2.out.frozen 0
    have f1 := HFR2.out.frozen 1
    have f2 := HFR2.out.frozen 2
    have HSF := hide2 hsf
    have hne : w.heap.size + 1 ≠ wa.heap.size := by rw [HSA.out]; omega
    have hne2 : wa.heap.size ≠ w.heap.size + 1 := fun e => hne e.symm
    clear e2 hsf
    go_wp2
    have hge : w.heap.size ≤ w.heap.size + 1 := Nat.le_succ _
    have hsw := HSF.out
    have hsa2 := HSA.out
    refine bodyPost_ret (v := .agg #[.int .i64 st', .int .i64 rest', .slice (some ⟨wr.heap.size, 0, none⟩) 1 1]) (by simp [results, Try.results54, go_sem, p0, p1, p2]) rfl ⟨_, by rw [hst, hrs], ?_, ((((HBF.out.alloc HBF.out.size _).setCell (p := ⟨wa.heap.size, 2, none⟩) (by show _ ≤ wa.heap.size; omega) _).setCell (p := ⟨w.heap.size + 1, 0, none⟩) hge _).setCell (p := ⟨w.heap.size + 1, 1, none⟩) hge _).setCell (p := ⟨w.heap.size + 1, 2, none⟩) hge _, fun g hg => ?_⟩
    · have hrw : (wr.alloc (.cells #[.int .i64 1, .int .i64 1] 67)).ownsRow 0 67 2 (.slice (some ⟨wr.heap.size, 0, none⟩) 1 1) 1 [.int .i64 1, .int .i64 1] :=
        ⟨rfl, .inr ⟨wr.heap.size, 1, _, rfl, Nat.zero_le _, heap_alloc_new wr _, Nat.le_refl _, by unfold maxLen; omega, rfl, rfl⟩⟩
      refine row_kept hrw (fun g hg => ?_)
      obtain rfl : wr.heap.size = g := by simpa [Value.ownBlock] using hg
      rw [Below.heap_setCell _ _ _ _ (by show wr.heap.size ≠ w.heap.size + 1; omega), Below.heap_setCell _ _ _ _ (by show wr.heap.size ≠ w.heap.size + 1; omega), Below.heap_setCell _ _ _ _ (by show wr.heap.size ≠ w.heap.size + 1; omega), Below.heap_setCell _ _ _ _ (by show wr.heap.size ≠ wa.heap.size; omega)]
    · obtain rfl : wr.heap.size = g := by simpa [Value.ownBlock] using hg
      omega

theorem kfit_any (st rest : Int) (a : Option Addr) (cap : Nat) (cls : List (Int × Int)) (w : World) (h : CRow w a cap cls) (b0 : -9223372036854775808 ≤ st) (b1 : st ≤ 9223372036854775807) (b2 : -9223372036854775808 ≤ rest) (b3 : rest ≤ 9223372036854775807) :
    Calls Try.prog 54 #[.agg #[.int .i64 st, .int .i64 rest, .slice a cls.length cap]] w fun e w' => ∃ v, e = .returned (.agg #[.int .i64 (kpick st 17), .int .i64 (kpick rest 17), v]) ∧
      w'.ownsRow 0 67 2 v (kfit cls).length ((kfit cls).flatMap clsCells) ∧ Below w.heap.size w w' ∧ ∀ g, v.ownBlock = some g → w.heap.size ≤ g := by
  by_cases h0 : cls.length = 0
  · obtain rfl : cls = [] := List.length_eq_zero_iff.1 h0
    exact kfit_none st rest a cap w b0 b1 b2 b3
  · by_cases h4 : 4 < cls.length
    · exact kfit_big st rest a cap cls w h h4 b0 b1 b2 b3
    · exact kfit_small st rest a cap cls w h (by omega) (by omega) b0 b1 b2 b3
end Go.Proofs.Ytjikemhmnkckcaa
namespace Go.Proofs.Ytjikemhmnkckcaa
open Go.RowKit
attribute [local go_sem ↓] Go.wp_at_zero Go.wp_at_succ

theorem KOk.start {st rest : Int} {cls : List (Int × Int)} {cs : List GCls} (hv : Cf.Valid st rest cls) (h : ClsOk st cls cls.length cs) :
    KOk ⟨st, rest, cls, [], [], 0⟩ ⟨st, rest, cs, List.replicate (16 * Cf.gran st cls cls.length).toNat 0⟩ ⟨st, rest, cls, [], []⟩ := by
  have hg := Cf.gran_bd hv cls.length (Nat.le_refl _)
  have hz : ∀ i, (List.replicate (16 * Cf.gran st cls cls.length).toNat (0 : Int)).getD i 0 = 0 := fun i => by
    rw [List.getD_eq_getElem?_getD, List.getElem?_replicate]
    split <;> rfl
  refine ⟨⟨Sim.start hv h _ (by rw [List.length_replicate]; omega), ⟨fun i hi => absurd hi (by simp), fun i hi => absurd hi (by simp)⟩, fun i _ => by rw [hz]; decide, fun addr _ _ => hz _, fun i hi => absurd hi (by simp)⟩, rfl, rfl, rfl, RestOk.start _ _ _, fun j hj => absurd hj (by simp), fun i j hi => absurd hi (by simp), fun k _ => ?_, fun i hi => absurd hi (by simp), fun k s h => absurd h (show ¬ (0 : Int) ≤ -1 by decide)⟩
  show 0 = cntTo _ _
  rw [cntTo_none _ _ (fun s _ => by
    show decide ((2 : Int) = 3) = false
    decide)]

theorem KRep.start {w : World} {st rest : Int} {cls : List (Int × Int)} {ph bb : Nat} {gc vc : Value} {G : GSt} (hG : GRep w ph gc bb G) (hc : w.ownsRow 0 67 2 vc cls.length (cls.flatMap clsCells)) (hd : ∀ b, vc.ownBlock = some b → ¬ GFoot ph gc bb G b) :
    KRep (w.alloc (.cells #[.int .i64 st, .int .i64 rest, vc, .pointer (some ⟨ph, 0, none⟩), .slice none 0 0, .slice none 0 0, .int .i64 0] 51)) w.heap.size ph gc bb G vc (.slice none 0 0) (.slice none 0 0) ⟨st, rest, cls, [], [], 0⟩ := by
  refine ⟨Blk.alloc _ _ _, row_below hc ((Below.refl _ _).alloc (Nat.le_refl _) _) (fun g hg => row_lt hc hg), hG.below ((Below.refl _ _).alloc (Nat.le_refl _) _), World.ownsRow_nil _ _ _ _, World.ownsRow_nil _ _ _ _, fun i hi => absurd hi (by simp), fun b => if b = w.heap.size then 0 else if vc.ownBlock = some b then 1 else 2, ?_⟩
  refine ⟨if_pos rfl, fun b hb => ?_, fun b hb => ?_, nofun, nofun, fun i hi => absurd hi (by simp)⟩
  · have := row_lt hc hb
    rw [if_neg (by omega), if_pos hb]
  · have := hG.foot_lt hb
    rw [if_neg (by omega), if_neg (fun e => hd b e hb)]

/-- a book at its beginning -/
def KNew (w0 w : World) (pb : Nat) : Prop := ∃ ph gc bb G vc st rest cls, KRep w pb ph gc bb G vc (.slice none 0 0) (.slice none 0 0) ⟨st, rest, cls, [], [], 0⟩ ∧ KOk ⟨st, rest, cls, [], [], 0⟩ G ⟨st, rest, cls, [], []⟩ ∧ Below w0.heap.size w0 w ∧ ∀ b, KFoot pb ph gc bb G vc (.slice none 0 0) (.slice none 0 0) [] b → w0.heap.size ≤ b

set_option maxRecDepth 100000 in
set_option maxHeartbeats 3200000 in
theorem kopen_any (st rest : Int) (a : Option Addr) (cap : Nat) (cls : List (Int × Int)) (w : World) (h : CRow w a cap cls) (b0 : -9223372036854775808 ≤ st) (b1 : st ≤ 9223372036854775807) (b2 : -9223372036854775808 ≤ rest) (b3 : rest ≤ 9223372036854775807) :
    Calls Try.prog 22 #[.agg #[.int .i64 st, .int .i64 rest, .slice a cls.length cap]] w fun e w' => ∃ pb, e = .returned (.pointer (some ⟨pb, 0, none⟩)) ∧ KNew w w' pb := by
  have HC := hide2 h
  have s1 := kpick_bd st 17 (by omega)
  have s2 := kpick_bd rest 17 (by omega)
  have HV := hide2 (kfit_valid (kpick st 17) (kpick rest 17) cls (by omega) (by omega) (by omega) (by omega))
  clear h
  go_enter Try.func22, Try.ntmps22
  go_wp2_with fail
  obtain ⟨wa, hwa⟩ : ∃ wa, wa = w.alloc (.cells #[.int .i64 st, .int .i64 rest, .slice a cls.length cap] 24) := ⟨_, rfl⟩
  rw [← hwa]
  have HBA : Hid (Below w.heap.size w wa) := by show Below _ _ _; rw [hwa]; exact (Below.refl _ _).alloc (Nat.le_refl _) _
  have HCA : Hid (Blk wa w.heap.size 24 [.int .i64 st, .int .i64 rest, .slice a cls.length cap]) := by show Blk _ _ _ _; rw [hwa]; exact Blk.alloc _ _ _
  clear hwa
  refine (kfit_any st rest a cap cls wa (HC.out.below HBA.out) b0 b1 b2 b3).mono ?_
  rintro e1 w1 ⟨v1, rfl, hr1, hb1, hl1⟩
  obtain ⟨a1, cap1, rfl, hc1⟩ := CRow.of_row hr1
  have HB1 := hide2 hb1
  have HC1 := hide2 hc1
  clear hr1 hb1 hl1 hc1
  go_wp2_with fail
  obtain ⟨wb, hwb⟩ : ∃ wb, wb = w1.alloc (.cells #[.int .i64 (kpick st 17), .int .i64 (kpick rest 17), .slice a1 (kfit cls).length cap1] 24) := ⟨_, rfl⟩
  rw [← hwb]
  have HBB : Hid (Below w1.heap.size w1 wb) := by show Below _ _ _; rw [hwb]; exact (Below.refl _ _).alloc (Nat.le_refl _) _
  clear hwb
  refine (gnew_yes (kpick st 17) (kpick rest 17) a1 cap1 (kfit cls) wb (HC1.out.below HBB.out) HV.out).mono ?_
  rintro e2 w2 ⟨ph, gc, bb, cs, rfl, hG, hok, hb2, hft⟩
  have HG := hide2 hG
  have HB2 := hide2 hb2
  have HFT := hide2 hft
  have HOK := hide2 hok
  have HC2 : Hid (Below wa.heap.size wa w2) := HB1.out.trans ((HBB.out.mono HB1.out.size).trans (HB2.out.mono (Nat.le_trans HB1.out.size HBB.out.size)))
  have c0 := (HCA.out.below HC2.out HCA.out.lt).cell (j := 0) rfl
  have c1 := (HCA.out.below HC2.out HCA.out.lt).cell (j := 1) rfl
  have c2 := (HCA.out.below HC2.out HCA.out.lt).cell (j := 2) rfl
  clear hG hb2 hft hok
  go_wp2_with fail
  refine (kfit_any st rest a cap cls w2 (HC.out.below (HBA.out.trans (HC2.out.mono HBA.out.size))) b0 b1 b2 b3).mono ?_
  rintro e3 w3 ⟨v3, rfl, hr3, hb3, hl3⟩
  have HB3 := hide2 hb3
  have HR3 := hide2 hr3
  have HL3 := hide2 hl3
  obtain ⟨a3, cap3, rfl, -⟩ := row_open hr3
  clear hr3 hb3 hl3 c0 c1 c2
  go_wp2
  go_ret
  have hs1 := HBA.out.size
  have hs2 := HC2.out.size
  have hs3 := HB3.out.size
  have hs4 := HB1.out.size
  have hs5 := HBB.out.size
  have hbt : Below w.heap.size w w3 := HBA.out.trans ((HC2.out.mono hs1).trans (HB3.out.mono (Nat.le_trans hs1 hs2)))
  refine ⟨w3.heap.size, rfl, ph, gc, bb, _, _, _, _, _, KRep.start (HG.out.below HB3.out) HR3.out (fun b h1 h2 => ?_), KOk.start HV.out HOK.out, hbt.alloc hbt.size _, ?_⟩
  · have h3 := HL3.out b h1
    have h4 := HG.out.foot_lt h2
    omega
  · intro b hb
    rcases hb with rfl | hb | hb | hb | hb | ⟨i, hi, _⟩
    · omega
    · have := HL3.out b hb; omega
    · have := HFT.out b hb; omega
    · cases hb
    · cases hb
    · exact absurd hi (by simp)
end Go.Proofs.Ytjikemhmnkckcaa
