import Derived.Test.YtjikemhmnkckcaaJ48
/- Malloc, Free, Realloc, Usable of a script that touches. -/
namespace Go.Proofs.Ytjikemhmnkckcaa
open Go.RowKit

set_option maxRecDepth 100000 in
set_option maxHeartbeats 1600000 in
theorem tb_malloc {vs : Value} (q n : Nat) (F : Nat → Prop) (o1 o2 o3 o4 o5 o6 o7 o8 : Int) (w : World) (h : TIn vs w q n F) (hn : n < 1048576) (h02 : o2 ≤ 9223372036854775807) (h04 : o4 ≤ 9223372036854775807) (v0 : -9223372036854775808 ≤ o6) (v1 : o6 ≤ 9223372036854775807) :
    Calls Try.prog 82 #[.pointer (some ⟨q, 0, none⟩), .agg #[.int .i64 1, .int .i64 o1, .int .i64 o2, .int .i64 o3, .int .i64 o4, .int .i64 o5, .int .i64 o6, .int .i64 o7, .int .i64 o8]] w fun e w' => ∃ F', e = .returned (.bool true) ∧ TIn vs w' q (n + 1) F' ∧ Kept w w' F ∧ ∀ b, F' b → F b ∨ w.heap.size ≤ b := by
  obtain ⟨ph, gc, bb, G, pr, vc, vl, vm, R, vp, ps, hW, hS, h1, h2, h3, hF⟩ := h
  have HW := hide2 hW
  have HS := hide2 hS
  have HF := hide2 hF
  clear hF hS
  have hq := hW.blk.lt
  have HQG := hide2 hW.qg
  have HQR := hide2 hW.qr
  clear hW
  have _HV0 := hide2 v0
  have _HV1 := hide2 v1
  have _HP := hide2 (ptrOf_bd ps o1 o2 h02)
  have _HP2 := hide2 (ptrOf_bd ps o3 o4 h04)
  have HL1 : Hid ((R.log.length + 2) * 48 ≤ 140737488355328) := by show _ ≤ _; omega
  have HM1 : Hid ((R.marks.length + 65536) * 24 ≤ 140737488355328) := by show _ ≤ _; omega
  clear h02 h04 v0 v1
  go_enter Try.func82, Try.ntmps82
  go_wp2_with fail
  obtain ⟨wa, hwa⟩ : ∃ wa, wa = w.alloc (.cells #[.int .i64 1, .int .i64 o1, .int .i64 o2, .int .i64 o3, .int .i64 o4, .int .i64 o5, .int .i64 o6, .int .i64 o7, .int .i64 o8] 98) := ⟨_, rfl⟩
  rw [← hwa]
  have hba : Below w.heap.size w wa := by rw [hwa]; exact (Below.refl _ _).alloc (Nat.le_refl _) _
  have hsa : wa.heap.size = w.heap.size + 1 := by rw [hwa, World.size_alloc]
  have HO : Hid (Blk wa w.heap.size 98 [.int .i64 1, .int .i64 o1, .int .i64 o2, .int .i64 o3, .int .i64 o4, .int .i64 o5, .int .i64 o6, .int .i64 o7, .int .i64 o8]) := by rw [hwa]; exact Blk.alloc _ _ _
  have HWa := hide2 (HW.out.below hba)
  clear hwa
  refine (pointer_any q _ _ vp _ ps o1 o2 wa HWa.out.blk HWa.out.ps).mono ?_
  rintro e0 w0 ⟨rfl, hb0⟩
  have HO0 := hide2 (HO.out.below hb0 HO.out.lt)
  have HW0 := hide2 (HWa.out.below hb0)
  have hq0 : q < w0.heap.size := Nat.lt_of_lt_of_le (Nat.lt_of_lt_of_le hq hba.size) hb0.size
  have c0 := HW0.out.blk.cell (j := 0) rfl
  have c1 := HW0.out.blk.cell (j := 1) rfl
  have d0 := HO0.out.cell (j := 0) rfl
  have d5 := HO0.out.cell (j := 5) rfl
  have d6 := HO0.out.cell (j := 6) rfl
  have d7 := HO0.out.cell (j := 7) rfl
  have _HG : Hid (¬ GFoot ph gc bb G w.heap.size) := fun x => by have := HW.out.g.foot_lt x; omega
  have _HR : Hid (¬ RFoot pr vc vl vm w.heap.size) := fun x => by have := HW.out.r.foot_lt x; omega
  have ho0 : w.heap.size < w0.heap.size := by have := hb0.size; omega
  have HKA : Hid (Kept w w0 F) := Kept.of_below (hba.trans (hb0.mono hba.size)) _
  generalize hob : w.heap.size = ob at *
  have HOB := hide2 hob
  clear hob
  generalize ptrOf ps o1 o2 = pt at *
  have e1 : ((mOut R o5 o6).1 == (mOut R o5 o6).1) = true := by simp
  have e2 : ((mOut R o5 o6).2 == (mOut R o5 o6).2) = true := by simp
  go_wp2_with fail
  go_region_held3 (fun w' => w'.cell? ⟨q, 0, none⟩ = some (.pointer (some ⟨ph, 0, none⟩)) ∧ w'.cell? ⟨q, 1, none⟩ = some (.pointer (some ⟨pr, 0, none⟩)) ∧ w'.cell? ⟨ob, 5, none⟩ = some (.int .i64 o5) ∧ w'.cell? ⟨ob, 6, none⟩ = some (.int .i64 o6) ∧ w'.cell? ⟨ob, 7, none⟩ = some (.int .i64 o7)) (go_keep)
    (first | (go_at_call 29; refine (gmalloc_all ph gc bb G R o5 o6 o7 w0.drew (HW0.out.g.kept (fun _ _ => rfl)) HS.out.sim).mono ?_; rintro e1 w1 ⟨rfl, hG1, hk1⟩; have HG1 := hide2 hG1; have HK1 := hide2 hk1; have hs1 := hk1.size; clear hG1; have c0' : w1.cell? ⟨q, 0, none⟩ = some (.pointer (some ⟨ph, 0, none⟩)) := ((World.cell?_of_block (w := w0.drew) (hk1.block q hq0 HQG.out)).trans c0); have c1' : w1.cell? ⟨q, 1, none⟩ = some (.pointer (some ⟨pr, 0, none⟩)) := ((World.cell?_of_block (w := w0.drew) (hk1.block q hq0 HQG.out)).trans c1); have d5' : w1.cell? ⟨ob, 5, none⟩ = some (.int .i64 o5) := ((World.cell?_of_block (w := w0.drew) (hk1.block ob ho0 _HG.out)).trans d5); have d6' : w1.cell? ⟨ob, 6, none⟩ = some (.int .i64 o6) := ((World.cell?_of_block (w := w0.drew) (hk1.block ob ho0 _HG.out)).trans d6); have d7' : w1.cell? ⟨ob, 7, none⟩ = some (.int .i64 o7) := ((World.cell?_of_block (w := w0.drew) (hk1.block ob ho0 _HG.out)).trans d7); clear hk1))
  clear c0 c1 d0 d5 d6 d7
  have hq1 : q < w1.heap.size := Nat.lt_of_lt_of_le hq0 hs1
  have ho1 : ob < w1.heap.size := Nat.lt_of_lt_of_le ho0 hs1
  have HR1 : Hid (RRep w1 pr vc vl vm R) := HW0.out.r.kept fun b hb => HK1.out.block b (HW0.out.r.foot_lt hb) (fun x => HW0.out.gr b x hb)
  go_wp2_with fail
  go_region_held3 (fun w' => w'.cell? ⟨q, 0, none⟩ = some (.pointer (some ⟨ph, 0, none⟩)) ∧ w'.cell? ⟨q, 1, none⟩ = some (.pointer (some ⟨pr, 0, none⟩)) ∧ w'.cell? ⟨ob, 5, none⟩ = some (.int .i64 o5) ∧ w'.cell? ⟨ob, 6, none⟩ = some (.int .i64 o6) ∧ w'.cell? ⟨ob, 7, none⟩ = some (.int .i64 o7)) (go_keep)
    (first | (go_at_call 105; refine (rt_malloc pr vc vl vm R w1.drew (HR1.out.kept (fun _ _ => rfl)) HS.out.sim.rok HL1.out HM1.out o5 o6 o7).mono ?_; rintro e1 w2 ⟨vl', vm', rfl, hR2⟩; have HR2 := hide2 hR2; have hk2 := hR2.kept; have hs2 := hk2.size; clear hR2; have c0'' : w2.cell? ⟨q, 0, none⟩ = some (.pointer (some ⟨ph, 0, none⟩)) := ((World.cell?_of_block (w := w1.drew) (hk2.block q hq1 HQR.out)).trans c0'); have c1'' : w2.cell? ⟨q, 1, none⟩ = some (.pointer (some ⟨pr, 0, none⟩)) := ((World.cell?_of_block (w := w1.drew) (hk2.block q hq1 HQR.out)).trans c1'); have d5'' : w2.cell? ⟨ob, 5, none⟩ = some (.int .i64 o5) := ((World.cell?_of_block (w := w1.drew) (hk2.block ob ho1 _HR.out)).trans d5'); have d6'' : w2.cell? ⟨ob, 6, none⟩ = some (.int .i64 o6) := ((World.cell?_of_block (w := w1.drew) (hk2.block ob ho1 _HR.out)).trans d6'); have d7'' : w2.cell? ⟨ob, 7, none⟩ = some (.int .i64 o7) := ((World.cell?_of_block (w := w1.drew) (hk2.block ob ho1 _HR.out)).trans d7'); clear hk2))
  clear c0' c1' d5' d6' d7' c0'' c1'' d5'' d6'' d7''
  have HGO : Hid (Goes ph gc bb G R (mG G R o5 o6 o7) (mR R o5 o6 o7)) := Goes.malloc HS.out o5 o6 o7
  have HWH := hide2 (HW0.out.goes (HG1.out.kept (fun _ _ => rfl)) HGO.out.foot (show Kept w0 w1 _ from ⟨HK1.out.os, HK1.out.tape, HK1.out.output, HK1.out.size, HK1.out.block⟩) (show RGone w1 pr vc vl vm w2 vl' vm' _ from ⟨HR2.out.rep, ⟨HR2.out.kept.os, HR2.out.kept.tape, HR2.out.kept.output, HR2.out.kept.size, HR2.out.kept.block⟩, HR2.out.newL, HR2.out.newM⟩) HGO.out.sim.sim)
  go_wp2_with fail
  refine (out_any q _ _ vp _ ps _ _ w2 HWH.out.1.blk HWH.out.1.ps HWH.out.1.pq (by omega)).mono ?_
  rintro e1 w3 ⟨vp', ps', rfl, hB3, hP3, hq3, hk3, hN3, hl3⟩
  have HWO := hide2 (HWH.out.1.outs hB3 hP3 hq3 hk3 hN3)
  have hs3 := hk3.size
  clear hB3 hP3 hq3 hk3 hN3
  go_wp2_with (go_at_call 40; refine (num_any _ _).mono ?_; rintro e1 w6 ⟨rfl, rfl⟩)
  go_ret
  have hwa := HKA.out
  have hob := HOB.out
  have hgl := HGO.out.log
  have hgm := HGO.out.marks
  refine ⟨_, rfl, ⟨ph, gc, bb, _, pr, vc, vl', vm', _, vp', ps', HWO.out.1, HGO.out.sim, by omega, by omega, by omega, fun b => Iff.rfl⟩, ?_, fun b hb => ?_⟩
  · refine (hwa.trans (HWH.out.2.1.mono fun b _ hb => (HF.out b).2 hb)).trans' (HWO.out.2.1) fun b hb hx => ?_
    rcases HWH.out.2.2 b hx with hx | hx
    · exact (HF.out b).2 hx
    · have := hwa.size; omega
  · have := hwa.size
    have := HWH.out.2.1.size
    rcases HWO.out.2.2 b hb with hb | hb
    · rcases HWH.out.2.2 b hb with hb | hb
      · exact .inl ((HF.out b).2 hb)
      · right; omega
    · right; omega

set_option maxRecDepth 100000 in
set_option maxHeartbeats 1600000 in
theorem tb_free {vs : Value} (q n : Nat) (F : Nat → Prop) (o1 o2 o3 o4 o5 o6 o7 o8 : Int) (w : World) (h : TIn vs w q n F) (hn : n < 1048576) (h02 : o2 ≤ 9223372036854775807) (h04 : o4 ≤ 9223372036854775807) (v0 : -9223372036854775808 ≤ o6) (v1 : o6 ≤ 9223372036854775807) :
    Calls Try.prog 82 #[.pointer (some ⟨q, 0, none⟩), .agg #[.int .i64 2, .int .i64 o1, .int .i64 o2, .int .i64 o3, .int .i64 o4, .int .i64 o5, .int .i64 o6, .int .i64 o7, .int .i64 o8]] w fun e w' => ∃ F', e = .returned (.bool true) ∧ TIn vs w' q (n + 1) F' ∧ Kept w w' F ∧ ∀ b, F' b → F b ∨ w.heap.size ≤ b := by
  obtain ⟨ph, gc, bb, G, pr, vc, vl, vm, R, vp, ps, hW, hS, h1, h2, h3, hF⟩ := h
  have HW := hide2 hW
  have HS := hide2 hS
  have HF := hide2 hF
  clear hF hS
  have hq := hW.blk.lt
  have HQG := hide2 hW.qg
  have HQR := hide2 hW.qr
  clear hW
  have _HV0 := hide2 v0
  have _HV1 := hide2 v1
  have _HP := hide2 (ptrOf_bd ps o1 o2 h02)
  have _HP2 := hide2 (ptrOf_bd ps o3 o4 h04)
  have HL1 : Hid ((R.log.length + 2) * 48 ≤ 140737488355328) := by show _ ≤ _; omega
  have HM1 : Hid ((R.marks.length + 65536) * 24 ≤ 140737488355328) := by show _ ≤ _; omega
  clear h02 h04 v0 v1
  go_enter Try.func82, Try.ntmps82
  go_wp2_with fail
  obtain ⟨wa, hwa⟩ : ∃ wa, wa = w.alloc (.cells #[.int .i64 2, .int .i64 o1, .int .i64 o2, .int .i64 o3, .int .i64 o4, .int .i64 o5, .int .i64 o6, .int .i64 o7, .int .i64 o8] 98) := ⟨_, rfl⟩
  rw [← hwa]
  have hba : Below w.heap.size w wa := by rw [hwa]; exact (Below.refl _ _).alloc (Nat.le_refl _) _
  have hsa : wa.heap.size = w.heap.size + 1 := by rw [hwa, World.size_alloc]
  have HO : Hid (Blk wa w.heap.size 98 [.int .i64 2, .int .i64 o1, .int .i64 o2, .int .i64 o3, .int .i64 o4, .int .i64 o5, .int .i64 o6, .int .i64 o7, .int .i64 o8]) := by rw [hwa]; exact Blk.alloc _ _ _
  have HWa := hide2 (HW.out.below hba)
  clear hwa
  refine (pointer_any q _ _ vp _ ps o1 o2 wa HWa.out.blk HWa.out.ps).mono ?_
  rintro e0 w0 ⟨rfl, hb0⟩
  have HO0 := hide2 (HO.out.below hb0 HO.out.lt)
  have HW0 := hide2 (HWa.out.below hb0)
  have hq0 : q < w0.heap.size := Nat.lt_of_lt_of_le (Nat.lt_of_lt_of_le hq hba.size) hb0.size
  have c0 := HW0.out.blk.cell (j := 0) rfl
  have c1 := HW0.out.blk.cell (j := 1) rfl
  have d0 := HO0.out.cell (j := 0) rfl
  have d7 := HO0.out.cell (j := 7) rfl
  have _HG : Hid (¬ GFoot ph gc bb G w.heap.size) := fun x => by have := HW.out.g.foot_lt x; omega
  have _HR : Hid (¬ RFoot pr vc vl vm w.heap.size) := fun x => by have := HW.out.r.foot_lt x; omega
  have ho0 : w.heap.size < w0.heap.size := by have := hb0.size; omega
  have HKA : Hid (Kept w w0 F) := Kept.of_below (hba.trans (hb0.mono hba.size)) _
  generalize hob : w.heap.size = ob at *
  have HOB := hide2 hob
  clear hob
  generalize ptrOf ps o1 o2 = pt at *
  have e1 : (fOut R pt == fOut R pt) = true := by simp
  go_wp2_with fail
  go_region_held3 (fun w' => w'.cell? ⟨q, 0, none⟩ = some (.pointer (some ⟨ph, 0, none⟩)) ∧ w'.cell? ⟨q, 1, none⟩ = some (.pointer (some ⟨pr, 0, none⟩)) ∧ w'.cell? ⟨ob, 7, none⟩ = some (.int .i64 o7)) (go_keep)
    (first | (go_at_call 94; refine (gfree_st ph gc bb G R pt o7 w0.drew (HW0.out.g.kept (fun _ _ => rfl)) HS.out.sim _HP.out).mono ?_; rintro e1 w1 ⟨rfl, hG1, hk1⟩; have HG1 := hide2 hG1; have HK1 := hide2 hk1; have hs1 := hk1.size; clear hG1; have c0' : w1.cell? ⟨q, 0, none⟩ = some (.pointer (some ⟨ph, 0, none⟩)) := ((World.cell?_of_block (w := w0.drew) (hk1.block q hq0 HQG.out)).trans c0); have c1' : w1.cell? ⟨q, 1, none⟩ = some (.pointer (some ⟨pr, 0, none⟩)) := ((World.cell?_of_block (w := w0.drew) (hk1.block q hq0 HQG.out)).trans c1); have d7' : w1.cell? ⟨ob, 7, none⟩ = some (.int .i64 o7) := ((World.cell?_of_block (w := w0.drew) (hk1.block ob ho0 _HG.out)).trans d7); clear hk1))
  clear c0 c1 d0 d7
  have hq1 : q < w1.heap.size := Nat.lt_of_lt_of_le hq0 hs1
  have ho1 : ob < w1.heap.size := Nat.lt_of_lt_of_le ho0 hs1
  have HR1 : Hid (RRep w1 pr vc vl vm R) := HW0.out.r.kept fun b hb => HK1.out.block b (HW0.out.r.foot_lt hb) (fun x => HW0.out.gr b x hb)
  go_wp2_with fail
  go_region_held3 (fun w' => w'.cell? ⟨q, 0, none⟩ = some (.pointer (some ⟨ph, 0, none⟩)) ∧ w'.cell? ⟨q, 1, none⟩ = some (.pointer (some ⟨pr, 0, none⟩)) ∧ w'.cell? ⟨ob, 7, none⟩ = some (.int .i64 o7)) (go_keep)
    (first | (go_at_call 107; refine (rt_free pr vc vl vm R w1.drew (HR1.out.kept (fun _ _ => rfl)) HS.out.sim.rok HL1.out HM1.out pt o7 _HP.out).mono ?_; rintro e1 w2 ⟨vl', vm', rfl, hR2⟩; have HR2 := hide2 hR2; have hk2 := hR2.kept; have hs2 := hk2.size; clear hR2; have c0'' : w2.cell? ⟨q, 0, none⟩ = some (.pointer (some ⟨ph, 0, none⟩)) := ((World.cell?_of_block (w := w1.drew) (hk2.block q hq1 HQR.out)).trans c0'); have c1'' : w2.cell? ⟨q, 1, none⟩ = some (.pointer (some ⟨pr, 0, none⟩)) := ((World.cell?_of_block (w := w1.drew) (hk2.block q hq1 HQR.out)).trans c1'); have d7'' : w2.cell? ⟨ob, 7, none⟩ = some (.int .i64 o7) := ((World.cell?_of_block (w := w1.drew) (hk2.block ob ho1 _HR.out)).trans d7'); clear hk2))
  clear c0' c1' d7' c0'' c1'' d7''
  have HGO : Hid (Goes ph gc bb G R (fG G R pt o7) (fR R pt o7)) := Goes.free HS.out pt o7
  have HWH := hide2 (HW0.out.goes (HG1.out.kept (fun _ _ => rfl)) HGO.out.foot (show Kept w0 w1 _ from ⟨HK1.out.os, HK1.out.tape, HK1.out.output, HK1.out.size, HK1.out.block⟩) (show RGone w1 pr vc vl vm w2 vl' vm' _ from ⟨HR2.out.rep, ⟨HR2.out.kept.os, HR2.out.kept.tape, HR2.out.kept.output, HR2.out.kept.size, HR2.out.kept.block⟩, HR2.out.newL, HR2.out.newM⟩) HGO.out.sim.sim)
  go_wp2_with (go_at_call 40; refine (num_any _ _).mono ?_; rintro e1 w6 ⟨rfl, rfl⟩)
  go_ret
  have hwa := HKA.out
  have hob := HOB.out
  have hgl := HGO.out.log
  have hgm := HGO.out.marks
  refine ⟨_, rfl, ⟨ph, gc, bb, _, pr, vc, vl', vm', _, vp, ps, HWH.out.1, HGO.out.sim, by omega, by omega, by omega, fun b => Iff.rfl⟩, ?_, fun b hb => ?_⟩
  · exact (hwa.trans (HWH.out.2.1.mono fun b _ hb => (HF.out b).2 hb))
  · have := hwa.size
    have := HWH.out.2.1.size
    rcases HWH.out.2.2 b hb with hb | hb
    · exact .inl ((HF.out b).2 hb)
    · right; omega

set_option maxRecDepth 100000 in
set_option maxHeartbeats 1600000 in
theorem tb_realloc {vs : Value} (q n : Nat) (F : Nat → Prop) (o1 o2 o3 o4 o5 o6 o7 o8 : Int) (w : World) (h : TIn vs w q n F) (hn : n < 1048576) (h02 : o2 ≤ 9223372036854775807) (h04 : o4 ≤ 9223372036854775807) (v0 : -9223372036854775808 ≤ o6) (v1 : o6 ≤ 9223372036854775807) :
    Calls Try.prog 82 #[.pointer (some ⟨q, 0, none⟩), .agg #[.int .i64 3, .int .i64 o1, .int .i64 o2, .int .i64 o3, .int .i64 o4, .int .i64 o5, .int .i64 o6, .int .i64 o7, .int .i64 o8]] w fun e w' => ∃ F', e = .returned (.bool true) ∧ TIn vs w' q (n + 1) F' ∧ Kept w w' F ∧ ∀ b, F' b → F b ∨ w.heap.size ≤ b := by
  obtain ⟨ph, gc, bb, G, pr, vc, vl, vm, R, vp, ps, hW, hS, h1, h2, h3, hF⟩ := h
  have HW := hide2 hW
  have HS := hide2 hS
  have HF := hide2 hF
  clear hF hS
  have hq := hW.blk.lt
  have HQG := hide2 hW.qg
  have HQR := hide2 hW.qr
  clear hW
  have _HV0 := hide2 v0
  have _HV1 := hide2 v1
  have _HP := hide2 (ptrOf_bd ps o1 o2 h02)
  have _HP2 := hide2 (ptrOf_bd ps o3 o4 h04)
  have HL1 : Hid ((R.log.length + 2) * 48 ≤ 140737488355328) := by show _ ≤ _; omega
  have HM1 : Hid ((R.marks.length + 65536) * 24 ≤ 140737488355328) := by show _ ≤ _; omega
  clear h02 h04 v0 v1
  go_enter Try.func82, Try.ntmps82
  go_wp2_with fail
  obtain ⟨wa, hwa⟩ : ∃ wa, wa = w.alloc (.cells #[.int .i64 3, .int .i64 o1, .int .i64 o2, .int .i64 o3, .int .i64 o4, .int .i64 o5, .int .i64 o6, .int .i64 o7, .int .i64 o8] 98) := ⟨_, rfl⟩
  rw [← hwa]
  have hba : Below w.heap.size w wa := by rw [hwa]; exact (Below.refl _ _).alloc (Nat.le_refl _) _
  have hsa : wa.heap.size = w.heap.size + 1 := by rw [hwa, World.size_alloc]
  have HO : Hid (Blk wa w.heap.size 98 [.int .i64 3, .int .i64 o1, .int .i64 o2, .int .i64 o3, .int .i64 o4, .int .i64 o5, .int .i64 o6, .int .i64 o7, .int .i64 o8]) := by rw [hwa]; exact Blk.alloc _ _ _
  have HWa := hide2 (HW.out.below hba)
  clear hwa
  refine (pointer_any q _ _ vp _ ps o1 o2 wa HWa.out.blk HWa.out.ps).mono ?_
  rintro e0 w0 ⟨rfl, hb0⟩
  have HO0 := hide2 (HO.out.below hb0 HO.out.lt)
  have HW0 := hide2 (HWa.out.below hb0)
  have hq0 : q < w0.heap.size := Nat.lt_of_lt_of_le (Nat.lt_of_lt_of_le hq hba.size) hb0.size
  have c0 := HW0.out.blk.cell (j := 0) rfl
  have c1 := HW0.out.blk.cell (j := 1) rfl
  have d0 := HO0.out.cell (j := 0) rfl
  have d5 := HO0.out.cell (j := 5) rfl
  have d6 := HO0.out.cell (j := 6) rfl
  have d7 := HO0.out.cell (j := 7) rfl
  have _HG : Hid (¬ GFoot ph gc bb G w.heap.size) := fun x => by have := HW.out.g.foot_lt x; omega
  have _HR : Hid (¬ RFoot pr vc vl vm w.heap.size) := fun x => by have := HW.out.r.foot_lt x; omega
  have ho0 : w.heap.size < w0.heap.size := by have := hb0.size; omega
  have HKA : Hid (Kept w w0 F) := Kept.of_below (hba.trans (hb0.mono hba.size)) _
  generalize hob : w.heap.size = ob at *
  have HOB := hide2 hob
  clear hob
  generalize ptrOf ps o1 o2 = pt at *
  have e1 : ((R.reOut pt o5 o6).1 == (R.reOut pt o5 o6).1) = true := by simp
  have e2 : ((R.reOut pt o5 o6).2 == (R.reOut pt o5 o6).2) = true := by simp
  go_wp2_with fail
  go_region_held3 (fun w' => w'.cell? ⟨q, 0, none⟩ = some (.pointer (some ⟨ph, 0, none⟩)) ∧ w'.cell? ⟨q, 1, none⟩ = some (.pointer (some ⟨pr, 0, none⟩)) ∧ w'.cell? ⟨ob, 5, none⟩ = some (.int .i64 o5) ∧ w'.cell? ⟨ob, 6, none⟩ = some (.int .i64 o6) ∧ w'.cell? ⟨ob, 7, none⟩ = some (.int .i64 o7)) (go_keep)
    (first | (go_at_call 108; refine (greal_any ph gc bb G R pt o5 o6 o7 w0.drew (HW0.out.g.kept (fun _ _ => rfl)) HS.out _HP.out).mono ?_; rintro e1 w1 ⟨rfl, hG1, hk1⟩; have HG1 := hide2 hG1; have HK1 := hide2 hk1; have hs1 := hk1.size; clear hG1; have c0' : w1.cell? ⟨q, 0, none⟩ = some (.pointer (some ⟨ph, 0, none⟩)) := ((World.cell?_of_block (w := w0.drew) (hk1.block q hq0 HQG.out)).trans c0); have c1' : w1.cell? ⟨q, 1, none⟩ = some (.pointer (some ⟨pr, 0, none⟩)) := ((World.cell?_of_block (w := w0.drew) (hk1.block q hq0 HQG.out)).trans c1); have d5' : w1.cell? ⟨ob, 5, none⟩ = some (.int .i64 o5) := ((World.cell?_of_block (w := w0.drew) (hk1.block ob ho0 _HG.out)).trans d5); have d6' : w1.cell? ⟨ob, 6, none⟩ = some (.int .i64 o6) := ((World.cell?_of_block (w := w0.drew) (hk1.block ob ho0 _HG.out)).trans d6); have d7' : w1.cell? ⟨ob, 7, none⟩ = some (.int .i64 o7) := ((World.cell?_of_block (w := w0.drew) (hk1.block ob ho0 _HG.out)).trans d7); clear hk1))
  clear c0 c1 d0 d5 d6 d7
  have hq1 : q < w1.heap.size := Nat.lt_of_lt_of_le hq0 hs1
  have ho1 : ob < w1.heap.size := Nat.lt_of_lt_of_le ho0 hs1
  have HR1 : Hid (RRep w1 pr vc vl vm R) := HW0.out.r.kept fun b hb => HK1.out.block b (HW0.out.r.foot_lt hb) (fun x => HW0.out.gr b x hb)
  go_wp2_with fail
  go_region_held3 (fun w' => w'.cell? ⟨q, 0, none⟩ = some (.pointer (some ⟨ph, 0, none⟩)) ∧ w'.cell? ⟨q, 1, none⟩ = some (.pointer (some ⟨pr, 0, none⟩)) ∧ w'.cell? ⟨ob, 5, none⟩ = some (.int .i64 o5) ∧ w'.cell? ⟨ob, 6, none⟩ = some (.int .i64 o6) ∧ w'.cell? ⟨ob, 7, none⟩ = some (.int .i64 o7)) (go_keep)
    (first | (go_at_call 109; refine (rt_realloc pr vc vl vm R w1.drew (HR1.out.kept (fun _ _ => rfl)) HS.out.sim.rok HL1.out HM1.out pt o5 o6 o7 _HP.out).mono ?_; rintro e1 w2 ⟨vl', vm', rfl, hR2⟩; have HR2 := hide2 hR2; have hk2 := hR2.kept; have hs2 := hk2.size; clear hR2; have c0'' : w2.cell? ⟨q, 0, none⟩ = some (.pointer (some ⟨ph, 0, none⟩)) := ((World.cell?_of_block (w := w1.drew) (hk2.block q hq1 HQR.out)).trans c0'); have c1'' : w2.cell? ⟨q, 1, none⟩ = some (.pointer (some ⟨pr, 0, none⟩)) := ((World.cell?_of_block (w := w1.drew) (hk2.block q hq1 HQR.out)).trans c1'); have d5'' : w2.cell? ⟨ob, 5, none⟩ = some (.int .i64 o5) := ((World.cell?_of_block (w := w1.drew) (hk2.block ob ho1 _HR.out)).trans d5'); have d6'' : w2.cell? ⟨ob, 6, none⟩ = some (.int .i64 o6) := ((World.cell?_of_block (w := w1.drew) (hk2.block ob ho1 _HR.out)).trans d6'); have d7'' : w2.cell? ⟨ob, 7, none⟩ = some (.int .i64 o7) := ((World.cell?_of_block (w := w1.drew) (hk2.block ob ho1 _HR.out)).trans d7'); clear hk2))
  clear c0' c1' d5' d6' d7' c0'' c1'' d5'' d6'' d7''
  have HGO : Hid (Goes ph gc bb G R (reG G R pt o5 o6 o7) (R.re pt o5 o6 o7)) := Goes.realloc HS.out pt o5 o6 o7
  have HWH := hide2 (HW0.out.goes (HG1.out.kept (fun _ _ => rfl)) HGO.out.foot (show Kept w0 w1 _ from ⟨HK1.out.os, HK1.out.tape, HK1.out.output, HK1.out.size, HK1.out.block⟩) (show RGone w1 pr vc vl vm w2 vl' vm' _ from ⟨HR2.out.rep, ⟨HR2.out.kept.os, HR2.out.kept.tape, HR2.out.kept.output, HR2.out.kept.size, HR2.out.kept.block⟩, HR2.out.newL, HR2.out.newM⟩) HGO.out.sim.sim)
  go_wp2_with fail
  refine (out_any q _ _ vp _ ps _ _ w2 HWH.out.1.blk HWH.out.1.ps HWH.out.1.pq (by omega)).mono ?_
  rintro e1 w3 ⟨vp', ps', rfl, hB3, hP3, hq3, hk3, hN3, hl3⟩
  have HWO := hide2 (HWH.out.1.outs hB3 hP3 hq3 hk3 hN3)
  have hs3 := hk3.size
  clear hB3 hP3 hq3 hk3 hN3
  go_wp2_with (go_at_call 40; refine (num_any _ _).mono ?_; rintro e1 w6 ⟨rfl, rfl⟩)
  go_ret
  have hwa := HKA.out
  have hob := HOB.out
  have hgl := HGO.out.log
  have hgm := HGO.out.marks
  refine ⟨_, rfl, ⟨ph, gc, bb, _, pr, vc, vl', vm', _, vp', ps', HWO.out.1, HGO.out.sim, by omega, by omega, by omega, fun b => Iff.rfl⟩, ?_, fun b hb => ?_⟩
  · refine (hwa.trans (HWH.out.2.1.mono fun b _ hb => (HF.out b).2 hb)).trans' (HWO.out.2.1) fun b hb hx => ?_
    rcases HWH.out.2.2 b hx with hx | hx
    · exact (HF.out b).2 hx
    · have := hwa.size; omega
  · have := hwa.size
    have := HWH.out.2.1.size
    rcases HWO.out.2.2 b hb with hb | hb
    · rcases HWH.out.2.2 b hb with hb | hb
      · exact .inl ((HF.out b).2 hb)
      · right; omega
    · right; omega

set_option maxRecDepth 100000 in
set_option maxHeartbeats 1600000 in
theorem tb_usable {vs : Value} (q n : Nat) (F : Nat → Prop) (o1 o2 o3 o4 o5 o6 o7 o8 : Int) (w : World) (h : TIn vs w q n F) (hn : n < 1048576) (h02 : o2 ≤ 9223372036854775807) (h04 : o4 ≤ 9223372036854775807) (v0 : -9223372036854775808 ≤ o6) (v1 : o6 ≤ 9223372036854775807) :
    Calls Try.prog 82 #[.pointer (some ⟨q, 0, none⟩), .agg #[.int .i64 4, .int .i64 o1, .int .i64 o2, .int .i64 o3, .int .i64 o4, .int .i64 o5, .int .i64 o6, .int .i64 o7, .int .i64 o8]] w fun e w' => ∃ F', e = .returned (.bool true) ∧ TIn vs w' q (n + 1) F' ∧ Kept w w' F ∧ ∀ b, F' b → F b ∨ w.heap.size ≤ b := by
  obtain ⟨ph, gc, bb, G, pr, vc, vl, vm, R, vp, ps, hW, hS, h1, h2, h3, hF⟩ := h
  have HW := hide2 hW
  have HS := hide2 hS
  have HF := hide2 hF
  clear hF hS
  have hq := hW.blk.lt
  have HQG := hide2 hW.qg
  have HQR := hide2 hW.qr
  clear hW
  have _HV0 := hide2 v0
  have _HV1 := hide2 v1
  have _HP := hide2 (ptrOf_bd ps o1 o2 h02)
  have _HP2 := hide2 (ptrOf_bd ps o3 o4 h04)
  have HL1 : Hid ((R.log.length + 2) * 48 ≤ 140737488355328) := by show _ ≤ _; omega
  have HM1 : Hid ((R.marks.length + 65536) * 24 ≤ 140737488355328) := by show _ ≤ _; omega
  clear h02 h04 v0 v1
  go_enter Try.func82, Try.ntmps82
  go_wp2_with fail
  obtain ⟨wa, hwa⟩ : ∃ wa, wa = w.alloc (.cells #[.int .i64 4, .int .i64 o1, .int .i64 o2, .int .i64 o3, .int .i64 o4, .int .i64 o5, .int .i64 o6, .int .i64 o7, .int .i64 o8] 98) := ⟨_, rfl⟩
  rw [← hwa]
  have hba : Below w.heap.size w wa := by rw [hwa]; exact (Below.refl _ _).alloc (Nat.le_refl _) _
  have hsa : wa.heap.size = w.heap.size + 1 := by rw [hwa, World.size_alloc]
  have HO : Hid (Blk wa w.heap.size 98 [.int .i64 4, .int .i64 o1, .int .i64 o2, .int .i64 o3, .int .i64 o4, .int .i64 o5, .int .i64 o6, .int .i64 o7, .int .i64 o8]) := by rw [hwa]; exact Blk.alloc _ _ _
  have HWa := hide2 (HW.out.below hba)
  clear hwa
  refine (pointer_any q _ _ vp _ ps o1 o2 wa HWa.out.blk HWa.out.ps).mono ?_
  rintro e0 w0 ⟨rfl, hb0⟩
  have HO0 := hide2 (HO.out.below hb0 HO.out.lt)
  have HW0 := hide2 (HWa.out.below hb0)
  have hq0 : q < w0.heap.size := Nat.lt_of_lt_of_le (Nat.lt_of_lt_of_le hq hba.size) hb0.size
  have c0 := HW0.out.blk.cell (j := 0) rfl
  have c1 := HW0.out.blk.cell (j := 1) rfl
  have d0 := HO0.out.cell (j := 0) rfl
  have _HG : Hid (¬ GFoot ph gc bb G w.heap.size) := fun x => by have := HW.out.g.foot_lt x; omega
  have _HR : Hid (¬ RFoot pr vc vl vm w.heap.size) := fun x => by have := HW.out.r.foot_lt x; omega
  have ho0 : w.heap.size < w0.heap.size := by have := hb0.size; omega
  have HKA : Hid (Kept w w0 F) := Kept.of_below (hba.trans (hb0.mono hba.size)) _
  generalize hob : w.heap.size = ob at *
  have HOB := hide2 hob
  clear hob
  generalize ptrOf ps o1 o2 = pt at *
  have e1 : ((R.usable pt).1 == (R.usable pt).1) = true := by simp
  have e2 : ((R.usable pt).2 == (R.usable pt).2) = true := by simp
  go_wp2_with fail
  refine (gt_usable ph gc bb G R w0 (HW0.out.g.kept (fun _ _ => rfl)) HS.out pt _HP.out).mono ?_
  rintro e1 w1 ⟨rfl, hG1, hk1⟩
  have HG1 := hide2 hG1
  have HK1 := hide2 hk1
  have hs1 := hk1.size
  clear hG1
  have c0' : w1.cell? ⟨q, 0, none⟩ = some (.pointer (some ⟨ph, 0, none⟩)) := ((World.cell?_of_block (w := w0) (hk1.block q hq0 HQG.out)).trans c0)
  have c1' : w1.cell? ⟨q, 1, none⟩ = some (.pointer (some ⟨pr, 0, none⟩)) := ((World.cell?_of_block (w := w0) (hk1.block q hq0 HQG.out)).trans c1)
  clear hk1
  clear c0 c1 d0
  have hq1 : q < w1.heap.size := Nat.lt_of_lt_of_le hq0 hs1
  have ho1 : ob < w1.heap.size := Nat.lt_of_lt_of_le ho0 hs1
  have HR1 : Hid (RRep w1 pr vc vl vm R) := HW0.out.r.kept fun b hb => HK1.out.block b (HW0.out.r.foot_lt hb) (fun x => HW0.out.gr b x hb)
  go_wp2_with fail
  refine (rt_usable pr vc vl vm R w1 (HR1.out.kept (fun _ _ => rfl)) HS.out.sim.rok HL1.out HM1.out pt _HP.out).mono ?_
  rintro e1 w2 ⟨vl', vm', rfl, hR2⟩
  have HR2 := hide2 hR2
  have hk2 := hR2.kept
  have hs2 := hk2.size
  clear hR2
  have c0'' : w2.cell? ⟨q, 0, none⟩ = some (.pointer (some ⟨ph, 0, none⟩)) := ((World.cell?_of_block (w := w1) (hk2.block q hq1 HQR.out)).trans c0')
  have c1'' : w2.cell? ⟨q, 1, none⟩ = some (.pointer (some ⟨pr, 0, none⟩)) := ((World.cell?_of_block (w := w1) (hk2.block q hq1 HQR.out)).trans c1')
  clear hk2
  clear c0' c1' c0'' c1''
  have HGO : Hid (Goes ph gc bb G R (G) (R)) := Goes.same HS.out
  have HWH := hide2 (HW0.out.goes (HG1.out.kept (fun _ _ => rfl)) HGO.out.foot (show Kept w0 w1 _ from ⟨HK1.out.os, HK1.out.tape, HK1.out.output, HK1.out.size, HK1.out.block⟩) (show RGone w1 pr vc vl vm w2 vl' vm' _ from ⟨HR2.out.rep, ⟨HR2.out.kept.os, HR2.out.kept.tape, HR2.out.kept.output, HR2.out.kept.size, HR2.out.kept.block⟩, HR2.out.newL, HR2.out.newM⟩) HGO.out.sim.sim)
  go_wp2_with (go_at_call 40; refine (num_any _ _).mono ?_; rintro e1 w6 ⟨rfl, rfl⟩)
  go_ret
  have hwa := HKA.out
  have hob := HOB.out
  have hgl := HGO.out.log
  have hgm := HGO.out.marks
  refine ⟨_, rfl, ⟨ph, gc, bb, _, pr, vc, vl', vm', _, vp, ps, HWH.out.1, HGO.out.sim, by omega, by omega, by omega, fun b => Iff.rfl⟩, ?_, fun b hb => ?_⟩
  · exact (hwa.trans (HWH.out.2.1.mono fun b _ hb => (HF.out b).2 hb))
  · have := hwa.size
    have := HWH.out.2.1.size
    rcases HWH.out.2.2 b hb with hb | hb
    · exact .inl ((HF.out b).2 hb)
    · right; omega

end Go.Proofs.Ytjikemhmnkckcaa
