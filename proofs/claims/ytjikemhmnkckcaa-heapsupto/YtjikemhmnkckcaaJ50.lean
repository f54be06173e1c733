import Derived.Test.YtjikemhmnkckcaaJ48
/- Load, Store, Move of a script that touches. -/
namespace Go.Proofs.Ytjikemhmnkckcaa
open Go.RowKit

set_option maxRecDepth 100000 in
set_option maxHeartbeats 1600000 in
theorem ts_load {vs : Value} (q n : Nat) (F : Nat → Prop) (o1 o2 o3 o4 o5 o6 o7 o8 : Int) (w : World) (h : TIn vs w q n F) (hn : n < 1048576) (h02 : o2 ≤ 9223372036854775807) (h04 : o4 ≤ 9223372036854775807) (v0 : -9223372036854775808 ≤ o6) (v1 : o6 ≤ 9223372036854775807) :
    Calls Try.prog 51 #[.pointer (some ⟨q, 0, none⟩), .agg #[.int .i64 5, .int .i64 o1, .int .i64 o2, .int .i64 o3, .int .i64 o4, .int .i64 o5, .int .i64 o6, .int .i64 o7, .int .i64 o8]] w fun e w' => ∃ F', e = .returned (.bool true) ∧ TIn vs w' q (n + 1) F' ∧ Kept w w' F ∧ ∀ b, F' b → F b ∨ w.heap.size ≤ b := by
  obtain ⟨ph, gc, bb, G, pr, vc, vl, vm, R, vp, ps, hW, hS, h1, h2, h3, hF⟩ := h
  have HW := hide2 hW
  have HS := hide2 hS
  have HF := hide2 hF
  clear hF hS
  have hq := hW.blk.lt
  have HQG := hide2 hW.qg
  have HQR := hide2 hW.qr
  clear hW
  have _HV0 := hide2 v0
  have _HV1 := hide2 v1
  have _HP := hide2 (ptrOf_bd ps o1 o2 h02)
  have _HP2 := hide2 (ptrOf_bd ps o3 o4 h04)
  have HL1 : Hid ((R.log.length + 2) * 48 ≤ 140737488355328) := by show _ ≤ _; omega
  have HM1 : Hid ((R.marks.length + 65536) * 24 ≤ 140737488355328) := by show _ ≤ _; omega
  clear h02 h04 v0 v1
  go_enter Try.func51, Try.ntmps51
  go_wp2_with fail
  obtain ⟨wa, hwa⟩ : ∃ wa, wa = w.alloc (.cells #[.int .i64 5, .int .i64 o1, .int .i64 o2, .int .i64 o3, .int .i64 o4, .int .i64 o5, .int .i64 o6, .int .i64 o7, .int .i64 o8] 98) := ⟨_, rfl⟩
  rw [← hwa]
  have hba : Below w.heap.size w wa := by rw [hwa]; exact (Below.refl _ _).alloc (Nat.le_refl _) _
  have hsa : wa.heap.size = w.heap.size + 1 := by rw [hwa, World.size_alloc]
  have HO : Hid (Blk wa w.heap.size 98 [.int .i64 5, .int .i64 o1, .int .i64 o2, .int .i64 o3, .int .i64 o4, .int .i64 o5, .int .i64 o6, .int .i64 o7, .int .i64 o8]) := by rw [hwa]; exact Blk.alloc _ _ _
  have HWa := hide2 (HW.out.below hba)
  clear hwa
  refine (pointer_any q _ _ vp _ ps o1 o2 wa HWa.out.blk HWa.out.ps).mono ?_
  rintro e0 w0 ⟨rfl, hb0⟩
  have HO0 := hide2 (HO.out.below hb0 HO.out.lt)
  have HW0 := hide2 (HWa.out.below hb0)
  have hq0 : q < w0.heap.size := Nat.lt_of_lt_of_le (Nat.lt_of_lt_of_le hq hba.size) hb0.size
  have c0 := HW0.out.blk.cell (j := 0) rfl
  have c1 := HW0.out.blk.cell (j := 1) rfl
  have d0 := HO0.out.cell (j := 0) rfl
  have d5 := HO0.out.cell (j := 5) rfl
  have _HG : Hid (¬ GFoot ph gc bb G w.heap.size) := fun x => by have := HW.out.g.foot_lt x; omega
  have _HR : Hid (¬ RFoot pr vc vl vm w.heap.size) := fun x => by have := HW.out.r.foot_lt x; omega
  have ho0 : w.heap.size < w0.heap.size := by have := hb0.size; omega
  have HKA : Hid (Kept w w0 F) := Kept.of_below (hba.trans (hb0.mono hba.size)) _
  generalize hob : w.heap.size = ob at *
  have HOB := hide2 hob
  clear hob
  generalize ptrOf ps o1 o2 = pt at *
  have e1 : ((R.load pt o5).1 == (R.load pt o5).1) = true := by simp
  have e2 : ((R.load pt o5).2 == (R.load pt o5).2) = true := by simp
  go_wp2_with fail
  go_region_held3 (fun w' => w'.cell? ⟨q, 0, none⟩ = some (.pointer (some ⟨ph, 0, none⟩)) ∧ w'.cell? ⟨q, 1, none⟩ = some (.pointer (some ⟨pr, 0, none⟩)) ∧ w'.cell? ⟨ob, 5, none⟩ = some (.int .i64 o5)) (go_keep)
    (first | (go_at_call 32; refine (gt_load ph gc bb G R w0.drew (HW0.out.g.kept (fun _ _ => rfl)) HS.out pt o5 _HP.out).mono ?_; rintro e1 w1 ⟨rfl, hG1, hk1⟩; have HG1 := hide2 hG1; have HK1 := hide2 hk1; have hs1 := hk1.size; clear hG1; have c0' : w1.cell? ⟨q, 0, none⟩ = some (.pointer (some ⟨ph, 0, none⟩)) := ((World.cell?_of_block (w := w0.drew) (hk1.block q hq0 HQG.out)).trans c0); have c1' : w1.cell? ⟨q, 1, none⟩ = some (.pointer (some ⟨pr, 0, none⟩)) := ((World.cell?_of_block (w := w0.drew) (hk1.block q hq0 HQG.out)).trans c1); have d5' : w1.cell? ⟨ob, 5, none⟩ = some (.int .i64 o5) := ((World.cell?_of_block (w := w0.drew) (hk1.block ob ho0 _HG.out)).trans d5); clear hk1))
  clear c0 c1 d0 d5
  have hq1 : q < w1.heap.size := Nat.lt_of_lt_of_le hq0 hs1
  have ho1 : ob < w1.heap.size := Nat.lt_of_lt_of_le ho0 hs1
  have HR1 : Hid (RRep w1 pr vc vl vm R) := HW0.out.r.kept fun b hb => HK1.out.block b (HW0.out.r.foot_lt hb) (fun x => HW0.out.gr b x hb)
  go_wp2_with fail
  go_region_held3 (fun w' => w'.cell? ⟨q, 0, none⟩ = some (.pointer (some ⟨ph, 0, none⟩)) ∧ w'.cell? ⟨q, 1, none⟩ = some (.pointer (some ⟨pr, 0, none⟩)) ∧ w'.cell? ⟨ob, 5, none⟩ = some (.int .i64 o5)) (go_keep)
    (first | (go_at_call 83; refine (rt_load pr vc vl vm R w1.drew (HR1.out.kept (fun _ _ => rfl)) HS.out.sim.rok HL1.out HM1.out pt o5 _HP.out).mono ?_; rintro e1 w2 ⟨vl', vm', rfl, hR2⟩; have HR2 := hide2 hR2; have hk2 := hR2.kept; have hs2 := hk2.size; clear hR2; have c0'' : w2.cell? ⟨q, 0, none⟩ = some (.pointer (some ⟨ph, 0, none⟩)) := ((World.cell?_of_block (w := w1.drew) (hk2.block q hq1 HQR.out)).trans c0'); have c1'' : w2.cell? ⟨q, 1, none⟩ = some (.pointer (some ⟨pr, 0, none⟩)) := ((World.cell?_of_block (w := w1.drew) (hk2.block q hq1 HQR.out)).trans c1'); have d5'' : w2.cell? ⟨ob, 5, none⟩ = some (.int .i64 o5) := ((World.cell?_of_block (w := w1.drew) (hk2.block ob ho1 _HR.out)).trans d5'); clear hk2))
  clear c0' c1' d5' c0'' c1'' d5''
  have HGO : Hid (Goes ph gc bb G R (G) (R)) := Goes.same HS.out
  have HWH := hide2 (HW0.out.goes (HG1.out.kept (fun _ _ => rfl)) HGO.out.foot (show Kept w0 w1 _ from ⟨HK1.out.os, HK1.out.tape, HK1.out.output, HK1.out.size, HK1.out.block⟩) (show RGone w1 pr vc vl vm w2 vl' vm' _ from ⟨HR2.out.rep, ⟨HR2.out.kept.os, HR2.out.kept.tape, HR2.out.kept.output, HR2.out.kept.size, HR2.out.kept.block⟩, HR2.out.newL, HR2.out.newM⟩) HGO.out.sim.sim)
  go_wp2_with (go_at_call 40; refine (num_any _ _).mono ?_; rintro e1 w6 ⟨rfl, rfl⟩)
  go_ret
  have hwa := HKA.out
  have hob := HOB.out
  have hgl := HGO.out.log
  have hgm := HGO.out.marks
  refine ⟨_, rfl, ⟨ph, gc, bb, _, pr, vc, vl', vm', _, vp, ps, HWH.out.1, HGO.out.sim, by omega, by omega, by omega, fun b => Iff.rfl⟩, ?_, fun b hb => ?_⟩
  · exact (hwa.trans (HWH.out.2.1.mono fun b _ hb => (HF.out b).2 hb))
  · have := hwa.size
    have := HWH.out.2.1.size
    rcases HWH.out.2.2 b hb with hb | hb
    · exact .inl ((HF.out b).2 hb)
    · right; omega

set_option maxRecDepth 100000 in
set_option maxHeartbeats 1600000 in
theorem ts_store {vs : Value} (q n : Nat) (F : Nat → Prop) (o1 o2 o3 o4 o5 o6 o7 o8 : Int) (w : World) (h : TIn vs w q n F) (hn : n < 1048576) (h02 : o2 ≤ 9223372036854775807) (h04 : o4 ≤ 9223372036854775807) (v0 : -9223372036854775808 ≤ o6) (v1 : o6 ≤ 9223372036854775807) :
    Calls Try.prog 51 #[.pointer (some ⟨q, 0, none⟩), .agg #[.int .i64 6, .int .i64 o1, .int .i64 o2, .int .i64 o3, .int .i64 o4, .int .i64 o5, .int .i64 o6, .int .i64 o7, .int .i64 o8]] w fun e w' => ∃ F', e = .returned (.bool true) ∧ TIn vs w' q (n + 1) F' ∧ Kept w w' F ∧ ∀ b, F' b → F b ∨ w.heap.size ≤ b := by
  obtain ⟨ph, gc, bb, G, pr, vc, vl, vm, R, vp, ps, hW, hS, h1, h2, h3, hF⟩ := h
  have HW := hide2 hW
  have HS := hide2 hS
  have HF := hide2 hF
  clear hF hS
  have hq := hW.blk.lt
  have HQG := hide2 hW.qg
  have HQR := hide2 hW.qr
  clear hW
  have _HV0 := hide2 v0
  have _HV1 := hide2 v1
  have _HP := hide2 (ptrOf_bd ps o1 o2 h02)
  have _HP2 := hide2 (ptrOf_bd ps o3 o4 h04)
  have HL1 : Hid ((R.log.length + 2) * 48 ≤ 140737488355328) := by show _ ≤ _; omega
  have HM1 : Hid ((R.marks.length + 65536) * 24 ≤ 140737488355328) := by show _ ≤ _; omega
  clear h02 h04 v0 v1
  go_enter Try.func51, Try.ntmps51
  go_wp2_with fail
  obtain ⟨wa, hwa⟩ : ∃ wa, wa = w.alloc (.cells #[.int .i64 6, .int .i64 o1, .int .i64 o2, .int .i64 o3, .int .i64 o4, .int .i64 o5, .int .i64 o6, .int .i64 o7, .int .i64 o8] 98) := ⟨_, rfl⟩
  rw [← hwa]
  have hba : Below w.heap.size w wa := by rw [hwa]; exact (Below.refl _ _).alloc (Nat.le_refl _) _
  have hsa : wa.heap.size = w.heap.size + 1 := by rw [hwa, World.size_alloc]
  have HO : Hid (Blk wa w.heap.size 98 [.int .i64 6, .int .i64 o1, .int .i64 o2, .int .i64 o3, .int .i64 o4, .int .i64 o5, .int .i64 o6, .int .i64 o7, .int .i64 o8]) := by rw [hwa]; exact Blk.alloc _ _ _
  have HWa := hide2 (HW.out.below hba)
  clear hwa
  refine (pointer_any q _ _ vp _ ps o1 o2 wa HWa.out.blk HWa.out.ps).mono ?_
  rintro e0 w0 ⟨rfl, hb0⟩
  have HO0 := hide2 (HO.out.below hb0 HO.out.lt)
  have HW0 := hide2 (HWa.out.below hb0)
  have hq0 : q < w0.heap.size := Nat.lt_of_lt_of_le (Nat.lt_of_lt_of_le hq hba.size) hb0.size
  have c0 := HW0.out.blk.cell (j := 0) rfl
  have c1 := HW0.out.blk.cell (j := 1) rfl
  have d0 := HO0.out.cell (j := 0) rfl
  have d5 := HO0.out.cell (j := 5) rfl
  have d6 := HO0.out.cell (j := 6) rfl
  have _HG : Hid (¬ GFoot ph gc bb G w.heap.size) := fun x => by have := HW.out.g.foot_lt x; omega
  have _HR : Hid (¬ RFoot pr vc vl vm w.heap.size) := fun x => by have := HW.out.r.foot_lt x; omega
  have ho0 : w.heap.size < w0.heap.size := by have := hb0.size; omega
  have HKA : Hid (Kept w w0 F) := Kept.of_below (hba.trans (hb0.mono hba.size)) _
  generalize hob : w.heap.size = ob at *
  have HOB := hide2 hob
  clear hob
  generalize ptrOf ps o1 o2 = pt at *
  have e1 : (R.storeErr pt o5 == R.storeErr pt o5) = true := by simp
  go_wp2_with fail
  go_region_held3 (fun w' => w'.cell? ⟨q, 0, none⟩ = some (.pointer (some ⟨ph, 0, none⟩)) ∧ w'.cell? ⟨q, 1, none⟩ = some (.pointer (some ⟨pr, 0, none⟩)) ∧ w'.cell? ⟨ob, 5, none⟩ = some (.int .i64 o5) ∧ w'.cell? ⟨ob, 6, none⟩ = some (.int .i64 o6)) (go_keep)
    (first | (go_at_call 84; refine (gstore_any ph gc bb G R pt o5 o6 w0.drew (HW0.out.g.kept (fun _ _ => rfl)) HS.out _HP.out _HV0.out _HV1.out).mono ?_; rintro e1 w1 ⟨rfl, hG1, hk1⟩; have HG1 := hide2 hG1; have HK1 := hide2 hk1; have hs1 := hk1.size; clear hG1; have c0' : w1.cell? ⟨q, 0, none⟩ = some (.pointer (some ⟨ph, 0, none⟩)) := ((World.cell?_of_block (w := w0.drew) (hk1.block q hq0 HQG.out)).trans c0); have c1' : w1.cell? ⟨q, 1, none⟩ = some (.pointer (some ⟨pr, 0, none⟩)) := ((World.cell?_of_block (w := w0.drew) (hk1.block q hq0 HQG.out)).trans c1); have d5' : w1.cell? ⟨ob, 5, none⟩ = some (.int .i64 o5) := ((World.cell?_of_block (w := w0.drew) (hk1.block ob ho0 _HG.out)).trans d5); have d6' : w1.cell? ⟨ob, 6, none⟩ = some (.int .i64 o6) := ((World.cell?_of_block (w := w0.drew) (hk1.block ob ho0 _HG.out)).trans d6); clear hk1))
  clear c0 c1 d0 d5 d6
  have hq1 : q < w1.heap.size := Nat.lt_of_lt_of_le hq0 hs1
  have ho1 : ob < w1.heap.size := Nat.lt_of_lt_of_le ho0 hs1
  have HR1 : Hid (RRep w1 pr vc vl vm R) := HW0.out.r.kept fun b hb => HK1.out.block b (HW0.out.r.foot_lt hb) (fun x => HW0.out.gr b x hb)
  go_wp2_with fail
  go_region_held3 (fun w' => w'.cell? ⟨q, 0, none⟩ = some (.pointer (some ⟨ph, 0, none⟩)) ∧ w'.cell? ⟨q, 1, none⟩ = some (.pointer (some ⟨pr, 0, none⟩)) ∧ w'.cell? ⟨ob, 5, none⟩ = some (.int .i64 o5) ∧ w'.cell? ⟨ob, 6, none⟩ = some (.int .i64 o6)) (go_keep)
    (first | (go_at_call 85; refine (rt_store pr vc vl vm R w1.drew (HR1.out.kept (fun _ _ => rfl)) HS.out.sim.rok HL1.out HM1.out pt o5 o6 _HP.out).mono ?_; rintro e1 w2 ⟨vl', vm', rfl, hR2⟩; have HR2 := hide2 hR2; have hk2 := hR2.kept; have hs2 := hk2.size; clear hR2; have c0'' : w2.cell? ⟨q, 0, none⟩ = some (.pointer (some ⟨ph, 0, none⟩)) := ((World.cell?_of_block (w := w1.drew) (hk2.block q hq1 HQR.out)).trans c0'); have c1'' : w2.cell? ⟨q, 1, none⟩ = some (.pointer (some ⟨pr, 0, none⟩)) := ((World.cell?_of_block (w := w1.drew) (hk2.block q hq1 HQR.out)).trans c1'); have d5'' : w2.cell? ⟨ob, 5, none⟩ = some (.int .i64 o5) := ((World.cell?_of_block (w := w1.drew) (hk2.block ob ho1 _HR.out)).trans d5'); have d6'' : w2.cell? ⟨ob, 6, none⟩ = some (.int .i64 o6) := ((World.cell?_of_block (w := w1.drew) (hk2.block ob ho1 _HR.out)).trans d6'); clear hk2))
  clear c0' c1' d5' d6' c0'' c1'' d5'' d6''
  have HGO : Hid (Goes ph gc bb G R (G.store R pt o5 o6) (R.store pt o5 o6)) := Goes.store HS.out pt o5 o6
  have HWH := hide2 (HW0.out.goes (HG1.out.kept (fun _ _ => rfl)) HGO.out.foot (show Kept w0 w1 _ from ⟨HK1.out.os, HK1.out.tape, HK1.out.output, HK1.out.size, HK1.out.block⟩) (show RGone w1 pr vc vl vm w2 vl' vm' _ from ⟨HR2.out.rep, ⟨HR2.out.kept.os, HR2.out.kept.tape, HR2.out.kept.output, HR2.out.kept.size, HR2.out.kept.block⟩, HR2.out.newL, HR2.out.newM⟩) HGO.out.sim.sim)
  go_wp2_with (go_at_call 40; refine (num_any _ _).mono ?_; rintro e1 w6 ⟨rfl, rfl⟩)
  go_ret
  have hwa := HKA.out
  have hob := HOB.out
  have hgl := HGO.out.log
  have hgm := HGO.out.marks
  refine ⟨_, rfl, ⟨ph, gc, bb, _, pr, vc, vl', vm', _, vp, ps, HWH.out.1, HGO.out.sim, by omega, by omega, by omega, fun b => Iff.rfl⟩, ?_, fun b hb => ?_⟩
  · exact (hwa.trans (HWH.out.2.1.mono fun b _ hb => (HF.out b).2 hb))
  · have := hwa.size
    have := HWH.out.2.1.size
    rcases HWH.out.2.2 b hb with hb | hb
    · exact .inl ((HF.out b).2 hb)
    · right; omega

set_option maxRecDepth 100000 in
set_option maxHeartbeats 1600000 in
theorem ts_move {vs : Value} (q n : Nat) (F : Nat → Prop) (o1 o2 o3 o4 o5 o6 o7 o8 : Int) (w : World) (h : TIn vs w q n F) (hn : n < 1048576) (h02 : o2 ≤ 9223372036854775807) (h04 : o4 ≤ 9223372036854775807) (v0 : -9223372036854775808 ≤ o6) (v1 : o6 ≤ 9223372036854775807) :
    Calls Try.prog 51 #[.pointer (some ⟨q, 0, none⟩), .agg #[.int .i64 7, .int .i64 o1, .int .i64 o2, .int .i64 o3, .int .i64 o4, .int .i64 o5, .int .i64 o6, .int .i64 o7, .int .i64 o8]] w fun e w' => ∃ F', e = .returned (.bool true) ∧ TIn vs w' q (n + 1) F' ∧ Kept w w' F ∧ ∀ b, F' b → F b ∨ w.heap.size ≤ b := by
  obtain ⟨ph, gc, bb, G, pr, vc, vl, vm, R, vp, ps, hW, hS, h1, h2, h3, hF⟩ := h
  have HW := hide2 hW
  have HS := hide2 hS
  have HF := hide2 hF
  clear hF hS
  have hq := hW.blk.lt
  have HQG := hide2 hW.qg
  have HQR := hide2 hW.qr
  clear hW
  have _HV0 := hide2 v0
  have _HV1 := hide2 v1
  have _HP := hide2 (ptrOf_bd ps o1 o2 h02)
  have _HP2 := hide2 (ptrOf_bd ps o3 o4 h04)
  have HL1 : Hid ((R.log.length + 2) * 48 ≤ 140737488355328) := by show _ ≤ _; omega
  have HM1 : Hid ((R.marks.length + 65536) * 24 ≤ 140737488355328) := by show _ ≤ _; omega
  clear h02 h04 v0 v1
  go_enter Try.func51, Try.ntmps51
  go_wp2_with fail
  obtain ⟨wa, hwa⟩ : ∃ wa, wa = w.alloc (.cells #[.int .i64 7, .int .i64 o1, .int .i64 o2, .int .i64 o3, .int .i64 o4, .int .i64 o5, .int .i64 o6, .int .i64 o7, .int .i64 o8] 98) := ⟨_, rfl⟩
  rw [← hwa]
  have hba : Below w.heap.size w wa := by rw [hwa]; exact (Below.refl _ _).alloc (Nat.le_refl _) _
  have hsa : wa.heap.size = w.heap.size + 1 := by rw [hwa, World.size_alloc]
  have HO : Hid (Blk wa w.heap.size 98 [.int .i64 7, .int .i64 o1, .int .i64 o2, .int .i64 o3, .int .i64 o4, .int .i64 o5, .int .i64 o6, .int .i64 o7, .int .i64 o8]) := by rw [hwa]; exact Blk.alloc _ _ _
  have HWa := hide2 (HW.out.below hba)
  clear hwa
  refine (pointer_any q _ _ vp _ ps o1 o2 wa HWa.out.blk HWa.out.ps).mono ?_
  rintro e0 w0 ⟨rfl, hb0⟩
  have HO9 := hide2 (HO.out.below hb0 HO.out.lt)
  have HW9 := hide2 (HWa.out.below hb0)
  have d0 := HO9.out.cell (j := 0) rfl
  have d3 := HO9.out.cell (j := 3) rfl
  have d4 := HO9.out.cell (j := 4) rfl
  generalize ptrOf ps o1 o2 = pt at *
  go_wp2_with fail
  refine (pointer_any q _ _ vp _ ps o3 o4 w0 HW9.out.blk HW9.out.ps).mono ?_
  rintro e0 w9 ⟨rfl, hb9⟩
  have HO0 := hide2 (HO9.out.below hb9 HO9.out.lt)
  have HW0 := hide2 (HW9.out.below hb9)
  have hb8 : Below wa.heap.size wa w9 := hb0.trans (hb9.mono hb0.size)
  clear hb0 hb9 d0 d3 d4 HO9 HW9
  generalize ptrOf ps o3 o4 = pt2 at *
  clear w0
  obtain ⟨w0, rfl⟩ : ∃ w0, w0 = w9 := ⟨_, rfl⟩
  have hb0 := hb8
  clear hb8
  have hq0 : q < w0.heap.size := Nat.lt_of_lt_of_le (Nat.lt_of_lt_of_le hq hba.size) hb0.size
  have c0 := HW0.out.blk.cell (j := 0) rfl
  have c1 := HW0.out.blk.cell (j := 1) rfl
  have d0 := HO0.out.cell (j := 0) rfl
  have d5 := HO0.out.cell (j := 5) rfl
  have _HG : Hid (¬ GFoot ph gc bb G w.heap.size) := fun x => by have := HW.out.g.foot_lt x; omega
  have _HR : Hid (¬ RFoot pr vc vl vm w.heap.size) := fun x => by have := HW.out.r.foot_lt x; omega
  have ho0 : w.heap.size < w0.heap.size := by have := hb0.size; omega
  have HKA : Hid (Kept w w0 F) := Kept.of_below (hba.trans (hb0.mono hba.size)) _
  generalize hob : w.heap.size = ob at *
  have HOB := hide2 hob
  clear hob
  have e1 : (R.moveErr pt2 pt o5 == R.moveErr pt2 pt o5) = true := by simp
  go_wp2_with fail
  go_region_held3 (fun w' => w'.cell? ⟨q, 0, none⟩ = some (.pointer (some ⟨ph, 0, none⟩)) ∧ w'.cell? ⟨q, 1, none⟩ = some (.pointer (some ⟨pr, 0, none⟩)) ∧ w'.cell? ⟨ob, 5, none⟩ = some (.int .i64 o5)) (go_keep)
    (first | (go_at_call 86; refine (gmove_any ph gc bb G R pt2 pt o5 w0.drew (HW0.out.g.kept (fun _ _ => rfl)) HS.out _HP2.out _HP.out).mono ?_; rintro e1 w1 ⟨rfl, hG1, hk1⟩; have HG1 := hide2 hG1; have HK1 := hide2 hk1; have hs1 := hk1.size; clear hG1; have c0' : w1.cell? ⟨q, 0, none⟩ = some (.pointer (some ⟨ph, 0, none⟩)) := ((World.cell?_of_block (w := w0.drew) (hk1.block q hq0 HQG.out)).trans c0); have c1' : w1.cell? ⟨q, 1, none⟩ = some (.pointer (some ⟨pr, 0, none⟩)) := ((World.cell?_of_block (w := w0.drew) (hk1.block q hq0 HQG.out)).trans c1); have d5' : w1.cell? ⟨ob, 5, none⟩ = some (.int .i64 o5) := ((World.cell?_of_block (w := w0.drew) (hk1.block ob ho0 _HG.out)).trans d5); clear hk1))
  clear c0 c1 d0 d5
  have hq1 : q < w1.heap.size := Nat.lt_of_lt_of_le hq0 hs1
  have ho1 : ob < w1.heap.size := Nat.lt_of_lt_of_le ho0 hs1
  have HR1 : Hid (RRep w1 pr vc vl vm R) := HW0.out.r.kept fun b hb => HK1.out.block b (HW0.out.r.foot_lt hb) (fun x => HW0.out.gr b x hb)
  go_wp2_with fail
  go_region_held3 (fun w' => w'.cell? ⟨q, 0, none⟩ = some (.pointer (some ⟨ph, 0, none⟩)) ∧ w'.cell? ⟨q, 1, none⟩ = some (.pointer (some ⟨pr, 0, none⟩)) ∧ w'.cell? ⟨ob, 5, none⟩ = some (.int .i64 o5)) (go_keep)
    (first | (go_at_call 87; refine (rt_move pr vc vl vm R w1.drew (HR1.out.kept (fun _ _ => rfl)) HS.out.sim.rok HL1.out HM1.out pt2 pt o5 _HP2.out _HP.out).mono ?_; rintro e1 w2 ⟨vl', vm', rfl, hR2⟩; have HR2 := hide2 hR2; have hk2 := hR2.kept; have hs2 := hk2.size; clear hR2; have c0'' : w2.cell? ⟨q, 0, none⟩ = some (.pointer (some ⟨ph, 0, none⟩)) := ((World.cell?_of_block (w := w1.drew) (hk2.block q hq1 HQR.out)).trans c0'); have c1'' : w2.cell? ⟨q, 1, none⟩ = some (.pointer (some ⟨pr, 0, none⟩)) := ((World.cell?_of_block (w := w1.drew) (hk2.block q hq1 HQR.out)).trans c1'); have d5'' : w2.cell? ⟨ob, 5, none⟩ = some (.int .i64 o5) := ((World.cell?_of_block (w := w1.drew) (hk2.block ob ho1 _HR.out)).trans d5'); clear hk2))
  clear c0' c1' d5' c0'' c1'' d5''
  have HGO : Hid (Goes ph gc bb G R (G.move R pt2 pt o5) (R.move pt2 pt o5)) := Goes.move HS.out pt2 pt o5
  have HWH := hide2 (HW0.out.goes (HG1.out.kept (fun _ _ => rfl)) HGO.out.foot (show Kept w0 w1 _ from ⟨HK1.out.os, HK1.out.tape, HK1.out.output, HK1.out.size, HK1.out.block⟩) (show RGone w1 pr vc vl vm w2 vl' vm' _ from ⟨HR2.out.rep, ⟨HR2.out.kept.os, HR2.out.kept.tape, HR2.out.kept.output, HR2.out.kept.size, HR2.out.kept.block⟩, HR2.out.newL, HR2.out.newM⟩) HGO.out.sim.sim)
  go_wp2_with (go_at_call 40; refine (num_any _ _).mono ?_; rintro e1 w6 ⟨rfl, rfl⟩)
  go_ret
  have hwa := HKA.out
  have hob := HOB.out
  have hgl := HGO.out.log
  have hgm := HGO.out.marks
  refine ⟨_, rfl, ⟨ph, gc, bb, _, pr, vc, vl', vm', _, vp, ps, HWH.out.1, HGO.out.sim, by omega, by omega, by omega, fun b => Iff.rfl⟩, ?_, fun b hb => ?_⟩
  · exact (hwa.trans (HWH.out.2.1.mono fun b _ hb => (HF.out b).2 hb))
  · have := hwa.size
    have := HWH.out.2.1.size
    rcases HWH.out.2.2 b hb with hb | hb
    · exact .inl ((HF.out b).2 hb)
    · right; omega

end Go.Proofs.Ytjikemhmnkckcaa
