import Derived.Test.YtjikemhmnkckcaaLawStep2
namespace Go.Proofs.Ytjikemhmnkckcaa
open Go.RowKit

theorem fsim {w1 w2 : World} {ph : Nat} {gc : Value} {bb : Nat} {G : GSt} {pr : Nat} {vc vl' vm : Value} {R : RSt} {q site : Int} (hs : Sim G R)
    (h1 : (¬ fDoes R q ∧ GRep w1 ph gc bb G) ∨ ∃ k s : Nat, fDoes R q ∧ Ref.block R.st R.cls R.log q = ((k : Int), (s : Int), 0) ∧ k < R.cls.length ∧ s < (Cf.sl R.cls k).toNat ∧ Ref.state R.log k s = 3 ∧ GRep w1 ph gc bb (G.withSlots k (freed (G.cs.getD k GCls.no).slots s G.rest site)))
    (h2 : (¬ fDoes R q ∧ RRep w2 pr vc vl' vm R) ∨ ∃ k s : Nat, fDoes R q ∧ Ref.block R.st R.cls R.log q = ((k : Int), (s : Int), 0) ∧ RRep w2 pr vc vl' vm ⟨R.st, R.rest, R.cls, R.log ++ [⟨true, k, s, 0, 0, site⟩], R.marks⟩) :
    ∃ G' R', GRep w1 ph gc bb G' ∧ RRep w2 pr vc vl' vm R' ∧ Sim G' R' ∧ (∀ b, GFoot ph gc bb G' b ↔ GFoot ph gc bb G b) ∧ R'.log.length ≤ R.log.length + 1 := by
  rcases h1 with ⟨n1, g1⟩ | ⟨k, s, d1, b1, hk, hsl, h3, g1⟩
  · rcases h2 with ⟨n2, g2⟩ | ⟨k2, s2, d2, b2, g2⟩
    · exact ⟨G, R, g1, g2, hs, fun _ => Iff.rfl, by omega⟩
    · exact absurd d2 n1
  · rcases h2 with ⟨n2, g2⟩ | ⟨k2, s2, d2, b2, g2⟩
    · exact absurd d1 n2
    · rw [b1] at b2
      simp only [Prod.mk.injEq] at b2
      have ek : k = k2 := by omega
      have es : s = s2 := by omega
      subst ek es
      have hkl : k < G.cs.length := by rw [hs.ok.len]; exact hk
      exact ⟨_, _, g1, g2, hs.free k s hk hsl h3 site, fun b => withSlots_foot G k _ hkl ph gc bb b, by simp⟩

set_option maxRecDepth 100000 in
set_option maxHeartbeats 800000 in
theorem block_free (q n : Nat) (F : Nat → Prop) (o1 o2 o3 o4 o5 o6 o7 o8 : Int) (w : World) (h : WIn w q n F) (hn : (n + 1) * 48 ≤ 140737488355328) (h02 : o2 ≤ 9223372036854775807) :
    Calls Try.prog 82 #[.pointer (some ⟨q, 0, none⟩), .agg #[.int .i64 2, .int .i64 o1, .int .i64 o2, .int .i64 o3, .int .i64 o4, .int .i64 o5, .int .i64 o6, .int .i64 o7, .int .i64 o8]] w fun e w' => ∃ F', e = .returned (.bool true) ∧ WIn w' q (n + 1) F' ∧ Kept w w' F ∧ ∀ b, F' b → F b ∨ w.heap.size ≤ b := by
  obtain ⟨ph, gc, bb, G, pr, vc, vl, vm, R, vp, ps, hW, h1, h2, hF⟩ := h
  have HW := hide2 hW
  have HF := hide2 hF
  clear hF
  have hq := hW.blk.lt
  have HQG := hide2 hW.qg
  have HQR := hide2 hW.qr
  clear hW
  have HP := hide2 (ptrOf_bd ps o1 o2 h02)
  clear h02
  have e1 : (fOut R (ptrOf ps o1 o2) == fOut R (ptrOf ps o1 o2)) = true := by simp
  go_enter Try.func82, Try.ntmps82
  go_wp2_with fail
  obtain ⟨wa, hwa⟩ : ∃ wa, wa = w.alloc (.cells #[.int .i64 2, .int .i64 o1, .int .i64 o2, .int .i64 o3, .int .i64 o4, .int .i64 o5, .int .i64 o6, .int .i64 o7, .int .i64 o8] 98) := ⟨_, rfl⟩
  rw [← hwa]
  have hba : Below w.heap.size w wa := by rw [hwa]; exact (Below.refl _ _).alloc (Nat.le_refl _) _
  have hsa : wa.heap.size = w.heap.size + 1 := by rw [hwa, World.size_alloc]
  have HO : Hid (Blk wa w.heap.size 98 [.int .i64 2, .int .i64 o1, .int .i64 o2, .int .i64 o3, .int .i64 o4, .int .i64 o5, .int .i64 o6, .int .i64 o7, .int .i64 o8]) := by rw [hwa]; exact Blk.alloc _ _ _
  have HWa := hide2 (HW.out.below hba)
  clear hwa
  refine (pointer_any q _ _ vp _ ps o1 o2 wa HWa.out.blk HWa.out.ps).mono ?_
  rintro e0 w0 ⟨rfl, hb0⟩
  have HO0 := hide2 (HO.out.below hb0 HO.out.lt)
  have HW0 := hide2 (HWa.out.below hb0)
  have hq0 : q < w0.heap.size := Nat.lt_of_lt_of_le (Nat.lt_of_lt_of_le hq hba.size) hb0.size
  have c0 := HW0.out.blk.cell (j := 0) rfl
  have c1 := HW0.out.blk.cell (j := 1) rfl
  have d0 := HO0.out.cell (j := 0) rfl
  have d7 := HO0.out.cell (j := 7) rfl
  have HG : Hid (¬ GFoot ph gc bb G w.heap.size) := fun x => by have := HW.out.g.foot_lt x; omega
  have HR : Hid (¬ RFoot pr vc vl vm w.heap.size) := fun x => by have := HW.out.r.foot_lt x; omega
  have ho0 : w.heap.size < w0.heap.size := by have := hb0.size; omega
  have HKA : Hid (Kept w w0 F) := Kept.of_below (hba.trans (hb0.mono hba.size)) _
  generalize hob : w.heap.size = ob at *
  have HOB := hide2 hob
  clear hob
  generalize ptrOf ps o1 o2 = pt at *
  go_wp2_with fail
  go_region_held3 (fun w' => w'.cell? ⟨q, 0, none⟩ = some (.pointer (some ⟨ph, 0, none⟩)) ∧ w'.cell? ⟨q, 1, none⟩ = some (.pointer (some ⟨pr, 0, none⟩)) ∧ w'.cell? ⟨ob, 7, none⟩ = some (.int .i64 o7)) (go_keep)
    (first | (go_at_call 94; refine (gfree_all ph gc bb G R pt o7 w0.drew (HW0.out.g.kept (fun _ _ => rfl)) HW0.out.sim HP.out).mono ?_; rintro e1 w1 ⟨rfl, hk1, hG1⟩; have HG1 := hide2 hG1; have HK1 := hide2 hk1; have hs1 := hk1.size; clear hG1; have c0' : w1.cell? ⟨q, 0, none⟩ = some (.pointer (some ⟨ph, 0, none⟩)) := ((World.cell?_of_block (w := w0.drew) (hk1.block q hq0 HQG.out)).trans c0); have c1' : w1.cell? ⟨q, 1, none⟩ = some (.pointer (some ⟨pr, 0, none⟩)) := ((World.cell?_of_block (w := w0.drew) (hk1.block q hq0 HQG.out)).trans c1); have d7' : w1.cell? ⟨ob, 7, none⟩ = some (.int .i64 o7) := ((World.cell?_of_block (w := w0.drew) (hk1.block ob ho0 HG.out)).trans d7); clear hk1))
  clear c0 c1 d0 d7
  have hq1 : q < w1.heap.size := Nat.lt_of_lt_of_le hq0 hs1
  have ho1 : ob < w1.heap.size := Nat.lt_of_lt_of_le ho0 hs1
  have HR1 : Hid (RRep w1 pr vc vl vm R) := HW0.out.r.kept fun b hb => HK1.out.block b (HW0.out.r.foot_lt hb) (fun x => HW0.out.gr b x hb)
  go_wp2_with fail
  go_region_held3 (fun w' => w'.cell? ⟨q, 0, none⟩ = some (.pointer (some ⟨ph, 0, none⟩)) ∧ w'.cell? ⟨q, 1, none⟩ = some (.pointer (some ⟨pr, 0, none⟩)) ∧ w'.cell? ⟨ob, 7, none⟩ = some (.int .i64 o7)) (go_keep)
    (first | (go_at_call 107; refine (rfree_all pr vc vl vm R pt o7 w1.drew (HR1.out.kept (fun _ _ => rfl)) HW0.out.sim.rok HP.out (by omega)).mono ?_; rintro e1 w2 ⟨vl', rfl, hk2, hN2, hR2⟩; have HR2 := hide2 hR2; have HK2 := hide2 hk2; have HN2 := hide2 hN2; have hs2 := hk2.size; clear hR2 hN2; have c0'' : w2.cell? ⟨q, 0, none⟩ = some (.pointer (some ⟨ph, 0, none⟩)) := ((World.cell?_of_block (w := w1.drew) (hk2.block q hq1 HQR.out)).trans c0'); have c1'' : w2.cell? ⟨q, 1, none⟩ = some (.pointer (some ⟨pr, 0, none⟩)) := ((World.cell?_of_block (w := w1.drew) (hk2.block q hq1 HQR.out)).trans c1'); have d7'' : w2.cell? ⟨ob, 7, none⟩ = some (.int .i64 o7) := ((World.cell?_of_block (w := w1.drew) (hk2.block ob ho1 HR.out)).trans d7'); clear hk2))
  clear c0' c1' d7' c0'' c1'' d7''
  obtain ⟨G', R', hG', hR', hS', hf', hl'⟩ := fsim HW0.out.sim HG1.out HR2.out
  have HWH := hide2 (HW0.out.heaps hG' hf' (show Kept w0 w1 _ from ⟨HK1.out.os, HK1.out.tape, HK1.out.output, HK1.out.size, HK1.out.block⟩) hR' (show Kept w1 w2 _ from ⟨HK2.out.os, HK2.out.tape, HK2.out.output, HK2.out.size, HK2.out.block⟩) HN2.out hS')
  clear hG' hR' hS' hf'
  go_wp2_with (go_at_call 40; refine (num_any _ _).mono ?_; rintro e1 w6 ⟨rfl, rfl⟩)
  go_ret
  have hwa := HKA.out
  have hob := HOB.out
  refine ⟨_, rfl, ⟨ph, gc, bb, _, pr, vc, vl', vm, _, vp, ps, HWH.out.1, by omega, by omega, fun b => Iff.rfl⟩, ?_, fun b hb => ?_⟩
  · exact (hwa.trans (HWH.out.2.1.mono fun b _ hb => (HF.out b).2 hb))
  · have := hwa.size
    have := HWH.out.2.1.size
    rcases HWH.out.2.2 b hb with hb | hb
    · exact .inl ((HF.out b).2 hb)
    · right; omega
end Go.Proofs.Ytjikemhmnkckcaa
