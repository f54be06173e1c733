import Derived.Test.YtjikemhmnkckcaaJ21
namespace Go.Proofs.Ytjikemhmnkckcaa
open Go.RowKit

theorem fsim {w1 w2 : World} {ph : Nat} {gc : Value} {bb : Nat} {G : GSt} {pr : Nat} {vc vl' vm : Value} {R : RSt} {q site : Int} (hs : Sim G R)
    (h1 : (¬ fDoes R q ∧ GRep w1 ph gc bb G) ∨ ∃ k s : Nat, fDoes R q ∧ Ref.block R.st R.cls R.log q = ((k : Int), (s : Int), 0) ∧ k < R.cls.length ∧ s < (Cf.sl R.cls k).toNat ∧ Ref.state R.log k s = 3 ∧ GRep w1 ph gc bb (G.withSlots k (freed (G.cs.getD k GCls.no).slots s G.rest site)))
    (h2 : (¬ fDoes R q ∧ RRep w2 pr vc vl' vm R) ∨ ∃ k s : Nat, fDoes R q ∧ Ref.block R.st R.cls R.log q = ((k : Int), (s : Int), 0) ∧ RRep w2 pr vc vl' vm ⟨R.st, R.rest, R.cls, R.log ++ [⟨true, k, s, 0, 0, site⟩], R.marks⟩) :
    ∃ G' R', GRep w1 ph gc bb G' ∧ RRep w2 pr vc vl' vm R' ∧ Sim G' R' ∧ (∀ b, GFoot ph gc bb G' b ↔ GFoot ph gc bb G b) ∧ R'.log.length ≤ R.log.length + 1 := by
  rcases h1 with ⟨n1, g1⟩ | ⟨k, s, d1, b1, hk, hsl, h3, g1⟩
  · rcases h2 with ⟨n2, g2⟩ | ⟨k2, s2, d2, b2, g2⟩
    · exact ⟨G, R, g1, g2, hs, fun _ => Iff.rfl, by omega⟩
    · exact absurd d2 n1
  · rcases h2 with ⟨n2, g2⟩ | ⟨k2, s2, d2, b2, g2⟩
    · exact absurd d1 n2
    · rw [b1] at b2
      simp only [Prod.mk.injEq] at b2
      have ek : k = k2 := by omega
      have es : s = s2 := by omega
      subst ek es
      have hkl : k < G.cs.length := by rw [hs.ok.len]; exact hk
      exact ⟨_, _, g1, g2, hs.free k s hk hsl h3 site, fun b => withSlots_foot G k _ hkl ph gc bb b, by simp⟩

set_option maxRecDepth 100000 in
set_option maxHeartbeats 800000 in
theorem block_free (q n : Nat) (F : Nat → Prop) (o1 o2 o3 o4 o5 o6 o7 o8 : Int) (w : World) (h : WIn w q n F) (hn : (n + 1) * 48 ≤ 140737488355328) (h02 : o2 ≤ 9223372036854775807) :
    Calls Try.prog 82 #[.pointer (some ⟨q, 0, none⟩), .agg #[.int .i64 2, .int .i64 o1, .int .i64 o2, .int .i64 o3, .int .i64 o4, .int .i64 o5, .int .i64 o6, .int .i64 o7, .int .i64 o8]] w fun e w' => ∃ F', e = .returned (.bool true) ∧ WIn w' q (n + 1) F' ∧ Kept w w' F ∧ ∀ b, F' b → F b ∨ w.heap.size ≤ b := by
  obtain ⟨ph, gc, bb, G, pr, vc, vl, vm, R, vp, ps, hW, h1, h2, hF⟩ := h
  have HW := hide2 hW
  have HF := hide2 hF
  clear hF
  have hq := hW.blk.lt
  have HQG := hide2 hW.qg
  have HQR := hide2 hW.qr
  clear hW
  have HP := hide2 (ptrOf_bd ps o1 o2 h02)
  clear h02
  have e1 : (fOut R (ptrOf ps o1 o2) == fOut R (ptrOf ps o1 o2)) = true := by simp
  go_enter Try.func82, Try.ntmps82
  go_wp2_with fail
  obtain ⟨wa, hwa⟩ : ∃ wa, wa = w.alloc (.cells #[.int .i64 2, .int .i64 o1, .int .i64 o2, .int .i64 o3, .int .i64 o4, .int .i64 o5, .int .i64 o6, .int .i64 o7, .int .i64 o8] 98) := ⟨_, rfl⟩
  rw [← hwa]
  have hba : Below w.heap.size w wa := by rw [hwa]; exact (Below.refl _ _).alloc (Nat.le_refl _) _
  have hsa : wa.heap.size = w.heap.size + 1 := by rw [hwa, World.size_alloc]
  have HO : Hid (Blk wa w.heap.size 98 [.int .i64 2, .int .i64 o1, .int .i64 o2, .int .i64 o3, .int .i64 o4, .int .i64 o5, .int .i64 o6, .int .i64 o7, .int .i64 o8]) := by rw [hwa]; exact Blk.alloc _ _ _
  have HWa := hide2 (HW.out.below hba)
  clear hwa
  refine (pointer_any q _ _ vp _ ps o1 o2 wa HWa.out.blk HWa.out.ps).mono ?_
  rintro e0 w0 ⟨rfl, hb0⟩
  have HO0 := hide2 (HO.out.below hb0 HO.out.lt)
  have HW0 := hide2 (HWa.out.below hb0)
  have hq0 : q < w0.heap.size := Nat.lt_of_lt_of_le (Nat.lt_of_lt_of_le hq hba.size) hb0.size
  have c0 := HW0.out.blk.cell (j := 0) rfl
  have c1 := HW0.out.blk.cell (j := 1) rfl
  have d0 := HO0.out.cell (j := 0) rfl
  have d7 := HO0.out.cell (j := 7) rfl
  have HG : Hid (¬ GFoot ph gc bb G w.heap.size) := fun x => by have := HW.out.g.foot_lt x; omega
  have HR : Hid (¬ RFoot pr vc vl vm w.heap.size) := fun x => by have := HW.out.r.foot_lt x; omega
  have ho0 : w.heap.size < w0.heap.size := by have := hb0.size; omega
  have HKA : Hid (Kept w w0 F) := Kept.of_below (hba.trans (hb0.mono hba.size)) _
  generalize hob : w.heap.size = ob at *
  have HOB := hide2 hob
  clear hob
  generalize ptrOf ps o1 o2 = pt at *
  go_wp2_with fail
  go_region_held3 (fun w' => w'.cell? ⟨q, 0, none⟩ = some (.pointer (some ⟨ph, 0, none⟩)) ∧ w'.cell? ⟨q, 1, none⟩ = some (.pointer (some ⟨pr, 0, none⟩)) ∧ w'.cell? ⟨ob, 7, none⟩ = some (.int .i64 o7)) (go_keep)
    (first | (go_at_call 94; refine (gfree_all ph gc bb G R pt o7 w0.drew (HW0.out.g.kept (fun _ _ => rfl)) HW0.out.sim HP.out).mono ?_; rintro e1 w1 ⟨rfl, hk1, hG1⟩; have HG1 := hide2 hG1; have HK1 := hide2 hk1; have hs1 := hk1.size; clear hG1; have c0' : w1.cell? ⟨q, 0, none⟩ = some (.pointer (some ⟨ph, 0, none⟩)) := ((World.cell?_of_block (w := w0.drew) (hk1.block q hq0 HQG.out)).trans c0); have c1' : w1.cell? ⟨q, 1, none⟩ = some (.pointer (some ⟨pr, 0, none⟩)) := ((World.cell?_of_block (w := w0.drew) (hk1.block q hq0 HQG.out)).trans c1); have d7' : w1.cell? ⟨ob, 7, none⟩ = some (.int .i64 o7) := ((World.cell?_of_block (w := w0.drew) (hk1.block ob ho0 HG.out)).trans d7); clear hk1))
  clear c0 c1 d0 d7
  have hq1 : q < w1.heap.size := Nat.lt_of_lt_of_le hq0 hs1
  have ho1 : ob < w1.heap.size := Nat.lt_of_lt_of_le ho0 hs1
  have HR1 : Hid (RRep w1 pr vc vl vm R) := HW0.out.r.kept fun b hb => HK1.out.block b (HW0.out.r.foot_lt hb) (fun x => HW0.out.gr b x hb)
  go_wp2_with fail
  go_region_held3 (fun w' => w'.cell? ⟨q, 0, none⟩ = some (.pointer (some ⟨ph, 0, none⟩)) ∧ w'.cell? ⟨q, 1, none⟩ = some (.pointer (some ⟨pr, 0, none⟩)) ∧ w'.cell? ⟨ob, 7, none⟩ = some (.int .i64 o7)) (go_keep)
    (first | (go_at_call 107; refine (rfree_all pr vc vl vm R pt o7 w1.drew (HR1.out.kept (fun _ _ => rfl)) HW0.out.sim.rok HP.out (by omega)).mono ?_; rintro e1 w2 ⟨vl', rfl, hk2, hN2, hR2⟩; have HR2 := hide2 hR2; have HK2 := hide2 hk2; have HN2 := hide2 hN2; have hs2 := hk2.size; clear hR2 hN2; have c0'' : w2.cell? ⟨q, 0, none⟩ = some (.pointer (some ⟨ph, 0, none⟩)) := ((World.cell?_of_block (w := w1.drew) (hk2.block q hq1 HQR.out)).trans c0'); have c1'' : w2.cell? ⟨q, 1, none⟩ = some (.pointer (some ⟨pr, 0, none⟩)) := ((World.cell?_of_block (w := w1.drew) (hk2.block q hq1 HQR.out)).trans c1'); have d7'' : w2.cell? ⟨ob, 7, none⟩ = some (.int .i64 o7) := ((World.cell?_of_block (w := w1.drew) (hk2.block ob ho1 HR.out)).trans d7'); clear hk2))
  clear c0' c1' d7' c0'' c1'' d7''
  obtain ⟨G', R', hG', hR', hS', hf', hl'⟩ := fsim HW0.out.sim HG1.out HR2.out
  have HWH := hide2 (HW0.out.heaps hG' hf' (show Kept w0 w1 _ from ⟨HK1.out.os, HK1.out.tape, HK1.out.output, HK1.out.size, HK1.out.block⟩) hR' (show Kept w1 w2 _ from ⟨HK2.out.os, HK2.out.tape, HK2.out.output, HK2.out.size, HK2.out.block⟩) HN2.out hS')
  clear hG' hR' hS' hf'
  go_wp2_with (go_at_call 40; refine (num_any _ _).mono ?_; rintro e1 w6 ⟨rfl, rfl⟩)
  go_ret
  have hwa := HKA.out
  have hob := HOB.out
  refine ⟨_, rfl, ⟨ph, gc, bb, _, pr, vc, vl', vm, _, vp, ps, HWH.out.1, by omega, by omega, fun b => Iff.rfl⟩, ?_, fun b hb => ?_⟩
  · exact (hwa.trans (HWH.out.2.1.mono fun b _ hb => (HF.out b).2 hb))
  · have := hwa.size
    have := HWH.out.2.1.size
    rcases HWH.out.2.2 b hb with hb | hb
    · exact .inl ((HF.out b).2 hb)
    · right; omega
end Go.Proofs.Ytjikemhmnkckcaa
namespace Go.Proofs.Ytjikemhmnkckcaa
open Go.RowKit

/-- an op's cells -/
abbrev opV (o0 o1 o2 o3 o4 o5 o6 o7 o8 : Int) : Array Value := #[.int .i64 o0, .int .i64 o1, .int .i64 o2, .int .i64 o3, .int .i64 o4, .int .i64 o5, .int .i64 o6, .int .i64 o7, .int .i64 o8]

theorem block_any (q n : Nat) (F : Nat → Prop) (o0 o1 o2 o3 o4 o5 o6 o7 o8 : Int) (w : World) (h : WIn w q n F) (hn : (n + 1) * 48 ≤ 140737488355328) (h02 : o2 ≤ 9223372036854775807) (ho : o0 = 1 ∨ o0 = 2) :
    Calls Try.prog 82 #[.pointer (some ⟨q, 0, none⟩), .agg #[.int .i64 o0, .int .i64 o1, .int .i64 o2, .int .i64 o3, .int .i64 o4, .int .i64 o5, .int .i64 o6, .int .i64 o7, .int .i64 o8]] w fun e w' => ∃ F', e = .returned (.bool true) ∧ WIn w' q (n + 1) F' ∧ Kept w w' F ∧ ∀ b, F' b → F b ∨ w.heap.size ≤ b := by
  rcases ho with rfl | rfl
  · exact block_malloc q n F o1 o2 o3 o4 o5 o6 o7 o8 w h hn
  · exact block_free q n F o1 o2 o3 o4 o5 o6 o7 o8 w h hn h02

set_option maxRecDepth 100000 in
set_option maxHeartbeats 800000 in
theorem step_block (q n : Nat) (F : Nat → Prop) (o0 o1 o2 o3 o4 o5 o6 o7 o8 : Int) (w : World) (h : WIn w q n F) (hn : (n + 1) * 48 ≤ 140737488355328) (h02 : o2 ≤ 9223372036854775807) (ho : o0 = 1 ∨ o0 = 2) :
    Calls Try.prog 51 #[.pointer (some ⟨q, 0, none⟩), .agg #[.int .i64 o0, .int .i64 o1, .int .i64 o2, .int .i64 o3, .int .i64 o4, .int .i64 o5, .int .i64 o6, .int .i64 o7, .int .i64 o8]] w fun e w' => ∃ F', e = .returned (.bool true) ∧ WIn w' q (n + 1) F' ∧ Kept w w' F ∧ ∀ b, F' b → F b ∨ w.heap.size ≤ b := by
  have HI := hide2 h
  obtain ⟨ph, gc, bb, G, pr, vc, vl, vm, R, vp, ps, hW, h1, h2, hF⟩ := h
  have HW := hide2 hW
  clear hF hW
  have HH := hide2 h02
  clear h02
  go_enter Try.func51, Try.ntmps51
  go_wp2_with fail
  obtain ⟨wa, hwa⟩ : ∃ wa, wa = w.alloc (.cells #[.int .i64 o0, .int .i64 o1, .int .i64 o2, .int .i64 o3, .int .i64 o4, .int .i64 o5, .int .i64 o6, .int .i64 o7, .int .i64 o8] 98) := ⟨_, rfl⟩
  rw [← hwa]
  have hba : Below w.heap.size w wa := by rw [hwa]; exact (Below.refl _ _).alloc (Nat.le_refl _) _
  have HO : Hid (Blk wa w.heap.size 98 [.int .i64 o0, .int .i64 o1, .int .i64 o2, .int .i64 o3, .int .i64 o4, .int .i64 o5, .int .i64 o6, .int .i64 o7, .int .i64 o8]) := by rw [hwa]; exact Blk.alloc _ _ _
  have HWa := hide2 (HW.out.below hba)
  clear hwa
  refine (pointer_any q _ _ vp _ ps o1 o2 wa HWa.out.blk HWa.out.ps).mono ?_
  rintro e0 w0 ⟨rfl, hb0⟩
  have hw0 : Below w.heap.size w w0 := hba.trans (hb0.mono hba.size)
  have HO0 := hide2 (HO.out.below hb0 HO.out.lt)
  have HI0 := hide2 (HI.out.below hw0)
  have d0 := HO0.out.cell (j := 0) rfl
  have d1 := HO0.out.cell (j := 1) rfl
  have d2 := HO0.out.cell (j := 2) rfl
  have d3 := HO0.out.cell (j := 3) rfl
  have d4 := HO0.out.cell (j := 4) rfl
  have d5 := HO0.out.cell (j := 5) rfl
  have d6 := HO0.out.cell (j := 6) rfl
  have d7 := HO0.out.cell (j := 7) rfl
  have d8 := HO0.out.cell (j := 8) rfl
  generalize ptrOf ps o1 o2 = pt at *
  rcases ho with rfl | rfl
  all_goals
    go_wp2_with (go_at_call 82; refine (block_any q n F _ o1 o2 o3 o4 o5 o6 o7 o8 w0 HI0.out hn HH.out (by omega)).mono ?_; rintro e1 w1 ⟨F', rfl, hI1, hk1, hF1⟩)
    go_ret
    exact ⟨F', rfl, hI1, (Kept.of_below hw0 _).trans hk1, fun b hb => (hF1 b hb).imp id fun x => Nat.le_trans hw0.size x⟩

set_option maxRecDepth 100000 in
set_option maxHeartbeats 800000 in
theorem step_tag2 {vs : Value} (q ph : Nat) (gc : Value) (bb : Nat) (G : GSt) (pr : Nat) (vc vl vm : Value) (R : RSt) (vp : Value) (ps : List Int) (o1 o2 o3 o4 o5 o6 o7 o8 : Int) (w : World) (hW : WRep w q ph gc bb G pr vc vl vm R vp ps vs) (a0 : -9223372036854775808 ≤ o5) (a1 : o5 ≤ 9223372036854775807) :
    Calls Try.prog 51 #[.pointer (some ⟨q, 0, none⟩), .agg #[.int .i64 10, .int .i64 o1, .int .i64 o2, .int .i64 o3, .int .i64 o4, .int .i64 o5, .int .i64 o6, .int .i64 o7, .int .i64 o8]] w fun e w' => e = .returned (.bool true) ∧ Below w.heap.size w w' := by
  have HW := hide2 hW
  have hq := hW.blk.lt
  have HT : Hid (∀ addr, gtag G R.cls addr = Cf.tag R.st R.cls R.log addr) := hW.sim.tag
  have hne : (Cf.tag R.st R.cls R.log o5 == Cf.tag R.st R.cls R.log o5) = true := by simp
  clear hW
  go_enter Try.func51, Try.ntmps51
  go_wp2_with fail
  obtain ⟨wa, hwa⟩ : ∃ wa, wa = w.alloc (.cells #[.int .i64 10, .int .i64 o1, .int .i64 o2, .int .i64 o3, .int .i64 o4, .int .i64 o5, .int .i64 o6, .int .i64 o7, .int .i64 o8] 98) := ⟨_, rfl⟩
  rw [← hwa]
  have hba : Below w.heap.size w wa := by rw [hwa]; exact (Below.refl _ _).alloc (Nat.le_refl _) _
  have hsa : wa.heap.size = w.heap.size + 1 := by rw [hwa, World.size_alloc]
  have HO : Hid (Blk wa w.heap.size 98 [.int .i64 10, .int .i64 o1, .int .i64 o2, .int .i64 o3, .int .i64 o4, .int .i64 o5, .int .i64 o6, .int .i64 o7, .int .i64 o8]) := by rw [hwa]; exact Blk.alloc _ _ _
  have HWa := hide2 (HW.out.below hba)
  clear hwa
  refine (pointer_any q _ _ vp _ ps o1 o2 wa HWa.out.blk HWa.out.ps).mono ?_
  rintro e0 w0 ⟨rfl, hb0⟩
  have hw0 : Below w.heap.size w w0 := hba.trans (hb0.mono hba.size)
  have HO0 := hide2 (HO.out.below hb0 HO.out.lt)
  have HW0 := hide2 (HWa.out.below hb0)
  have d0 := HO0.out.cell (j := 0) rfl
  have d5 := HO0.out.cell (j := 5) rfl
  have c0 := HW0.out.blk.cell (j := 0) rfl
  have c1 := HW0.out.blk.cell (j := 1) rfl
  have hq0 : q < w0.heap.size := Nat.lt_of_lt_of_le hq hw0.size
  have ho0 : w.heap.size < w0.heap.size := by have := hb0.size; omega
  generalize ptrOf ps o1 o2 = pt at *
  go_wp2_with fail
  go_region_held3 (fun w' => w'.cell? ⟨q, 0, none⟩ = some (.pointer (some ⟨ph, 0, none⟩)) ∧ w'.cell? ⟨q, 1, none⟩ = some (.pointer (some ⟨pr, 0, none⟩)) ∧ w'.cell? ⟨w.heap.size, 5, none⟩ = some (.int .i64 o5)) (go_keep)
    (first | (go_at_call 16; refine (gtag_any ph gc bb G R.rest R.cls o5 w0.drew (HW0.out.g.kept (fun _ _ => rfl)) HW0.out.sim.ok HW0.out.sim.bd a0 a1).mono ?_; rw [HT.out]; rintro e w1 ⟨rfl, hb1⟩; have c0' : w1.cell? ⟨q, 0, none⟩ = some (.pointer (some ⟨ph, 0, none⟩)) := (hb1.cell (p := ⟨q, 0, none⟩) hq0).trans c0; have c1' : w1.cell? ⟨q, 1, none⟩ = some (.pointer (some ⟨pr, 0, none⟩)) := (hb1.cell (p := ⟨q, 1, none⟩) hq0).trans c1; have d5' : w1.cell? ⟨w.heap.size, 5, none⟩ = some (.int .i64 o5) := (hb1.cell (p := ⟨w.heap.size, 5, none⟩) ho0).trans d5; have HB1 : Hid (Below w0.heap.size w0 w1) := ⟨hb1.os, hb1.tape, hb1.output, hb1.size, hb1.block⟩; clear hb1))
  clear c0 c1 d0 d5
  have hs1 := HB1.out.size
  have hq1 : q < w1.heap.size := Nat.lt_of_lt_of_le hq0 hs1
  have ho1 : w.heap.size < w1.heap.size := Nat.lt_of_lt_of_le ho0 hs1
  go_wp2_with fail
  go_region_held3 (fun w' => w'.cell? ⟨q, 0, none⟩ = some (.pointer (some ⟨ph, 0, none⟩)) ∧ w'.cell? ⟨q, 1, none⟩ = some (.pointer (some ⟨pr, 0, none⟩)) ∧ w'.cell? ⟨w.heap.size, 5, none⟩ = some (.int .i64 o5)) (go_keep)
    (first | (go_at_call 17; refine (rtag_any pr vc vl vm R o5 w1.drew ((HW0.out.r.below HB1.out).kept (fun _ _ => rfl)) HW0.out.sim.rok).mono ?_; rintro e w2 ⟨rfl, hb2⟩; have c0'' : w2.cell? ⟨q, 0, none⟩ = some (.pointer (some ⟨ph, 0, none⟩)) := (hb2.cell (p := ⟨q, 0, none⟩) hq1).trans c0'; have c1'' : w2.cell? ⟨q, 1, none⟩ = some (.pointer (some ⟨pr, 0, none⟩)) := (hb2.cell (p := ⟨q, 1, none⟩) hq1).trans c1'; have d5'' : w2.cell? ⟨w.heap.size, 5, none⟩ = some (.int .i64 o5) := (hb2.cell (p := ⟨w.heap.size, 5, none⟩) ho1).trans d5'; have HB2 : Hid (Below w1.heap.size w1 w2) := ⟨hb2.os, hb2.tape, hb2.output, hb2.size, hb2.block⟩; clear hb2))
  go_wp2
  go_ret
  have hb1 := HB1.out
  have hb2 := HB2.out
  have hw2 : Below w.heap.size w w2 := (hw0.trans (hb1.mono hw0.size)).trans (hb2.mono (Nat.le_trans hw0.size hb1.size))
  exact ⟨rfl, hw2⟩

theorem step_tag (q n : Nat) (F : Nat → Prop) (o1 o2 o3 o4 o5 o6 o7 o8 : Int) (w : World) (h : WIn w q n F) (a0 : -9223372036854775808 ≤ o5) (a1 : o5 ≤ 9223372036854775807) :
    Calls Try.prog 51 #[.pointer (some ⟨q, 0, none⟩), .agg #[.int .i64 10, .int .i64 o1, .int .i64 o2, .int .i64 o3, .int .i64 o4, .int .i64 o5, .int .i64 o6, .int .i64 o7, .int .i64 o8]] w fun e w' => ∃ F', e = .returned (.bool true) ∧ WIn w' q (n + 1) F' ∧ Kept w w' F ∧ ∀ b, F' b → F b ∨ w.heap.size ≤ b := by
  have HI := hide2 h
  obtain ⟨ph, gc, bb, G, pr, vc, vl, vm, R, vp, ps, hW, h1, h2, hF⟩ := h
  refine (step_tag2 q ph gc bb G pr vc vl vm R vp ps o1 o2 o3 o4 o5 o6 o7 o8 w hW a0 a1).mono ?_
  rintro e w' ⟨rfl, hb⟩
  exact ⟨F, rfl, (HI.out.below hb).more (by omega), Kept.of_below hb _, fun b hb => .inl hb⟩

theorem step_any (q n : Nat) (F : Nat → Prop) (o0 o1 o2 o3 o4 o5 o6 o7 o8 : Int) (w : World) (h : WIn w q n F) (hn : (n + 1) * 48 ≤ 140737488355328) (h02 : o2 ≤ 9223372036854775807) (a0 : -9223372036854775808 ≤ o5) (a1 : o5 ≤ 9223372036854775807) (ho : o0 = 1 ∨ o0 = 2 ∨ o0 = 10) :
    Calls Try.prog 51 #[.pointer (some ⟨q, 0, none⟩), .agg #[.int .i64 o0, .int .i64 o1, .int .i64 o2, .int .i64 o3, .int .i64 o4, .int .i64 o5, .int .i64 o6, .int .i64 o7, .int .i64 o8]] w fun e w' => ∃ F', e = .returned (.bool true) ∧ WIn w' q (n + 1) F' ∧ Kept w w' F ∧ ∀ b, F' b → F b ∨ w.heap.size ≤ b := by
  rcases ho with rfl | rfl | rfl
  · exact step_block q n F 1 o1 o2 o3 o4 o5 o6 o7 o8 w h hn h02 (.inl rfl)
  · exact step_block q n F 2 o1 o2 o3 o4 o5 o6 o7 o8 w h hn h02 (.inr rfl)
  · exact step_tag q n F o1 o2 o3 o4 o5 o6 o7 o8 w h a0 a1

set_option maxRecDepth 100000 in
set_option maxHeartbeats 800000 in
theorem looks2 (q : Nat) (x0 x1 x2 : Value) (w : World) (hB : Blk w q 33 [x0, x1, x2, .slice none 0 0]) :
    Calls Try.prog 52 #[.pointer (some ⟨q, 0, none⟩)] w fun e w' => e = .returned (.bool true) ∧ w = w' := by
  have c3 := hB.cell (j := 3) rfl
  clear hB
  go_enter Try.func52, Try.ntmps52
  go_wp2
  go_loopw [3] (fun i wr => i = .int .i64 0 ∧ w = wr) (fun _ _ => 0)
  case atStart => exact ⟨rfl, rfl⟩
  case round =>
    obtain ⟨rfl, rfl⟩ := hrel
    go_wp2
    go_ret
    exact ⟨rfl, rfl⟩

theorem looks_any (q n : Nat) (F : Nat → Prop) (w : World) (h : WIn w q n F) :
    Calls Try.prog 52 #[.pointer (some ⟨q, 0, none⟩)] w fun e w' => e = .returned (.bool true) ∧ w = w' := by
  obtain ⟨ph, gc, bb, G, pr, vc, vl, vm, R, vp, ps, hW, h1, h2, hF⟩ := h
  exact looks2 q _ _ _ w hW.blk

set_option maxRecDepth 100000 in
set_option maxHeartbeats 800000 in
theorem ends_any (q n : Nat) (F : Nat → Prop) (w : World) (h : WIn w q n F) :
    Calls Try.prog 53 #[.pointer (some ⟨q, 0, none⟩), .bool false] w fun e w' => e = .returned (.bool true) ∧ Below w.heap.size w w' := by
  obtain ⟨ph, gc, bb, G, pr, vc, vl, vm, R, vp, ps, hW, h1, h2, hF⟩ := h
  have HW := hide2 hW
  clear hW hF h1 h2
  go_enter Try.func53, Try.ntmps53
  go_wp2_with (go_at_call 18; refine (tags_any q ph gc bb G pr vc vl vm R vp ps _ w HW.out).mono ?_; rintro e w1 ⟨rfl, hb1⟩)
  go_ret
  exact ⟨rfl, hb1⟩
end Go.Proofs.Ytjikemhmnkckcaa
namespace Go.Proofs.Ytjikemhmnkckcaa
open Go.RowKit

/-- the kinds that are played -/
def kindAt (n : Nat) : Int := if n = 0 then 1 else if n = 1 then 2 else 10
def isKind (k : Int) : Bool := k == 1 || k == 2 || k == 10
theorem isKind_at (n : Nat) : isKind (kindAt n) = true := by unfold kindAt; split <;> (try split) <;> rfl
theorem isKind_no (k : Int) (h : ∀ m, m < 3 → kindAt m ≠ k) : isKind k = false := by
  have h0 := h 0 (by omega); have h1 := h 1 (by omega); have h2 := h 2 (by omega)
  simp [kindAt] at h0 h1 h2
  simp [isKind]; omega
theorem isKind_of {k : Int} (h : isKind k = true) : k = 1 ∨ k = 2 ∨ k = 10 := by simpa [isKind, or_assoc] using h

set_option maxRecDepth 100000 in
set_option maxHeartbeats 800000 in
theorem in_any (k : Int) (kb : Nat) (w : World) (h : ∀ m, m < 3 → w.cell? ⟨kb, m, none⟩ = some (.int .i64 (kindAt m))) :
    Calls Try.prog 50 #[.int .i64 k, .slice (some ⟨kb, 0, none⟩) 3 3] w fun e w' => e = .returned (.bool (isKind k)) ∧ Below w.heap.size w w' := by
  have HK := hide2 h
  clear h
  have hkb : kb < w.heap.size := World.block_lt_of_cell? w _ (HK.out 0 (by omega))
  go_enter Try.func50, Try.ntmps50
  go_wp2
  go_loopw [5] (fun i wr => ∃ n : Nat, n ≤ 3 ∧ i = .int .i64 (n : Int) ∧ Below w.heap.size w wr ∧ ∀ m, m < n → kindAt m ≠ k) (fun i _ => (3 - intOf i).toNat)
  case atStart => exact ⟨0, by omega, rfl, Below.refl _ _, fun m hm => absurd hm (by omega)⟩
  case round =>
    obtain ⟨n, hn, rfl, hb, hall⟩ := hrel
    have HA := hide2 hall
    clear hall
    by_cases hlt : n < 3
    · have hl : (n : Int) < 3 := by omega
      have h0 : (0 : Int) ≤ (n : Int) := by omega
      have c := (hb.cell (p := ⟨kb, n, none⟩) hkb).trans (HK.out n hlt)
      by_cases hk : kindAt n = k
      · have hk2 : (kindAt n == k) = true := by simp [hk]
        have HR : Hid (isKind k = true) := by rw [← hk]; exact isKind_at n
        generalize kindAt n = y at *
        clear hk
        go_wp2
        go_ret
        exact ⟨by rw [HR.out]; rfl, hb⟩
      · have hk2 : (kindAt n == k) = false := by rw [beq_eq_false_iff_ne]; exact hk
        have HNE : Hid (kindAt n ≠ k) := hk
        have HNN : Hid (∀ m, m < n + 1 → kindAt m ≠ k) := fun m hm => by
          by_cases e : m = n
          · rw [e]; exact HNE.out
          · exact HA.out m (by omega)
        clear HNE
        generalize kindAt n = y at *
        clear hk
        go_wp2
        go_roundw
        case rel => exact ⟨n + 1, by omega, rfl, hb, HNN.out⟩
        case measure => simp [intOf]; omega
    · have hl : ¬ (n : Int) < 3 := by omega
      have HR : Hid (isKind k = false) := isKind_no k fun m hm => HA.out m (by omega)
      go_wp2
      go_ret
      exact ⟨by rw [HR.out]; rfl, hb⟩
end Go.Proofs.Ytjikemhmnkckcaa
