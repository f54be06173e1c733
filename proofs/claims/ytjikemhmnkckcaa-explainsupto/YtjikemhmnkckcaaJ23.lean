import Derived.Test.YtjikemhmnkckcaaJ22
namespace Go.Proofs.Ytjikemhmnkckcaa
open Go.RowKit

/-- the heaps of a script's world go on, the rest stays -/
theorem WRep.heaps {w w1 w2 : World} {q ph : Nat} {gc : Value} {bb : Nat} {G G' : GSt} {pr : Nat} {vc vl vl' vm : Value} {R R' : RSt} {vp : Value} {ps : List Int} {vs : Value} (h : WRep w q ph gc bb G pr vc vl vm R vp ps vs)
    (hG : GRep w1 ph gc bb G') (hf : ∀ b, GFoot ph gc bb G' b ↔ GFoot ph gc bb G b) (k1 : Kept w w1 (GFoot ph gc bb G)) (hR : RRep w2 pr vc vl' vm R') (k2 : Kept w1 w2 (RFoot pr vc vl vm)) (hn : NewBlk vl vl' w1) (hs : Sim G' R') :
    WRep w2 q ph gc bb G' pr vc vl' vm R' vp ps vs ∧ Kept w w2 (WFoot q ph gc bb G pr vc vl vm vp) ∧ ∀ b, WFoot q ph gc bb G' pr vc vl' vm vp b → WFoot q ph gc bb G pr vc vl vm vp b ∨ w.heap.size ≤ b := by
  have ht : ∀ b, b < w.heap.size → ¬ GFoot ph gc bb G b → ¬ RFoot pr vc vl vm b → w2.heap[b]? = w.heap[b]? := fun b hb g r =>
    (k2.block b (Nat.lt_of_lt_of_le hb k1.size) r).trans (k1.block b hb g)
  have hrf : ∀ b, RFoot pr vc vl' vm b → RFoot pr vc vl vm b ∨ w.heap.size ≤ b := by
    rintro b (hb | hb | hb | hb)
    · exact .inl (.inl hb)
    · exact .inl (.inr (.inl hb))
    · rcases hn b hb with hb | hb
      · exact .inl (.inr (.inr (.inl hb)))
      · exact .inr (Nat.le_trans k1.size hb)
    · exact .inl (.inr (.inr (.inr hb)))
  refine ⟨⟨?_, ?_, hR, ?_, hs, ?_, ?_, ?_, h.pq, ?_, ?_⟩, ?_, ?_⟩
  · exact (ht q h.blk.lt h.qg h.qr).trans h.blk
  · exact hG.kept fun b hb => k2.block b (hG.foot_lt hb) (h.gr b ((hf b).1 hb))
  · exact row_kept h.ps fun g hg => ht g (row_lt h.ps hg) (h.pg g hg) (h.pr_ g hg)
  · exact fun x => h.qg ((hf q).1 x)
  · intro x
    rcases hrf q x with x | x
    · exact h.qr x
    · exact absurd h.blk.lt (by omega)
  · intro b hb x
    have hb' := (hf b).1 hb
    rcases hrf b x with x | x
    · exact h.gr b hb' x
    · exact absurd (h.g.foot_lt hb') (by omega)
  · exact fun b hb x => h.pg b hb ((hf b).1 x)
  · intro b hb x
    rcases hrf b x with x | x
    · exact h.pr_ b hb x
    · exact absurd (row_lt h.ps hb) (by omega)
  · exact (k1.mono fun b _ hb => .inr (.inl hb)).trans (k2.mono fun b _ hb => .inr (.inr (.inl hb)))
  · rintro b (hb | hb | hb | hb)
    · exact .inl (.inl hb)
    · exact .inl (.inr (.inl ((hf b).1 hb)))
    · rcases hrf b hb with hb | hb
      · exact .inl (.inr (.inr (.inl hb)))
      · exact .inr hb
    · exact .inl (.inr (.inr (.inr hb)))

/-- a pointer comes out -/
theorem WRep.outs {w w2 : World} {q ph : Nat} {gc : Value} {bb : Nat} {G : GSt} {pr : Nat} {vc vl vm : Value} {R : RSt} {vp vp' : Value} {ps ps' : List Int} {vs : Value} (h : WRep w q ph gc bb G pr vc vl vm R vp ps vs)
    (hb : Blk w2 q 33 [.pointer (some ⟨ph, 0, none⟩), .pointer (some ⟨pr, 0, none⟩), vp', vs]) (hp : w2.ownsRow 0 3 1 vp' ps'.length (ps'.map (Value.int .i64))) (hq : vp'.ownBlock ≠ some q) (k : Kept w w2 (fun b => b = q ∨ vp.ownBlock = some b)) (hn : NewBlk vp vp' w) :
    WRep w2 q ph gc bb G pr vc vl vm R vp' ps' vs ∧ Kept w w2 (WFoot q ph gc bb G pr vc vl vm vp) ∧ ∀ b, WFoot q ph gc bb G pr vc vl vm vp' b → WFoot q ph gc bb G pr vc vl vm vp b ∨ w.heap.size ≤ b := by
  refine ⟨⟨hb, ?_, ?_, hp, h.sim, h.qg, h.qr, h.gr, hq, ?_, ?_⟩, ?_, ?_⟩
  · exact h.g.kept fun b hx => k.block b (h.g.foot_lt hx) (by
      rintro (rfl | e)
      · exact h.qg hx
      · exact h.pg b e hx)
  · exact h.r.kept fun b hx => k.block b (h.r.foot_lt hx) (by
      rintro (rfl | e)
      · exact h.qr hx
      · exact h.pr_ b e hx)
  · intro b hb x
    rcases hn b hb with hb | hb
    · exact h.pg b hb x
    · exact absurd (h.g.foot_lt x) (by omega)
  · intro b hb x
    rcases hn b hb with hb | hb
    · exact h.pr_ b hb x
    · exact absurd (h.r.foot_lt x) (by omega)
  · refine k.mono fun b _ hb => ?_
    rcases hb with hb | hb
    · exact .inl hb
    · exact .inr (.inr (.inr hb))
  · rintro b (hb | hb | hb | hb)
    · exact .inl (.inl hb)
    · exact .inl (.inr (.inl hb))
    · exact .inl (.inr (.inr (.inl hb)))
    · rcases hn b hb with hb | hb
      · exact .inl (.inr (.inr (.inr hb)))
      · exact .inr hb

theorem Kept.trans' {a b c : World} {S T : Nat → Prop} (h : Kept a b S) (g : Kept b c T) (ht : ∀ k, k < a.heap.size → T k → S k) : Kept a c S :=
  ⟨g.os.trans h.os, g.tape.trans h.tape, g.output.trans h.output, Nat.le_trans h.size g.size, fun k hk hs => (g.block k (Nat.lt_of_lt_of_le hk h.size) (fun x => hs (ht k hk x))).trans (h.block k hk hs)⟩
/-- a script's world after at most n steps; F: the blocks that are its own -/
def WIn (w : World) (q n : Nat) (F : Nat → Prop) : Prop := ∃ ph gc bb G pr vc vl vm R vp ps, WRep w q ph gc bb G pr vc vl vm R vp ps (.slice none 0 0) ∧ R.log.length ≤ n ∧ ps.length ≤ n ∧ ∀ b, F b ↔ WFoot q ph gc bb G pr vc vl vm vp b
theorem WIn.lt {w : World} {q n : Nat} {F : Nat → Prop} (h : WIn w q n F) {b : Nat} (hb : F b) : b < w.heap.size := by
  obtain ⟨ph, gc, bb, G, pr, vc, vl, vm, R, vp, ps, hW, _, _, hF⟩ := h
  exact hW.foot_lt ((hF b).1 hb)
theorem WIn.kept {w w' : World} {q n : Nat} {F : Nat → Prop} (h : WIn w q n F) (hk : ∀ b, F b → w'.heap[b]? = w.heap[b]?) : WIn w' q n F := by
  obtain ⟨ph, gc, bb, G, pr, vc, vl, vm, R, vp, ps, hW, h1, h2, hF⟩ := h
  exact ⟨ph, gc, bb, G, pr, vc, vl, vm, R, vp, ps, hW.kept fun b hb => hk b ((hF b).2 hb), h1, h2, hF⟩
theorem WIn.below {w w' : World} {q n : Nat} {F : Nat → Prop} (h : WIn w q n F) (hb : Below w.heap.size w w') : WIn w' q n F := h.kept fun b hf => hb.block b (h.lt hf)
theorem WIn.more {w : World} {q n m : Nat} {F : Nat → Prop} (h : WIn w q n F) (hm : n ≤ m) : WIn w q m F := by
  obtain ⟨ph, gc, bb, G, pr, vc, vl, vm, R, vp, ps, hW, h1, h2, hF⟩ := h
  exact ⟨ph, gc, bb, G, pr, vc, vl, vm, R, vp, ps, hW, by omega, by omega, hF⟩

theorem mR_len (R : RSt) (size draw site : Int) : (mR R size draw site).log.length ≤ R.log.length + 1 := by unfold mR; split <;> simp

theorem out_any (q : Nat) (x0 x1 vp x3 : Value) (ps : List Int) (p e : Int) (w : World) (hb : Blk w q 33 [x0, x1, vp, x3]) (hp : w.ownsRow 0 3 1 vp ps.length (ps.map (Value.int .i64))) (hq : vp.ownBlock ≠ some q) (hroom : (ps.length + 1) * 8 ≤ 140737488355328) :
    Calls Try.prog 106 #[.pointer (some ⟨q, 0, none⟩), .int .i64 p, .int .i64 e] w fun e' w' => ∃ (vp' : Value) (ps' : List Int), e' = .returned (.tuple #[]) ∧ Blk w' q 33 [x0, x1, vp', x3] ∧ w'.ownsRow 0 3 1 vp' ps'.length (ps'.map (Value.int .i64)) ∧
      vp'.ownBlock ≠ some q ∧ Kept w w' (fun b => b = q ∨ vp.ownBlock = some b) ∧ NewBlk vp vp' w ∧ ps'.length ≤ ps.length + 1 := by
  by_cases he : e = 0
  · subst he
    refine (out_yes q x0 x1 vp x3 ps p w hb hp hq hroom).mono ?_
    rintro e' w' ⟨vp', rfl, h1, h2, h3, h4, h5⟩
    exact ⟨vp', ps ++ [p], rfl, h1, h2, h3, h4, h5, by simp⟩
  · refine (out_no q p e w he).mono ?_
    rintro e' w' ⟨rfl, rfl⟩
    exact ⟨vp, ps, rfl, hb, hp, hq, Kept.same _ _, fun g hg => .inl hg, by omega⟩

set_option maxRecDepth 100000 in
set_option maxHeartbeats 800000 in
theorem block_malloc (q n : Nat) (F : Nat → Prop) (o1 o2 o3 o4 o5 o6 o7 o8 : Int) (w : World) (h : WIn w q n F) (hn : (n + 1) * 48 ≤ 140737488355328) :
    Calls Try.prog 82 #[.pointer (some ⟨q, 0, none⟩), .agg #[.int .i64 1, .int .i64 o1, .int .i64 o2, .int .i64 o3, .int .i64 o4, .int .i64 o5, .int .i64 o6, .int .i64 o7, .int .i64 o8]] w fun e w' => ∃ F', e = .returned (.bool true) ∧ WIn w' q (n + 1) F' ∧ Kept w w' F ∧ ∀ b, F' b → F b ∨ w.heap.size ≤ b := by
  obtain ⟨ph, gc, bb, G, pr, vc, vl, vm, R, vp, ps, hW, h1, h2, hF⟩ := h
  have HW := hide2 hW
  have HF := hide2 hF
  clear hF
  have hq := hW.blk.lt
  have HQG := hide2 hW.qg
  have HQR := hide2 hW.qr
  clear hW
  have e1 : ((mOut R o5 o6).1 == (mOut R o5 o6).1) = true := by simp
  have e2 : ((mOut R o5 o6).2 == (mOut R o5 o6).2) = true := by simp
  go_enter Try.func82, Try.ntmps82
  go_wp2_with fail
  obtain ⟨wa, hwa⟩ : ∃ wa, wa = w.alloc (.cells #[.int .i64 1, .int .i64 o1, .int .i64 o2, .int .i64 o3, .int .i64 o4, .int .i64 o5, .int .i64 o6, .int .i64 o7, .int .i64 o8] 98) := ⟨_, rfl⟩
  rw [← hwa]
  have hba : Below w.heap.size w wa := by rw [hwa]; exact (Below.refl _ _).alloc (Nat.le_refl _) _
  have hsa : wa.heap.size = w.heap.size + 1 := by rw [hwa, World.size_alloc]
  have HO : Hid (Blk wa w.heap.size 98 [.int .i64 1, .int .i64 o1, .int .i64 o2, .int .i64 o3, .int .i64 o4, .int .i64 o5, .int .i64 o6, .int .i64 o7, .int .i64 o8]) := by rw [hwa]; exact Blk.alloc _ _ _
  have HWa := hide2 (HW.out.below hba)
  clear hwa
  refine (pointer_any q _ _ vp _ ps o1 o2 wa HWa.out.blk HWa.out.ps).mono ?_
  rintro e0 w0 ⟨rfl, hb0⟩
  have HO0 := hide2 (HO.out.below hb0 HO.out.lt)
  have HW0 := hide2 (HWa.out.below hb0)
  have hq0 : q < w0.heap.size := Nat.lt_of_lt_of_le (Nat.lt_of_lt_of_le hq hba.size) hb0.size
  have c0 := HW0.out.blk.cell (j := 0) rfl
  have c1 := HW0.out.blk.cell (j := 1) rfl
  have d0 := HO0.out.cell (j := 0) rfl
  have d5 := HO0.out.cell (j := 5) rfl
  have d6 := HO0.out.cell (j := 6) rfl
  have d7 := HO0.out.cell (j := 7) rfl
  have HG : Hid (¬ GFoot ph gc bb G w.heap.size) := fun x => by have := HW.out.g.foot_lt x; omega
  have HR : Hid (¬ RFoot pr vc vl vm w.heap.size) := fun x => by have := HW.out.r.foot_lt x; omega
  have ho0 : w.heap.size < w0.heap.size := by have := hb0.size; omega
  have HKA : Hid (Kept w w0 F) := Kept.of_below (hba.trans (hb0.mono hba.size)) _
  have HSO := hide2 (show w.heap.size ≤ w0.heap.size by omega)
  generalize hob : w.heap.size = ob at *
  have HOB := hide2 hob
  clear hob
  go_wp2_with fail
  go_region_held3 (fun w' => w'.cell? ⟨q, 0, none⟩ = some (.pointer (some ⟨ph, 0, none⟩)) ∧ w'.cell? ⟨q, 1, none⟩ = some (.pointer (some ⟨pr, 0, none⟩)) ∧ w'.cell? ⟨ob, 5, none⟩ = some (.int .i64 o5) ∧ w'.cell? ⟨ob, 6, none⟩ = some (.int .i64 o6) ∧ w'.cell? ⟨ob, 7, none⟩ = some (.int .i64 o7)) (go_keep)
    (first | (go_at_call 29; refine (gmalloc_all ph gc bb G R o5 o6 o7 w0.drew (HW0.out.g.kept (fun _ _ => rfl)) HW0.out.sim).mono ?_; rintro e1 w1 ⟨rfl, hG1, hk1⟩; have HG1 := hide2 hG1; have HK1 := hide2 hk1; have hs1 := hk1.size; clear hG1; have c0' : w1.cell? ⟨q, 0, none⟩ = some (.pointer (some ⟨ph, 0, none⟩)) := ((World.cell?_of_block (w := w0.drew) (hk1.block q hq0 HQG.out)).trans c0); have c1' : w1.cell? ⟨q, 1, none⟩ = some (.pointer (some ⟨pr, 0, none⟩)) := ((World.cell?_of_block (w := w0.drew) (hk1.block q hq0 HQG.out)).trans c1); have d5' : w1.cell? ⟨ob, 5, none⟩ = some (.int .i64 o5) := ((World.cell?_of_block (w := w0.drew) (hk1.block ob ho0 HG.out)).trans d5); have d6' : w1.cell? ⟨ob, 6, none⟩ = some (.int .i64 o6) := ((World.cell?_of_block (w := w0.drew) (hk1.block ob ho0 HG.out)).trans d6); have d7' : w1.cell? ⟨ob, 7, none⟩ = some (.int .i64 o7) := ((World.cell?_of_block (w := w0.drew) (hk1.block ob ho0 HG.out)).trans d7); clear hk1))
  clear c0 c1 d0 d5 d6 d7
  have hq1 : q < w1.heap.size := Nat.lt_of_lt_of_le hq0 hs1
  have ho1 : ob < w1.heap.size := Nat.lt_of_lt_of_le ho0 hs1
  have HR1 : Hid (RRep w1 pr vc vl vm R) := HW0.out.r.kept fun b hb => HK1.out.block b (HW0.out.r.foot_lt hb) (fun x => HW0.out.gr b x hb)
  go_wp2_with fail
  go_region_held3 (fun w' => w'.cell? ⟨q, 0, none⟩ = some (.pointer (some ⟨ph, 0, none⟩)) ∧ w'.cell? ⟨q, 1, none⟩ = some (.pointer (some ⟨pr, 0, none⟩)) ∧ w'.cell? ⟨ob, 5, none⟩ = some (.int .i64 o5) ∧ w'.cell? ⟨ob, 6, none⟩ = some (.int .i64 o6) ∧ w'.cell? ⟨ob, 7, none⟩ = some (.int .i64 o7)) (go_keep)
    (first | (go_at_call 105; refine (rmalloc_all pr vc vl vm R o5 o6 o7 w1.drew (HR1.out.kept (fun _ _ => rfl)) HW0.out.sim.rok (by omega)).mono ?_; rintro e1 w2 ⟨vl', rfl, hR2, hk2, hN2⟩; have HR2 := hide2 hR2; have HK2 := hide2 hk2; have HN2 := hide2 hN2; have hs2 := hk2.size; clear hR2 hN2; have c0'' : w2.cell? ⟨q, 0, none⟩ = some (.pointer (some ⟨ph, 0, none⟩)) := ((World.cell?_of_block (w := w1.drew) (hk2.block q hq1 HQR.out)).trans c0'); have c1'' : w2.cell? ⟨q, 1, none⟩ = some (.pointer (some ⟨pr, 0, none⟩)) := ((World.cell?_of_block (w := w1.drew) (hk2.block q hq1 HQR.out)).trans c1'); have d5'' : w2.cell? ⟨ob, 5, none⟩ = some (.int .i64 o5) := ((World.cell?_of_block (w := w1.drew) (hk2.block ob ho1 HR.out)).trans d5'); have d6'' : w2.cell? ⟨ob, 6, none⟩ = some (.int .i64 o6) := ((World.cell?_of_block (w := w1.drew) (hk2.block ob ho1 HR.out)).trans d6'); have d7'' : w2.cell? ⟨ob, 7, none⟩ = some (.int .i64 o7) := ((World.cell?_of_block (w := w1.drew) (hk2.block ob ho1 HR.out)).trans d7'); clear hk2))
  clear c0' c1' d5' d6' d7'
  have HWH := hide2 (HW0.out.heaps (HG1.out.kept (fun _ _ => rfl)) (mG_foot HW0.out.sim o5 o6 o7 ph gc bb) (show Kept w0 w1 _ from ⟨HK1.out.os, HK1.out.tape, HK1.out.output, HK1.out.size, HK1.out.block⟩) HR2.out (show Kept w1 w2 _ from ⟨HK2.out.os, HK2.out.tape, HK2.out.output, HK2.out.size, HK2.out.block⟩) HN2.out (sim_malloc HW0.out.sim o5 o6 o7))
  go_wp2_with fail
  refine (out_any q _ _ vp _ ps _ _ w2 HWH.out.1.blk HWH.out.1.ps HWH.out.1.pq (by omega)).mono ?_
  rintro e1 w3 ⟨vp', ps', rfl, hB3, hP3, hq3, hk3, hN3, hl3⟩
  have HWO := hide2 (HWH.out.1.outs hB3 hP3 hq3 hk3 hN3)
  have hs3 := hk3.size
  clear c0'' c1'' d5'' d6'' d7'' hB3 hP3 hq3 hk3 hN3
  go_wp2_with (go_at_call 40; refine (num_any _ _).mono ?_; rintro e1 w6 ⟨rfl, rfl⟩)
  go_ret
  have hwa := HKA.out
  have hob := HOB.out
  have hl := mR_len R o5 o6 o7
  refine ⟨_, rfl, ⟨ph, gc, bb, _, pr, vc, vl', vm, _, vp', ps', HWO.out.1, by omega, by omega, fun b => Iff.rfl⟩, ?_, fun b hb => ?_⟩
  · refine (hwa.trans (HWH.out.2.1.mono fun b _ hb => (HF.out b).2 hb)).trans' (HWO.out.2.1) fun b hb hx => ?_
    rcases HWH.out.2.2 b hx with hx | hx
    · exact (HF.out b).2 hx
    · have := hwa.size; omega
  · have := hwa.size
    have := HWH.out.2.1.size
    rcases HWO.out.2.2 b hb with hb | hb
    · rcases HWH.out.2.2 b hb with hb | hb
      · exact .inl ((HF.out b).2 hb)
      · right; omega
    · right; omega
end Go.Proofs.Ytjikemhmnkckcaa
