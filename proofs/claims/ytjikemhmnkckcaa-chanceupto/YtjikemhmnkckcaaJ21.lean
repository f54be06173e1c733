import Derived.Test.YtjikemhmnkckcaaJ20
import Derived.Test.YtjikemhmnkckcaaJ19
namespace Go.Proofs.Ytjikemhmnkckcaa
open Go.RowKit

theorem hide {p : Prop} (h : p) : Hid p := h
theorem unhide {p : Prop} (h : Hid p) : p := h

set_option maxRecDepth 100000 in
set_option maxHeartbeats 800000 in
theorem tags_any (q ph : Nat) (gc : Value) (bb : Nat) (G : GSt) (pr : Nat) (vc vl vm : Value) (R : RSt) (vp : Value) (ps : List Int) (vs : Value) (w : World) (h : WRep w q ph gc bb G pr vc vl vm R vp ps vs) :
    Calls Try.prog 18 #[.pointer (some ⟨q, 0, none⟩)] w fun e w' => e = .returned (.bool true) ∧ Below w.heap.size w w' := by
  have HW : Hid (WRep w q ph gc bb G pr vc vl vm R vp ps vs) := h
  have c0 := h.blk.cell (j := 0) rfl
  have c1 := h.blk.cell (j := 1) rfl
  have hq := h.blk.lt
  have HT : Hid (∀ addr, gtag G R.cls addr = Cf.tag R.st R.cls R.log addr) := h.sim.tag
  clear h
  go_enter Try.func18, Try.ntmps18
  go_wp2
  go_loopw [3] (fun i wr => ∃ n : Nat, n ≤ 452 ∧ i = .int .i64 ((n : Int) - 2) ∧ Below w.heap.size w wr) (fun i _ => (450 - intOf i).toNat)
  case atStart => exact ⟨0, by omega, rfl, Below.refl _ _⟩
  case round =>
    obtain ⟨n, hn, rfl, hb⟩ := hrel
    have c0' := (hb.cell (p := ⟨q, 0, none⟩) hq).trans c0
    have c1' := (hb.cell (p := ⟨q, 1, none⟩) hq).trans c1
    have HWr := hide (HW.out.below hb)
    by_cases hlt : n < 452
    · have hl : (n : Int) - 2 < 450 := by omega
      have hlo : -2 ≤ (n : Int) - 2 := by omega
      have e1 : Hid ((n : Int) - 2 + 1 = ((n + 1 : Nat) : Int) - 2) := by show _ = _; omega
      generalize (n : Int) - 2 = x at *
      have hne : (Cf.tag R.st R.cls R.log (16 * x) != Cf.tag R.st R.cls R.log (16 * x)) = false := by simp
      go_wp2_with (first
        | (go_at_call 16; refine (gtag_any ph gc bb G R.rest R.cls _ _ (unhide HWr).g (unhide HWr).sim.ok (unhide HWr).sim.bd (by omega) (by omega)).mono ?_; rw [HT.out]; rintro e w1 ⟨rfl, hb1⟩; have c1'' := (hb1.cell (p := ⟨q, 1, none⟩) (Nat.lt_of_lt_of_le hq hb.size)).trans c1')
        | (go_at_call 17; refine (rtag_any pr vc vl vm R _ _ ((unhide HWr).r.below hb1) (unhide HWr).sim.rok).mono ?_; rintro e w2 ⟨rfl, hb2⟩))
      go_roundw
      case rel => exact ⟨n + 1, by omega, by rw [e1.out], (hb.trans (hb1.mono hb.size)).trans (hb2.mono (Nat.le_trans hb.size hb1.size))⟩
      case measure => simp [intOf]; omega
    · have hl : ¬ (n : Int) - 2 < 450 := by omega
      go_wp2
      go_ret
      exact ⟨rfl, hb⟩

set_option maxRecDepth 100000 in
set_option maxHeartbeats 800000 in
theorem news_any (st rest : Int) (a : Option Addr) (cap : Nat) (cls : List (Int × Int)) (addr : Int) (w : World) (h : CRow w a cap cls) (hreach : cls.length * 16 ≤ 140737488351232) (a0 : -9223372036854775808 ≤ addr) (a1 : addr ≤ 9223372036854775807) :
    Calls Try.prog 3 #[.agg #[.int .i64 st, .int .i64 rest, .slice a cls.length cap], .int .i64 addr] w fun e w' => e = .returned (.bool true) ∧ Below w.heap.size w w' := by
  have HC : Hid (CRow w a cap cls) := h
  clear h
  cases hv : Cf.validB st rest cls
  · go_enter Try.func3, Try.ntmps3
    go_wp2_with (go_at_call 15; refine (begin_no st rest a cap cls _ (HC.out.below ((Below.refl _ _).alloc (Nat.le_refl _) _)) hreach hv).mono ?_; rintro e w1 ⟨rfl, hb1⟩)
    go_ret
    exact ⟨rfl, ((Below.refl _ _).alloc (Nat.le_refl _) _).trans (hb1.mono (by simp))⟩
  · have HV : Hid (Cf.Valid st rest cls) := Cf.valid_of hv
    have hne : (Cf.tag st cls [] addr != Cf.tag st cls [] addr) = false := by simp
    clear hv
    go_enter Try.func3, Try.ntmps3
    go_wp2_with fail
    refine (begin_yes st rest a cap cls _ (HC.out.below ((Below.refl _ _).alloc (Nat.le_refl _) _)) hreach HV.out).mono ?_
    rintro e w1 ⟨q, ph, gc, bb, G, pr, vc, rfl, hW, hb1, hf⟩
    have HW := hide hW
    have hw1 : Below w.heap.size w w1 := ((Below.refl _ _).alloc (Nat.le_refl _) _).trans (hb1.mono (by simp))
    have c0 := hW.blk.cell (j := 0) rfl
    have c1 := hW.blk.cell (j := 1) rfl
    have hq := hW.blk.lt
    have HT : Hid (∀ addr, gtag G cls addr = Cf.tag st cls [] addr) := hW.sim.tag
    clear hW hf hb1
    go_wp2_with (first
      | (go_at_call 16; refine (gtag_any ph gc bb G rest cls _ _ (unhide HW).g (unhide HW).sim.ok (unhide HW).sim.bd a0 a1).mono ?_; rw [HT.out]; rintro e w2 ⟨rfl, hb2⟩; have c1' := (hb2.cell (p := ⟨q, 1, none⟩) hq).trans c1)
      | (go_at_call 17; refine (rtag_any pr vc _ _ ⟨st, rest, cls, [], []⟩ _ _ ((unhide HW).r.below hb2) (unhide HW).sim.rok).mono ?_; rintro e w3 ⟨rfl, hb3'⟩; have hb3 := hb2.trans (hb3'.mono hb2.size); clear hb3')
      | (go_at_call 18; refine (tags_any q ph gc bb G pr vc _ _ _ _ _ _ _ ((unhide HW).below hb3)).mono ?_; rintro e w4 ⟨rfl, hb4'⟩; have hb4 := hb3.trans (hb4'.mono hb3.size); clear hb4'))
    go_ret
    exact ⟨rfl, hw1.trans (hb4.mono hw1.size)⟩
end Go.Proofs.Ytjikemhmnkckcaa
namespace Go.Proofs.Ytjikemhmnkckcaa
open Go.RowKit

/-- the pointer that a step speaks of -/
def ptrOf (ps : List Int) (i off : Int) : Int := if i < 0 ∨ ps.length = 0 then off else wrap64 (ps.getD (i % ps.length).toNat 0 + off)
theorem wrap64_bd (x : Int) : -9223372036854775808 ≤ wrap64 x ∧ wrap64 x ≤ 9223372036854775807 := by unfold wrap64; omega
theorem ptrOf_bd (ps : List Int) (i off : Int) (h : off ≤ 9223372036854775807) : ptrOf ps i off ≤ 9223372036854775807 := by
  unfold ptrOf; split
  · exact h
  · exact (wrap64_bd _).2

set_option maxRecDepth 100000 in
set_option maxHeartbeats 800000 in
theorem pointer_any (q : Nat) (x0 x1 vp x3 : Value) (ps : List Int) (i off : Int) (w : World) (hb : Blk w q 33 [x0, x1, vp, x3]) (hp : w.ownsRow 0 3 1 vp ps.length (ps.map (Value.int .i64))) :
    Calls Try.prog 81 #[.pointer (some ⟨q, 0, none⟩), .int .i64 i, .int .i64 off] w fun e w' => e = .returned (.int .i64 (ptrOf ps i off)) ∧ Below w.heap.size w w' := by
  have c2 := hb.cell (j := 2) rfl
  obtain ⟨a, cap, rfl, hcap, hmax, hrow⟩ := row_open hp
  unfold maxLen at hmax
  by_cases h0 : i < 0
  · have hf : Hid (ptrOf ps i off = off) := if_pos (.inl h0)
    clear hrow hb hp
    go_enter Try.func81, Try.ntmps81
    go_wp2
    go_ret
    exact ⟨ret_int hf.out.symm, Below.refl _ _⟩
  · by_cases hl : ps.length = 0
    · have hf : Hid (ptrOf ps i off = off) := if_pos (.inr hl)
      have hl2 : (((ps.length : Nat) : Int) == 0) = true := by rw [hl]; rfl
      have i0 : 0 ≤ i := by omega
      clear hrow hb hp hl
      go_enter Try.func81, Try.ntmps81
      go_wp2
      all_goals
        go_ret
        exact ⟨ret_int hf.out.symm, Below.refl _ _⟩
    · have hf : Hid (ptrOf ps i off = wrap64 (ps.getD (i % ps.length).toNat 0 + off)) := if_neg (by omega)
      have hl2 : (((ps.length : Nat) : Int) == 0) = false := by rw [beq_eq_false_iff_ne]; omega
      obtain ⟨g, rfl, hgl, hcell, _⟩ := hrow (by omega)
      have i0 : 0 ≤ i := by omega
      have hlp : 0 < (ps.length : Int) := by omega
      have m0 : 0 ≤ i % (ps.length : Int) := Int.emod_nonneg _ (by omega)
      have m1 : i % (ps.length : Int) < (ps.length : Int) := Int.emod_lt_of_pos _ (by omega)
      have ci := hcell (i % (ps.length : Int)).toNat (.int .i64 (ps.getD (i % ps.length).toNat 0)) (by
        rw [List.getElem?_map, List.getElem?_eq_getElem (by omega)]
        simp [List.getD_eq_getElem?_getD, List.getElem?_eq_getElem (show (i % (ps.length : Int)).toNat < ps.length by omega)])
      generalize ps.getD (i % ps.length).toNat 0 = y at *
      clear hcell hb hp hl
      go_enter Try.func81, Try.ntmps81
      go_wp2
      go_quiet (fail)
      go_wp2
      go_ret
      exact ⟨ret_int hf.out.symm, below_drewN (Below.refl _ _) _⟩

theorem info_int : (Try.prog.info? 3).map (fun i => (i.zero, i.size, i.bytes)) = some (some (.int .i64 0), 1, 8) := by kernel_rfl

set_option maxRecDepth 100000 in
set_option maxHeartbeats 800000 in
theorem out_no (q : Nat) (p e : Int) (w : World) (he : e ≠ 0) :
    Calls Try.prog 106 #[.pointer (some ⟨q, 0, none⟩), .int .i64 p, .int .i64 e] w fun e' w' => e' = .returned (.tuple #[]) ∧ w = w' := by
  have he0 : (e == 0) = false := by rw [beq_eq_false_iff_ne]; exact he
  clear he
  go_enter Try.func106, Try.ntmps106
  go_wp2
  go_end0
  exact ⟨rfl, rfl⟩

set_option maxRecDepth 100000 in
set_option maxHeartbeats 800000 in
theorem out_yes (q : Nat) (x0 x1 vp x3 : Value) (ps : List Int) (p : Int) (w : World) (hb : Blk w q 33 [x0, x1, vp, x3]) (hp : w.ownsRow 0 3 1 vp ps.length (ps.map (Value.int .i64))) (hq : vp.ownBlock ≠ some q) (hroom : (ps.length + 1) * 8 ≤ 140737488355328) :
    Calls Try.prog 106 #[.pointer (some ⟨q, 0, none⟩), .int .i64 p, .int .i64 0] w fun e' w' => ∃ vp', e' = .returned (.tuple #[]) ∧ Blk w' q 33 [x0, x1, vp', x3] ∧ w'.ownsRow 0 3 1 vp' (ps ++ [p]).length ((ps ++ [p]).map (Value.int .i64)) ∧
      vp'.ownBlock ≠ some q ∧ Kept w w' (fun b => b = q ∨ vp.ownBlock = some b) ∧ NewBlk vp vp' w := by
  obtain ⟨i0, hi0, hz0, hz1, hz2⟩ := info_parts info_int
  have c2 := hb.cell (j := 2) rfl
  have f2 := hb.frozen 2
  have hql := hb.lt
  have HB := hide2 hb
  have HP := hide2 hp
  have HQ := hide2 hq
  clear hb hp hq
  go_enter Try.func106, Try.ntmps106
  go_wp2_with (at_builtin; refine wpList_append_lies _ rfl _ _ _ rfl 0 3 i0 _ 1 8 Try.underlying30 hi0 hz0 hz1 hz2 rfl (by omega) vp ps.length (ps.map (Value.int .i64)) rfl (HP.out.alloc _) ⟨w.heap.size, 0, none⟩ 1 1 [.int .i64 p] rfl rfl (World.news_of_block (cs := #[.int .i64 p]) (t := 3) (fr := (0, 0)) (heap_alloc_new w _)) (by simp [Value.oneCell']) (by omega) (by simp [maxLen]; omega) (by omega) (by simp) (w.heap.size + 1) (by simp) ?_; intro gg cap2 w7 hown hgrow hat hlt7; have c2' : w7.cell? ⟨q, 2, none⟩ = some vp := (by rw [hgrow.cell_far _ (by simp; omega) (fun e => HQ.out e.symm), World.cell?_alloc_lt _ _ _ hql]; exact c2); have f2' : w7.frozen? ⟨q, 2, none⟩ = false := (by rw [hgrow.frozen_far _ (by simp; omega) (fun e => HQ.out e.symm), World.frozen?_alloc_old _ _ _ (by show q ≠ _; omega)]; exact f2))
  go_end0
  have hsz := hgrow.size
  rw [World.size_alloc] at hsz
  have hgq : gg ≠ q := by
    rcases hat with e | e
    · intro e2; subst e2; exact HQ.out e
    · omega
  refine ⟨.slice (some ⟨gg, 0, none⟩) (ps.length + 1) cap2, rfl, ?_, ?_, ?_, ?_, ?_⟩
  · have e : Blk w7 q 33 [x0, x1, vp, x3] := ((hgrow.block q (by rw [World.size_alloc]; omega) (fun e => HQ.out e.symm)).trans (Below.heap_alloc w _ q hql)).trans HB.out
    exact e.setCell 2 _
  · refine row_kept ?_ (fun g hg => Below.heap_setCell w7 _ _ g (by simp [Value.ownBlock] at hg; show g ≠ q; omega))
    simpa using hown
  · simp [Value.ownBlock]; exact hgq
  · refine ⟨hgrow.os, hgrow.tape, hgrow.output, by rw [World.size_setCell]; omega, fun k hk hs => ?_⟩
    rw [Below.heap_setCell w7 _ _ k (fun e => hs (.inl e)), hgrow.block k (by rw [World.size_alloc]; omega) (fun e => hs (.inr e.symm))]
    exact Below.heap_alloc w _ k hk
  · intro g hg
    simp [Value.ownBlock] at hg
    subst hg
    rcases hat with e | e
    · exact .inl e
    · right; omega
end Go.Proofs.Ytjikemhmnkckcaa
namespace Go.Proofs.Ytjikemhmnkckcaa
open Go.RowKit

/-- the heaps of a script's world go on, the rest stays -/
theorem WRep.heaps {w w1 w2 : World} {q ph : Nat} {gc : Value} {bb : Nat} {G G' : GSt} {pr : Nat} {vc vl vl' vm : Value} {R R' : RSt} {vp : Value} {ps : List Int} {vs : Value} (h : WRep w q ph gc bb G pr vc vl vm R vp ps vs)
    (hG : GRep w1 ph gc bb G') (hf : ∀ b, GFoot ph gc bb G' b ↔ GFoot ph gc bb G b) (k1 : Kept w w1 (GFoot ph gc bb G)) (hR : RRep w2 pr vc vl' vm R') (k2 : Kept w1 w2 (RFoot pr vc vl vm)) (hn : NewBlk vl vl' w1) (hs : Sim G' R') :
    WRep w2 q ph gc bb G' pr vc vl' vm R' vp ps vs ∧ Kept w w2 (WFoot q ph gc bb G pr vc vl vm vp) ∧ ∀ b, WFoot q ph gc bb G' pr vc vl' vm vp b → WFoot q ph gc bb G pr vc vl vm vp b ∨ w.heap.size ≤ b := by
  have ht : ∀ b, b < w.heap.size → ¬ GFoot ph gc bb G b → ¬ RFoot pr vc vl vm b → w2.heap[b]? = w.heap[b]? := fun b hb g r =>
    (k2.block b (Nat.lt_of_lt_of_le hb k1.size) r).trans (k1.block b hb g)
  have hrf : ∀ b, RFoot pr vc vl' vm b → RFoot pr vc vl vm b ∨ w.heap.size ≤ b := by
    rintro b (hb | hb | hb | hb)
    · exact .inl (.inl hb)
    · exact .inl (.inr (.inl hb))
    · rcases hn b hb with hb | hb
      · exact .inl (.inr (.inr (.inl hb)))
      · exact .inr (Nat.le_trans k1.size hb)
    · exact .inl (.inr (.inr (.inr hb)))
  refine ⟨⟨?_, ?_, hR, ?_, hs, ?_, ?_, ?_, h.pq, ?_, ?_⟩, ?_, ?_⟩
  · exact (ht q h.blk.lt h.qg h.qr).trans h.blk
  · exact hG.kept fun b hb => k2.block b (hG.foot_lt hb) (h.gr b ((hf b).1 hb))
  · exact row_kept h.ps fun g hg => ht g (row_lt h.ps hg) (h.pg g hg) (h.pr_ g hg)
  · exact fun x => h.qg ((hf q).1 x)
  · intro x
    rcases hrf q x with x | x
    · exact h.qr x
    · exact absurd h.blk.lt (by omega)
  · intro b hb x
    have hb' := (hf b).1 hb
    rcases hrf b x with x | x
    · exact h.gr b hb' x
    · exact absurd (h.g.foot_lt hb') (by omega)
  · exact fun b hb x => h.pg b hb ((hf b).1 x)
  · intro b hb x
    rcases hrf b x with x | x
    · exact h.pr_ b hb x
    · exact absurd (row_lt h.ps hb) (by omega)
  · exact (k1.mono fun b _ hb => .inr (.inl hb)).trans (k2.mono fun b _ hb => .inr (.inr (.inl hb)))
  · rintro b (hb | hb | hb | hb)
    · exact .inl (.inl hb)
    · exact .inl (.inr (.inl ((hf b).1 hb)))
    · rcases hrf b hb with hb | hb
      · exact .inl (.inr (.inr (.inl hb)))
      · exact .inr hb
    · exact .inl (.inr (.inr (.inr hb)))

/-- a pointer comes out -/
theorem WRep.outs {w w2 : World} {q ph : Nat} {gc : Value} {bb : Nat} {G : GSt} {pr : Nat} {vc vl vm : Value} {R : RSt} {vp vp' : Value} {ps ps' : List Int} {vs : Value} (h : WRep w q ph gc bb G pr vc vl vm R vp ps vs)
    (hb : Blk w2 q 33 [.pointer (some ⟨ph, 0, none⟩), .pointer (some ⟨pr, 0, none⟩), vp', vs]) (hp : w2.ownsRow 0 3 1 vp' ps'.length (ps'.map (Value.int .i64))) (hq : vp'.ownBlock ≠ some q) (k : Kept w w2 (fun b => b = q ∨ vp.ownBlock = some b)) (hn : NewBlk vp vp' w) :
    WRep w2 q ph gc bb G pr vc vl vm R vp' ps' vs ∧ Kept w w2 (WFoot q ph gc bb G pr vc vl vm vp) ∧ ∀ b, WFoot q ph gc bb G pr vc vl vm vp' b → WFoot q ph gc bb G pr vc vl vm vp b ∨ w.heap.size ≤ b := by
  refine ⟨⟨hb, ?_, ?_, hp, h.sim, h.qg, h.qr, h.gr, hq, ?_, ?_⟩, ?_, ?_⟩
  · exact h.g.kept fun b hx => k.block b (h.g.foot_lt hx) (by
      rintro (rfl | e)
      · exact h.qg hx
      · exact h.pg b e hx)
  · exact h.r.kept fun b hx => k.block b (h.r.foot_lt hx) (by
      rintro (rfl | e)
      · exact h.qr hx
      · exact h.pr_ b e hx)
  · intro b hb x
    rcases hn b hb with hb | hb
    · exact h.pg b hb x
    · exact absurd (h.g.foot_lt x) (by omega)
  · intro b hb x
    rcases hn b hb with hb | hb
    · exact h.pr_ b hb x
    · exact absurd (h.r.foot_lt x) (by omega)
  · refine k.mono fun b _ hb => ?_
    rcases hb with hb | hb
    · exact .inl hb
    · exact .inr (.inr (.inr hb))
  · rintro b (hb | hb | hb | hb)
    · exact .inl (.inl hb)
    · exact .inl (.inr (.inl hb))
    · exact .inl (.inr (.inr (.inl hb)))
    · rcases hn b hb with hb | hb
      · exact .inl (.inr (.inr (.inr hb)))
      · exact .inr hb

theorem Kept.trans' {a b c : World} {S T : Nat → Prop} (h : Kept a b S) (g : Kept b c T) (ht : ∀ k, k < a.heap.size → T k → S k) : Kept a c S :=
  ⟨g.os.trans h.os, g.tape.trans h.tape, g.output.trans h.output, Nat.le_trans h.size g.size, fun k hk hs => (g.block k (Nat.lt_of_lt_of_le hk h.size) (fun x => hs (ht k hk x))).trans (h.block k hk hs)⟩
/-- a script's world after at most n steps; F: the blocks that are its own -/
def WIn (w : World) (q n : Nat) (F : Nat → Prop) : Prop := ∃ ph gc bb G pr vc vl vm R vp ps, WRep w q ph gc bb G pr vc vl vm R vp ps (.slice none 0 0) ∧ R.log.length ≤ n ∧ ps.length ≤ n ∧ ∀ b, F b ↔ WFoot q ph gc bb G pr vc vl vm vp b
theorem WIn.lt {w : World} {q n : Nat} {F : Nat → Prop} (h : WIn w q n F) {b : Nat} (hb : F b) : b < w.heap.size := by
  obtain ⟨ph, gc, bb, G, pr, vc, vl, vm, R, vp, ps, hW, _, _, hF⟩ := h
  exact hW.foot_lt ((hF b).1 hb)
theorem WIn.kept {w w' : World} {q n : Nat} {F : Nat → Prop} (h : WIn w q n F) (hk : ∀ b, F b → w'.heap[b]? = w.heap[b]?) : WIn w' q n F := by
  obtain ⟨ph, gc, bb, G, pr, vc, vl, vm, R, vp, ps, hW, h1, h2, hF⟩ := h
  exact ⟨ph, gc, bb, G, pr, vc, vl, vm, R, vp, ps, hW.kept fun b hb => hk b ((hF b).2 hb), h1, h2, hF⟩
theorem WIn.below {w w' : World} {q n : Nat} {F : Nat → Prop} (h : WIn w q n F) (hb : Below w.heap.size w w') : WIn w' q n F := h.kept fun b hf => hb.block b (h.lt hf)
theorem WIn.more {w : World} {q n m : Nat} {F : Nat → Prop} (h : WIn w q n F) (hm : n ≤ m) : WIn w q m F := by
  obtain ⟨ph, gc, bb, G, pr, vc, vl, vm, R, vp, ps, hW, h1, h2, hF⟩ := h
  exact ⟨ph, gc, bb, G, pr, vc, vl, vm, R, vp, ps, hW, by omega, by omega, hF⟩

theorem mR_len (R : RSt) (size draw site : Int) : (mR R size draw site).log.length ≤ R.log.length + 1 := by unfold mR; split <;> simp

theorem out_any (q : Nat) (x0 x1 vp x3 : Value) (ps : List Int) (p e : Int) (w : World) (hb : Blk w q 33 [x0, x1, vp, x3]) (hp : w.ownsRow 0 3 1 vp ps.length (ps.map (Value.int .i64))) (hq : vp.ownBlock ≠ some q) (hroom : (ps.length + 1) * 8 ≤ 140737488355328) :
    Calls Try.prog 106 #[.pointer (some ⟨q, 0, none⟩), .int .i64 p, .int .i64 e] w fun e' w' => ∃ (vp' : Value) (ps' : List Int), e' = .returned (.tuple #[]) ∧ Blk w' q 33 [x0, x1, vp', x3] ∧ w'.ownsRow 0 3 1 vp' ps'.length (ps'.map (Value.int .i64)) ∧
      vp'.ownBlock ≠ some q ∧ Kept w w' (fun b => b = q ∨ vp.ownBlock = some b) ∧ NewBlk vp vp' w ∧ ps'.length ≤ ps.length + 1 := by
  by_cases he : e = 0
  · subst he
    refine (out_yes q x0 x1 vp x3 ps p w hb hp hq hroom).mono ?_
    rintro e' w' ⟨vp', rfl, h1, h2, h3, h4, h5⟩
    exact ⟨vp', ps ++ [p], rfl, h1, h2, h3, h4, h5, by simp⟩
  · refine (out_no q p e w he).mono ?_
    rintro e' w' ⟨rfl, rfl⟩
    exact ⟨vp, ps, rfl, hb, hp, hq, Kept.same _ _, fun g hg => .inl hg, by omega⟩

set_option maxRecDepth 100000 in
set_option maxHeartbeats 800000 in
theorem block_malloc (q n : Nat) (F : Nat → Prop) (o1 o2 o3 o4 o5 o6 o7 o8 : Int) (w : World) (h : WIn w q n F) (hn : (n + 1) * 48 ≤ 140737488355328) :
    Calls Try.prog 82 #[.pointer (some ⟨q, 0, none⟩), .agg #[.int .i64 1, .int .i64 o1, .int .i64 o2, .int .i64 o3, .int .i64 o4, .int .i64 o5, .int .i64 o6, .int .i64 o7, .int .i64 o8]] w fun e w' => ∃ F', e = .returned (.bool true) ∧ WIn w' q (n + 1) F' ∧ Kept w w' F ∧ ∀ b, F' b → F b ∨ w.heap.size ≤ b := by
  obtain ⟨ph, gc, bb, G, pr, vc, vl, vm, R, vp, ps, hW, h1, h2, hF⟩ := h
  have HW := hide2 hW
  have HF := hide2 hF
  clear hF
  have hq := hW.blk.lt
  have HQG := hide2 hW.qg
  have HQR := hide2 hW.qr
  clear hW
  have e1 : ((mOut R o5 o6).1 == (mOut R o5 o6).1) = true := by simp
  have e2 : ((mOut R o5 o6).2 == (mOut R o5 o6).2) = true := by simp
  go_enter Try.func82, Try.ntmps82
  go_wp2_with fail
  obtain ⟨wa, hwa⟩ : ∃ wa, wa = w.alloc (.cells #[.int .i64 1, .int .i64 o1, .int .i64 o2, .int .i64 o3, .int .i64 o4, .int .i64 o5, .int .i64 o6, .int .i64 o7, .int .i64 o8] 98) := ⟨_, rfl⟩
  rw [← hwa]
  have hba : Below w.heap.size w wa := by rw [hwa]; exact (Below.refl _ _).alloc (Nat.le_refl _) _
  have hsa : wa.heap.size = w.heap.size + 1 := by rw [hwa, World.size_alloc]
  have HO : Hid (Blk wa w.heap.size 98 [.int .i64 1, .int .i64 o1, .int .i64 o2, .int .i64 o3, .int .i64 o4, .int .i64 o5, .int .i64 o6, .int .i64 o7, .int .i64 o8]) := by rw [hwa]; exact Blk.alloc _ _ _
  have HWa := hide2 (HW.out.below hba)
  clear hwa
  refine (pointer_any q _ _ vp _ ps o1 o2 wa HWa.out.blk HWa.out.ps).mono ?_
  rintro e0 w0 ⟨rfl, hb0⟩
  have HO0 := hide2 (HO.out.below hb0 HO.out.lt)
  have HW0 := hide2 (HWa.out.below hb0)
  have hq0 : q < w0.heap.size := Nat.lt_of_lt_of_le (Nat.lt_of_lt_of_le hq hba.size) hb0.size
  have c0 := HW0.out.blk.cell (j := 0) rfl
  have c1 := HW0.out.blk.cell (j := 1) rfl
  have d0 := HO0.out.cell (j := 0) rfl
  have d5 := HO0.out.cell (j := 5) rfl
  have d6 := HO0.out.cell (j := 6) rfl
  have d7 := HO0.out.cell (j := 7) rfl
  have HG : Hid (¬ GFoot ph gc bb G w.heap.size) := fun x => by have := HW.out.g.foot_lt x; omega
  have HR : Hid (¬ RFoot pr vc vl vm w.heap.size) := fun x => by have := HW.out.r.foot_lt x; omega
  have ho0 : w.heap.size < w0.heap.size := by have := hb0.size; omega
  have HKA : Hid (Kept w w0 F) := Kept.of_below (hba.trans (hb0.mono hba.size)) _
  have HSO := hide2 (show w.heap.size ≤ w0.heap.size by omega)
  generalize hob : w.heap.size = ob at *
  have HOB := hide2 hob
  clear hob
  go_wp2_with fail
  go_region_held3 (fun w' => w'.cell? ⟨q, 0, none⟩ = some (.pointer (some ⟨ph, 0, none⟩)) ∧ w'.cell? ⟨q, 1, none⟩ = some (.pointer (some ⟨pr, 0, none⟩)) ∧ w'.cell? ⟨ob, 5, none⟩ = some (.int .i64 o5) ∧ w'.cell? ⟨ob, 6, none⟩ = some (.int .i64 o6) ∧ w'.cell? ⟨ob, 7, none⟩ = some (.int .i64 o7)) (go_keep)
    (first | (go_at_call 29; refine (gmalloc_all ph gc bb G R o5 o6 o7 w0.drew (HW0.out.g.kept (fun _ _ => rfl)) HW0.out.sim).mono ?_; rintro e1 w1 ⟨rfl, hG1, hk1⟩; have HG1 := hide2 hG1; have HK1 := hide2 hk1; have hs1 := hk1.size; clear hG1; have c0' : w1.cell? ⟨q, 0, none⟩ = some (.pointer (some ⟨ph, 0, none⟩)) := ((World.cell?_of_block (w := w0.drew) (hk1.block q hq0 HQG.out)).trans c0); have c1' : w1.cell? ⟨q, 1, none⟩ = some (.pointer (some ⟨pr, 0, none⟩)) := ((World.cell?_of_block (w := w0.drew) (hk1.block q hq0 HQG.out)).trans c1); have d5' : w1.cell? ⟨ob, 5, none⟩ = some (.int .i64 o5) := ((World.cell?_of_block (w := w0.drew) (hk1.block ob ho0 HG.out)).trans d5); have d6' : w1.cell? ⟨ob, 6, none⟩ = some (.int .i64 o6) := ((World.cell?_of_block (w := w0.drew) (hk1.block ob ho0 HG.out)).trans d6); have d7' : w1.cell? ⟨ob, 7, none⟩ = some (.int .i64 o7) := ((World.cell?_of_block (w := w0.drew) (hk1.block ob ho0 HG.out)).trans d7); clear hk1))
  clear c0 c1 d0 d5 d6 d7
  have hq1 : q < w1.heap.size := Nat.lt_of_lt_of_le hq0 hs1
  have ho1 : ob < w1.heap.size := Nat.lt_of_lt_of_le ho0 hs1
  have HR1 : Hid (RRep w1 pr vc vl vm R) := HW0.out.r.kept fun b hb => HK1.out.block b (HW0.out.r.foot_lt hb) (fun x => HW0.out.gr b x hb)
  go_wp2_with fail
  go_region_held3 (fun w' => w'.cell? ⟨q, 0, none⟩ = some (.pointer (some ⟨ph, 0, none⟩)) ∧ w'.cell? ⟨q, 1, none⟩ = some (.pointer (some ⟨pr, 0, none⟩)) ∧ w'.cell? ⟨ob, 5, none⟩ = some (.int .i64 o5) ∧ w'.cell? ⟨ob, 6, none⟩ = some (.int .i64 o6) ∧ w'.cell? ⟨ob, 7, none⟩ = some (.int .i64 o7)) (go_keep)
    (first | (go_at_call 105; refine (rmalloc_all pr vc vl vm R o5 o6 o7 w1.drew (HR1.out.kept (fun _ _ => rfl)) HW0.out.sim.rok (by omega)).mono ?_; rintro e1 w2 ⟨vl', rfl, hR2, hk2, hN2⟩; have HR2 := hide2 hR2; have HK2 := hide2 hk2; have HN2 := hide2 hN2; have hs2 := hk2.size; clear hR2 hN2; have c0'' : w2.cell? ⟨q, 0, none⟩ = some (.pointer (some ⟨ph, 0, none⟩)) := ((World.cell?_of_block (w := w1.drew) (hk2.block q hq1 HQR.out)).trans c0'); have c1'' : w2.cell? ⟨q, 1, none⟩ = some (.pointer (some ⟨pr, 0, none⟩)) := ((World.cell?_of_block (w := w1.drew) (hk2.block q hq1 HQR.out)).trans c1'); have d5'' : w2.cell? ⟨ob, 5, none⟩ = some (.int .i64 o5) := ((World.cell?_of_block (w := w1.drew) (hk2.block ob ho1 HR.out)).trans d5'); have d6'' : w2.cell? ⟨ob, 6, none⟩ = some (.int .i64 o6) := ((World.cell?_of_block (w := w1.drew) (hk2.block ob ho1 HR.out)).trans d6'); have d7'' : w2.cell? ⟨ob, 7, none⟩ = some (.int .i64 o7) := ((World.cell?_of_block (w := w1.drew) (hk2.block ob ho1 HR.out)).trans d7'); clear hk2))
  clear c0' c1' d5' d6' d7'
  have HWH := hide2 (HW0.out.heaps (HG1.out.kept (fun _ _ => rfl)) (mG_foot HW0.out.sim o5 o6 o7 ph gc bb) (show Kept w0 w1 _ from ⟨HK1.out.os, HK1.out.tape, HK1.out.output, HK1.out.size, HK1.out.block⟩) HR2.out (show Kept w1 w2 _ from ⟨HK2.out.os, HK2.out.tape, HK2.out.output, HK2.out.size, HK2.out.block⟩) HN2.out (sim_malloc HW0.out.sim o5 o6 o7))
  go_wp2_with fail
  refine (out_any q _ _ vp _ ps _ _ w2 HWH.out.1.blk HWH.out.1.ps HWH.out.1.pq (by omega)).mono ?_
  rintro e1 w3 ⟨vp', ps', rfl, hB3, hP3, hq3, hk3, hN3, hl3⟩
  have HWO := hide2 (HWH.out.1.outs hB3 hP3 hq3 hk3 hN3)
  have hs3 := hk3.size
  clear c0'' c1'' d5'' d6'' d7'' hB3 hP3 hq3 hk3 hN3
  go_wp2_with (go_at_call 40; refine (num_any _ _).mono ?_; rintro e1 w6 ⟨rfl, rfl⟩)
  go_ret
  have hwa := HKA.out
  have hob := HOB.out
  have hl := mR_len R o5 o6 o7
  refine ⟨_, rfl, ⟨ph, gc, bb, _, pr, vc, vl', vm, _, vp', ps', HWO.out.1, by omega, by omega, fun b => Iff.rfl⟩, ?_, fun b hb => ?_⟩
  · refine (hwa.trans (HWH.out.2.1.mono fun b _ hb => (HF.out b).2 hb)).trans' (HWO.out.2.1) fun b hb hx => ?_
    rcases HWH.out.2.2 b hx with hx | hx
    · exact (HF.out b).2 hx
    · have := hwa.size; omega
  · have := hwa.size
    have := HWH.out.2.1.size
    rcases HWO.out.2.2 b hb with hb | hb
    · rcases HWH.out.2.2 b hb with hb | hb
      · exact .inl ((HF.out b).2 hb)
      · right; omega
    · right; omega
end Go.Proofs.Ytjikemhmnkckcaa
