import Derived.Test.YtjikemhmnkckcaaJ41
import Derived.Test.YtjikemhmnkckcaaJ47
/- A script that touches: the world between its steps. -/
namespace Go.Proofs.Ytjikemhmnkckcaa
open Go.RowKit

/-- the heaps of a script's world go on (their lists too), the rest stays -/
theorem WRep.goes {w w1 w2 : World} {q ph : Nat} {gc : Value} {bb : Nat} {G G' : GSt} {pr : Nat} {vc vl vl' vm vm' : Value} {R R' : RSt} {vp : Value} {ps : List Int} {vs : Value} (h : WRep w q ph gc bb G pr vc vl vm R vp ps vs)
    (hG : GRep w1 ph gc bb G') (hf : ∀ b, GFoot ph gc bb G' b ↔ GFoot ph gc bb G b) (k1 : Kept w w1 (GFoot ph gc bb G)) (hR : RGone w1 pr vc vl vm w2 vl' vm' R') (hs : Sim G' R') :
    WRep w2 q ph gc bb G' pr vc vl' vm' R' vp ps vs ∧ Kept w w2 (WFoot q ph gc bb G pr vc vl vm vp) ∧ ∀ b, WFoot q ph gc bb G' pr vc vl' vm' vp b → WFoot q ph gc bb G pr vc vl vm vp b ∨ w.heap.size ≤ b := by
  have k2 := hR.kept
  have ht : ∀ b, b < w.heap.size → ¬ GFoot ph gc bb G b → ¬ RFoot pr vc vl vm b → w2.heap[b]? = w.heap[b]? := fun b hb g r =>
    (k2.block b (Nat.lt_of_lt_of_le hb k1.size) r).trans (k1.block b hb g)
  have hrf : ∀ b, RFoot pr vc vl' vm' b → RFoot pr vc vl vm b ∨ w.heap.size ≤ b := by
    rintro b (hb | hb | hb | hb)
    · exact .inl (.inl hb)
    · exact .inl (.inr (.inl hb))
    · rcases hR.newL b hb with hb | hb
      · exact .inl (.inr (.inr (.inl hb)))
      · exact .inr (Nat.le_trans k1.size hb)
    · rcases hR.newM b hb with hb | hb
      · exact .inl (.inr (.inr (.inr hb)))
      · exact .inr (Nat.le_trans k1.size hb)
  refine ⟨⟨?_, ?_, hR.rep, ?_, hs, ?_, ?_, ?_, h.pq, ?_, ?_⟩, ?_, ?_⟩
  · exact (ht q h.blk.lt h.qg h.qr).trans h.blk
  · exact hG.kept fun b hb => k2.block b (hG.foot_lt hb) (h.gr b ((hf b).1 hb))
  · exact row_kept h.ps fun g hg => ht g (row_lt h.ps hg) (h.pg g hg) (h.pr_ g hg)
  · exact fun x => h.qg ((hf q).1 x)
  · intro x
    rcases hrf q x with x | x
    · exact h.qr x
    · exact absurd h.blk.lt (by omega)
  · intro b hb x
    have hb' := (hf b).1 hb
    rcases hrf b x with x | x
    · exact h.gr b hb' x
    · exact absurd (h.g.foot_lt hb') (by omega)
  · exact fun b hb x => h.pg b hb ((hf b).1 x)
  · intro b hb x
    rcases hrf b x with x | x
    · exact h.pr_ b hb x
    · exact absurd (row_lt h.ps hb) (by omega)
  · exact (k1.mono fun b _ hb => .inr (.inl hb)).trans (k2.mono fun b _ hb => .inr (.inr (.inl hb)))
  · rintro b (hb | hb | hb | hb)
    · exact .inl (.inl hb)
    · exact .inl (.inr (.inl ((hf b).1 hb)))
    · rcases hrf b hb with hb | hb
      · exact .inl (.inr (.inr (.inl hb)))
      · exact .inr hb
    · exact .inl (.inr (.inr (.inr hb)))

/-- a script's world after at most n steps; F: the blocks that are its own -/
def TIn (vs : Value) (w : World) (q n : Nat) (F : Nat → Prop) : Prop := ∃ ph gc bb G pr vc vl vm R vp ps, WRep w q ph gc bb G pr vc vl vm R vp ps vs ∧ SimB G R ∧ R.log.length ≤ 2 * n ∧ R.marks.length ≤ 65536 * n ∧ ps.length ≤ n ∧ ∀ b, F b ↔ WFoot q ph gc bb G pr vc vl vm vp b
theorem TIn.lt {vs : Value} {w : World} {q n : Nat} {F : Nat → Prop} (h : TIn vs w q n F) {b : Nat} (hb : F b) : b < w.heap.size := by
  obtain ⟨ph, gc, bb, G, pr, vc, vl, vm, R, vp, ps, hW, _, _, _, _, hF⟩ := h
  exact hW.foot_lt ((hF b).1 hb)
theorem TIn.kept {vs : Value} {w w' : World} {q n : Nat} {F : Nat → Prop} (h : TIn vs w q n F) (hk : ∀ b, F b → w'.heap[b]? = w.heap[b]?) : TIn vs w' q n F := by
  obtain ⟨ph, gc, bb, G, pr, vc, vl, vm, R, vp, ps, hW, h1, h2, h3, h4, hF⟩ := h
  exact ⟨ph, gc, bb, G, pr, vc, vl, vm, R, vp, ps, hW.kept fun b hb => hk b ((hF b).2 hb), h1, h2, h3, h4, hF⟩
theorem TIn.below {vs : Value} {w w' : World} {q n : Nat} {F : Nat → Prop} (h : TIn vs w q n F) (hb : Below w.heap.size w w') : TIn vs w' q n F := h.kept fun b hf => hb.block b (h.lt hf)
theorem TIn.more {vs : Value} {w : World} {q n m : Nat} {F : Nat → Prop} (h : TIn vs w q n F) (hm : n ≤ m) : TIn vs w q m F := by
  obtain ⟨ph, gc, bb, G, pr, vc, vl, vm, R, vp, ps, hW, h1, h2, h3, h4, hF⟩ := h
  exact ⟨ph, gc, bb, G, pr, vc, vl, vm, R, vp, ps, hW, h1, by omega, by omega, by omega, hF⟩

theorem TIn.start {w : World} {q ph : Nat} {gc : Value} {bb : Nat} {G : GSt} {pr : Nat} {vc : Value} {st rest : Int} {cls : List (Int × Int)} (_hv : Cf.Valid st rest cls) (h : WRep w q ph gc bb G pr vc (.slice none 0 0) (.slice none 0 0) ⟨st, rest, cls, [], []⟩ (.slice none 0 0) [] (.slice none 0 0)) (hz : ∀ i, G.mem.getD i 0 = 0) :
    TIn (.slice none 0 0) w q 0 (WFoot q ph gc bb G pr vc (.slice none 0 0) (.slice none 0 0) (.slice none 0 0)) :=
  ⟨ph, gc, bb, G, pr, vc, _, _, _, _, [], h, ⟨h.sim, ⟨fun i hi => absurd hi (by simp), fun i hi => absurd hi (by simp)⟩, fun i _ => by rw [hz]; decide, fun addr _ _ => hz _, fun i hi => absurd hi (by simp)⟩, by simp, by simp, by simp, fun b => Iff.rfl⟩

/-- one call on both heaps: what they are behind it -/
structure Goes (ph : Nat) (gc : Value) (bb : Nat) (G : GSt) (R : RSt) (G' : GSt) (R' : RSt) : Prop where
  sim : SimB G' R'
  foot : ∀ b, GFoot ph gc bb G' b ↔ GFoot ph gc bb G b
  log : R'.log.length ≤ R.log.length + 2
  marks : R'.marks.length ≤ R.marks.length + 65536
theorem Goes.same {ph : Nat} {gc : Value} {bb : Nat} {G : GSt} {R : RSt} (h : SimB G R) : Goes ph gc bb G R G R := ⟨h, fun _ => Iff.rfl, by omega, by omega⟩
theorem mR_marks (R : RSt) (size draw site : Int) : (mR R size draw site).marks = R.marks := by unfold mR; split <;> rfl
theorem fR_len (R : RSt) (q site : Int) : (fR R q site).log.length ≤ R.log.length + 1 ∧ (fR R q site).marks = R.marks := by
  unfold fR; split
  · exact ⟨by simp, rfl⟩
  · exact ⟨by omega, rfl⟩
theorem Goes.malloc {ph : Nat} {gc : Value} {bb : Nat} {G : GSt} {R : RSt} (h : SimB G R) (size draw site : Int) : Goes ph gc bb G R (mG G R size draw site) (mR R size draw site) :=
  ⟨h.malloc size draw site, mG_foot h.sim size draw site ph gc bb, by have := mR_len R size draw site; omega, by rw [mR_marks]; omega⟩
theorem Goes.free {ph : Nat} {gc : Value} {bb : Nat} {G : GSt} {R : RSt} (h : SimB G R) (q site : Int) : Goes ph gc bb G R (fG G R q site) (fR R q site) :=
  ⟨h.free_any q site, fG_foot h.sim q site ph gc bb, by have := (fR_len R q site).1; omega, by rw [(fR_len R q site).2]; omega⟩
theorem Goes.store {ph : Nat} {gc : Value} {bb : Nat} {G : GSt} {R : RSt} (h : SimB G R) (q n v : Int) : Goes ph gc bb G R (G.store R q n v) (R.store q n v) := by
  refine ⟨h.store_any q n v, G.store_foot R q n v ph gc bb, ?_, ?_⟩
  · unfold RSt.store; split
    · rw [(R.stores_same _ _ _).2.2.2.1]; omega
    · omega
  · unfold RSt.store; split
    · rename_i he
      have hn := (load_ok he).2.1
      rw [(R.stores_same _ _ _).2.2.2.2]; omega
    · omega
theorem Goes.move {ph : Nat} {gc : Value} {bb : Nat} {G : GSt} {R : RSt} (h : SimB G R) (to from_ n : Int) : Goes ph gc bb G R (G.move R to from_ n) (R.move to from_ n) := by
  refine ⟨h.move_any to from_ n, G.move_foot R to from_ n ph gc bb, ?_, ?_⟩
  · unfold RSt.move; split
    · rw [(R.moves_same _ _ _).2.2.2.1]; omega
    · omega
  · unfold RSt.move; split
    · rename_i he
      have hn := (move_ok he).1
      rw [(R.moves_same _ _ _).2.2.2.2]
      by_cases h0 : 0 < n
      · have := (access_ok hn h0).2; omega
      · omega
    · omega
theorem reN_bd {R : RSt} (ho : ROk R) (q size draw site : Int) : R.reN q size draw site ≤ 128 := by
  have := usable_bd (mR_rok ho size draw site) q
  have := usable_bd (mR_rok ho size draw site) (mOut R size draw).1
  unfold RSt.reN; omega
theorem Goes.realloc {ph : Nat} {gc : Value} {bb : Nat} {G : GSt} {R : RSt} (h : SimB G R) (q size draw site : Int) : Goes ph gc bb G R (reG G R q size draw site) (R.re q size draw site) := by
  refine ⟨h.realloc q size draw site, reG_foot h q size draw site ph gc bb, ?_, ?_⟩
  · unfold RSt.re; split
    · omega
    · split
      · have := mR_len R size draw site; omega
      · have h1 := (fR_len ((mR R size draw site).copies ((mOut R size draw).1 % 72057594037927936) (q % 72057594037927936) (R.reN q size draw site)) q site).1
        rw [((mR R size draw site).copies_same _ _ _).2.2.2.1] at h1
        have := mR_len R size draw site; omega
  · unfold RSt.re; split
    · omega
    · split
      · rw [mR_marks]; omega
      · rw [(fR_len _ q site).2, ((mR R size draw site).copies_same _ _ _).2.2.2.2, mR_marks]
        have := reN_bd h.sim.rok q size draw site; omega

section
variable (p : Nat) (vc vl vm : Value) (R : RSt) (w : World) (h : RRep w p vc vl vm R) (ho : ROk R) (hL : (R.log.length + 2) * 48 ≤ 140737488355328) (hM : (R.marks.length + 65536) * 24 ≤ 140737488355328)
include h ho hL hM
theorem rt_malloc (size draw site : Int) : Calls Try.prog 105 #[.pointer (some ⟨p, 0, none⟩), .int .i64 size, .int .i64 draw, .int .i64 site] w fun e w' => ∃ vl' vm', e = .returned (.tuple #[.int .i64 (mOut R size draw).1, .int .i64 (mOut R size draw).2]) ∧ RGone w p vc vl vm w' vl' vm' (mR R size draw site) := by
  have _ := hL
  have _ := hM
  refine (rmalloc_all p vc vl vm R size draw site w h ho (by omega)).mono ?_
  rintro e w' ⟨vl', rfl, h1, h2, h3⟩
  exact ⟨vl', vm, rfl, h1, h2, h3, fun _ hg => .inl hg⟩
theorem rt_free (q site : Int) (q1 : q ≤ 9223372036854775807) : Calls Try.prog 107 #[.pointer (some ⟨p, 0, none⟩), .int .i64 q, .int .i64 site] w fun e w' => ∃ vl' vm', e = .returned (.int .i64 (fOut R q)) ∧ RGone w p vc vl vm w' vl' vm' (fR R q site) := by
  have _ := hL
  have _ := hM
  refine (rfree_st p vc vl vm R q site w h ho q1 (by omega)).mono ?_
  rintro e w' ⟨vl', rfl, h1, h2, h3⟩
  exact ⟨vl', vm, rfl, h1, h2, h3, fun _ hg => .inl hg⟩
theorem rt_realloc (q size draw site : Int) (q1 : q ≤ 9223372036854775807) : Calls Try.prog 109 #[.pointer (some ⟨p, 0, none⟩), .int .i64 q, .int .i64 size, .int .i64 draw, .int .i64 site] w fun e w' => ∃ vl' vm', e = .returned (.tuple #[.int .i64 (R.reOut q size draw).1, .int .i64 (R.reOut q size draw).2]) ∧ RGone w p vc vl vm w' vl' vm' (R.re q size draw site) :=
  rrealloc_any p vc vl vm R q size draw site w h ho q1 hL (by omega)
theorem rt_usable (q : Int) (q1 : q ≤ 9223372036854775807) : Calls Try.prog 110 #[.pointer (some ⟨p, 0, none⟩), .int .i64 q] w fun e w' => ∃ vl' vm', e = .returned (.tuple #[.int .i64 (R.usable q).1, .int .i64 (R.usable q).2]) ∧ RGone w p vc vl vm w' vl' vm' R := by
  have _ := hL
  have _ := hM
  refine (rusable_any p vc vl vm R q w h ho q1).mono ?_
  rintro e w' ⟨rfl, hb⟩
  exact ⟨vl, vm, rfl, RGone.start h hb⟩
theorem rt_load (q n : Int) (q1 : q ≤ 9223372036854775807) : Calls Try.prog 83 #[.pointer (some ⟨p, 0, none⟩), .int .i64 q, .int .i64 n] w fun e w' => ∃ vl' vm', e = .returned (.tuple #[.int .i64 (R.load q n).1, .int .i64 (R.load q n).2]) ∧ RGone w p vc vl vm w' vl' vm' R := by
  have _ := hL
  have _ := hM
  refine (rload_any p vc vl vm R q n w h ho q1).mono ?_
  rintro e w' ⟨rfl, hb⟩
  exact ⟨vl, vm, rfl, RGone.start h hb⟩
theorem rt_store (q n v : Int) (q1 : q ≤ 9223372036854775807) : Calls Try.prog 85 #[.pointer (some ⟨p, 0, none⟩), .int .i64 q, .int .i64 n, .int .i64 v] w fun e w' => ∃ vl' vm', e = .returned (.int .i64 (R.storeErr q n)) ∧ RGone w p vc vl vm w' vl' vm' (R.store q n v) := by
  have _ := hL
  have _ := hM
  refine (rstore_any p vc vl vm R q n v w h ho q1 (by omega)).mono ?_
  rintro e w' ⟨vm', rfl, hm⟩
  exact ⟨vl, vm', rfl, (RGone.start h (Below.refl _ _)).marked hm⟩
theorem rt_move (to from_ n : Int) (t1 : to ≤ 9223372036854775807) (f1 : from_ ≤ 9223372036854775807) : Calls Try.prog 87 #[.pointer (some ⟨p, 0, none⟩), .int .i64 to, .int .i64 from_, .int .i64 n] w fun e w' => ∃ vl' vm', e = .returned (.int .i64 (R.moveErr to from_ n)) ∧ RGone w p vc vl vm w' vl' vm' (R.move to from_ n) := by
  have _ := hL
  have _ := hM
  refine (rmove_any p vc vl vm R to from_ n w h ho t1 f1 hM).mono ?_
  rintro e w' ⟨vm', rfl, hm⟩
  exact ⟨vl, vm', rfl, (RGone.start h (Below.refl _ _)).marked hm⟩
end
section
variable (p : Nat) (vc : Value) (bb : Nat) (G : GSt) (R : RSt) (w : World) (h : GRep w p vc bb G) (hs : SimB G R)
include h hs
theorem gt_usable (q : Int) (q1 : q ≤ 9223372036854775807) : Calls Try.prog 56 #[.pointer (some ⟨p, 0, none⟩), .int .i64 q] w fun e w' => e = .returned (.tuple #[.int .i64 (R.usable q).1, .int .i64 (R.usable q).2]) ∧ GRep w' p vc bb G ∧ Kept w w' (GFoot p vc bb G) := by
  refine (gusable_any p vc bb G R q w h hs.sim q1).mono ?_
  rintro e w' ⟨rfl, hb⟩
  exact ⟨rfl, h.below hb, Kept.of_below hb _⟩
theorem gt_load (q n : Int) (q1 : q ≤ 9223372036854775807) : Calls Try.prog 32 #[.pointer (some ⟨p, 0, none⟩), .int .i64 q, .int .i64 n] w fun e w' => e = .returned (.tuple #[.int .i64 (R.load q n).1, .int .i64 (R.load q n).2]) ∧ GRep w' p vc bb G ∧ Kept w w' (GFoot p vc bb G) := by
  refine (gload_any p vc bb G R q n w h hs q1).mono ?_
  rintro e w' ⟨rfl, hb⟩
  exact ⟨rfl, h.below hb, Kept.of_below hb _⟩
end
end Go.Proofs.Ytjikemhmnkckcaa
