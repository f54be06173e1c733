import Derived.Test.YtjikemhmnkckcabGreatJ25
import Derived.Test.YtjikemhmnkckcabGreatJ19
/- own, looks. -/
namespace Go.Proofs.YtjikemhmnkckcabGreat
open Go.RowKit
attribute [local go_sem ↓] Go.wp_at_zero Go.wp_at_succ

end Go.Proofs.YtjikemhmnkckcabGreat
/- looks: every list reads as its owner wrote it. -/
namespace Go.Proofs.YtjikemhmnkckcabGreat
open Go.RowKit
attribute [local go_sem ↓] Go.wp_at_zero Go.wp_at_succ

end Go.Proofs.YtjikemhmnkckcabGreat
/- A script that touches: the world between its steps. -/
namespace Go.Proofs.YtjikemhmnkckcabGreat
open Go.RowKit

/-- one call on both heaps: what they are behind it -/
structure Goes (ph : Nat) (gc : Value) (bb : Nat) (G : GSt) (R : RSt) (G' : GSt) (R' : RSt) : Prop where
  sim : SimB G' R'
  foot : ∀ b, GFoot ph gc bb G' b ↔ GFoot ph gc bb G b
  log : R'.log.length ≤ R.log.length + 2
  marks : R'.marks.length ≤ R.marks.length + 65536
theorem Goes.same {ph : Nat} {gc : Value} {bb : Nat} {G : GSt} {R : RSt} (h : SimB G R) : Goes ph gc bb G R G R := ⟨h, fun _ => Iff.rfl, by omega, by omega⟩
theorem mR_marks (R : RSt) (size draw site : Int) : (mR R size draw site).marks = R.marks := by unfold mR; split <;> rfl
theorem fR_len (R : RSt) (q site : Int) : (fR R q site).log.length ≤ R.log.length + 1 ∧ (fR R q site).marks = R.marks := by
  unfold fR; split
  · exact ⟨by simp, rfl⟩
  · exact ⟨by omega, rfl⟩
theorem Goes.malloc {ph : Nat} {gc : Value} {bb : Nat} {G : GSt} {R : RSt} (h : SimB G R) (size draw site : Int) : Goes ph gc bb G R (mG G R size draw site) (mR R size draw site) :=
  ⟨h.malloc size draw site, mG_foot h.sim size draw site ph gc bb, by have := mR_len R size draw site; omega, by rw [mR_marks]; omega⟩
theorem Goes.free {ph : Nat} {gc : Value} {bb : Nat} {G : GSt} {R : RSt} (h : SimB G R) (q site : Int) : Goes ph gc bb G R (fG G R q site) (fR R q site) :=
  ⟨h.free_any q site, fG_foot h.sim q site ph gc bb, by have := (fR_len R q site).1; omega, by rw [(fR_len R q site).2]; omega⟩
theorem Goes.store {ph : Nat} {gc : Value} {bb : Nat} {G : GSt} {R : RSt} (h : SimB G R) (q n v : Int) : Goes ph gc bb G R (G.store R q n v) (R.store q n v) := by
  refine ⟨h.store_any q n v, G.store_foot R q n v ph gc bb, ?_, ?_⟩
  · unfold RSt.store; split
    · rw [(R.stores_same _ _ _).2.2.2.1]; omega
    · omega
  · unfold RSt.store; split
    · rename_i he
      have hn := (load_ok he).2.1
      rw [(R.stores_same _ _ _).2.2.2.2]; omega
    · omega
theorem Goes.move {ph : Nat} {gc : Value} {bb : Nat} {G : GSt} {R : RSt} (h : SimB G R) (to from_ n : Int) : Goes ph gc bb G R (G.move R to from_ n) (R.move to from_ n) := by
  refine ⟨h.move_any to from_ n, G.move_foot R to from_ n ph gc bb, ?_, ?_⟩
  · unfold RSt.move; split
    · rw [(R.moves_same _ _ _).2.2.2.1]; omega
    · omega
  · unfold RSt.move; split
    · rename_i he
      have hn := (move_ok he).1
      rw [(R.moves_same _ _ _).2.2.2.2]
      by_cases h0 : 0 < n
      · have := (access_ok hn h0).2; omega
      · omega
    · omega
theorem reN_bd {R : RSt} (ho : ROk R) (q size draw site : Int) : R.reN q size draw site ≤ 128 := by
  have := usable_bd (mR_rok ho size draw site) q
  have := usable_bd (mR_rok ho size draw site) (mOut R size draw).1
  unfold RSt.reN; omega
theorem Goes.realloc {ph : Nat} {gc : Value} {bb : Nat} {G : GSt} {R : RSt} (h : SimB G R) (q size draw site : Int) : Goes ph gc bb G R (reG G R q size draw site) (R.re q size draw site) := by
  refine ⟨h.realloc q size draw site, reG_foot h q size draw site ph gc bb, ?_, ?_⟩
  · unfold RSt.re; split
    · omega
    · split
      · have := mR_len R size draw site; omega
      · have h1 := (fR_len ((mR R size draw site).copies ((mOut R size draw).1 % 72057594037927936) (q % 72057594037927936) (R.reN q size draw site)) q site).1
        rw [((mR R size draw site).copies_same _ _ _).2.2.2.1] at h1
        have := mR_len R size draw site; omega
  · unfold RSt.re; split
    · omega
    · split
      · rw [mR_marks]; omega
      · rw [(fR_len _ q site).2, ((mR R size draw site).copies_same _ _ _).2.2.2.2, mR_marks]
        have := reN_bd h.sim.rok q size draw site; omega

section
variable (p : Nat) (vc vl vm : Value) (R : RSt) (w : World) (h : RRep w p vc vl vm R) (ho : ROk R) (hL : (R.log.length + 2) * 48 ≤ 140737488355328) (hM : (R.marks.length + 65536) * 24 ≤ 140737488355328)
include h ho hL hM
theorem rt_malloc (size draw site : Int) : Calls Tryz.prog 87 #[.pointer (some ⟨p, 0, none⟩), .int .i64 size, .int .i64 draw, .int .i64 site] w fun e w' => ∃ vl' vm', e = .returned (.tuple #[.int .i64 (mOut R size draw).1, .int .i64 (mOut R size draw).2]) ∧ RGone w p vc vl vm w' vl' vm' (mR R size draw site) := by
  have _ := hL
  have _ := hM
  refine (rmalloc_all p vc vl vm R size draw site w h ho (by omega)).mono ?_
  rintro e w' ⟨vl', rfl, h1, h2, h3⟩
  exact ⟨vl', vm, rfl, h1, h2, h3, fun _ hg => .inl hg⟩
theorem rt_free (q site : Int) (q1 : q ≤ 9223372036854775807) : Calls Tryz.prog 36 #[.pointer (some ⟨p, 0, none⟩), .int .i64 q, .int .i64 site] w fun e w' => ∃ vl' vm', e = .returned (.int .i64 (fOut R q)) ∧ RGone w p vc vl vm w' vl' vm' (fR R q site) := by
  have _ := hL
  have _ := hM
  refine (rfree_st p vc vl vm R q site w h ho q1 (by omega)).mono ?_
  rintro e w' ⟨vl', rfl, h1, h2, h3⟩
  exact ⟨vl', vm, rfl, h1, h2, h3, fun _ hg => .inl hg⟩
theorem rt_realloc (q size draw site : Int) (q1 : q ≤ 9223372036854775807) : Calls Tryz.prog 58 #[.pointer (some ⟨p, 0, none⟩), .int .i64 q, .int .i64 size, .int .i64 draw, .int .i64 site] w fun e w' => ∃ vl' vm', e = .returned (.tuple #[.int .i64 (R.reOut q size draw).1, .int .i64 (R.reOut q size draw).2]) ∧ RGone w p vc vl vm w' vl' vm' (R.re q size draw site) :=
  rrealloc_any p vc vl vm R q size draw site w h ho q1 hL (by omega)
theorem rt_usable (q : Int) (q1 : q ≤ 9223372036854775807) : Calls Tryz.prog 39 #[.pointer (some ⟨p, 0, none⟩), .int .i64 q] w fun e w' => ∃ vl' vm', e = .returned (.tuple #[.int .i64 (R.usable q).1, .int .i64 (R.usable q).2]) ∧ RGone w p vc vl vm w' vl' vm' R := by
  have _ := hL
  have _ := hM
  refine (rusable_any p vc vl vm R q w h ho q1).mono ?_
  rintro e w' ⟨rfl, hb⟩
  exact ⟨vl, vm, rfl, RGone.start h hb⟩
theorem rt_load (q n : Int) (q1 : q ≤ 9223372036854775807) : Calls Tryz.prog 64 #[.pointer (some ⟨p, 0, none⟩), .int .i64 q, .int .i64 n] w fun e w' => ∃ vl' vm', e = .returned (.tuple #[.int .i64 (R.load q n).1, .int .i64 (R.load q n).2]) ∧ RGone w p vc vl vm w' vl' vm' R := by
  have _ := hL
  have _ := hM
  refine (rload_any p vc vl vm R q n w h ho q1).mono ?_
  rintro e w' ⟨rfl, hb⟩
  exact ⟨vl, vm, rfl, RGone.start h hb⟩
theorem rt_store (q n v : Int) (q1 : q ≤ 9223372036854775807) : Calls Tryz.prog 65 #[.pointer (some ⟨p, 0, none⟩), .int .i64 q, .int .i64 n, .int .i64 v] w fun e w' => ∃ vl' vm', e = .returned (.int .i64 (R.storeErr q n)) ∧ RGone w p vc vl vm w' vl' vm' (R.store q n v) := by
  have _ := hL
  have _ := hM
  refine (rstore_any p vc vl vm R q n v w h ho q1 (by omega)).mono ?_
  rintro e w' ⟨vm', rfl, hm⟩
  exact ⟨vl, vm', rfl, (RGone.start h (Below.refl _ _)).marked hm⟩
theorem rt_move (to from_ n : Int) (t1 : to ≤ 9223372036854775807) (f1 : from_ ≤ 9223372036854775807) : Calls Tryz.prog 66 #[.pointer (some ⟨p, 0, none⟩), .int .i64 to, .int .i64 from_, .int .i64 n] w fun e w' => ∃ vl' vm', e = .returned (.int .i64 (R.moveErr to from_ n)) ∧ RGone w p vc vl vm w' vl' vm' (R.move to from_ n) := by
  have _ := hL
  have _ := hM
  refine (rmove_any p vc vl vm R to from_ n w h ho t1 f1 hM).mono ?_
  rintro e w' ⟨vm', rfl, hm⟩
  exact ⟨vl, vm', rfl, (RGone.start h (Below.refl _ _)).marked hm⟩
end
section
variable (p : Nat) (vc : Value) (bb : Nat) (G : GSt) (R : RSt) (w : World) (h : GRep w p vc bb G) (hs : SimB G R)
include h hs
theorem gt_usable (q : Int) (q1 : q ≤ 9223372036854775807) : Calls Tryz.prog 114 #[.pointer (some ⟨p, 0, none⟩), .int .i64 q] w fun e w' => e = .returned (.tuple #[.int .i64 (R.usable q).1, .int .i64 (R.usable q).2]) ∧ GRep w' p vc bb G ∧ Kept w w' (GFoot p vc bb G) := by
  refine (gusable_any p vc bb G R q w h hs.sim q1).mono ?_
  rintro e w' ⟨rfl, hb⟩
  exact ⟨rfl, h.below hb, Kept.of_below hb _⟩
theorem gt_load (q n : Int) (q1 : q ≤ 9223372036854775807) : Calls Tryz.prog 115 #[.pointer (some ⟨p, 0, none⟩), .int .i64 q, .int .i64 n] w fun e w' => e = .returned (.tuple #[.int .i64 (R.load q n).1, .int .i64 (R.load q n).2]) ∧ GRep w' p vc bb G ∧ Kept w w' (GFoot p vc bb G) := by
  refine (gload_any p vc bb G R q n w h hs q1).mono ?_
  rintro e w' ⟨rfl, hb⟩
  exact ⟨rfl, h.below hb, Kept.of_below hb _⟩
end
end Go.Proofs.YtjikemhmnkckcabGreat
