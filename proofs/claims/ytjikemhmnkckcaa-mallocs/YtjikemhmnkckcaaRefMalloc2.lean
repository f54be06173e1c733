import Derived.Test.YtjikemhmnkckcaaRefMalloc1
namespace Go.Proofs.Ytjikemhmnkckcaa
open Go.RowKit

theorem info_ev : (Try.prog.info? 94).map (fun i => (i.zero, i.size, i.bytes)) = some (some (.agg #[.bool false, .int .i64 0, .int .i64 0, .int .i64 0, .int .i64 0, .int .i64 0]), 6, 48) := by kernel_rfl

/-- where the new list of events lies: where it lay, or in a new block -/
def NewBlk (vl vl' : Value) (w : World) : Prop := ∀ g, vl'.ownBlock = some g → vl.ownBlock = some g ∨ w.heap.size ≤ g

theorem RRep.push {w : World} {p : Nat} {vc vl vm : Value} {R : RSt} (h : RRep w p vc vl vm R) (ev : Ref.Ev) {cs : Array Value} {t : TypeId} {w7 : World} {gg cap : Nat}
    (hown : w7.ownsRow 0 94 6 (.slice (some ⟨gg, 0, none⟩) (R.log.length + 1) cap) (R.log.length + 1) (R.log.flatMap evCells ++ evCells ev))
    (hgrow : (w.alloc (.cells cs t)).grownBy w7 vl.ownBlock) (hat : vl.ownBlock = some gg ∨ gg = w.heap.size + 1) :
    RRep (w7.setCell ⟨p, 3, none⟩ (.slice (some ⟨gg, 0, none⟩) (R.log.length + 1) cap)) p vc (.slice (some ⟨gg, 0, none⟩) (R.log.length + 1) cap) vm ⟨R.st, R.rest, R.cls, R.log ++ [ev], R.marks⟩ ∧
    Kept w (w7.setCell ⟨p, 3, none⟩ (.slice (some ⟨gg, 0, none⟩) (R.log.length + 1) cap)) (fun b => b = p ∨ vl.ownBlock = some b) ∧
    NewBlk vl (.slice (some ⟨gg, 0, none⟩) (R.log.length + 1) cap) w := by
  have hp := h.blk.lt
  have hsz := hgrow.size
  rw [World.size_alloc] at hsz
  have hgp : gg ≠ p := by
    rcases hat with e | e
    · intro e2; subst e2; exact h.apL e
    · omega
  have hblk : ∀ b, b < w.heap.size → some b ≠ vl.ownBlock → b ≠ p → (w7.setCell ⟨p, 3, none⟩ (.slice (some ⟨gg, 0, none⟩) (R.log.length + 1) cap)).heap[b]? = w.heap[b]? := fun b h1 h2 h3 => by
    rw [Below.heap_setCell w7 _ _ b h3, hgrow.block b (by rw [World.size_alloc]; omega) h2]
    exact Below.heap_alloc w _ b h1
  refine ⟨⟨?_, ?_, ?_, ?_, h.apC, ?_, h.apM, ?_, h.apCM, ?_⟩, ⟨?_, ?_, ?_, ?_, ?_⟩, ?_⟩
  · have e : Blk w7 p 90 [.int .i64 R.st, .int .i64 R.rest, vc, vl, vm] := by
      have e1 := hgrow.block p (by rw [World.size_alloc]; omega) (fun e => h.apL e.symm)
      exact (e1.trans (Below.heap_alloc w _ p hp)).trans h.blk
    exact e.setCell 3 _
  · exact row_kept h.cls fun g hg => hblk g (row_lt h.cls hg) (fun e => h.apCL g hg e.symm) (fun e => h.apC (e ▸ hg))
  · have hl : (R.log ++ [ev]).length = R.log.length + 1 := by simp
    show World.ownsRow _ 0 _ 6 _ (R.log ++ [ev]).length ((R.log ++ [ev]).flatMap evCells)
    rw [hl, List.flatMap_append]
    refine row_kept ?_ (fun g hg => Below.heap_setCell w7 _ _ g (by simp [Value.ownBlock] at hg; show g ≠ p; omega))
    simpa using hown
  · exact row_kept h.marks fun g hg => hblk g (row_lt h.marks hg) (fun e => h.apLM g e.symm hg) (fun e => h.apM (e ▸ hg))
  · simp [Value.ownBlock]; exact hgp
  · intro g hg e
    simp [Value.ownBlock] at e
    subst e
    rcases hat with e | e
    · exact h.apCL _ hg e
    · have := row_lt h.cls hg; omega
  · intro g hg e
    simp [Value.ownBlock] at hg
    subst hg
    rcases hat with e2 | e2
    · exact h.apLM _ e2 e
    · have := row_lt h.marks e; omega
  · exact hgrow.os
  · exact hgrow.tape
  · exact hgrow.output
  · rw [World.size_setCell]; omega
  · intro k hk hs
    exact hblk k hk (fun e => hs (.inr e.symm)) (fun e => hs (.inl e))
  · intro g hg
    simp [Value.ownBlock] at hg
    subst hg
    rcases hat with e | e
    · exact .inl e
    · right; omega

set_option maxRecDepth 100000 in
set_option maxHeartbeats 1600000 in
theorem rmalloc_size (p : Nat) (vc vl vm : Value) (R : RSt) (size draw site : Int) (w : World) (h : RRep w p vc vl vm R) (ho : ROk R) (hs : size < 1 ∨ Ref.cls_ R.cls size = R.cls.length) :
    Calls Try.prog 105 #[.pointer (some ⟨p, 0, none⟩), .int .i64 size, .int .i64 draw, .int .i64 site] w fun e w' => e = .returned (.tuple #[.int .i64 0, .int .i64 3]) ∧ w' = w := by
  have c2 := h.blk.cell (j := 2) rfl
  obtain ⟨a, cap, rfl, hcr⟩ := CRow.of_row h.cls
  obtain ⟨g, off, rfl, hgl, hcell⟩ := hcr.cells ho.conf.n0
  have n1 := ho.conf.n1
  have HO : Hid (ROk R) := ho
  have HC : Hid (∀ i, i < R.cls.length → w.cell? ⟨g, off + i * 2, none⟩ = some (.int .i64 (Cf.gr R.cls i)) ∧ w.cell? ⟨g, off + i * 2 + 1, none⟩ = some (.int .i64 (Cf.sl R.cls i))) := hcell
  have HS : Hid (size < 1 ∨ Ref.cls_ R.cls size = R.cls.length) := hs
  clear h ho hcr hcell hs
  go_enter Try.func105, Try.ntmps105
  go_wp2
  go_loop [10] (fun i => ∃ m f : Nat, m + f = R.cls.length ∧ i = .int .i64 (m : Int) ∧ Hid (Ref.cls_ R.cls size = Ref.classFrom R.cls size f m)) (fun i => R.cls.length - (intOf i).toNat)
  case atStart => exact ⟨0, R.cls.length, by omega, rfl, rfl⟩
  case round =>
    obtain ⟨m, f, hm, rfl, hc⟩ := hrel
    cases f with
    | zero =>
      have hm' : (m : Int) = (R.cls.length : Int) := by omega
      have hm2 : ((m : Int) == (R.cls.length : Int)) = true := by rw [hm']; simp
      have hm3 : ¬ (m : Int) < (R.cls.length : Int) := by omega
      clear hm hm'
      by_cases h1 : size < 1
      all_goals
        go_wp2
        all_goals
          go_ret2
          exact ⟨rfl, rfl⟩
    | succ f =>
      have hlt : m < R.cls.length := by omega
      obtain ⟨d0, d1⟩ := HC.out m hlt
      have g0 := HO.out.conf.g0 m hlt
      have g1 := HO.out.conf.g1 m hlt
      have HM : Hid (m + (f + 1) = R.cls.length) := hm
      have hst : Hid (Ref.classFrom R.cls size (f + 1) m = if 16 * Cf.gr R.cls m < size then Ref.classFrom R.cls size f (m + 1) else m) := rfl
      have hltI : (m : Int) < (R.cls.length : Int) := by omega
      clear hm d1
      by_cases hq : 16 * Cf.gr R.cls m < size
      · have hfin : Hid (Ref.cls_ R.cls size = Ref.classFrom R.cls size f (m + 1)) := by show _ = _; rw [hc.out, hst.out, if_pos hq]
        go_wp2
        go_round
        case rel => exact ⟨m + 1, f, by have := HM.out; omega, by go_num, hfin⟩
        case measure => simp [intOf]; omega
      · have h1 : size < 1 := by
          rcases HS.out with h | h
          · exact h
          · rw [hc.out, hst.out, if_neg hq] at h; omega
        go_wp2
        go_ret2
        exact ⟨rfl, rfl⟩
end Go.Proofs.Ytjikemhmnkckcaa
