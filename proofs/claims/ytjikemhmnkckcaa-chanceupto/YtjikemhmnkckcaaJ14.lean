import Derived.Test.YtjikemhmnkckcaaJ5
import Derived.Test.YtjikemhmnkckcaaJ11
import Derived.Test.YtjikemhmnkckcaaJ6
namespace Go.Proofs.Ytjikemhmnkckcaa
open Go.RowKit

set_option maxRecDepth 100000 in
set_option maxHeartbeats 1000000 in
theorem first_any (p : Nat) (vc vl vm : Value) (R : RSt) (k : Nat) (w : World) (h : RRep w p vc vl vm R) (ho : ROk R) (hk : k < R.cls.length) :
    Calls Try.prog 125 #[.pointer (some ⟨p, 0, none⟩), .int .i64 (k : Int)] w fun e w' => e = .returned (.int .i64 (Ref.first R.log R.rest R.cls k)) ∧ Below w.heap.size w w' := by
  have HR : Hid (RRep w p vc vl vm R) := h
  have c2 := h.blk.cell (j := 2) rfl
  have hp := h.blk.lt
  obtain ⟨a, cap, rfl, hcr⟩ := CRow.of_row h.cls
  obtain ⟨g, off, rfl, hgl, hcell⟩ := hcr.cells ho.conf.n0
  have d1 := (hcell k hk).2
  have n1 := ho.conf.n1
  have s0 := ho.conf.s0 k hk
  have s1 := ho.conf.s1 k hk
  have hkI : (k : Int) < (R.cls.length : Int) := by omega
  clear h ho hcr hcell
  go_enter Try.func125, Try.ntmps125
  go_wp2
  go_loopw [5] (fun i wr => ∃ m f : Nat, m + f = (Cf.sl R.cls k).toNat ∧ i = .int .i64 (m : Int) ∧ Hid (Ref.first R.log R.rest R.cls k = Ref.firstFrom (Ref.openB R.log R.rest k) f m) ∧ Below w.heap.size w wr) (fun i _ => (Cf.sl R.cls k).toNat - (intOf i).toNat)
  case atStart => exact ⟨0, _, by omega, rfl, rfl, Below.refl _ _⟩
  case round =>
    obtain ⟨m, f, hm, rfl, hs, hb⟩ := hrel
    have c2' := (hb.cell (p := ⟨p, 2, none⟩) hp).trans c2
    have d1' := (hb.cell (p := ⟨g, off + k * 2 + 1, none⟩) hgl).trans d1
    cases f with
    | zero =>
      have hm' : ¬ (m : Int) < Cf.sl R.cls k := by omega
      clear hm
      go_wp2
      go_ret
      exact ⟨ret_int hs.out.symm, hb⟩
    | succ f =>
      have hlt : (m : Int) < Cf.sl R.cls k := by omega
      have HM : Hid (m + (f + 1) = (Cf.sl R.cls k).toNat) := hm
      have hst : Hid (Ref.firstFrom (Ref.openB R.log R.rest k) (f + 1) m = if Ref.openB R.log R.rest k m then (m : Int) else Ref.firstFrom (Ref.openB R.log R.rest k) f (m + 1)) := rfl
      have hop : Hid (Ref.openB R.log R.rest k m = ((Ref.state R.log k m != 3) && !Ref.rests R.log R.rest k m)) := rfl
      clear hm
      cases hq1 : (Ref.state R.log k m != 3) <;> cases hq2 : Ref.rests R.log R.rest k m
      case true.false =>
        have hfin : Hid (Ref.first R.log R.rest R.cls k = (m : Int)) := by show _ = _; rw [hs.out, hst.out, hop.out, hq1, hq2]; rfl
        go_wp2_with (first
          | (go_at_call 45; refine (state_any _ _ _ _ _ _ _ _ (HR.out.below hb)).mono ?_; rintro e1 w1 ⟨rfl, hb1'⟩; have hb1 := hb.trans (hb1'.mono hb.size); clear hb1')
          | (go_at_call 128; refine (rests_any _ _ _ _ _ _ _ _ (HR.out.below hb1)).mono ?_; rw [hq2]; rintro e1 w2 ⟨rfl, hb2'⟩; have hb2 := hb1.trans (hb2'.mono hb1.size); clear hb2'))
        go_ret
        exact ⟨ret_int hfin.out.symm, hb2⟩
      all_goals
        have hfin : Hid (Ref.first R.log R.rest R.cls k = Ref.firstFrom (Ref.openB R.log R.rest k) f (m + 1)) := by show _ = _; rw [hs.out, hst.out, hop.out, hq1, hq2]; rfl
        go_wp2_with (first
          | (go_at_call 45; refine (state_any _ _ _ _ _ _ _ _ (HR.out.below hb)).mono ?_; rintro e1 w1 ⟨rfl, hb1'⟩; have hb1 := hb.trans (hb1'.mono hb.size); clear hb1')
          | (go_at_call 128; refine (rests_any _ _ _ _ _ _ _ _ (HR.out.below hb1)).mono ?_; rw [hq2]; rintro e1 w2 ⟨rfl, hb2'⟩; have hb2 := hb1.trans (hb2'.mono hb1.size); clear hb2'))
        go_roundw
        case rel => exact ⟨m + 1, f, by have := HM.out; omega, by go_num, hfin, hb2⟩
        case measure => simp [intOf]; omega
end Go.Proofs.Ytjikemhmnkckcaa
namespace Go.Proofs.Ytjikemhmnkckcaa
open Go.RowKit

theorem info_ev : (Try.prog.info? 94).map (fun i => (i.zero, i.size, i.bytes)) = some (some (.agg #[.bool false, .int .i64 0, .int .i64 0, .int .i64 0, .int .i64 0, .int .i64 0]), 6, 48) := by kernel_rfl

/-- where the new list of events lies: where it lay, or in a new block -/
def NewBlk (vl vl' : Value) (w : World) : Prop := ∀ g, vl'.ownBlock = some g → vl.ownBlock = some g ∨ w.heap.size ≤ g

theorem RRep.push {w : World} {p : Nat} {vc vl vm : Value} {R : RSt} (h : RRep w p vc vl vm R) (ev : Ref.Ev) {cs : Array Value} {t : TypeId} {w7 : World} {gg cap : Nat}
    (hown : w7.ownsRow 0 94 6 (.slice (some ⟨gg, 0, none⟩) (R.log.length + 1) cap) (R.log.length + 1) (R.log.flatMap evCells ++ evCells ev))
    (hgrow : (w.alloc (.cells cs t)).grownBy w7 vl.ownBlock) (hat : vl.ownBlock = some gg ∨ gg = w.heap.size + 1) :
    RRep (w7.setCell ⟨p, 3, none⟩ (.slice (some ⟨gg, 0, none⟩) (R.log.length + 1) cap)) p vc (.slice (some ⟨gg, 0, none⟩) (R.log.length + 1) cap) vm ⟨R.st, R.rest, R.cls, R.log ++ [ev], R.marks⟩ ∧
    Kept w (w7.setCell ⟨p, 3, none⟩ (.slice (some ⟨gg, 0, none⟩) (R.log.length + 1) cap)) (fun b => b = p ∨ vl.ownBlock = some b) ∧
    NewBlk vl (.slice (some ⟨gg, 0, none⟩) (R.log.length + 1) cap) w := by
  have hp := h.blk.lt
  have hsz := hgrow.size
  rw [World.size_alloc] at hsz
  have hgp : gg ≠ p := by
    rcases hat with e | e
    · intro e2; subst e2; exact h.apL e
    · omega
  have hblk : ∀ b, b < w.heap.size → some b ≠ vl.ownBlock → b ≠ p → (w7.setCell ⟨p, 3, none⟩ (.slice (some ⟨gg, 0, none⟩) (R.log.length + 1) cap)).heap[b]? = w.heap[b]? := fun b h1 h2 h3 => by
    rw [Below.heap_setCell w7 _ _ b h3, hgrow.block b (by rw [World.size_alloc]; omega) h2]
    exact Below.heap_alloc w _ b h1
  refine ⟨⟨?_, ?_, ?_, ?_, h.apC, ?_, h.apM, ?_, h.apCM, ?_⟩, ⟨?_, ?_, ?_, ?_, ?_⟩, ?_⟩
  · have e : Blk w7 p 90 [.int .i64 R.st, .int .i64 R.rest, vc, vl, vm] := by
      have e1 := hgrow.block p (by rw [World.size_alloc]; omega) (fun e => h.apL e.symm)
      exact (e1.trans (Below.heap_alloc w _ p hp)).trans h.blk
    exact e.setCell 3 _
  · exact row_kept h.cls fun g hg => hblk g (row_lt h.cls hg) (fun e => h.apCL g hg e.symm) (fun e => h.apC (e ▸ hg))
  · have hl : (R.log ++ [ev]).length = R.log.length + 1 := by simp
    show World.ownsRow _ 0 _ 6 _ (R.log ++ [ev]).length ((R.log ++ [ev]).flatMap evCells)
    rw [hl, List.flatMap_append]
    refine row_kept ?_ (fun g hg => Below.heap_setCell w7 _ _ g (by simp [Value.ownBlock] at hg; show g ≠ p; omega))
    simpa using hown
  · exact row_kept h.marks fun g hg => hblk g (row_lt h.marks hg) (fun e => h.apLM g e.symm hg) (fun e => h.apM (e ▸ hg))
  · simp [Value.ownBlock]; exact hgp
  · intro g hg e
    simp [Value.ownBlock] at e
    subst e
    rcases hat with e | e
    · exact h.apCL _ hg e
    · have := row_lt h.cls hg; omega
  · intro g hg e
    simp [Value.ownBlock] at hg
    subst hg
    rcases hat with e2 | e2
    · exact h.apLM _ e2 e
    · have := row_lt h.marks e; omega
  · exact hgrow.os
  · exact hgrow.tape
  · exact hgrow.output
  · rw [World.size_setCell]; omega
  · intro k hk hs
    exact hblk k hk (fun e => hs (.inr e.symm)) (fun e => hs (.inl e))
  · intro g hg
    simp [Value.ownBlock] at hg
    subst hg
    rcases hat with e | e
    · exact .inl e
    · right; omega

set_option maxRecDepth 100000 in
set_option maxHeartbeats 1600000 in
theorem rmalloc_size (p : Nat) (vc vl vm : Value) (R : RSt) (size draw site : Int) (w : World) (h : RRep w p vc vl vm R) (ho : ROk R) (hs : size < 1 ∨ Ref.cls_ R.cls size = R.cls.length) :
    Calls Try.prog 105 #[.pointer (some ⟨p, 0, none⟩), .int .i64 size, .int .i64 draw, .int .i64 site] w fun e w' => e = .returned (.tuple #[.int .i64 0, .int .i64 3]) ∧ w' = w := by
  have c2 := h.blk.cell (j := 2) rfl
  obtain ⟨a, cap, rfl, hcr⟩ := CRow.of_row h.cls
  obtain ⟨g, off, rfl, hgl, hcell⟩ := hcr.cells ho.conf.n0
  have n1 := ho.conf.n1
  have HO : Hid (ROk R) := ho
  have HC : Hid (∀ i, i < R.cls.length → w.cell? ⟨g, off + i * 2, none⟩ = some (.int .i64 (Cf.gr R.cls i)) ∧ w.cell? ⟨g, off + i * 2 + 1, none⟩ = some (.int .i64 (Cf.sl R.cls i))) := hcell
  have HS : Hid (size < 1 ∨ Ref.cls_ R.cls size = R.cls.length) := hs
  clear h ho hcr hcell hs
  go_enter Try.func105, Try.ntmps105
  go_wp2
  go_loop [10] (fun i => ∃ m f : Nat, m + f = R.cls.length ∧ i = .int .i64 (m : Int) ∧ Hid (Ref.cls_ R.cls size = Ref.classFrom R.cls size f m)) (fun i => R.cls.length - (intOf i).toNat)
  case atStart => exact ⟨0, R.cls.length, by omega, rfl, rfl⟩
  case round =>
    obtain ⟨m, f, hm, rfl, hc⟩ := hrel
    cases f with
    | zero =>
      have hm' : (m : Int) = (R.cls.length : Int) := by omega
      have hm2 : ((m : Int) == (R.cls.length : Int)) = true := by rw [hm']; simp
      have hm3 : ¬ (m : Int) < (R.cls.length : Int) := by omega
      clear hm hm'
      by_cases h1 : size < 1
      all_goals
        go_wp2
        all_goals
          go_ret2
          exact ⟨rfl, rfl⟩
    | succ f =>
      have hlt : m < R.cls.length := by omega
      obtain ⟨d0, d1⟩ := HC.out m hlt
      have g0 := HO.out.conf.g0 m hlt
      have g1 := HO.out.conf.g1 m hlt
      have HM : Hid (m + (f + 1) = R.cls.length) := hm
      have hst : Hid (Ref.classFrom R.cls size (f + 1) m = if 16 * Cf.gr R.cls m < size then Ref.classFrom R.cls size f (m + 1) else m) := rfl
      have hltI : (m : Int) < (R.cls.length : Int) := by omega
      clear hm d1
      by_cases hq : 16 * Cf.gr R.cls m < size
      · have hfin : Hid (Ref.cls_ R.cls size = Ref.classFrom R.cls size f (m + 1)) := by show _ = _; rw [hc.out, hst.out, if_pos hq]
        go_wp2
        go_round
        case rel => exact ⟨m + 1, f, by have := HM.out; omega, by go_num, hfin⟩
        case measure => simp [intOf]; omega
      · have h1 : size < 1 := by
          rcases HS.out with h | h
          · exact h
          · rw [hc.out, hst.out, if_neg hq] at h; omega
        go_wp2
        go_ret2
        exact ⟨rfl, rfl⟩
end Go.Proofs.Ytjikemhmnkckcaa
namespace Go.Proofs.Ytjikemhmnkckcaa
open Go.RowKit

set_option maxRecDepth 100000 in
set_option maxHeartbeats 1600000 in
theorem rmalloc_full (p : Nat) (vc vl vm : Value) (R : RSt) (size draw site : Int) (k : Nat) (w : World) (h : RRep w p vc vl vm R) (ho : ROk R) (hs : 1 ≤ size) (hk : Ref.cls_ R.cls size = k) (hkl : k < R.cls.length) (hf : Ref.first R.log R.rest R.cls k < 0) :
    Calls Try.prog 105 #[.pointer (some ⟨p, 0, none⟩), .int .i64 size, .int .i64 draw, .int .i64 site] w fun e w' => e = .returned (.tuple #[.int .i64 0, .int .i64 4]) ∧ Below w.heap.size w w' := by
  have c2 := h.blk.cell (j := 2) rfl
  have hp := h.blk.lt
  have HR : Hid (RRep w p vc vl vm R) := h
  obtain ⟨a, cap, rfl, hcr⟩ := CRow.of_row h.cls
  obtain ⟨g, off, rfl, hgl, hcell⟩ := hcr.cells ho.conf.n0
  have n1 := ho.conf.n1
  have HO : Hid (ROk R) := ho
  have HC : Hid (∀ i, i < R.cls.length → w.cell? ⟨g, off + i * 2, none⟩ = some (.int .i64 (Cf.gr R.cls i)) ∧ w.cell? ⟨g, off + i * 2 + 1, none⟩ = some (.int .i64 (Cf.sl R.cls i))) := hcell
  have HK : Hid (Ref.cls_ R.cls size = k) := hk
  clear h ho hcr hcell hk
  go_enter Try.func105, Try.ntmps105
  go_wp2
  go_loop [10] (fun i => ∃ m f : Nat, m + f = R.cls.length ∧ i = .int .i64 (m : Int) ∧ Hid (Ref.cls_ R.cls size = Ref.classFrom R.cls size f m)) (fun i => R.cls.length - (intOf i).toNat)
  case atStart => exact ⟨0, R.cls.length, by omega, rfl, rfl⟩
  case round =>
    obtain ⟨m, f, hm, rfl, hc⟩ := hrel
    cases f with
    | zero => exact absurd (show m = k from by rw [← HK.out, hc.out]; rfl) (by omega)
    | succ f =>
      have hlt : m < R.cls.length := by omega
      obtain ⟨d0, d1⟩ := HC.out m hlt
      have g0 := HO.out.conf.g0 m hlt
      have g1 := HO.out.conf.g1 m hlt
      have HM : Hid (m + (f + 1) = R.cls.length) := hm
      have hst : Hid (Ref.classFrom R.cls size (f + 1) m = if 16 * Cf.gr R.cls m < size then Ref.classFrom R.cls size f (m + 1) else m) := rfl
      have hltI : (m : Int) < (R.cls.length : Int) := by omega
      have hnel : ((m : Int) == (R.cls.length : Int)) = false := by rw [beq_eq_false_iff_ne]; omega
      clear hm d1
      by_cases hq : 16 * Cf.gr R.cls m < size
      · have hfin : Hid (Ref.cls_ R.cls size = Ref.classFrom R.cls size f (m + 1)) := by show _ = _; rw [hc.out, hst.out, if_pos hq]
        go_wp2
        go_round
        case rel => exact ⟨m + 1, f, by have := HM.out; omega, by go_num, hfin⟩
        case measure => simp [intOf]; omega
      · obtain rfl : m = k := by rw [← HK.out, hc.out, hst.out, if_neg hq]
        go_wp2_with (go_at_call 125; refine (first_any p _ vl vm R _ _ HR.out HO.out hkl).mono ?_; rintro e1 w1 ⟨rfl, hb1⟩)
        go_ret2
        exact ⟨rfl, hb1⟩

set_option maxRecDepth 100000 in
set_option maxHeartbeats 3200000 in
theorem rmalloc_ok (p : Nat) (vc vl vm : Value) (R : RSt) (size draw site : Int) (k s : Nat) (w : World) (h : RRep w p vc vl vm R) (ho : ROk R) (hs : 1 ≤ size) (hk : Ref.cls_ R.cls size = k) (hkl : k < R.cls.length) (hf : Ref.first R.log R.rest R.cls k = (s : Int))
    (hsl : (s : Int) < Cf.sl R.cls k) (hroom : (R.log.length + 1) * 48 ≤ 140737488355328) :
    Calls Try.prog 105 #[.pointer (some ⟨p, 0, none⟩), .int .i64 size, .int .i64 draw, .int .i64 site] w fun e w' => ∃ vl', e = .returned (.tuple #[.int .i64 ((Ref.tagOf R.log k s draw : Int) * 72057594037927936 + Cf.begin_ R.st R.cls k s), .int .i64 0]) ∧
      RRep w' p vc vl' vm ⟨R.st, R.rest, R.cls, R.log ++ [⟨false, k, s, Ref.tagOf R.log k s draw, Ref.gsz size, site⟩], R.marks⟩ ∧ Kept w w' (fun b => b = p ∨ vl.ownBlock = some b) ∧ NewBlk vl vl' w := by
  have hsz : size ≤ 16 * Cf.gr R.cls k := by have := Ref.cls_at R.cls size (by rw [hk]; exact hkl); rw [hk] at this; exact this
  have gg1 := ho.conf.g1 k hkl
  have sl1 := ho.conf.s1 k hkl
  obtain ⟨i0, hi0, hz0, hz1, hz2⟩ := info_parts info_ev
  have c0 := h.blk.cell (j := 0) rfl
  have c1 := h.blk.cell (j := 1) rfl
  have c3 := h.blk.cell (j := 3) rfl
  have cf3 := h.blk.frozen 3
  have c2 := h.blk.cell (j := 2) rfl
  have hp := h.blk.lt
  have HR : Hid (RRep w p vc vl vm R) := h
  obtain ⟨a, cap, rfl, hcr⟩ := CRow.of_row h.cls
  obtain ⟨g, off, rfl, hgl, hcell⟩ := hcr.cells ho.conf.n0
  have n1 := ho.conf.n1
  have HO : Hid (ROk R) := ho
  have HC : Hid (∀ i, i < R.cls.length → w.cell? ⟨g, off + i * 2, none⟩ = some (.int .i64 (Cf.gr R.cls i)) ∧ w.cell? ⟨g, off + i * 2 + 1, none⟩ = some (.int .i64 (Cf.sl R.cls i))) := hcell
  have HK : Hid (Ref.cls_ R.cls size = k) := hk
  have HF : Hid (Ref.first R.log R.rest R.cls k = (s : Int)) := hf
  have bd := Cf.begin_bd ho.conf k hkl s (by omega) (by omega)
  have t1 := PickMath.pick_lo (Ref.last R.log k s) (Ref.last R.log k ((s : Int) - 1)) (Ref.last R.log k ((s : Int) + 1)) draw
  have t2 := PickMath.pick_hi (Ref.last R.log k s) (Ref.last R.log k ((s : Int) - 1)) (Ref.last R.log k ((s : Int) + 1)) draw
  have HT : Hid (PickMath.pick (Ref.last R.log k s) (Ref.last R.log k ((s : Int) - 1)) (Ref.last R.log k ((s : Int) + 1)) draw = Ref.tagOf R.log k s draw) := rfl
  have HCR : Hid (CRow w (some ⟨g, off, none⟩) cap R.cls) := hcr
  clear h ho hcr hcell hk hf
  go_enter Try.func105, Try.ntmps105
  go_wp2
  go_loop [10] (fun i => ∃ m f : Nat, m + f = R.cls.length ∧ i = .int .i64 (m : Int) ∧ Hid (Ref.cls_ R.cls size = Ref.classFrom R.cls size f m)) (fun i => R.cls.length - (intOf i).toNat)
  case atStart => exact ⟨0, R.cls.length, by omega, rfl, rfl⟩
  case round =>
    obtain ⟨m, f, hm, rfl, hc⟩ := hrel
    cases f with
    | zero => exact absurd (show m = k from by rw [← HK.out, hc.out]; rfl) (by omega)
    | succ f =>
      have hlt : m < R.cls.length := by omega
      obtain ⟨d0, d1⟩ := HC.out m hlt
      have g0 := HO.out.conf.g0 m hlt
      have g1 := HO.out.conf.g1 m hlt
      have HM : Hid (m + (f + 1) = R.cls.length) := hm
      have hst : Hid (Ref.classFrom R.cls size (f + 1) m = if 16 * Cf.gr R.cls m < size then Ref.classFrom R.cls size f (m + 1) else m) := rfl
      have hltI : (m : Int) < (R.cls.length : Int) := by omega
      have hnel : ((m : Int) == (R.cls.length : Int)) = false := by rw [beq_eq_false_iff_ne]; omega
      clear hm d1
      by_cases hq : 16 * Cf.gr R.cls m < size
      · have hfin : Hid (Ref.cls_ R.cls size = Ref.classFrom R.cls size f (m + 1)) := by show _ = _; rw [hc.out, hst.out, if_pos hq]
        go_wp2
        go_round
        case rel => exact ⟨m + 1, f, by have := HM.out; omega, by go_num, hfin⟩
        case measure => simp [intOf]; omega
      · obtain rfl : m = k := by rw [← HK.out, hc.out, hst.out, if_neg hq]
        go_wp2_with (go_at_call 125; refine (first_any p _ vl vm R _ _ HR.out HO.out hkl).mono ?_; rw [HF.out]; rintro e1 w1 ⟨rfl, hb1⟩)
        go_loop [12] (fun n => ∃ j : Nat, j ≤ 8 ∧ n = .int .i64 ((j : Int) + 1) ∧ 16 * (j : Int) < size) (fun n => 9 - (intOf n).toNat)
        case atStart => exact ⟨0, by omega, rfl, by omega⟩
        case round =>
          obtain ⟨j, hj, rfl, hj2⟩ := hrel
          by_cases hq2 : 16 * ((j : Int) + 1) < size
          · go_wp2
            go_round
            case rel => exact ⟨j + 1, by omega, by go_num, by omega⟩
            case measure => simp [intOf]; omega
          · have hgz : Hid ((j : Int) + 1 = Ref.gsz size) := by show _ = _; unfold Ref.gsz; omega
            go_wp2_with fail
            refine (last_any p _ vl vm R _ _ _ (HR.out.below hb1)).mono ?_
            rintro e1 w2 ⟨rfl, hb2'⟩
            have hb2 := hb1.trans (hb2'.mono hb1.size)
            clear hb2'
            go_wp2_with fail
            refine (last_any p _ vl vm R _ _ _ (HR.out.below hb2)).mono ?_
            rintro e1 w3 ⟨rfl, hb3'⟩
            have hb3 := hb2.trans (hb3'.mono hb2.size)
            clear hb3'
            go_wp2_with fail
            refine (last_any p _ vl vm R _ _ _ (HR.out.below hb3)).mono ?_
            rintro e1 w4 ⟨rfl, hb4'⟩
            have hb4 := hb3.trans (hb4'.mono hb3.size)
            clear hb4'
            go_wp2_with fail
            refine (rpick_any _ _ _ _ _).mono ?_
            rintro e1 w5 ⟨rfl, hw5⟩
            subst hw5
            rw [HT.out] at t1 t2 ⊢
            rw [hgz.out]
            have HR4 := HR.out.below hb4
            have hrow : Hid (w5.ownsRow 0 94 6 vl R.log.length (R.log.flatMap evCells)) := HR4.log
            have q0 := (hb4.cell (p := ⟨p, 0, none⟩) hp).trans c0
            have q1 := (hb4.cell (p := ⟨p, 1, none⟩) hp).trans c1
            have q2 := (hb4.cell (p := ⟨p, 2, none⟩) hp).trans c2
            have q3 := (hb4.cell (p := ⟨p, 3, none⟩) hp).trans c3
            have qf3 := (hb4.frozen (p := ⟨p, 3, none⟩) hp).trans cf3
            have hp5 : p < w5.heap.size := HR4.blk.lt
            have HAP : Hid (vl.ownBlock ≠ some p) := HR4.apL
            have HRR := HR4
            have HR5 : Hid (RRep w5 p _ vl vm R) := HRR
            clear HR4 HRR c0 c1 c2 c3 cf3 d0
            generalize htg : Ref.tagOf R.log m s draw = tg at *
            generalize hgz2 : Ref.gsz size = gz at *
            have HTG : Hid (Ref.tagOf R.log m s draw = tg) := htg
            have HGZ : Hid (Ref.gsz size = gz) := hgz2
            clear htg hgz2
            go_wp2_with (at_builtin; refine wpList_append_lies _ rfl _ _ _ rfl 0 94 i0 _ 6 48 Try.underlying87 hi0 hz0 hz1 hz2 rfl (by omega) vl R.log.length (R.log.flatMap evCells) rfl (hrow.out.alloc _) ⟨w5.heap.size, 0, none⟩ 1 1 (evCells ⟨false, m, s, tg, gz, site⟩) rfl rfl (World.news_of_block (cs := #[.bool false, .int .i64 (m : Int), .int .i64 (s : Int), .int .i64 (tg : Int), .int .i64 gz, .int .i64 site]) (t := 94) (fr := (0, 0)) (heap_alloc_new w5 _)) (by simp [Value.oneCell', evCells]) (by omega) (by simp [maxLen]; omega) (by omega) (by simp) (w5.heap.size + 1) (by simp) ?_; intro gg cap2 w7 hown hgrow hat hlt7; have c3' : w7.cell? ⟨p, 3, none⟩ = some vl := (by rw [hgrow.cell_far _ (by simp; omega) (fun e => HAP.out e.symm), World.cell?_alloc_lt _ _ _ hp5]; exact q3); have f3' : w7.frozen? ⟨p, 3, none⟩ = false := (by rw [hgrow.frozen_far _ (by simp; omega) (fun e => HAP.out e.symm), World.frozen?_alloc_old _ _ _ (by show p ≠ _; omega)]; exact qf3); have c0' : w7.cell? ⟨p, 0, none⟩ = some (.int .i64 R.st) := (by rw [hgrow.cell_far _ (by simp; omega) (fun e => HAP.out e.symm), World.cell?_alloc_lt _ _ _ hp5]; exact q0); have c1' : w7.cell? ⟨p, 1, none⟩ = some (.int .i64 R.rest) := (by rw [hgrow.cell_far _ (by simp; omega) (fun e => HAP.out e.symm), World.cell?_alloc_lt _ _ _ hp5]; exact q1); have c2' : w7.cell? ⟨p, 2, none⟩ = some (.slice (some ⟨g, off, none⟩) R.cls.length cap) := (by rw [hgrow.cell_far _ (by simp; omega) (fun e => HAP.out e.symm), World.cell?_alloc_lt _ _ _ hp5]; exact q2))
            have hpush := HR5.out.push ⟨false, m, s, tg, gz, site⟩ hown hgrow hat
            generalize w7.setCell ⟨p, 3, none⟩ (.slice (some ⟨gg, 0, none⟩) (R.log.length + 1) cap2) = w8 at *
            obtain ⟨hR8, hK8, hN8⟩ := hpush
            obtain ⟨a', cap', hva, hcr8⟩ := CRow.of_row hR8.cls
            injection hva with e1 e2 e3
            subst e1 e3
            have HK8 : Hid (Kept w5 w8 fun b => b = p ∨ vl.ownBlock = some b) := hK8
            have HC8 : Hid (CRow w8 (some ⟨g, off, none⟩) cap R.cls) := hcr8
            clear hown hgrow hat c3' f3' q0 q1 q2 q3 qf3 hK8 hcr8 e2
            refine (begin_any R.st R.rest _ cap R.cls _ _ _ HO.out.conf HC8.out (by omega) (by omega) (by omega) (by omega)).mono ?_
            rw [Int.toNat_natCast]
            rintro e1 w9 ⟨rfl, hb9⟩
            go_wp2
            go_ret2
            rw [HTG.out, HGZ.out]
            exact ⟨_, rfl, hR8.below hb9, ((Kept.of_below hb4 _).trans HK8.out).trans (Kept.of_below hb9 _), fun x hx => (hN8 x hx).imp id (fun e => Nat.le_trans hb4.size e)⟩
end Go.Proofs.Ytjikemhmnkckcaa
