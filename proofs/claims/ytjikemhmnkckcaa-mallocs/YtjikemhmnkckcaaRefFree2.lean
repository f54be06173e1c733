import Derived.Test.YtjikemhmnkckcaaRefFree1
namespace Go.Proofs.Ytjikemhmnkckcaa
open Go.RowKit

set_option maxRecDepth 100000 in
set_option maxHeartbeats 800000 in
theorem rfree_none (p : Nat) (site : Int) (w : World) :
    Calls Try.prog 107 #[.pointer (some ⟨p, 0, none⟩), .int .i64 0, .int .i64 site] w fun e w' => e = .returned (.int .i64 0) ∧ w = w' := by
  go_enter Try.func107, Try.ntmps107
  go_wp2
  go_ret
  exact ⟨rfl, rfl⟩

set_option maxRecDepth 100000 in
set_option maxHeartbeats 800000 in
theorem rfree_err (p : Nat) (vc vl vm : Value) (R : RSt) (q site : Int) (w : World) (h : RRep w p vc vl vm R) (ho : ROk R) (q1 : q ≤ 9223372036854775807) (hq : q ≠ 0) (he : (Ref.block R.st R.cls R.log q).2.2 ≠ 0) :
    Calls Try.prog 107 #[.pointer (some ⟨p, 0, none⟩), .int .i64 q, .int .i64 site] w fun e w' => e = .returned (.int .i64 (Ref.block R.st R.cls R.log q).2.2) ∧ Below w.heap.size w w' := by
  have hq0 : (q == 0) = false := by rw [beq_eq_false_iff_ne]; exact hq
  have he0 : ((Ref.block R.st R.cls R.log q).2.2 != 0) = true := by rw [bne_iff_ne]; exact he
  have HR : Hid (RRep w p vc vl vm R) := h
  clear hq he h
  go_enter Try.func107, Try.ntmps107
  go_wp2_with (go_at_call 120; refine (rblock_any p vc vl vm R q _ HR.out ho q1).mono ?_; rintro e1 w1 ⟨rfl, hb1⟩)
  go_ret
  exact ⟨rfl, hb1⟩

set_option maxRecDepth 100000 in
set_option maxHeartbeats 1600000 in
theorem rfree_ok (p : Nat) (vc vl vm : Value) (R : RSt) (q site : Int) (k s : Nat) (w : World) (h : RRep w p vc vl vm R) (ho : ROk R) (q1 : q ≤ 9223372036854775807) (hq : q ≠ 0) (he : Ref.block R.st R.cls R.log q = ((k : Int), (s : Int), 0)) (hroom : (R.log.length + 1) * 48 ≤ 140737488355328) :
    Calls Try.prog 107 #[.pointer (some ⟨p, 0, none⟩), .int .i64 q, .int .i64 site] w fun e w' => ∃ vl', e = .returned (.int .i64 0) ∧
      RRep w' p vc vl' vm ⟨R.st, R.rest, R.cls, R.log ++ [⟨true, k, s, 0, 0, site⟩], R.marks⟩ ∧ Kept w w' (fun b => b = p ∨ vl.ownBlock = some b) ∧ NewBlk vl vl' w := by
  have hq0 : (q == 0) = false := by rw [beq_eq_false_iff_ne]; exact hq
  obtain ⟨i0, hi0, hz0, hz1, hz2⟩ := info_parts info_ev
  have c3 := h.blk.cell (j := 3) rfl
  have cf3 := h.blk.frozen 3
  have hp := h.blk.lt
  have HR : Hid (RRep w p vc vl vm R) := h
  have HE : Hid (Ref.block R.st R.cls R.log q = ((k : Int), (s : Int), 0)) := he
  have HAP : Hid (vl.ownBlock ≠ some p) := h.apL
  clear hq he h
  go_enter Try.func107, Try.ntmps107
  go_wp2_with fail
  refine (rblock_any p vc vl vm R q _ HR.out ho q1).mono ?_
  rw [HE.out]
  rintro e1 w5 ⟨rfl, hb4⟩
  have HR5 : Hid (RRep w5 p vc vl vm R) := HR.out.below hb4
  have hrow : Hid (w5.ownsRow 0 94 6 vl R.log.length (R.log.flatMap evCells)) := HR5.out.log
  have q3 := (hb4.cell (p := ⟨p, 3, none⟩) hp).trans c3
  have qf3 := (hb4.frozen (p := ⟨p, 3, none⟩) hp).trans cf3
  have hp5 : p < w5.heap.size := HR5.out.blk.lt
  clear c3 cf3
  go_wp2_with (at_builtin; refine wpList_append_lies _ rfl _ _ _ rfl 0 94 i0 _ 6 48 Try.underlying87 hi0 hz0 hz1 hz2 rfl (by omega) vl R.log.length (R.log.flatMap evCells) rfl (hrow.out.alloc _) ⟨w5.heap.size, 0, none⟩ 1 1 (evCells ⟨true, k, s, 0, 0, site⟩) rfl rfl (World.news_of_block (cs := #[.bool true, .int .i64 (k : Int), .int .i64 (s : Int), .int .i64 0, .int .i64 0, .int .i64 site]) (t := 94) (fr := (0, 0)) (heap_alloc_new w5 _)) (by simp [Value.oneCell', evCells]) (by omega) (by simp [maxLen]; omega) (by omega) (by simp) (w5.heap.size + 1) (by simp) ?_; intro gg cap2 w7 hown hgrow hat hlt7; have c3' : w7.cell? ⟨p, 3, none⟩ = some vl := (by rw [hgrow.cell_far _ (by simp; omega) (fun e => HAP.out e.symm), World.cell?_alloc_lt _ _ _ hp5]; exact q3); have f3' : w7.frozen? ⟨p, 3, none⟩ = false := (by rw [hgrow.frozen_far _ (by simp; omega) (fun e => HAP.out e.symm), World.frozen?_alloc_old _ _ _ (by show p ≠ _; omega)]; exact qf3))
  have hpush := HR5.out.push ⟨true, k, s, 0, 0, site⟩ hown hgrow hat
  go_ret
  exact ⟨_, rfl, hpush.1, (Kept.of_below hb4 _).trans hpush.2.1, fun x hx => (hpush.2.2 x hx).imp id (fun e => Nat.le_trans hb4.size e)⟩
end Go.Proofs.Ytjikemhmnkckcaa
