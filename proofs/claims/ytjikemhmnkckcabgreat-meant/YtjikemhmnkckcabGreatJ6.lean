import Derived.Test.YtjikemhmnkckcabGreatJ2
import Derived.Deep.RegionHeld3
import Derived.Deep.AppendLies
import Derived.Deep.DrawnRows
import Derived.Deep.RegionLaw
namespace Go.Proofs.YtjikemhmnkckcabGreat
open Go.RowKit
structure ROk (R : RSt) : Prop where
 conf : Cf.Valid R.st R.rest R.cls
 size0 : ∀ i, 0 ≤ (R.log.getD i Ref.Ev.no).size
 size1 : ∀ i, (R.log.getD i Ref.Ev.no).size ≤ 8
end Go.Proofs.YtjikemhmnkckcabGreat
namespace Go.Proofs.YtjikemhmnkckcabGreat
open Go.RowKit
attribute [local go_sem ↓] Go.wp_at_zero Go.wp_at_succ
theorem info_cls : (Tryz.prog.info? 84).map (fun i => (i.zero, i.size, i.bytes)) = some (some (.agg #[.int .i64 0, .int .i64 0]), 2, 16) := by kernel_rfl
structure NewRel (w : World) (st rest : Int) (cls : List (Int × Int)) (pb ob : Nat) (sv : Value) (m : Nat) (v : Value) (wr : World) : Prop where
 below : Below w.heap.size w wr
 pb0 : w.heap.size ≤ pb
 pbc : wr.cell? ⟨pb, 2, none⟩ = some sv
 pbl : pb < wr.heap.size
 ob0 : w.heap.size ≤ ob
 ne : pb ≠ ob
 obk : Blk wr ob 36 [.int .i64 st, .int .i64 rest, v]
 row : wr.ownsRow 0 84 2 v m ((cls.take m).flatMap clsCells)
 vlo : ∀ g, v.ownBlock = some g → w.heap.size ≤ g ∧ g ≠ pb ∧ g ≠ ob
theorem take_more {α β : Type} (f : α → List β) (l : List α) (d : α) (m : Nat) (h : m < l.length) : (l.take (m + 1)).flatMap f = (l.take m).flatMap f ++ f (l.getD m d) := by
 rw [List.take_succ_eq_append_getElem h, List.flatMap_append];simp [List.getD_eq_getElem?_getD, List.getElem?_eq_getElem h]
theorem NewRel.step {w : World} {st rest : Int} {cls : List (Int × Int)} {pb ob : Nat} {sv : Value} {m : Nat} {v : Value} {wr : World} (hr : NewRel w st rest cls pb ob sv m v wr) (hm : m < cls.length)
 {x y : Int} (hx : Cf.gr cls m = x ∧ Cf.sl cls m = y) {cs : Array Value} {t : TypeId} {w2 : World} {gg cap2 : Nat}
 (hown1 : w2.ownsRow 0 84 2 (.slice (some ⟨gg, 0, none⟩) (m + 1) cap2) (m + 1) ((cls.take m).flatMap clsCells ++ [.int .i64 x, .int .i64 y]))
 (hgrow : ((wr.alloc (.cells cs t)).drew).grownBy w2 v.ownBlock) (hat : v.ownBlock = some gg ∨ gg = wr.heap.size + 1) :
 NewRel w st rest cls pb ob sv (m + 1) (.slice (some ⟨gg, 0, none⟩) (m + 1) cap2) (w2.setCell ⟨ob, 2, none⟩ (.slice (some ⟨gg, 0, none⟩) (m + 1) cap2)) := by
 have hpl := hr.pbl;have hol := hr.obk.lt;have hsz := hr.below.size;have hp0 := hr.pb0;have ho0 := hr.ob0;have hne := hr.ne
 have hggb : w.heap.size ≤ gg ∧ gg ≠ pb ∧ gg ≠ ob := by
  rcases hat with h | h
  ·exact hr.vlo gg h
  ·omega
 have hsz2 := hgrow.size;rw [World.size_drew, World.size_alloc] at hsz2;have hpv : some pb ≠ v.ownBlock := fun e => (hr.vlo pb e.symm).2.1 rfl
 have hov : some ob ≠ v.ownBlock := fun e => (hr.vlo ob e.symm).2.2 rfl
 refine ⟨?_, hp0, ?_, ?_, ho0, hne, ?_, ?_, ?_⟩
 ·refine (((hr.below.alloc (by omega) _).drew).grown hgrow (by rw [World.size_drew, World.size_alloc]; omega) (fun k hk => (hr.vlo k hk).1)).setCell ho0 _
 ·rw [World.cell?_setCell_other _ _ _ _ (by intro e; injection e with e _ _; omega), hgrow.cell_far _ (by simp; omega) hpv, World.cell?_drew, World.cell?_alloc_lt _ _ _ hpl];exact hr.pbc
 ·rw [World.size_setCell]; omega
 ·have hb : Blk w2 ob 36 [.int .i64 st, .int .i64 rest, v] := by
   have e1 := hgrow.block ob (by simp; omega) hov;have e2 : (wr.alloc (.cells cs t)).drew.heap[ob]? = wr.heap[ob]? := Below.heap_alloc wr _ ob hol;exact (e1.trans e2).trans hr.obk
  exact hb.setCell 2 _
 ·refine row_kept ?_ (fun g hg => Below.heap_setCell w2 _ _ g (by simp [Value.ownBlock] at hg; show g ≠ ob; omega))
  have e : (cls.take (m + 1)).flatMap clsCells = (cls.take m).flatMap clsCells ++ [.int .i64 x, .int .i64 y] := by
   rw [take_more clsCells cls (0, 0) m hm];show _ ++ [Value.int .i64 (Cf.gr cls m), Value.int .i64 (Cf.sl cls m)] = _;rw [hx.1, hx.2]
  rw [e]; exact hown1
 ·intro g hg;simp [Value.ownBlock] at hg;subst hg;exact hggb
end Go.Proofs.YtjikemhmnkckcabGreat
namespace Go.Proofs.YtjikemhmnkckcabGreat
open Go Go.RowKit
end Go.Proofs.YtjikemhmnkckcabGreat
