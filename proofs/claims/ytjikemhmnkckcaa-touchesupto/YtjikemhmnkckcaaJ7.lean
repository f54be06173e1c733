import Derived.Test.YtjikemhmnkckcaaJ6
import Derived.Deep.RegionHeld3
import Derived.Deep.AppendLies
import Derived.Deep.DrawnRows
import Derived.Deep.RegionLaw
import Derived.WalkKit
import Derived.WalkSpells
namespace Go.Proofs.Ytjikemhmnkckcaa
open Go.RowKit
attribute [local go_sem ↓] Go.wp_at_zero Go.wp_at_succ

theorem info_cls : (Try.prog.info? 67).map (fun i => (i.zero, i.size, i.bytes)) = some (some (.agg #[.int .i64 0, .int .i64 0]), 2, 16) := by kernel_rfl

theorem ret_ptr {a b : Option Addr} {c d : Int} (h : a = b) (h' : c = d) : Ending.returned (.tuple #[.pointer a, .int .i64 c]) = .returned (.tuple #[.pointer b, .int .i64 d]) := by rw [h, h']

set_option maxRecDepth 100000 in
set_option maxHeartbeats 1000000 in
theorem rnew_no (st rest : Int) (a : Option Addr) (cap : Nat) (cls : List (Int × Int)) (w : World) (h : CRow w a cap cls) (hv : Cf.validB st rest cls = false) :
    Calls Try.prog 38 #[.agg #[.int .i64 st, .int .i64 rest, .slice a cls.length cap]] w fun e w' => e = .returned (.tuple #[.pointer none, .int .i64 1]) ∧ Below w.heap.size w w' := by
  have HC : Hid (CRow w a cap cls) := h
  have HV : Hid (Cf.validB st rest cls = false) := hv
  clear h hv
  go_enter Try.func38, Try.ntmps38
  go_wp2_with (go_at_call 77; refine (valid_any st rest _ cap cls _ (HC.out.below ((Below.refl _ _).alloc (Nat.le_refl _) _))).mono ?_; rw [HV.out]; rintro e1 w1 ⟨rfl, hb1⟩)
  go_ret2
  exact ⟨rfl, ((Below.refl _ _).alloc (Nat.le_refl _) _).trans (hb1.mono (by simp))⟩

/-- the document's New, within its loop -/
structure NewRel (w : World) (st rest : Int) (cls : List (Int × Int)) (pb ob : Nat) (sv : Value) (m : Nat) (v : Value) (wr : World) : Prop where
  below : Below w.heap.size w wr
  pb0 : w.heap.size ≤ pb
  pbc : wr.cell? ⟨pb, 2, none⟩ = some sv
  pbl : pb < wr.heap.size
  ob0 : w.heap.size ≤ ob
  ne : pb ≠ ob
  obk : Blk wr ob 24 [.int .i64 st, .int .i64 rest, v]
  row : wr.ownsRow 0 67 2 v m ((cls.take m).flatMap clsCells)
  vlo : ∀ g, v.ownBlock = some g → w.heap.size ≤ g ∧ g ≠ pb ∧ g ≠ ob

theorem take_more {α β : Type} (f : α → List β) (l : List α) (d : α) (m : Nat) (h : m < l.length) : (l.take (m + 1)).flatMap f = (l.take m).flatMap f ++ f (l.getD m d) := by
  rw [List.take_succ_eq_append_getElem h, List.flatMap_append]
  simp [List.getD_eq_getElem?_getD, List.getElem?_eq_getElem h]

theorem NewRel.step {w : World} {st rest : Int} {cls : List (Int × Int)} {pb ob : Nat} {sv : Value} {m : Nat} {v : Value} {wr : World} (hr : NewRel w st rest cls pb ob sv m v wr) (hm : m < cls.length)
    {x y : Int} (hx : Cf.gr cls m = x ∧ Cf.sl cls m = y) {cs : Array Value} {t : TypeId} {w2 : World} {gg cap2 : Nat}
    (hown1 : w2.ownsRow 0 67 2 (.slice (some ⟨gg, 0, none⟩) (m + 1) cap2) (m + 1) ((cls.take m).flatMap clsCells ++ [.int .i64 x, .int .i64 y]))
    (hgrow : ((wr.alloc (.cells cs t)).drew).grownBy w2 v.ownBlock) (hat : v.ownBlock = some gg ∨ gg = wr.heap.size + 1) :
    NewRel w st rest cls pb ob sv (m + 1) (.slice (some ⟨gg, 0, none⟩) (m + 1) cap2) (w2.setCell ⟨ob, 2, none⟩ (.slice (some ⟨gg, 0, none⟩) (m + 1) cap2)) := by
  have hpl := hr.pbl
  have hol := hr.obk.lt
  have hsz := hr.below.size
  have hp0 := hr.pb0
  have ho0 := hr.ob0
  have hne := hr.ne
  have hggb : w.heap.size ≤ gg ∧ gg ≠ pb ∧ gg ≠ ob := by
    rcases hat with h | h
    · exact hr.vlo gg h
    · omega
  have hsz2 := hgrow.size
  rw [World.size_drew, World.size_alloc] at hsz2
  have hpv : some pb ≠ v.ownBlock := fun e => (hr.vlo pb e.symm).2.1 rfl
  have hov : some ob ≠ v.ownBlock := fun e => (hr.vlo ob e.symm).2.2 rfl
  refine ⟨?_, hp0, ?_, ?_, ho0, hne, ?_, ?_, ?_⟩
  · refine (((hr.below.alloc (by omega) _).drew).grown hgrow (by rw [World.size_drew, World.size_alloc]; omega) (fun k hk => (hr.vlo k hk).1)).setCell ho0 _
  · rw [World.cell?_setCell_other _ _ _ _ (by intro e; injection e with e _ _; omega), hgrow.cell_far _ (by simp; omega) hpv, World.cell?_drew, World.cell?_alloc_lt _ _ _ hpl]
    exact hr.pbc
  · rw [World.size_setCell]; omega
  · have hb : Blk w2 ob 24 [.int .i64 st, .int .i64 rest, v] := by
      have e1 := hgrow.block ob (by simp; omega) hov
      have e2 : (wr.alloc (.cells cs t)).drew.heap[ob]? = wr.heap[ob]? := Below.heap_alloc wr _ ob hol
      exact (e1.trans e2).trans hr.obk
    exact hb.setCell 2 _
  · refine row_kept ?_ (fun g hg => Below.heap_setCell w2 _ _ g (by simp [Value.ownBlock] at hg; show g ≠ ob; omega))
    have e : (cls.take (m + 1)).flatMap clsCells = (cls.take m).flatMap clsCells ++ [.int .i64 x, .int .i64 y] := by
      rw [take_more clsCells cls (0, 0) m hm]
      show _ ++ [Value.int .i64 (Cf.gr cls m), Value.int .i64 (Cf.sl cls m)] = _
      rw [hx.1, hx.2]
    rw [e]; exact hown1
  · intro g hg
    simp [Value.ownBlock] at hg
    subst hg
    exact hggb

set_option maxRecDepth 100000 in
set_option maxHeartbeats 3200000 in
theorem rnew_yes (st rest : Int) (a : Option Addr) (cap : Nat) (cls : List (Int × Int)) (w : World) (h : CRow w a cap cls) (hv : Cf.Valid st rest cls) :
    Calls Try.prog 38 #[.agg #[.int .i64 st, .int .i64 rest, .slice a cls.length cap]] w fun e w' => ∃ p vc, e = .returned (.tuple #[.pointer (some ⟨p, 0, none⟩), .int .i64 0]) ∧
      RRep w' p vc (.slice none 0 0) (.slice none 0 0) ⟨st, rest, cls, [], []⟩ ∧ Below w.heap.size w w' ∧ w.heap.size ≤ p ∧ ∀ g, vc.ownBlock = some g → w.heap.size ≤ g := by
  have HC : Hid (CRow w a cap cls) := h
  have HV : Hid (Cf.Valid st rest cls) := hv
  have HB : Hid (Cf.validB st rest cls = true) := Cf.validB_of hv
  obtain ⟨g, off, rfl, hgl, hcell⟩ := h.cells hv.n0
  obtain ⟨i0, hi0, hz0, hz1, hz2⟩ := info_parts info_cls
  have hlen := h.len
  have hcap := h.cap
  have n1 := hv.n1
  unfold maxLen at hcap
  have HCL : Hid (∀ i, i < cls.length → w.cell? ⟨g, off + i * 2, none⟩ = some (.int .i64 (Cf.gr cls i)) ∧ w.cell? ⟨g, off + i * 2 + 1, none⟩ = some (.int .i64 (Cf.sl cls i))) := hcell
  clear h hv hcell
  go_enter Try.func38, Try.ntmps38
  go_wp2_with (go_at_call 77; refine (valid_any st rest _ cap cls _ (HC.out.below ((Below.refl _ _).alloc (Nat.le_refl _) _))).mono ?_; rw [HB.out]; rintro e1 w1 ⟨rfl, hb1⟩; have q0 := (hb1.cell (p := ⟨w.heap.size, 0, none⟩) (by simp)).trans (World.cell?_alloc_new _ _ _ _); have q1 := (hb1.cell (p := ⟨w.heap.size, 1, none⟩) (by simp)).trans (World.cell?_alloc_new _ _ _ _); have q2 := (hb1.cell (p := ⟨w.heap.size, 2, none⟩) (by simp)).trans (World.cell?_alloc_new _ _ _ _))
  have hs1 := hb1.size
  rw [World.size_alloc] at hs1
  go_loopw [6] (fun i wr => ∃ (m : Nat) (v : Value), m ≤ cls.length ∧ i = .int .i64 (m : Int) ∧ NewRel w st rest cls w.heap.size w1.heap.size (.slice (some ⟨g, off, none⟩) cls.length cap) m v wr) (fun i _ => cls.length - (intOf i).toNat)
  case atStart =>
    refine ⟨0, .slice none 0 0, by omega, rfl, ⟨(((Below.refl _ _).alloc (Nat.le_refl _) _).trans (hb1.mono (by simp))).alloc (by omega) _, Nat.le_refl _, ?_, ?_, by omega, by omega, Blk.alloc _ _ _, ?_, ?_⟩⟩
    · rw [World.cell?_alloc_lt _ _ _ (by show w.heap.size < _; omega)]; exact q2
    · rw [World.size_alloc]; omega
    · simpa using World.ownsRow_nil _ _ _ _
    · intro g h; cases h
  case round =>
    obtain ⟨m, v, hm, rfl, hr⟩ := hrel
    have r2 := hr.pbc
    have HRR : Hid (NewRel w st rest cls w.heap.size w1.heap.size (.slice (some ⟨g, off, none⟩) cls.length cap) m v wr) := hr
    by_cases hlt : m < cls.length
    · obtain ⟨d0, d1⟩ := HCL.out m hlt
      have d0' := (hr.below.cell (p := ⟨g, off + m * 2, none⟩) hgl).trans d0
      have d1' := (hr.below.cell (p := ⟨g, off + m * 2 + 1, none⟩) hgl).trans d1
      have o2 := hr.obk.cell (j := 2) rfl
      have of2 := hr.obk.frozen 2
      have obl := hr.obk.lt
      have pbl := hr.pbl
      have hsz := hr.below.size
      have x0 : (0 : Int) ≤ (m : Int) := by omega
      have x1 : (m : Int) < (cls.length : Int) := by omega
      have hrow : Hid (wr.ownsRow 0 67 2 v m ((cls.take m).flatMap clsCells)) := hr.row
      have vlo : Hid (∀ g, v.ownBlock = some g → w.heap.size ≤ g ∧ g ≠ w.heap.size ∧ g ≠ w1.heap.size) := hr.vlo
      generalize hgx : Cf.gr cls m = x at *
      generalize hsy : Cf.sl cls m = y at *
      have HX : Hid (Cf.gr cls m = x ∧ Cf.sl cls m = y) := ⟨hgx, hsy⟩
      clear d0 d1 hr hgx hsy q0 q1 q2
      go_wp2
      go_region_law ((refine step_append_lies _ (by rfl) _ _ _ (by rfl) 0 67 i0 _ 2 16 Try.underlying22 hi0 hz0 hz1 hz2 rfl (by omega) v m ((cls.take m).flatMap clsCells) (by rfl) ((hrow.out.alloc _).drew) ⟨wr.heap.size, 0, none⟩ 1 1 [.int .i64 x, .int .i64 y] (by rfl) (by rfl) (World.news_of_block (cs := #[.int .i64 x, .int .i64 y]) (t := 67) (fr := (0, 0)) (heap_alloc_new wr _)) (by simp [Value.oneCell']) (by omega) (by simp [maxLen]; omega) (by omega) (by simp) (wr.heap.size + 1) (by simp) ?_; intro gg cap2 w2 hown1 hgrow hat hlt2; have o2' : w2.cell? ⟨w1.heap.size, 2, none⟩ = some v := (by rw [hgrow.cell_far _ (by simp; omega) (fun e => (vlo.out _ e.symm).2.2 rfl), World.cell?_drew, World.cell?_alloc_lt _ _ _ obl]; exact o2); have of2' : w2.frozen? ⟨w1.heap.size, 2, none⟩ = false := (by rw [hgrow.frozen_far _ (by simp; omega) (fun e => (vlo.out _ e.symm).2.2 rfl), World.frozen?_drew, World.frozen?_alloc_old _ _ _ (by show w1.heap.size ≠ _; omega)]; exact of2)))
      all_goals
        go_wp2
        go_roundw
        case rel => exact ⟨m + 1, _, by omega, by go_num, HRR.out.step hlt HX.out hown1 hgrow hat⟩
        case measure => simp [intOf]; omega
    · obtain rfl : m = cls.length := by omega
      have o0 := hr.obk.cell (j := 0) rfl
      have o1 := hr.obk.cell (j := 1) rfl
      have o2 := hr.obk.cell (j := 2) rfl
      clear hr q0 q1 q2
      go_wp2
      go_ret2
      refine ⟨wr.heap.size, v, rfl, ?_, HRR.out.below.alloc HRR.out.below.size _, HRR.out.below.size, fun g hg => (HRR.out.vlo g hg).1⟩
      have hrw := HRR.out.row
      rw [List.take_length] at hrw
      refine ⟨Blk.alloc _ _ _, row_below hrw ((Below.refl _ _).alloc (Nat.le_refl _) _) (fun g hg => row_lt hrw hg), World.ownsRow_nil _ _ _ _, World.ownsRow_nil _ _ _ _, ?_, nofun, nofun, fun _ _ => nofun, fun _ _ => nofun, fun _ => nofun⟩
      intro e; have := row_lt hrw e; omega
end Go.Proofs.Ytjikemhmnkckcaa
/- 'copy' of elements of several cells into a row that is known whole. -/
namespace Go.Proofs.Ytjikemhmnkckcaa
open Go Go.RowKit

theorem run_copy_wide {P : Program} (w : World) (dT sT ty elem : TypeId) (size : Nat) (g dLen dCap : Nat) (a : Addr) (sLen sCap : Nat) (cur : Array Value) (t : TypeId) (cs : List Value)
    (hu : P.underlying dT = some (.slice elem)) (hs : (P.info? elem).map (·.size) = some size)
    (hg : w.heap[g]? = some (.cells cur t (0, 0))) (hd : sLen ≤ dLen) (hn : cs.length = sLen * size)
    (hsrc : ∀ j v, cs[j]? = some v → w.cell? (a.add j) = some v) (hfit : cs.length ≤ cur.size) (h1 : ∀ v ∈ cs, v.oneCell' = true) :
    (Builtin.copy_ #[dT, sT] ty #[.slice (some ⟨g, 0, none⟩) dLen dCap, .slice (some a) sLen sCap]).run P w =
      .ok (goInt sLen) (w.setRow g (cs ++ cur.toList.drop cs.length).toArray) := by
  have hl := run_loadCells_list (P := P) w a cs hsrc
  have hst := run_storeCells_at P g 0 t cs 0 cur w hg (by simpa using hfit) h1
  have hm : Nat.min sLen dLen = sLen := Nat.min_eq_left hd
  cases hq : P.info? elem with
  | none => simp [hq] at hs
  | some i =>
    have hi : i.size = size := by simpa [hq] using hs
    simp [Builtin.copy_, run_underlying hu, Builtin.lenOf, Builtin.firstCells, sizeOf, typeInfo, hq, hi, hm, ← hn, hl, hst]

theorem run_copy_empty {P : Program} (w : World) (dT sT ty elem : TypeId) (size : Nat) (d : Option Addr) (dLen dCap : Nat) (a : Option Addr) (sCap : Nat)
    (hu : P.underlying dT = some (.slice elem)) (hs : (P.info? elem).map (·.size) = some size) :
    (Builtin.copy_ #[dT, sT] ty #[.slice d dLen dCap, .slice a 0 sCap]).run P w = .ok (goInt 0) w := by
  cases hq : P.info? elem with
  | none => simp [hq] at hs
  | some i =>
    cases a <;> cases d <;> simp [Builtin.copy_, run_underlying hu, Builtin.lenOf, Builtin.firstCells, sizeOf, typeInfo, hq, storeCells, loadCells, loadCellsFrom]
end Go.Proofs.Ytjikemhmnkckcaa
