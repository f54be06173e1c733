import Derived.Test.YtjikemhmnkckcaaJ5
import Derived.Deep.RegionHeld3
import Derived.Deep.AppendLies
import Derived.Deep.DrawnRows
import Derived.Deep.RegionLaw
import Derived.WalkKit
import Derived.WalkSpells
namespace Go.Proofs.Ytjikemhmnkckcaa
open Go.RowKit
attribute [local go_sem ↓] Go.wp_at_zero Go.wp_at_succ

theorem info_cls : (Try.prog.info? 67).map (fun i => (i.zero, i.size, i.bytes)) = some (some (.agg #[.int .i64 0, .int .i64 0]), 2, 16) := by kernel_rfl

theorem ret_ptr {a b : Option Addr} {c d : Int} (h : a = b) (h' : c = d) : Ending.returned (.tuple #[.pointer a, .int .i64 c]) = .returned (.tuple #[.pointer b, .int .i64 d]) := by rw [h, h']

set_option maxRecDepth 100000 in
set_option maxHeartbeats 1000000 in
theorem rnew_no (st rest : Int) (a : Option Addr) (cap : Nat) (cls : List (Int × Int)) (w : World) (h : CRow w a cap cls) (hv : Cf.validB st rest cls = false) :
    Calls Try.prog 38 #[.agg #[.int .i64 st, .int .i64 rest, .slice a cls.length cap]] w fun e w' => e = .returned (.tuple #[.pointer none, .int .i64 1]) ∧ Below w.heap.size w w' := by
  have HC : Hid (CRow w a cap cls) := h
  have HV : Hid (Cf.validB st rest cls = false) := hv
  clear h hv
  go_enter Try.func38, Try.ntmps38
  go_wp2_with (go_at_call 77; refine (valid_any st rest _ cap cls _ (HC.out.below ((Below.refl _ _).alloc (Nat.le_refl _) _))).mono ?_; rw [HV.out]; rintro e1 w1 ⟨rfl, hb1⟩)
  go_ret2
  exact ⟨rfl, ((Below.refl _ _).alloc (Nat.le_refl _) _).trans (hb1.mono (by simp))⟩

/-- the document's New, within its loop -/
structure NewRel (w : World) (st rest : Int) (cls : List (Int × Int)) (pb ob : Nat) (sv : Value) (m : Nat) (v : Value) (wr : World) : Prop where
  below : Below w.heap.size w wr
  pb0 : w.heap.size ≤ pb
  pbc : wr.cell? ⟨pb, 2, none⟩ = some sv
  pbl : pb < wr.heap.size
  ob0 : w.heap.size ≤ ob
  ne : pb ≠ ob
  obk : Blk wr ob 24 [.int .i64 st, .int .i64 rest, v]
  row : wr.ownsRow 0 67 2 v m ((cls.take m).flatMap clsCells)
  vlo : ∀ g, v.ownBlock = some g → w.heap.size ≤ g ∧ g ≠ pb ∧ g ≠ ob

theorem take_more {α β : Type} (f : α → List β) (l : List α) (d : α) (m : Nat) (h : m < l.length) : (l.take (m + 1)).flatMap f = (l.take m).flatMap f ++ f (l.getD m d) := by
  rw [List.take_succ_eq_append_getElem h, List.flatMap_append]
  simp [List.getD_eq_getElem?_getD, List.getElem?_eq_getElem h]

theorem NewRel.step {w : World} {st rest : Int} {cls : List (Int × Int)} {pb ob : Nat} {sv : Value} {m : Nat} {v : Value} {wr : World} (hr : NewRel w st rest cls pb ob sv m v wr) (hm : m < cls.length)
    {x y : Int} (hx : Cf.gr cls m = x ∧ Cf.sl cls m = y) {cs : Array Value} {t : TypeId} {w2 : World} {gg cap2 : Nat}
    (hown1 : w2.ownsRow 0 67 2 (.slice (some ⟨gg, 0, none⟩) (m + 1) cap2) (m + 1) ((cls.take m).flatMap clsCells ++ [.int .i64 x, .int .i64 y]))
    (hgrow : ((wr.alloc (.cells cs t)).drew).grownBy w2 v.ownBlock) (hat : v.ownBlock = some gg ∨ gg = wr.heap.size + 1) :
    NewRel w st rest cls pb ob sv (m + 1) (.slice (some ⟨gg, 0, none⟩) (m + 1) cap2) (w2.setCell ⟨ob, 2, none⟩ (.slice (some ⟨gg, 0, none⟩) (m + 1) cap2)) := by
  have hpl := hr.pbl
  have hol := hr.obk.lt
  have hsz := hr.below.size
  have hp0 := hr.pb0
  have ho0 := hr.ob0
  have hne := hr.ne
  have hggb : w.heap.size ≤ gg ∧ gg ≠ pb ∧ gg ≠ ob := by
    rcases hat with h | h
    · exact hr.vlo gg h
    · omega
  have hsz2 := hgrow.size
  rw [World.size_drew, World.size_alloc] at hsz2
  have hpv : some pb ≠ v.ownBlock := fun e => (hr.vlo pb e.symm).2.1 rfl
  have hov : some ob ≠ v.ownBlock := fun e => (hr.vlo ob e.symm).2.2 rfl
  refine ⟨?_, hp0, ?_, ?_, ho0, hne, ?_, ?_, ?_⟩
  · refine (((hr.below.alloc (by omega) _).drew).grown hgrow (by rw [World.size_drew, World.size_alloc]; omega) (fun k hk => (hr.vlo k hk).1)).setCell ho0 _
  · rw [World.cell?_setCell_other _ _ _ _ (by intro e; injection e with e _ _; omega), hgrow.cell_far _ (by simp; omega) hpv, World.cell?_drew, World.cell?_alloc_lt _ _ _ hpl]
    exact hr.pbc
  · rw [World.size_setCell]; omega
  · have hb : Blk w2 ob 24 [.int .i64 st, .int .i64 rest, v] := by
      have e1 := hgrow.block ob (by simp; omega) hov
      have e2 : (wr.alloc (.cells cs t)).drew.heap[ob]? = wr.heap[ob]? := Below.heap_alloc wr _ ob hol
      exact (e1.trans e2).trans hr.obk
    exact hb.setCell 2 _
  · refine row_kept ?_ (fun g hg => Below.heap_setCell w2 _ _ g (by simp [Value.ownBlock] at hg; show g ≠ ob; omega))
    have e : (cls.take (m + 1)).flatMap clsCells = (cls.take m).flatMap clsCells ++ [.int .i64 x, .int .i64 y] := by
      rw [take_more clsCells cls (0, 0) m hm]
      show _ ++ [Value.int .i64 (Cf.gr cls m), Value.int .i64 (Cf.sl cls m)] = _
      rw [hx.1, hx.2]
    rw [e]; exact hown1
  · intro g hg
    simp [Value.ownBlock] at hg
    subst hg
    exact hggb

set_option maxRecDepth 100000 in
set_option maxHeartbeats 3200000 in
theorem rnew_yes (st rest : Int) (a : Option Addr) (cap : Nat) (cls : List (Int × Int)) (w : World) (h : CRow w a cap cls) (hv : Cf.Valid st rest cls) :
    Calls Try.prog 38 #[.agg #[.int .i64 st, .int .i64 rest, .slice a cls.length cap]] w fun e w' => ∃ p vc, e = .returned (.tuple #[.pointer (some ⟨p, 0, none⟩), .int .i64 0]) ∧
      RRep w' p vc (.slice none 0 0) (.slice none 0 0) ⟨st, rest, cls, [], []⟩ ∧ Below w.heap.size w w' ∧ w.heap.size ≤ p ∧ ∀ g, vc.ownBlock = some g → w.heap.size ≤ g := by
  have HC : Hid (CRow w a cap cls) := h
  have HV : Hid (Cf.Valid st rest cls) := hv
  have HB : Hid (Cf.validB st rest cls = true) := Cf.validB_of hv
  obtain ⟨g, off, rfl, hgl, hcell⟩ := h.cells hv.n0
  obtain ⟨i0, hi0, hz0, hz1, hz2⟩ := info_parts info_cls
  have hlen := h.len
  have hcap := h.cap
  have n1 := hv.n1
  unfold maxLen at hcap
  have HCL : Hid (∀ i, i < cls.length → w.cell? ⟨g, off + i * 2, none⟩ = some (.int .i64 (Cf.gr cls i)) ∧ w.cell? ⟨g, off + i * 2 + 1, none⟩ = some (.int .i64 (Cf.sl cls i))) := hcell
  clear h hv hcell
  go_enter Try.func38, Try.ntmps38
  go_wp2_with (go_at_call 77; refine (valid_any st rest _ cap cls _ (HC.out.below ((Below.refl _ _).alloc (Nat.le_refl _) _))).mono ?_; rw [HB.out]; rintro e1 w1 ⟨rfl, hb1⟩; have q0 := (hb1.cell (p := ⟨w.heap.size, 0, none⟩) (by simp)).trans (World.cell?_alloc_new _ _ _ _); have q1 := (hb1.cell (p := ⟨w.heap.size, 1, none⟩) (by simp)).trans (World.cell?_alloc_new _ _ _ _); have q2 := (hb1.cell (p := ⟨w.heap.size, 2, none⟩) (by simp)).trans (World.cell?_alloc_new _ _ _ _))
  have hs1 := hb1.size
  rw [World.size_alloc] at hs1
  go_loopw [6] (fun i wr => ∃ (m : Nat) (v : Value), m ≤ cls.length ∧ i = .int .i64 (m : Int) ∧ NewRel w st rest cls w.heap.size w1.heap.size (.slice (some ⟨g, off, none⟩) cls.length cap) m v wr) (fun i _ => cls.length - (intOf i).toNat)
  case atStart =>
    refine ⟨0, .slice none 0 0, by omega, rfl, ⟨(((Below.refl _ _).alloc (Nat.le_refl _) _).trans (hb1.mono (by simp))).alloc (by omega) _, Nat.le_refl _, ?_, ?_, by omega, by omega, Blk.alloc _ _ _, ?_, ?_⟩⟩
    · rw [World.cell?_alloc_lt _ _ _ (by show w.heap.size < _; omega)]; exact q2
    · rw [World.size_alloc]; omega
    · simpa using World.ownsRow_nil _ _ _ _
    · intro g h; cases h
  case round =>
    obtain ⟨m, v, hm, rfl, hr⟩ := hrel
    have r2 := hr.pbc
    have HRR : Hid (NewRel w st rest cls w.heap.size w1.heap.size (.slice (some ⟨g, off, none⟩) cls.length cap) m v wr) := hr
    by_cases hlt : m < cls.length
    · obtain ⟨d0, d1⟩ := HCL.out m hlt
      have d0' := (hr.below.cell (p := ⟨g, off + m * 2, none⟩) hgl).trans d0
      have d1' := (hr.below.cell (p := ⟨g, off + m * 2 + 1, none⟩) hgl).trans d1
      have o2 := hr.obk.cell (j := 2) rfl
      have of2 := hr.obk.frozen 2
      have obl := hr.obk.lt
      have pbl := hr.pbl
      have hsz := hr.below.size
      have x0 : (0 : Int) ≤ (m : Int) := by omega
      have x1 : (m : Int) < (cls.length : Int) := by omega
      have hrow : Hid (wr.ownsRow 0 67 2 v m ((cls.take m).flatMap clsCells)) := hr.row
      have vlo : Hid (∀ g, v.ownBlock = some g → w.heap.size ≤ g ∧ g ≠ w.heap.size ∧ g ≠ w1.heap.size) := hr.vlo
      generalize hgx : Cf.gr cls m = x at *
      generalize hsy : Cf.sl cls m = y at *
      have HX : Hid (Cf.gr cls m = x ∧ Cf.sl cls m = y) := ⟨hgx, hsy⟩
      clear d0 d1 hr hgx hsy q0 q1 q2
      go_wp2
      go_region_law ((refine step_append_lies _ (by rfl) _ _ _ (by rfl) 0 67 i0 _ 2 16 Try.underlying22 hi0 hz0 hz1 hz2 rfl (by omega) v m ((cls.take m).flatMap clsCells) (by rfl) ((hrow.out.alloc _).drew) ⟨wr.heap.size, 0, none⟩ 1 1 [.int .i64 x, .int .i64 y] (by rfl) (by rfl) (World.news_of_block (cs := #[.int .i64 x, .int .i64 y]) (t := 67) (fr := (0, 0)) (heap_alloc_new wr _)) (by simp [Value.oneCell']) (by omega) (by simp [maxLen]; omega) (by omega) (by simp) (wr.heap.size + 1) (by simp) ?_; intro gg cap2 w2 hown1 hgrow hat hlt2; have o2' : w2.cell? ⟨w1.heap.size, 2, none⟩ = some v := (by rw [hgrow.cell_far _ (by simp; omega) (fun e => (vlo.out _ e.symm).2.2 rfl), World.cell?_drew, World.cell?_alloc_lt _ _ _ obl]; exact o2); have of2' : w2.frozen? ⟨w1.heap.size, 2, none⟩ = false := (by rw [hgrow.frozen_far _ (by simp; omega) (fun e => (vlo.out _ e.symm).2.2 rfl), World.frozen?_drew, World.frozen?_alloc_old _ _ _ (by show w1.heap.size ≠ _; omega)]; exact of2)))
      all_goals
        go_wp2
        go_roundw
        case rel => exact ⟨m + 1, _, by omega, by go_num, HRR.out.step hlt HX.out hown1 hgrow hat⟩
        case measure => simp [intOf]; omega
    · obtain rfl : m = cls.length := by omega
      have o0 := hr.obk.cell (j := 0) rfl
      have o1 := hr.obk.cell (j := 1) rfl
      have o2 := hr.obk.cell (j := 2) rfl
      clear hr q0 q1 q2
      go_wp2
      go_ret2
      refine ⟨wr.heap.size, v, rfl, ?_, HRR.out.below.alloc HRR.out.below.size _, HRR.out.below.size, fun g hg => (HRR.out.vlo g hg).1⟩
      have hrw := HRR.out.row
      rw [List.take_length] at hrw
      refine ⟨Blk.alloc _ _ _, row_below hrw ((Below.refl _ _).alloc (Nat.le_refl _) _) (fun g hg => row_lt hrw hg), World.ownsRow_nil _ _ _ _, World.ownsRow_nil _ _ _ _, ?_, nofun, nofun, fun _ _ => nofun, fun _ _ => nofun, fun _ => nofun⟩
      intro e; have := row_lt hrw e; omega
end Go.Proofs.Ytjikemhmnkckcaa
/- 'copy' of elements of several cells into a row that is known whole. -/
namespace Go.Proofs.Ytjikemhmnkckcaa
open Go Go.RowKit

theorem run_copy_wide {P : Program} (w : World) (dT sT ty elem : TypeId) (size : Nat) (g dLen dCap : Nat) (a : Addr) (sLen sCap : Nat) (cur : Array Value) (t : TypeId) (cs : List Value)
    (hu : P.underlying dT = some (.slice elem)) (hs : (P.info? elem).map (·.size) = some size)
    (hg : w.heap[g]? = some (.cells cur t (0, 0))) (hd : sLen ≤ dLen) (hn : cs.length = sLen * size)
    (hsrc : ∀ j v, cs[j]? = some v → w.cell? (a.add j) = some v) (hfit : cs.length ≤ cur.size) (h1 : ∀ v ∈ cs, v.oneCell' = true) :
    (Builtin.copy_ #[dT, sT] ty #[.slice (some ⟨g, 0, none⟩) dLen dCap, .slice (some a) sLen sCap]).run P w =
      .ok (goInt sLen) (w.setRow g (cs ++ cur.toList.drop cs.length).toArray) := by
  have hl := run_loadCells_list (P := P) w a cs hsrc
  have hst := run_storeCells_at P g 0 t cs 0 cur w hg (by simpa using hfit) h1
  have hm : Nat.min sLen dLen = sLen := Nat.min_eq_left hd
  cases hq : P.info? elem with
  | none => simp [hq] at hs
  | some i =>
    have hi : i.size = size := by simpa [hq] using hs
    simp [Builtin.copy_, run_underlying hu, Builtin.lenOf, Builtin.firstCells, sizeOf, typeInfo, hq, hi, hm, ← hn, hl, hst]

theorem run_copy_empty {P : Program} (w : World) (dT sT ty elem : TypeId) (size : Nat) (d : Option Addr) (dLen dCap : Nat) (a : Option Addr) (sCap : Nat)
    (hu : P.underlying dT = some (.slice elem)) (hs : (P.info? elem).map (·.size) = some size) :
    (Builtin.copy_ #[dT, sT] ty #[.slice d dLen dCap, .slice a 0 sCap]).run P w = .ok (goInt 0) w := by
  cases hq : P.info? elem with
  | none => simp [hq] at hs
  | some i =>
    cases a <;> cases d <;> simp [Builtin.copy_, run_underlying hu, Builtin.lenOf, Builtin.firstCells, sizeOf, typeInfo, hq, storeCells, loadCells, loadCellsFrom]
end Go.Proofs.Ytjikemhmnkckcaa
namespace Go.Proofs.Ytjikemhmnkckcaa
open Go.RowKit
attribute [local go_sem ↓] Go.wp_at_zero Go.wp_at_succ

theorem add_lit (g off j : Nat) : (⟨g, off, none⟩ : Addr).add j = ⟨g, off + j, none⟩ := by unfold Addr.add; split <;> simp_all

/-- what the owner of the handed list holds: the classes and two more -/
def room4 : List Value := [.int .i64 77, .int .i64 77, .int .i64 77, .int .i64 77]

/-- the cells of a list of classes as the reader has them -/
theorem ccells_flat {w : World} {g off : Nat} {cls : List (Int × Int)} (hc : ∀ i, i < cls.length → w.cell? ⟨g, off + i * 2, none⟩ = some (.int .i64 (Cf.gr cls i)) ∧ w.cell? ⟨g, off + i * 2 + 1, none⟩ = some (.int .i64 (Cf.sl cls i))) :
    ∀ j v, (cls.flatMap clsCells)[j]? = some v → w.cell? ((⟨g, off, none⟩ : Addr).add j) = some v := by
  intro j v hv
  have hj : j < cls.length * 2 := by
    have := flat_len clsCells 2 (fun _ => rfl) cls
    rcases Nat.lt_or_ge j (cls.flatMap clsCells).length with h | h
    · omega
    · rw [List.getElem?_eq_none h] at hv; cases hv
  have e : j = j / 2 * 2 + j % 2 := by omega
  have hi : j / 2 < cls.length := by omega
  have hf := flat_get clsCells 2 (fun _ => rfl) cls (j / 2) (j % 2) (by omega)
  rw [← e, hv, List.getElem?_eq_getElem hi] at hf
  have hd := hc (j / 2) hi
  rw [add_lit]
  have hcl : cls[j / 2] = cls.getD (j / 2) (0, 0) := by simp [List.getD_eq_getElem?_getD, List.getElem?_eq_getElem hi]
  rw [hcl] at hf
  rcases (show j % 2 = 0 ∨ j % 2 = 1 by omega) with h | h
  · rw [h] at hf; simp only [Option.bind_some, clsCells] at hf
    rw [show off + j = off + j / 2 * 2 by omega, hd.1]
    simpa [Cf.gr] using hf.symm
  · rw [h] at hf; simp only [Option.bind_some, clsCells] at hf
    rw [show off + j = off + j / 2 * 2 + 1 by omega, hd.2]
    simpa [Cf.sl] using hf.symm

set_option maxRecDepth 100000 in
set_option maxHeartbeats 3200000 in
theorem handed_any (st rest : Int) (a : Option Addr) (cap : Nat) (cls : List (Int × Int)) (w : World) (h : CRow w a cap cls) (hreach : cls.length * 16 ≤ 140737488351232) :
    Calls Try.prog 36 #[.agg #[.int .i64 st, .int .i64 rest, .slice a cls.length cap]] w fun e w' => ∃ L, e = .returned (.agg #[.int .i64 st, .int .i64 rest, .slice (some ⟨L, 0, none⟩) cls.length (cls.length + 2)]) ∧
      Below w.heap.size w w' ∧ w.heap.size ≤ L ∧ Blk w' L 67 (cls.flatMap clsCells ++ room4) := by
  obtain ⟨i0, hi0, hz0, hz1, hz2⟩ := info_parts info_cls
  have hlen := h.len
  have hcap := h.cap
  unfold maxLen at hcap
  -- the new list
  obtain ⟨mc, hmc, hmk⟩ : ∃ mc : List Value, mc.length = (cls.length + 2) * 2 ∧ ∀ w : World, (Instr.makeSlice 22 (.int .i64 ((cls.length : Int) + 2)) (.int .i64 ((cls.length : Int) + 2))).run Try.prog w = .ok (.slice (some ⟨w.heap.size, 0, none⟩) (cls.length + 2) (cls.length + 2)) (w.alloc (.cells mc.toArray 67)) := by
    refine ⟨(madeCells #[.int .i64 0, .int .i64 0] ((cls.length + 2) * 2)).toList, by simp [size_madeCells], fun w => ?_⟩
    have hr := run_make (P := Try.prog) w 22 67 i0 (.agg #[.int .i64 0, .int .i64 0]) Try.underlying22 hi0 hz0 .i64 .i64 ((cls.length : Int) + 2) ((cls.length : Int) + 2) (by omega) (by omega) (by rw [hz2]; omega) (by omega)
    rw [hr, hz1]
    simp [show ((cls.length : Int) + 2).toNat = cls.length + 2 by omega, Value.cells]
  have hsz : (Try.prog.info? 67).map (·.size) = some 2 := by rw [hi0]; simp [hz1]
  have hfl := flat_len clsCells 2 (fun _ => rfl) cls
  obtain ⟨t0, t1, t2, t3, htail⟩ : ∃ t0 t1 t2 t3, mc.drop (cls.length * 2) = [t0, t1, t2, t3] := by
    have hl : (mc.drop (cls.length * 2)).length = 4 := by rw [List.length_drop]; omega
    match hm : mc.drop (cls.length * 2), hl with
    | [t0, t1, t2, t3], _ => exact ⟨t0, t1, t2, t3, rfl⟩
  -- the copy
  obtain ⟨W3, hW3⟩ : ∃ W3 : World, W3 = ((w.alloc (.cells #[.int .i64 st, .int .i64 rest, .slice a cls.length cap] 24)).alloc (.cells #[.int .i64 0, .int .i64 0, .slice none 0 0] 24)).alloc (.cells mc.toArray 67) := ⟨_, rfl⟩
  have hs3 : W3.heap.size = w.heap.size + 3 := by rw [hW3]; simp
  have k3 : Below w.heap.size w W3 := by rw [hW3]; exact (((Below.refl _ _).alloc (Nat.le_refl _) _).alloc (by simp) _).alloc (by simp; omega) _
  have k0 : Blk W3 w.heap.size 24 [.int .i64 st, .int .i64 rest, .slice a cls.length cap] := by
    rw [hW3]
    exact ((Below.heap_alloc _ _ _ (by simp; omega)).trans (Below.heap_alloc _ _ _ (by simp))).trans (heap_alloc_new w _)
  have k1 : Blk W3 (w.heap.size + 1) 24 [.int .i64 0, .int .i64 0, .slice none 0 0] := by
    rw [hW3]
    refine (Below.heap_alloc _ _ _ (by simp)).trans ?_
    rw [show w.heap.size + 1 = (w.alloc (.cells #[.int .i64 st, .int .i64 rest, .slice a cls.length cap] 24)).heap.size by simp]
    exact heap_alloc_new _ _
  have k2 : Blk W3 (w.heap.size + 1 + 1) 67 mc := by
    rw [hW3]
    rw [show w.heap.size + 1 + 1 = ((w.alloc (.cells #[.int .i64 st, .int .i64 rest, .slice a cls.length cap] 24)).alloc (.cells #[.int .i64 0, .int .i64 0, .slice none 0 0] 24)).heap.size by simp]
    exact heap_alloc_new _ _
  obtain ⟨W4, hrun, hs4, m0, m1, m2, k4⟩ : ∃ W4 : World, (Builtin.copy_ #[22, 22] 3 #[.slice (some ⟨w.heap.size + 1 + 1, 0, none⟩) (cls.length + 2) (cls.length + 2), .slice a cls.length cap]).run Try.prog W3 = .ok (goInt cls.length) W4 ∧ W4.heap.size = w.heap.size + 3 ∧
      Blk W4 w.heap.size 24 [.int .i64 st, .int .i64 rest, .slice a cls.length cap] ∧ Blk W4 (w.heap.size + 1) 24 [.int .i64 0, .int .i64 0, .slice none 0 0] ∧ Blk W4 (w.heap.size + 1 + 1) 67 (cls.flatMap clsCells ++ [t0, t1, t2, t3]) ∧ Below w.heap.size w W4 := by
    by_cases hn0 : cls.length = 0
    · have hcl : cls = [] := List.eq_nil_of_length_eq_zero hn0
      subst hcl
      refine ⟨W3, run_copy_empty W3 _ _ _ 67 2 _ _ _ _ _ Try.underlying22 hsz, hs3, k0, k1, ?_, k3⟩
      have : mc = [t0, t1, t2, t3] := by simpa using htail
      rw [← this]; simpa using k2
    · obtain ⟨g, off, ha, hg, hc⟩ := h.cells (by omega)
      subst ha
      have hc3 := fun i hi => (⟨(k3.cell (p := ⟨g, off + i * 2, none⟩) hg).trans (hc i hi).1, (k3.cell (p := ⟨g, off + i * 2 + 1, none⟩) hg).trans (hc i hi).2⟩ : W3.cell? ⟨g, off + i * 2, none⟩ = some (.int .i64 (Cf.gr cls i)) ∧ W3.cell? ⟨g, off + i * 2 + 1, none⟩ = some (.int .i64 (Cf.sl cls i)))
      have hrn := run_copy_wide (P := Try.prog) W3 22 22 3 67 2 (w.heap.size + 1 + 1) (cls.length + 2) (cls.length + 2) ⟨g, off, none⟩ cls.length cap mc.toArray 67 (cls.flatMap clsCells) Try.underlying22 hsz k2 (by omega) hfl (ccells_flat hc3) (by rw [hfl]; simp [hmc]; omega) (by intro v hv; simp only [List.mem_flatMap, clsCells] at hv; obtain ⟨x, _, hv⟩ := hv; simp at hv; rcases hv with rfl | rfl <;> rfl)
      rw [hfl, htail] at hrn
      refine ⟨_, hrn, by simp [World.setRow, hs3], ?_, ?_, setRow_heap W3 _ _ _ _ _ k2, k3.trans ⟨rfl, rfl, rfl, by simp [World.setRow], fun k hk => setRow_other W3 _ k _ (by omega)⟩⟩
      · exact (setRow_other W3 _ _ _ (by omega)).trans k0
      · exact (setRow_other W3 _ _ _ (by omega)).trans k1
  rw [hW3] at hrun
  have hL : (cls.flatMap clsCells ++ [t0, t1, t2, t3]).length = cls.length * 2 + 4 := by simp [hfl]
  have n0 := m2.cell (j := cls.length * 2) (v := t0) (by rw [List.getElem?_append_right (by omega)]; simp [hfl])
  have n1 := m2.cell (j := cls.length * 2 + 1) (v := t1) (by rw [List.getElem?_append_right (by omega)]; simp [hfl])
  have n2 := m2.cell (j := (cls.length + 1) * 2) (v := t2) (by rw [List.getElem?_append_right (by omega), hfl, show (cls.length + 1) * 2 - cls.length * 2 = 2 by omega]; rfl)
  have n3 := m2.cell (j := (cls.length + 1) * 2 + 1) (v := t3) (by rw [List.getElem?_append_right (by omega), hfl, show (cls.length + 1) * 2 + 1 - cls.length * 2 = 3 by omega]; rfl)
  have f0 := m2.frozen (cls.length * 2)
  have f1 := m2.frozen (cls.length * 2 + 1)
  have f2 := m2.frozen ((cls.length + 1) * 2)
  have f3 := m2.frozen ((cls.length + 1) * 2 + 1)
  have p0 := m0.cell (j := 0) rfl
  have p1 := m0.cell (j := 1) rfl
  have r0 := m1.cell (j := 0) rfl
  have r1 := m1.cell (j := 1) rfl
  have r2 := m1.cell (j := 2) rfl
  have rf0 := m1.frozen 0
  have rf1 := m1.frozen 1
  have rf2 := m1.frozen 2
  have M2 : Hid (Blk W4 (w.heap.size + 1 + 1) 67 (cls.flatMap clsCells ++ [t0, t1, t2, t3])) := m2
  have K4 : Hid (Below w.heap.size w W4) := k4
  have a1 : ((cls.length : Int) + 1).toNat = cls.length + 1 := by omega
  clear h k0 k1 k2 k3 hW3 m0 m1 m2 k4 hs3 htail hmc hi0 hz0 hz1 hz2 hsz
  go_enter Try.func36, Try.ntmps36
  go_wp2_with fail
  obtain ⟨W5, hW5⟩ : ∃ W5, W5 = (((W4.setCell ⟨w.heap.size + 1 + 1, cls.length * 2, none⟩ (.int .i64 77)).setCell ⟨w.heap.size + 1 + 1, cls.length * 2 + 1, none⟩ (.int .i64 77)).setCell ⟨w.heap.size + 1 + 1, (cls.length + 1) * 2, none⟩ (.int .i64 77)).setCell ⟨w.heap.size + 1 + 1, (cls.length + 1) * 2 + 1, none⟩ (.int .i64 77) := ⟨_, rfl⟩
  rw [← hW5]
  have M5 : Hid (Blk W5 (w.heap.size + 1 + 1) 67 (cls.flatMap clsCells ++ room4)) := by
    have e := (((M2.out.setCell (cls.length * 2) (.int .i64 77)).setCell (cls.length * 2 + 1) (.int .i64 77)).setCell ((cls.length + 1) * 2) (.int .i64 77)).setCell ((cls.length + 1) * 2 + 1) (.int .i64 77)
    rw [← hW5] at e
    have e2 : ((((cls.flatMap clsCells ++ [t0, t1, t2, t3]).set (cls.length * 2) (.int .i64 77)).set (cls.length * 2 + 1) (.int .i64 77)).set ((cls.length + 1) * 2) (.int .i64 77)).set ((cls.length + 1) * 2 + 1) (.int .i64 77) = cls.flatMap clsCells ++ room4 := by
      rw [List.set_append_right _ _ (by omega), List.set_append_right _ _ (by omega), List.set_append_right _ _ (by omega), List.set_append_right _ _ (by omega), hfl,
        show cls.length * 2 - cls.length * 2 = 0 by omega, show cls.length * 2 + 1 - cls.length * 2 = 1 by omega, show (cls.length + 1) * 2 - cls.length * 2 = 2 by omega, show (cls.length + 1) * 2 + 1 - cls.length * 2 = 3 by omega]
      rfl
    rw [e2] at e
    exact e
  have K5 : Hid (Below w.heap.size w W5) := by
    rw [hW5]
    exact (((K4.out.setCell (by show _ ≤ w.heap.size + 1 + 1; omega) _).setCell (by show _ ≤ w.heap.size + 1 + 1; omega) _).setCell (by show _ ≤ w.heap.size + 1 + 1; omega) _).setCell (by show _ ≤ w.heap.size + 1 + 1; omega) _
  have ho : ∀ b j, b ≠ w.heap.size + 1 + 1 → W5.cell? ⟨b, j, none⟩ = W4.cell? ⟨b, j, none⟩ := fun b j hb => by
    rw [hW5, World.cell?_setCell_other _ _ _ _ (by intro e; injection e with e _ _; omega), World.cell?_setCell_other _ _ _ _ (by intro e; injection e with e _ _; omega), World.cell?_setCell_other _ _ _ _ (by intro e; injection e with e _ _; omega), World.cell?_setCell_other _ _ _ _ (by intro e; injection e with e _ _; omega)]
  have hf : ∀ a, W5.frozen? a = W4.frozen? a := fun a => by rw [hW5]; simp
  have p0' := (ho w.heap.size 0 (by omega)).trans p0
  have p1' := (ho w.heap.size 1 (by omega)).trans p1
  have r0' := (ho (w.heap.size + 1) 0 (by omega)).trans r0
  have r1' := (ho (w.heap.size + 1) 1 (by omega)).trans r1
  have r2' := (ho (w.heap.size + 1) 2 (by omega)).trans r2
  have rf0' := (hf _).trans rf0
  have rf1' := (hf _).trans rf1
  have rf2' := (hf _).trans rf2
  clear hW5 ho hf p0 p1 r0 r1 r2 rf0 rf1 rf2 n0 n1 n2 n3 f0 f1 f2 f3 hmk hrun M2 K4
  have x0 : (0 : Int) ≤ (cls.length : Int) := by omega
  have x1 : (cls.length : Int) ≤ (cls.length : Int) + 2 := by omega
  go_region
  all_goals go_wp2
  refine bodyPost_ret (v := .agg #[.int .i64 st, .int .i64 rest, .slice (some ⟨w.heap.size + 1 + 1, 0, none⟩) cls.length (cls.length + 2)]) (by simp [results, Try.results36, go_sem, r0', r1', r2']) rfl ⟨w.heap.size + 1 + 1, rfl, ?_, by omega, ?_⟩
  · exact ((K5.out.drew.setCell (by show _ ≤ w.heap.size + 1; omega) _).setCell (by show _ ≤ w.heap.size + 1; omega) _).setCell (by show _ ≤ w.heap.size + 1; omega) _
  · have e : Blk W5.drew (w.heap.size + 1 + 1) 67 (cls.flatMap clsCells ++ room4) := M5.out
    exact ((e.setCell_other _ _ (by show _ ≠ w.heap.size + 1; omega)).setCell_other _ _ (by show _ ≠ w.heap.size + 1; omega)).setCell_other _ _ (by show _ ≠ w.heap.size + 1; omega)
end Go.Proofs.Ytjikemhmnkckcaa
