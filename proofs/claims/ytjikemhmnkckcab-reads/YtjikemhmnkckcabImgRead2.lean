import Derived.Test.YtjikemhmnkckcabImgRead1
import Derived.Test.YtjikemhmnkckcabImgLaw2
import Derived.Test.YtjikemhmnkckcabRefNew
/- The document's Read: at; the box that fills. -/
namespace Go.Proofs.Ytjikemhmnkckcab
open Go.RowKit

set_option maxRecDepth 100000 in
set_option maxHeartbeats 800000 in
theorem at_nat (d : ByteArray) (k : Nat) (w : World) : Calls Try.prog 26 #[.string d, .int .i64 (k : Int)] w fun e w' => e = .returned (.int .i64 (byteAt d k)) ∧ w = w' := by
  by_cases h : k < d.size
  · have hI : (k : Int) < (d.size : Int) := by omega
    have hv : byteAt d k = (d[k].toNat : Int) := byteAt_lt h
    have hb := byteAt_bd d k
    rw [hv] at hb
    have HV := hide2 hv
    clear hv
    go_enter Try.func26, Try.ntmps26
    go_wp2
    go_ret
    exact ⟨by rw [HV.out]; rfl, rfl⟩
  · have hI : (d.size : Int) ≤ (k : Int) := by omega
    have HV := hide2 (byteAt_ge (d := d) (k := k) (by omega))
    go_enter Try.func26, Try.ntmps26
    go_wp2
    go_ret
    exact ⟨by rw [HV.out]; rfl, rfl⟩
theorem at_any (d : ByteArray) (k : Int) (w : World) (h : 0 ≤ k) : Calls Try.prog 26 #[.string d, .int .i64 k] w fun e w' => e = .returned (.int .i64 (byteAt d k.toNat)) ∧ w = w' := by
  obtain ⟨n, rfl⟩ := Int.eq_ofNat_of_zero_le h
  exact at_nat d n w

theorem own_lt {w : World} {e : TypeId} {m : Nat} {v : Value} {n : Nat} {xs : List Value} (h : w.ownsRow 0 e m v n xs) : ∀ g, v.ownBlock = some g → g < w.heap.size := fun g hg => by
  rcases h.2 with ⟨rfl, _⟩ | ⟨g', cap, cur, rfl, _, hgg, _⟩
  · simp [Value.ownBlock] at hg
  · simp [Value.ownBlock] at hg
    subst hg
    exact (Array.getElem?_eq_some_iff.1 hgg).1

/-- A program's box that fills: its classes and its instructions are rows of its own. -/
structure PBox (B : Nat) (w wr : World) (pb : Nat) (st rest : Int) (d : ByteArray) (vc vi : Value) (cls : List (Int × Int)) (code : List Ins) : Prop where
  below : Below B w wr
  blk : Blk wr pb 27 [.int .i64 st, .int .i64 rest, vc, .string d, vi]
  crow : wr.ownsRow 0 37 2 vc cls.length (cls.flatMap clsCells)
  irow : wr.ownsRow 0 35 4 vi code.length (code.flatMap insCells)
  base : B ≤ pb
  cfar : ∀ g, vc.ownBlock = some g → pb < g
  ifar : ∀ g, vi.ownBlock = some g → pb < g
  apart : ∀ g, vc.ownBlock = some g → vi.ownBlock ≠ some g

section
variable {B : Nat} {w wr : World} {pb : Nat} {st rest : Int} {d : ByteArray} {vc vi : Value} {cls : List (Int × Int)} {code : List Ins}
theorem PBox.under {wx : World} (h : PBox B w wr pb st rest d vc vi cls code) (hx : Below wr.heap.size wr wx) : PBox B w wx pb st rest d vc vi cls code :=
  ⟨h.below.trans (hx.mono (by have := h.base; have := h.blk.lt; omega)), h.blk.below hx h.blk.lt, row_below h.crow hx (own_lt h.crow), row_below h.irow hx (own_lt h.irow), h.base, h.cfar, h.ifar, h.apart⟩
theorem PBox.num {j : Nat} {wx : World} (h : PBox B w wr pb st rest d vc vi cls code) (v : Value) (hx : wx = wr.setCell ⟨pb, j, none⟩ v) (st' rest' : Int) (d' : ByteArray) (he : ([.int .i64 st, .int .i64 rest, vc, .string d, vi] : List Value).set j v = [.int .i64 st', .int .i64 rest', vc, .string d', vi]) :
    PBox B w wx pb st' rest' d' vc vi cls code := by
  subst hx
  have hb := h.blk.setCell j v
  rw [he] at hb
  exact ⟨h.below.setCell h.base _, hb, row_kept h.crow (fun g hg => Below.heap_setCell wr _ _ g (by have := h.cfar g hg; show g ≠ pb; omega)), row_kept h.irow (fun g hg => Below.heap_setCell wr _ _ g (by have := h.ifar g hg; show g ≠ pb; omega)), h.base, h.cfar, h.ifar, h.apart⟩
/-- A class is appended, and the new row stored. -/
theorem PBox.addC {wx w2 : World} {g cap : Nat} {c : Int × Int} (h : PBox B w wr pb st rest d vc vi cls code) (hx : Below wr.heap.size wr wx) (hown : w2.ownsRow 0 37 2 (.slice (some ⟨g, 0, none⟩) (cls.length + 1) cap) (cls.length + 1) (cls.flatMap clsCells ++ clsCells c))
    (hgrow : wx.grownBy w2 vc.ownBlock) (hat : vc.ownBlock = some g ∨ wr.heap.size ≤ g) : PBox B w (w2.setCell ⟨pb, 2, none⟩ (.slice (some ⟨g, 0, none⟩) (cls.length + 1) cap)) pb st rest d (.slice (some ⟨g, 0, none⟩) (cls.length + 1) cap) vi (cls ++ [c]) code := by
  have hu := h.under hx
  have hpl := h.blk.lt
  have hxs := hx.size
  have hgp : pb < g := by
    rcases hat with e | e
    · exact h.cfar g e
    · omega
  have hblk : Blk w2 pb 27 [.int .i64 st, .int .i64 rest, vc, .string d, vi] := (hgrow.block pb (by omega) (fun e => by have := h.cfar pb e.symm; omega)).trans hu.blk
  have hbel : Below B w w2 := ⟨by rw [hgrow.os, hu.below.os], by rw [hgrow.tape, hu.below.tape], by rw [hgrow.output, hu.below.output], Nat.le_trans hu.below.size hgrow.size, fun k hk => (hgrow.block k (by have := h.base; omega) (fun e => by have := h.cfar k e.symm; have := h.base; omega)).trans (hu.below.block k hk)⟩
  refine ⟨hbel.setCell h.base _, hblk.setCell 2 _, ?_, ?_, h.base, fun g' hg' => ?_, h.ifar, fun g' hg' => ?_⟩
  · refine row_kept ?_ (fun g' hg' => Below.heap_setCell w2 _ _ g' (by simp [Value.ownBlock] at hg'; show g' ≠ pb; omega))
    simpa using hown
  · refine row_kept (row_kept hu.irow (fun g' hg' => hgrow.block g' (own_lt hu.irow g' hg') (fun e => h.apart g' e.symm hg'))) (fun g' hg' => Below.heap_setCell w2 _ _ g' (by have := h.ifar g' hg'; show g' ≠ pb; omega))
  · simp [Value.ownBlock] at hg'; omega
  · simp [Value.ownBlock] at hg'
    subst hg'
    rcases hat with e | e
    · exact h.apart g e
    · intro e2; have := own_lt h.irow g e2; omega
/-- An instruction is. -/
theorem PBox.addI {wx w2 : World} {g cap : Nat} {c : Ins} (h : PBox B w wr pb st rest d vc vi cls code) (hx : Below wr.heap.size wr wx) (hown : w2.ownsRow 0 35 4 (.slice (some ⟨g, 0, none⟩) (code.length + 1) cap) (code.length + 1) (code.flatMap insCells ++ insCells c))
    (hgrow : wx.grownBy w2 vi.ownBlock) (hat : vi.ownBlock = some g ∨ wr.heap.size ≤ g) : PBox B w (w2.setCell ⟨pb, 4, none⟩ (.slice (some ⟨g, 0, none⟩) (code.length + 1) cap)) pb st rest d vc (.slice (some ⟨g, 0, none⟩) (code.length + 1) cap) cls (code ++ [c]) := by
  have hu := h.under hx
  have hpl := h.blk.lt
  have hxs := hx.size
  have hgp : pb < g := by
    rcases hat with e | e
    · exact h.ifar g e
    · omega
  have hblk : Blk w2 pb 27 [.int .i64 st, .int .i64 rest, vc, .string d, vi] := (hgrow.block pb (by omega) (fun e => by have := h.ifar pb e.symm; omega)).trans hu.blk
  have hbel : Below B w w2 := ⟨by rw [hgrow.os, hu.below.os], by rw [hgrow.tape, hu.below.tape], by rw [hgrow.output, hu.below.output], Nat.le_trans hu.below.size hgrow.size, fun k hk => (hgrow.block k (by have := h.base; omega) (fun e => by have := h.ifar k e.symm; have := h.base; omega)).trans (hu.below.block k hk)⟩
  refine ⟨hbel.setCell h.base _, hblk.setCell 4 _, ?_, ?_, h.base, h.cfar, fun g' hg' => ?_, fun g' hg' => ?_⟩
  · refine row_kept (row_kept hu.crow (fun g' hg' => hgrow.block g' (own_lt hu.crow g' hg') (fun e => h.apart g' hg' e.symm))) (fun g' hg' => Below.heap_setCell w2 _ _ g' (by have := h.cfar g' hg'; show g' ≠ pb; omega))
  · refine row_kept ?_ (fun g' hg' => Below.heap_setCell w2 _ _ g' (by simp [Value.ownBlock] at hg'; show g' ≠ pb; omega))
    simpa using hown
  · simp [Value.ownBlock] at hg'; omega
  · simp [Value.ownBlock]
    intro e2
    subst e2
    rcases hat with e | e
    · exact h.apart g hg' e
    · have := own_lt h.crow g hg'; omega
theorem IRow.of_row {w : World} {v : Value} {code : List Ins} (h : w.ownsRow 0 35 4 v code.length (code.flatMap insCells)) : ∃ a cap, v = .slice a code.length cap ∧ IRow w a cap code := by
  obtain ⟨a, cap, rfl, h1, h2, h3⟩ := row_open h
  refine ⟨a, cap, rfl, h1, h2, fun h0 => ?_⟩
  obtain ⟨g, ha, hg, hc, _⟩ := h3 h0
  refine ⟨g, 0, ha, hg, fun i hi => ?_⟩
  have := ins_cells hc i hi
  simp only [Nat.zero_add]
  exact this
end
/-- The rows of a program that was read: new, and apart. -/
structure Rows2 (w' : World) (B : Nat) (vc vi : Value) (cls : List (Int × Int)) (code : List Ins) : Prop where
  crow : w'.ownsRow 0 37 2 vc cls.length (cls.flatMap clsCells)
  irow : w'.ownsRow 0 35 4 vi code.length (code.flatMap insCells)
  cfar : ∀ g, vc.ownBlock = some g → B ≤ g
  ifar : ∀ g, vi.ownBlock = some g → B ≤ g
  apart : ∀ g, vc.ownBlock = some g → vi.ownBlock ≠ some g
theorem Rows2.kept {w w' : World} {B : Nat} {vc vi : Value} {cls : List (Int × Int)} {code : List Ins} (h : Rows2 w B vc vi cls code) (hk : ∀ g, B ≤ g → g < w.heap.size → w'.heap[g]? = w.heap[g]?) : Rows2 w' B vc vi cls code :=
  ⟨row_kept h.crow (fun g hg => hk g (h.cfar g hg) (own_lt h.crow g hg)), row_kept h.irow (fun g hg => hk g (h.ifar g hg) (own_lt h.irow g hg)), h.cfar, h.ifar, h.apart⟩
theorem Rows2.le {w : World} {B B' : Nat} {vc vi : Value} {cls : List (Int × Int)} {code : List Ins} (h : Rows2 w B vc vi cls code) (hb : B' ≤ B) : Rows2 w B' vc vi cls code :=
  ⟨h.crow, h.irow, fun g hg => Nat.le_trans hb (h.cfar g hg), fun g hg => Nat.le_trans hb (h.ifar g hg), h.apart⟩

theorem rows2_nil (w : World) (B : Nat) : Rows2 w B (.slice none 0 0) (.slice none 0 0) [] [] := ⟨⟨rfl, .inl ⟨rfl, rfl⟩⟩, ⟨rfl, .inl ⟨rfl, rfl⟩⟩, fun g hg => by simp [Value.ownBlock] at hg, fun g hg => by simp [Value.ownBlock] at hg, fun g hg => by simp [Value.ownBlock] at hg⟩

end Go.Proofs.Ytjikemhmnkckcab
