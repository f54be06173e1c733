import Derived.Test.YtjikemhmnkckcabGreatJ34
import Derived.Test.YtjikemhmnkckcabGreatJ33
import Derived.Deep.CutRange
import Derived.Test.YtjikemhmnkckcabGreatJ3
/- The program's Write of a valid program. -/
namespace Go.Proofs.YtjikemhmnkckcabGreat
open Go.RowKit

set_option maxRecDepth 100000 in
set_option maxHeartbeats 800000 in
theorem gwrite_yes (st rest : Int) (a : Option Addr) (cap : Nat) (cls : List (Int × Int)) (d : ByteArray) (ia : Option Addr) (icap : Nat) (code : List Ins) (w : World) (h : CRow w a cap cls) (hi : IRow w ia icap code) (hs : soundB st rest cls d.size code = true) :
    Calls Tryz.prog 24 #[.agg #[.int .i64 st, .int .i64 rest, .slice a cls.length cap, .string d, .slice ia code.length icap]] w fun e w' => e = .returned (.tuple #[.string (img4 st rest cls d code code.length), .int .i64 0]) ∧ Below w.heap.size w w' := by
  have HC := hide2 h
  have HI := hide2 hi
  have HS := hide2 hs
  clear h hi hs
  go_enter Tryz.func24, Tryz.ntmps24
  go_wp2_with fail
  obtain ⟨wa, hwa⟩ : ∃ wa, wa = w.alloc (.cells #[.int .i64 st, .int .i64 rest, .slice a cls.length cap, .string d, .slice ia code.length icap] 39) := ⟨_, rfl⟩
  rw [← hwa]
  have HBA : Hid (Below w.heap.size w wa) := by show Below _ _ _; rw [hwa]; exact (Below.refl _ _).alloc (Nat.le_refl _) _
  have HP : Hid (Blk wa w.heap.size 39 [.int .i64 st, .int .i64 rest, .slice a cls.length cap, .string d, .slice ia code.length icap]) := by show Blk _ _ _ _; rw [hwa]; exact Blk.alloc _ _ _
  clear hwa
  refine (validProgram_any st rest a cap cls d ia icap code _ (HC.out.below HBA.out) (HI.out.below HBA.out)).mono ?_
  rw [HS.out]
  rintro e1 w1 ⟨rfl, hb1⟩
  have HP1 := hide2 (HP.out.below hb1 HP.out.lt)
  have HB : Hid (Below w.heap.size w w1) := HBA.out.trans (hb1.mono HBA.out.size)
  clear hb1 HP HBA
  have p0 := HP1.out.cell (j := 0) rfl
  have p1 := HP1.out.cell (j := 1) rfl
  have p2 := HP1.out.cell (j := 2) rfl
  have p3 := HP1.out.cell (j := 3) rfl
  have p4 := HP1.out.cell (j := 4) rfl
  go_wp2_with fail
  refine (image_any st rest a cap cls d ia icap code _ (HC.out.below HB.out) (HI.out.below HB.out) HS.out).mono ?_
  rintro e2 w2 ⟨rfl, hb2⟩
  have HB2 := hide2 (HB.out.trans (hb2.mono HB.out.size))
  clear hb2 p0 p1 p2 p3 p4
  go_wp2
  go_ret2
  exact ⟨rfl, HB2.out⟩
end Go.Proofs.YtjikemhmnkckcabGreat
/- The law of Write. -/
namespace Go.Proofs.YtjikemhmnkckcabGreat
open Go.RowKit
attribute [local go_sem ↓] Go.wp_at_zero Go.wp_at_succ

/-- What Write answers. -/
def wImg (st rest : Int) (cls : List (Int × Int)) (d : ByteArray) (code : List Ins) : ByteArray := if soundB st rest cls d.size code = true then img4 st rest cls d code code.length else ⟨#[]⟩
def wErr (st rest : Int) (cls : List (Int × Int)) (d : ByteArray) (code : List Ins) : Int := if soundB st rest cls d.size code = true then 0 else 10

theorem gwrite_any (st rest : Int) (a : Option Addr) (cap : Nat) (cls : List (Int × Int)) (d : ByteArray) (ia : Option Addr) (icap : Nat) (code : List Ins) (w : World) (h : CRow w a cap cls) (hi : IRow w ia icap code) :
    Calls Tryz.prog 24 #[.agg #[.int .i64 st, .int .i64 rest, .slice a cls.length cap, .string d, .slice ia code.length icap]] w fun e w' => e = .returned (.tuple #[.string (wImg st rest cls d code), .int .i64 (wErr st rest cls d code)]) ∧ Below w.heap.size w w' := by
  unfold wImg wErr
  cases hs : soundB st rest cls d.size code with
  | true => simpa using gwrite_yes st rest a cap cls d ia icap code w h hi hs
  | false => simpa using gwrite_no st rest a cap cls d ia icap code w h hi hs
theorem rwrite_any (st rest : Int) (a : Option Addr) (cap : Nat) (cls : List (Int × Int)) (d : ByteArray) (ia : Option Addr) (icap : Nat) (code : List Ins) (w : World) (h : CRow w a cap cls) (hi : IRow w ia icap code) :
    Calls Tryz.prog 31 #[.agg #[.int .i64 st, .int .i64 rest, .slice a cls.length cap, .string d, .slice ia code.length icap]] w fun e w' => e = .returned (.tuple #[.string (wImg st rest cls d code), .int .i64 (wErr st rest cls d code)]) ∧ Below w.heap.size w w' := by
  unfold wImg wErr
  cases hs : soundB st rest cls d.size code with
  | true => simpa using rwrite_yes st rest a cap cls d ia icap code w h hi hs
  | false => simpa using rwrite_no st rest a cap cls d ia icap code w h hi hs

set_option maxHeartbeats 400000 in
theorem lnum_any (e : Int) (w : World) : Calls Tryz.prog 22 #[.int .i64 e] w fun e' w' => e' = .returned (.int .i64 e) ∧ w = w' := by
  go_enter Tryz.func22, Tryz.ntmps22
  go_wp2
  go_ret
  exact ⟨rfl, rfl⟩

theorem info_ins : (Tryz.prog.info? 60).map (fun i => (i.zero, i.size, i.bytes)) = some (some (.agg #[.int .i64 0, .int .i64 0, .int .i64 0, .int .i64 0]), 4, 32) := by kernel_rfl
def insCells (x : Ins) : List Value := [.int .i64 x.op, .int .i64 x.a, .int .i64 x.b, .int .i64 x.c]
theorem ins_cells {w : World} {g : Nat} {code : List Ins} (hc : ∀ j u, (code.flatMap insCells)[j]? = some u → w.cell? ⟨g, j, none⟩ = some u) (i : Nat) (hi : i < code.length) :
    w.cell? ⟨g, i * 4, none⟩ = some (.int .i64 (code.getD i Ins.no).op) ∧ w.cell? ⟨g, i * 4 + 1, none⟩ = some (.int .i64 (code.getD i Ins.no).a) ∧ w.cell? ⟨g, i * 4 + 2, none⟩ = some (.int .i64 (code.getD i Ins.no).b) ∧ w.cell? ⟨g, i * 4 + 3, none⟩ = some (.int .i64 (code.getD i Ins.no).c) := by
  have h6 : ∀ j, j < 4 → (code.flatMap insCells)[i * 4 + j]? = (insCells (code.getD i Ins.no))[j]? := fun j hj => by
    rw [flat_get insCells 4 (fun _ => rfl) code i j hj, List.getElem?_eq_getElem hi]
    simp [List.getD_eq_getElem?_getD, List.getElem?_eq_getElem hi]
  have hx := fun j (hj : j < 4) u hu => hc (i * 4 + j) u (by rw [h6 j hj]; exact hu)
  exact ⟨hx 0 (by omega) _ rfl, hx 1 (by omega) _ rfl, hx 2 (by omega) _ rfl, hx 3 (by omega) _ rfl⟩
theorem irow_own {w : World} {L cap : Nat} {code : List Ins} {tl : List Value} (h : Blk w L 60 (code.flatMap insCells ++ tl)) (hm : code.length ≤ cap) (hcap : cap ≤ maxLen) : IRow w (some ⟨L, 0, none⟩) cap code := by
  refine ⟨hm, hcap, fun _ => ⟨L, 0, rfl, h.lt, fun i hi => ?_⟩⟩
  have hc : ∀ j u, (code.flatMap insCells)[j]? = some u → w.cell? ⟨L, j, none⟩ = some u := fun j u hu => h.cell (by
    rw [List.getElem?_append_left]
    · exact hu
    · rcases Nat.lt_or_ge j (code.flatMap insCells).length with h | h
      · exact h
      · rw [List.getElem?_eq_none h] at hu; cases hu)
  have := ins_cells hc i hi
  simp only [Nat.zero_add]
  exact this
/-- the cells of a list of instructions as the reader has them -/
theorem icells_flat {w : World} {g off : Nat} {code : List Ins} (hc : ∀ i, i < code.length →
    w.cell? ⟨g, off + i * 4, none⟩ = some (.int .i64 (code.getD i Ins.no).op) ∧ w.cell? ⟨g, off + i * 4 + 1, none⟩ = some (.int .i64 (code.getD i Ins.no).a) ∧ w.cell? ⟨g, off + i * 4 + 2, none⟩ = some (.int .i64 (code.getD i Ins.no).b) ∧ w.cell? ⟨g, off + i * 4 + 3, none⟩ = some (.int .i64 (code.getD i Ins.no).c)) :
    ∀ j v, (code.flatMap insCells)[j]? = some v → w.cell? ((⟨g, off, none⟩ : Addr).add j) = some v := by
  intro j v hv
  have hj : j < code.length * 4 := by
    have := flat_len insCells 4 (fun _ => rfl) code
    rcases Nat.lt_or_ge j (code.flatMap insCells).length with h | h
    · omega
    · rw [List.getElem?_eq_none h] at hv; cases hv
  have e : j = j / 4 * 4 + j % 4 := by omega
  have hi : j / 4 < code.length := by omega
  have hf := flat_get insCells 4 (fun _ => rfl) code (j / 4) (j % 4) (by omega)
  rw [← e, hv, List.getElem?_eq_getElem hi] at hf
  obtain ⟨d0, d1, d2, d3⟩ := hc (j / 4) hi
  rw [add_lit]
  have hcl : code[j / 4] = code.getD (j / 4) Ins.no := by simp [List.getD_eq_getElem?_getD, List.getElem?_eq_getElem hi]
  rw [hcl] at hf
  rcases (show j % 4 = 0 ∨ j % 4 = 1 ∨ j % 4 = 2 ∨ j % 4 = 3 by omega) with h | h | h | h
  · rw [h] at hf; simp only [Option.bind_some, insCells] at hf
    rw [show off + j = off + j / 4 * 4 by omega, d0]; simpa using hf.symm
  · rw [h] at hf; simp only [Option.bind_some, insCells] at hf
    rw [show off + j = off + j / 4 * 4 + 1 by omega, d1]; simpa using hf.symm
  · rw [h] at hf; simp only [Option.bind_some, insCells] at hf
    rw [show off + j = off + j / 4 * 4 + 2 by omega, d2]; simpa using hf.symm
  · rw [h] at hf; simp only [Option.bind_some, insCells] at hf
    rw [show off + j = off + j / 4 * 4 + 3 by omega, d3]; simpa using hf.symm

/-- A list of instructions is copied into a new one with room for one more. -/
theorem copy_code (code : List Ins) (ia : Option Addr) (icap cb : Nat) (mc : List Value) (w : World) (hi : IRow w ia icap code) (hm : mc.length = (code.length + 1) * 4) (hb : Blk w cb 60 mc) :
    ∃ (W : World) (t0 t1 t2 t3 : Value), (Builtin.copy_ #[37, 37] 3 #[.slice (some ⟨cb, 0, none⟩) (code.length + 1) (code.length + 1), .slice ia code.length icap]).run Tryz.prog w = .ok (goInt code.length) W ∧
      Blk W cb 60 (code.flatMap insCells ++ [t0, t1, t2, t3]) ∧ Kept w W (· = cb) ∧ W.heap.size = w.heap.size := by
  obtain ⟨i0, hi0, hz0, hz1, hz2⟩ := info_parts info_ins
  have hsz : (Tryz.prog.info? 60).map (·.size) = some 4 := by rw [hi0]; simp [hz1]
  have hfl := flat_len insCells 4 (fun _ => rfl) code
  obtain ⟨t0, t1, t2, t3, htail⟩ : ∃ t0 t1 t2 t3, mc.drop (code.length * 4) = [t0, t1, t2, t3] := by
    have hl : (mc.drop (code.length * 4)).length = 4 := by rw [List.length_drop]; omega
    match hm : mc.drop (code.length * 4), hl with
    | [t0, t1, t2, t3], _ => exact ⟨t0, t1, t2, t3, rfl⟩
  by_cases hn0 : code.length = 0
  · have hcl : code = [] := List.eq_nil_of_length_eq_zero hn0
    subst hcl
    refine ⟨w, t0, t1, t2, t3, run_copy_empty w _ _ _ 60 4 _ _ _ _ _ Tryz.underlying37 hsz, ?_, Kept.refl _ _, rfl⟩
    have : mc = [t0, t1, t2, t3] := by simpa using htail
    rw [← this]; simpa using hb
  · obtain ⟨g, off, ha, hg, hc⟩ := hi.cells (by omega)
    subst ha
    have hrn := run_copy_wide (P := Tryz.prog) w 37 37 3 60 4 cb (code.length + 1) (code.length + 1) ⟨g, off, none⟩ code.length icap mc.toArray 60 (code.flatMap insCells) Tryz.underlying37 hsz hb (by omega) hfl (icells_flat hc) (by rw [hfl]; simp [hm]; omega) (by intro v hv; simp only [List.mem_flatMap, insCells] at hv; obtain ⟨x, _, hv⟩ := hv; simp at hv; rcases hv with rfl | rfl | rfl | rfl <;> rfl)
    rw [hfl, htail] at hrn
    exact ⟨_, t0, t1, t2, t3, hrn, setRow_heap w _ _ _ _ _ hb, ⟨rfl, rfl, rfl, by simp [World.setRow], fun k hk hs => setRow_other w _ k _ hs⟩, by simp [World.setRow]⟩
end Go.Proofs.YtjikemhmnkckcabGreat
/- The document's Read: at; the box that fills. -/
namespace Go.Proofs.YtjikemhmnkckcabGreat
open Go.RowKit

set_option maxRecDepth 100000 in
set_option maxHeartbeats 800000 in
theorem at_nat (d : ByteArray) (k : Nat) (w : World) : Calls Tryz.prog 30 #[.string d, .int .i64 (k : Int)] w fun e w' => e = .returned (.int .i64 (byteAt d k)) ∧ w = w' := by
  by_cases h : k < d.size
  · have hI : (k : Int) < (d.size : Int) := by omega
    have hv : byteAt d k = (d[k].toNat : Int) := byteAt_lt h
    have hb := byteAt_bd d k
    rw [hv] at hb
    have HV := hide2 hv
    clear hv
    go_enter Tryz.func30, Tryz.ntmps30
    go_wp2
    go_ret
    exact ⟨by rw [HV.out]; rfl, rfl⟩
  · have hI : (d.size : Int) ≤ (k : Int) := by omega
    have HV := hide2 (byteAt_ge (d := d) (k := k) (by omega))
    go_enter Tryz.func30, Tryz.ntmps30
    go_wp2
    go_ret
    exact ⟨by rw [HV.out]; rfl, rfl⟩
theorem at_any (d : ByteArray) (k : Int) (w : World) (h : 0 ≤ k) : Calls Tryz.prog 30 #[.string d, .int .i64 k] w fun e w' => e = .returned (.int .i64 (byteAt d k.toNat)) ∧ w = w' := by
  obtain ⟨n, rfl⟩ := Int.eq_ofNat_of_zero_le h
  exact at_nat d n w

theorem own_lt {w : World} {e : TypeId} {m : Nat} {v : Value} {n : Nat} {xs : List Value} (h : w.ownsRow 0 e m v n xs) : ∀ g, v.ownBlock = some g → g < w.heap.size := fun g hg => by
  rcases h.2 with ⟨rfl, _⟩ | ⟨g', cap, cur, rfl, _, hgg, _⟩
  · simp [Value.ownBlock] at hg
  · simp [Value.ownBlock] at hg
    subst hg
    exact (Array.getElem?_eq_some_iff.1 hgg).1

/-- A program's box that fills: its classes and its instructions are rows of its own. -/
structure PBox (B : Nat) (w wr : World) (pb : Nat) (st rest : Int) (d : ByteArray) (vc vi : Value) (cls : List (Int × Int)) (code : List Ins) : Prop where
  below : Below B w wr
  blk : Blk wr pb 39 [.int .i64 st, .int .i64 rest, vc, .string d, vi]
  crow : wr.ownsRow 0 84 2 vc cls.length (cls.flatMap clsCells)
  irow : wr.ownsRow 0 60 4 vi code.length (code.flatMap insCells)
  base : B ≤ pb
  cfar : ∀ g, vc.ownBlock = some g → pb < g
  ifar : ∀ g, vi.ownBlock = some g → pb < g
  apart : ∀ g, vc.ownBlock = some g → vi.ownBlock ≠ some g

section
variable {B : Nat} {w wr : World} {pb : Nat} {st rest : Int} {d : ByteArray} {vc vi : Value} {cls : List (Int × Int)} {code : List Ins}
theorem PBox.under {wx : World} (h : PBox B w wr pb st rest d vc vi cls code) (hx : Below wr.heap.size wr wx) : PBox B w wx pb st rest d vc vi cls code :=
  ⟨h.below.trans (hx.mono (by have := h.base; have := h.blk.lt; omega)), h.blk.below hx h.blk.lt, row_below h.crow hx (own_lt h.crow), row_below h.irow hx (own_lt h.irow), h.base, h.cfar, h.ifar, h.apart⟩
theorem PBox.num {j : Nat} {wx : World} (h : PBox B w wr pb st rest d vc vi cls code) (v : Value) (hx : wx = wr.setCell ⟨pb, j, none⟩ v) (st' rest' : Int) (d' : ByteArray) (he : ([.int .i64 st, .int .i64 rest, vc, .string d, vi] : List Value).set j v = [.int .i64 st', .int .i64 rest', vc, .string d', vi]) :
    PBox B w wx pb st' rest' d' vc vi cls code := by
  subst hx
  have hb := h.blk.setCell j v
  rw [he] at hb
  exact ⟨h.below.setCell h.base _, hb, row_kept h.crow (fun g hg => Below.heap_setCell wr _ _ g (by have := h.cfar g hg; show g ≠ pb; omega)), row_kept h.irow (fun g hg => Below.heap_setCell wr _ _ g (by have := h.ifar g hg; show g ≠ pb; omega)), h.base, h.cfar, h.ifar, h.apart⟩
/-- A class is appended, and the new row stored. -/
theorem PBox.addC {wx w2 : World} {g cap : Nat} {c : Int × Int} (h : PBox B w wr pb st rest d vc vi cls code) (hx : Below wr.heap.size wr wx) (hown : w2.ownsRow 0 84 2 (.slice (some ⟨g, 0, none⟩) (cls.length + 1) cap) (cls.length + 1) (cls.flatMap clsCells ++ clsCells c))
    (hgrow : wx.grownBy w2 vc.ownBlock) (hat : vc.ownBlock = some g ∨ wr.heap.size ≤ g) : PBox B w (w2.setCell ⟨pb, 2, none⟩ (.slice (some ⟨g, 0, none⟩) (cls.length + 1) cap)) pb st rest d (.slice (some ⟨g, 0, none⟩) (cls.length + 1) cap) vi (cls ++ [c]) code := by
  have hu := h.under hx
  have hpl := h.blk.lt
  have hxs := hx.size
  have hgp : pb < g := by
    rcases hat with e | e
    · exact h.cfar g e
    · omega
  have hblk : Blk w2 pb 39 [.int .i64 st, .int .i64 rest, vc, .string d, vi] := (hgrow.block pb (by omega) (fun e => by have := h.cfar pb e.symm; omega)).trans hu.blk
  have hbel : Below B w w2 := ⟨by rw [hgrow.os, hu.below.os], by rw [hgrow.tape, hu.below.tape], by rw [hgrow.output, hu.below.output], Nat.le_trans hu.below.size hgrow.size, fun k hk => (hgrow.block k (by have := h.base; omega) (fun e => by have := h.cfar k e.symm; have := h.base; omega)).trans (hu.below.block k hk)⟩
  refine ⟨hbel.setCell h.base _, hblk.setCell 2 _, ?_, ?_, h.base, fun g' hg' => ?_, h.ifar, fun g' hg' => ?_⟩
  · refine row_kept ?_ (fun g' hg' => Below.heap_setCell w2 _ _ g' (by simp [Value.ownBlock] at hg'; show g' ≠ pb; omega))
    simpa using hown
  · refine row_kept (row_kept hu.irow (fun g' hg' => hgrow.block g' (own_lt hu.irow g' hg') (fun e => h.apart g' e.symm hg'))) (fun g' hg' => Below.heap_setCell w2 _ _ g' (by have := h.ifar g' hg'; show g' ≠ pb; omega))
  · simp [Value.ownBlock] at hg'; omega
  · simp [Value.ownBlock] at hg'
    subst hg'
    rcases hat with e | e
    · exact h.apart g e
    · intro e2; have := own_lt h.irow g e2; omega
/-- An instruction is. -/
theorem PBox.addI {wx w2 : World} {g cap : Nat} {c : Ins} (h : PBox B w wr pb st rest d vc vi cls code) (hx : Below wr.heap.size wr wx) (hown : w2.ownsRow 0 60 4 (.slice (some ⟨g, 0, none⟩) (code.length + 1) cap) (code.length + 1) (code.flatMap insCells ++ insCells c))
    (hgrow : wx.grownBy w2 vi.ownBlock) (hat : vi.ownBlock = some g ∨ wr.heap.size ≤ g) : PBox B w (w2.setCell ⟨pb, 4, none⟩ (.slice (some ⟨g, 0, none⟩) (code.length + 1) cap)) pb st rest d vc (.slice (some ⟨g, 0, none⟩) (code.length + 1) cap) cls (code ++ [c]) := by
  have hu := h.under hx
  have hpl := h.blk.lt
  have hxs := hx.size
  have hgp : pb < g := by
    rcases hat with e | e
    · exact h.ifar g e
    · omega
  have hblk : Blk w2 pb 39 [.int .i64 st, .int .i64 rest, vc, .string d, vi] := (hgrow.block pb (by omega) (fun e => by have := h.ifar pb e.symm; omega)).trans hu.blk
  have hbel : Below B w w2 := ⟨by rw [hgrow.os, hu.below.os], by rw [hgrow.tape, hu.below.tape], by rw [hgrow.output, hu.below.output], Nat.le_trans hu.below.size hgrow.size, fun k hk => (hgrow.block k (by have := h.base; omega) (fun e => by have := h.ifar k e.symm; have := h.base; omega)).trans (hu.below.block k hk)⟩
  refine ⟨hbel.setCell h.base _, hblk.setCell 4 _, ?_, ?_, h.base, h.cfar, fun g' hg' => ?_, fun g' hg' => ?_⟩
  · refine row_kept (row_kept hu.crow (fun g' hg' => hgrow.block g' (own_lt hu.crow g' hg') (fun e => h.apart g' hg' e.symm))) (fun g' hg' => Below.heap_setCell w2 _ _ g' (by have := h.cfar g' hg'; show g' ≠ pb; omega))
  · refine row_kept ?_ (fun g' hg' => Below.heap_setCell w2 _ _ g' (by simp [Value.ownBlock] at hg'; show g' ≠ pb; omega))
    simpa using hown
  · simp [Value.ownBlock] at hg'; omega
  · simp [Value.ownBlock]
    intro e2
    subst e2
    rcases hat with e | e
    · exact h.apart g hg' e
    · have := own_lt h.crow g hg'; omega
theorem IRow.of_row {w : World} {v : Value} {code : List Ins} (h : w.ownsRow 0 60 4 v code.length (code.flatMap insCells)) : ∃ a cap, v = .slice a code.length cap ∧ IRow w a cap code := by
  obtain ⟨a, cap, rfl, h1, h2, h3⟩ := row_open h
  refine ⟨a, cap, rfl, h1, h2, fun h0 => ?_⟩
  obtain ⟨g, ha, hg, hc, _⟩ := h3 h0
  refine ⟨g, 0, ha, hg, fun i hi => ?_⟩
  have := ins_cells hc i hi
  simp only [Nat.zero_add]
  exact this
end
/-- The rows of a program that was read: new, and apart. -/
structure Rows2 (w' : World) (B : Nat) (vc vi : Value) (cls : List (Int × Int)) (code : List Ins) : Prop where
  crow : w'.ownsRow 0 84 2 vc cls.length (cls.flatMap clsCells)
  irow : w'.ownsRow 0 60 4 vi code.length (code.flatMap insCells)
  cfar : ∀ g, vc.ownBlock = some g → B ≤ g
  ifar : ∀ g, vi.ownBlock = some g → B ≤ g
  apart : ∀ g, vc.ownBlock = some g → vi.ownBlock ≠ some g
theorem Rows2.kept {w w' : World} {B : Nat} {vc vi : Value} {cls : List (Int × Int)} {code : List Ins} (h : Rows2 w B vc vi cls code) (hk : ∀ g, B ≤ g → g < w.heap.size → w'.heap[g]? = w.heap[g]?) : Rows2 w' B vc vi cls code :=
  ⟨row_kept h.crow (fun g hg => hk g (h.cfar g hg) (own_lt h.crow g hg)), row_kept h.irow (fun g hg => hk g (h.ifar g hg) (own_lt h.irow g hg)), h.cfar, h.ifar, h.apart⟩
theorem Rows2.le {w : World} {B B' : Nat} {vc vi : Value} {cls : List (Int × Int)} {code : List Ins} (h : Rows2 w B vc vi cls code) (hb : B' ≤ B) : Rows2 w B' vc vi cls code :=
  ⟨h.crow, h.irow, fun g hg => Nat.le_trans hb (h.cfar g hg), fun g hg => Nat.le_trans hb (h.ifar g hg), h.apart⟩

theorem rows2_nil (w : World) (B : Nat) : Rows2 w B (.slice none 0 0) (.slice none 0 0) [] [] := ⟨⟨rfl, .inl ⟨rfl, rfl⟩⟩, ⟨rfl, .inl ⟨rfl, rfl⟩⟩, fun g hg => by simp [Value.ownBlock] at hg, fun g hg => by simp [Value.ownBlock] at hg, fun g hg => by simp [Value.ownBlock] at hg⟩

end Go.Proofs.YtjikemhmnkckcabGreat
