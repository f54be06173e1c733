import Derived.Test.YtjikemhmnkckcaaJ19
import Derived.Deep.RegionLaw
/- The document's bytes: Byte and mark. -/
namespace Go.Proofs.Ytjikemhmnkckcaa
open Go.RowKit

def mkNo : Int × Int × Int := (0, 0, 0)
namespace Ref
def byteTo (marks : List (Int × Int × Int)) (addr since : Int) : Nat → Int
  | 0 => 0
  | n + 1 => if (marks.getD n mkNo).1 = addr ∧ since ≤ (marks.getD n mkNo).2.2 then (marks.getD n mkNo).2.1 else byteTo marks addr since n
/-- behind which event a mark at this address counts -/
def sinceAt (st : Int) (cls : List (Int × Int)) (log : List Ev) (addr : Int) : Int :=
  if (Cf.slot st cls addr).1 < 0 then 0 else given log (Cf.slot st cls addr).1 (Cf.slot st cls addr).2 + 1
end Ref
def RSt.byte (R : RSt) (addr : Int) : Int := Ref.byteTo R.marks addr (Ref.sinceAt R.st R.cls R.log addr) R.marks.length
def RSt.mark (R : RSt) (addr b : Int) : RSt := ⟨R.st, R.rest, R.cls, R.log, R.marks ++ [(addr, b, (R.log.length : Int))]⟩

theorem mk_cells {w : World} {g : Nat} {marks : List (Int × Int × Int)} (hc : ∀ j u, (marks.flatMap mkCells)[j]? = some u → w.cell? ⟨g, j, none⟩ = some u) (i : Nat) (hi : i < marks.length) :
    w.cell? ⟨g, i * 3, none⟩ = some (.int .i64 (marks.getD i mkNo).1) ∧ w.cell? ⟨g, i * 3 + 1, none⟩ = some (.int .i64 (marks.getD i mkNo).2.1) ∧ w.cell? ⟨g, i * 3 + 2, none⟩ = some (.int .i64 (marks.getD i mkNo).2.2) := by
  have h6 : ∀ j, j < 3 → (marks.flatMap mkCells)[i * 3 + j]? = (mkCells (marks.getD i mkNo))[j]? := fun j hj => by
    rw [flat_get mkCells 3 (fun _ => rfl) marks i j hj, List.getElem?_eq_getElem hi]
    simp [List.getD_eq_getElem?_getD, List.getElem?_eq_getElem hi]
  have hx := fun j (hj : j < 3) u hu => hc (i * 3 + j) u (by rw [h6 j hj]; exact hu)
  exact ⟨hx 0 (by omega) _ rfl, hx 1 (by omega) _ rfl, hx 2 (by omega) _ rfl⟩

set_option maxRecDepth 100000 in
set_option maxHeartbeats 1000000 in
theorem rbyte_any (p : Nat) (vc vl vm : Value) (R : RSt) (addr : Int) (w : World) (h : RRep w p vc vl vm R) (ho : ROk R) :
    Calls Try.prog 113 #[.pointer (some ⟨p, 0, none⟩), .int .i64 addr] w fun e w' => e = .returned (.int .i64 (R.byte addr)) ∧ Below w.heap.size w w' := by
  have HR := hide2 h
  have HO := hide2 ho
  have hp := h.blk.lt
  have c0 := h.blk.cell (j := 0) rfl
  have c1 := h.blk.cell (j := 1) rfl
  have c2 := h.blk.cell (j := 2) rfl
  have c4 := h.blk.cell (j := 4) rfl
  obtain ⟨a, cap, rfl, hcr⟩ := CRow.of_row h.cls
  obtain ⟨am, capm, rfl, hcapm, hmaxm, hrow⟩ := row_open h.marks
  obtain ⟨_, _, _, _, hmaxl, _⟩ := row_open h.log
  unfold maxLen at hmaxm hmaxl
  have HC := hide2 hcr
  have HM : Hid (0 < R.marks.length → ∃ g, am = some ⟨g, 0, none⟩ ∧ g < w.heap.size ∧ (∀ j u, (R.marks.flatMap mkCells)[j]? = some u → w.cell? ⟨g, j, none⟩ = some u) ∧ (∀ j, w.frozen? ⟨g, j, none⟩ = false)) := hrow
  clear h ho hcr hrow
  rcases Cf.slot_bd R.st R.cls addr with hsl | ⟨k, s, hsl, hk, hs2, _⟩
  · have HS := hide2 hsl
    obtain ⟨sn, hsn⟩ : ∃ sn : Int, sn = 0 := ⟨0, rfl⟩
    have HSA : Hid (R.byte addr = Ref.byteTo R.marks addr sn R.marks.length) := by
      show _ = _
      unfold RSt.byte Ref.sinceAt
      rw [hsl, if_pos (by decide), hsn]
    clear hsl
    go_enter Try.func113, Try.ntmps113
    go_wp2_with fail
    refine (slot_any R.st R.rest _ cap R.cls _ _ HO.out.conf HC.out).mono ?_
    rw [HS.out]
    rintro e1 w1 ⟨rfl, hb1⟩
    have HBL := hide2 hb1
    have c4'' := (hb1.cell (p := ⟨p, 4, none⟩) hp).trans c4
    rw [← hsn]
    go_wp2
    have HSA' := HSA
    go_loopw [9] (fun i wr => ∃ m : Nat, m ≤ R.marks.length ∧ i = .int .i64 ((m : Int) - 1) ∧ Hid (R.byte addr = Ref.byteTo R.marks addr sn m) ∧ Below w.heap.size w wr) (fun i _ => (intOf i + 1).toNat)
    case atStart => exact ⟨_, Nat.le_refl _, rfl, HSA.out, HBL.out⟩
    case round =>
      obtain ⟨m, hm, rfl, hg, hb⟩ := hrel
      cases m with
      | zero =>
        go_wp2
        go_ret
        exact ⟨ret_int hg.out.symm, hb⟩
      | succ i =>
        obtain ⟨g, rfl, hgl, hcell, hfr⟩ := HM.out (by omega)
        have e1 : ((i + 1 : Nat) : Int) - 1 = (i : Int) := by omega
        rw [e1]
        have hc : ∀ j u, (R.marks.flatMap mkCells)[j]? = some u → wr.cell? ⟨g, j, none⟩ = some u := fun j u hu => by rw [hb.cell (p := ⟨g, j, none⟩) hgl]; exact hcell j u hu
        obtain ⟨d0, d1, d2⟩ := mk_cells hc i (by omega)
        have c4' : wr.cell? ⟨p, 4, none⟩ = some (.slice (some ⟨g, 0, none⟩) R.marks.length capm) := by rw [hb.cell (p := ⟨p, 4, none⟩) hp]; exact c4
        have hst : Hid (Ref.byteTo R.marks addr sn (i + 1) = if (R.marks.getD i mkNo).1 = addr ∧ sn ≤ (R.marks.getD i mkNo).2.2 then (R.marks.getD i mkNo).2.1 else Ref.byteTo R.marks addr sn i) := rfl
        generalize R.marks.getD i mkNo = mk at *
        obtain ⟨m1, m2, m3⟩ := mk
        clear hcell hfr hc HM c4 e1 HC HR
        by_cases h1 : m1 = addr
        · have h1b : (m1 == addr) = true := by simp [h1]
          by_cases h2 : sn ≤ m3
          · have HF : Hid (R.byte addr = m2) := hg.out.trans (hst.out.trans (if_pos ⟨h1, h2⟩))
            clear h1 hst hg
            go_wp2
            go_ret
            exact ⟨ret_int HF.out.symm, hb.alloc hb.size _⟩
          · have HF : Hid (R.byte addr = Ref.byteTo R.marks addr sn i) := hg.out.trans (hst.out.trans (if_neg (fun x => h2 x.2)))
            clear h1 hst hg
            go_wp2
            go_roundw
            case rel => exact ⟨i, by omega, rfl, HF.out, hb.alloc hb.size _⟩
            case measure => simp [intOf]
        · have h1b : (m1 == addr) = false := by rw [beq_eq_false_iff_ne]; exact h1
          have HF : Hid (R.byte addr = Ref.byteTo R.marks addr sn i) := hg.out.trans (hst.out.trans (if_neg (fun x => h1 x.1)))
          clear h1 hst hg
          go_wp2
          go_roundw
          case rel => exact ⟨i, by omega, rfl, HF.out, hb.alloc hb.size _⟩
          case measure => simp [intOf]
  · have HS := hide2 hsl
    obtain ⟨sn, hsn⟩ : ∃ sn : Int, sn = Ref.given R.log k s + 1 := ⟨_, rfl⟩
    have g1 := Ref.given_lo R.log k s
    have g2 := Ref.given_hi R.log k s
    have HSA : Hid (R.byte addr = Ref.byteTo R.marks addr sn R.marks.length) := by
      show _ = _
      unfold RSt.byte Ref.sinceAt
      rw [hsl, if_neg (by simp), hsn]
    clear hsl
    go_enter Try.func113, Try.ntmps113
    go_wp2_with fail
    refine (slot_any R.st R.rest _ cap R.cls _ _ HO.out.conf HC.out).mono ?_
    rw [HS.out]
    rintro e1 w1 ⟨rfl, hb1⟩
    go_wp2_with fail
    refine (given_any p _ vl _ R _ _ w1 (HR.out.below hb1)).mono ?_
    rintro e1 w2 ⟨rfl, hb2'⟩
    have hb2 : Below w.heap.size w w2 := hb1.trans (hb2'.mono hb1.size)
    have HBL := hide2 hb2
    have c4'' := (hb2.cell (p := ⟨p, 4, none⟩) hp).trans c4
    clear hb1 hb2'
    go_wp2
    rw [← hsn]
    have HSA' := HSA
    go_loopw [9] (fun i wr => ∃ m : Nat, m ≤ R.marks.length ∧ i = .int .i64 ((m : Int) - 1) ∧ Hid (R.byte addr = Ref.byteTo R.marks addr sn m) ∧ Below w.heap.size w wr) (fun i _ => (intOf i + 1).toNat)
    case atStart => exact ⟨_, Nat.le_refl _, rfl, HSA.out, HBL.out⟩
    case round =>
      obtain ⟨m, hm, rfl, hg, hb⟩ := hrel
      cases m with
      | zero =>
        go_wp2
        go_ret
        exact ⟨ret_int hg.out.symm, hb⟩
      | succ i =>
        obtain ⟨g, rfl, hgl, hcell, hfr⟩ := HM.out (by omega)
        have e1 : ((i + 1 : Nat) : Int) - 1 = (i : Int) := by omega
        rw [e1]
        have hc : ∀ j u, (R.marks.flatMap mkCells)[j]? = some u → wr.cell? ⟨g, j, none⟩ = some u := fun j u hu => by rw [hb.cell (p := ⟨g, j, none⟩) hgl]; exact hcell j u hu
        obtain ⟨d0, d1, d2⟩ := mk_cells hc i (by omega)
        have c4' : wr.cell? ⟨p, 4, none⟩ = some (.slice (some ⟨g, 0, none⟩) R.marks.length capm) := by rw [hb.cell (p := ⟨p, 4, none⟩) hp]; exact c4
        have hst : Hid (Ref.byteTo R.marks addr sn (i + 1) = if (R.marks.getD i mkNo).1 = addr ∧ sn ≤ (R.marks.getD i mkNo).2.2 then (R.marks.getD i mkNo).2.1 else Ref.byteTo R.marks addr sn i) := rfl
        generalize R.marks.getD i mkNo = mk at *
        obtain ⟨m1, m2, m3⟩ := mk
        clear hcell hfr hc HM c4 e1 HC HR
        by_cases h1 : m1 = addr
        · have h1b : (m1 == addr) = true := by simp [h1]
          by_cases h2 : sn ≤ m3
          · have HF : Hid (R.byte addr = m2) := hg.out.trans (hst.out.trans (if_pos ⟨h1, h2⟩))
            clear h1 hst hg
            go_wp2
            go_ret
            exact ⟨ret_int HF.out.symm, hb.alloc hb.size _⟩
          · have HF : Hid (R.byte addr = Ref.byteTo R.marks addr sn i) := hg.out.trans (hst.out.trans (if_neg (fun x => h2 x.2)))
            clear h1 hst hg
            go_wp2
            go_roundw
            case rel => exact ⟨i, by omega, rfl, HF.out, hb.alloc hb.size _⟩
            case measure => simp [intOf]
        · have h1b : (m1 == addr) = false := by rw [beq_eq_false_iff_ne]; exact h1
          have HF : Hid (R.byte addr = Ref.byteTo R.marks addr sn i) := hg.out.trans (hst.out.trans (if_neg (fun x => h1 x.1)))
          clear h1 hst hg
          go_wp2
          go_roundw
          case rel => exact ⟨i, by omega, rfl, HF.out, hb.alloc hb.size _⟩
          case measure => simp [intOf]
end Go.Proofs.Ytjikemhmnkckcaa
namespace Go.Proofs.Ytjikemhmnkckcaa
open Go.RowKit

theorem info_mk : (Try.prog.info? 143).map (fun i => (i.zero, i.size, i.bytes)) = some (some (.agg #[.int .i64 0, .int .i64 0, .int .i64 0]), 3, 24) := by kernel_rfl

theorem RRep.pushMark {w : World} {p : Nat} {vc vl vm : Value} {R : RSt} (h : RRep w p vc vl vm R) (m : Int × Int × Int) {cs : Array Value} {t : TypeId} {w7 : World} {gg cap : Nat}
    (hown : w7.ownsRow 0 143 3 (.slice (some ⟨gg, 0, none⟩) (R.marks.length + 1) cap) (R.marks.length + 1) (R.marks.flatMap mkCells ++ mkCells m))
    (hgrow : (w.alloc (.cells cs t)).grownBy w7 vm.ownBlock) (hat : vm.ownBlock = some gg ∨ gg = w.heap.size + 1) :
    RRep (w7.setCell ⟨p, 4, none⟩ (.slice (some ⟨gg, 0, none⟩) (R.marks.length + 1) cap)) p vc vl (.slice (some ⟨gg, 0, none⟩) (R.marks.length + 1) cap) ⟨R.st, R.rest, R.cls, R.log, R.marks ++ [m]⟩ ∧
    Kept w (w7.setCell ⟨p, 4, none⟩ (.slice (some ⟨gg, 0, none⟩) (R.marks.length + 1) cap)) (fun b => b = p ∨ vm.ownBlock = some b) ∧
    NewBlk vm (.slice (some ⟨gg, 0, none⟩) (R.marks.length + 1) cap) w := by
  have hp := h.blk.lt
  have hsz := hgrow.size
  rw [World.size_alloc] at hsz
  have hgp : gg ≠ p := by
    rcases hat with e | e
    · intro e2; subst e2; exact h.apM e
    · omega
  have hblk : ∀ b, b < w.heap.size → some b ≠ vm.ownBlock → b ≠ p → (w7.setCell ⟨p, 4, none⟩ (.slice (some ⟨gg, 0, none⟩) (R.marks.length + 1) cap)).heap[b]? = w.heap[b]? := fun b h1 h2 h3 => by
    rw [Below.heap_setCell w7 _ _ b h3, hgrow.block b (by rw [World.size_alloc]; omega) h2]
    exact Below.heap_alloc w _ b h1
  refine ⟨⟨?_, ?_, ?_, ?_, h.apC, h.apL, ?_, h.apCL, ?_, ?_⟩, ⟨?_, ?_, ?_, ?_, ?_⟩, ?_⟩
  · have e : Blk w7 p 90 [.int .i64 R.st, .int .i64 R.rest, vc, vl, vm] := by
      have e1 := hgrow.block p (by rw [World.size_alloc]; omega) (fun e => h.apM e.symm)
      exact (e1.trans (Below.heap_alloc w _ p hp)).trans h.blk
    exact e.setCell 4 _
  · exact row_kept h.cls fun g hg => hblk g (row_lt h.cls hg) (fun e => h.apCM g hg e.symm) (fun e => h.apC (e ▸ hg))
  · exact row_kept h.log fun g hg => hblk g (row_lt h.log hg) (fun e => h.apLM g hg e.symm) (fun e => h.apL (e ▸ hg))
  · have hl : (R.marks ++ [m]).length = R.marks.length + 1 := by simp
    show World.ownsRow _ 0 _ 3 _ (R.marks ++ [m]).length ((R.marks ++ [m]).flatMap mkCells)
    rw [hl, List.flatMap_append]
    refine row_kept ?_ (fun g hg => Below.heap_setCell w7 _ _ g (by simp [Value.ownBlock] at hg; show g ≠ p; omega))
    simpa using hown
  · simp [Value.ownBlock]; exact hgp
  · intro g hg e
    simp [Value.ownBlock] at e
    subst e
    rcases hat with e | e
    · exact h.apCM _ hg e
    · have := row_lt h.cls hg; omega
  · intro g hg e
    simp [Value.ownBlock] at e
    subst e
    rcases hat with e | e
    · exact h.apLM _ hg e
    · have := row_lt h.log hg; omega
  · exact hgrow.os
  · exact hgrow.tape
  · exact hgrow.output
  · rw [World.size_setCell]; omega
  · intro k hk hs
    exact hblk k hk (fun e => hs (.inr e.symm)) (fun e => hs (.inl e))
  · intro g hg
    simp [Value.ownBlock] at hg
    subst hg
    rcases hat with e | e
    · exact .inl e
    · right; omega

set_option maxRecDepth 100000 in
set_option maxHeartbeats 1600000 in
theorem rmark_any (p : Nat) (vc vl vm : Value) (R : RSt) (addr b : Int) (w : World) (h : RRep w p vc vl vm R) (hroom : (R.marks.length + 1) * 24 ≤ 140737488355328) :
    Calls Try.prog 115 #[.pointer (some ⟨p, 0, none⟩), .int .i64 addr, .int .i64 b] w fun e w' => ∃ vm', e = .returned (.tuple #[]) ∧ RRep w' p vc vl vm' (R.mark addr b) ∧ Kept w w' (fun x => x = p ∨ vm.ownBlock = some x) ∧ NewBlk vm vm' w := by
  obtain ⟨i0, hi0, hz0, hz1, hz2⟩ := info_parts info_mk
  have c3 := h.blk.cell (j := 3) rfl
  have c4 := h.blk.cell (j := 4) rfl
  have cf4 := h.blk.frozen 4
  have hp := h.blk.lt
  have HR := hide2 h
  have HAP := hide2 h.apM
  have hrow : Hid (w.ownsRow 0 143 3 vm R.marks.length (R.marks.flatMap mkCells)) := h.marks
  obtain ⟨al, capl, rfl, hcapl, hmaxl, _⟩ := row_open h.log
  unfold maxLen at hmaxl
  clear h
  go_enter Try.func115, Try.ntmps115
  go_region_law ((refine step_append_lies _ (by rfl) _ _ _ (by rfl) 0 143 i0 _ 3 24 Try.underlying88 hi0 hz0 hz1 hz2 rfl (by omega) vm R.marks.length (R.marks.flatMap mkCells) (by rfl) ((hrow.out.alloc _).drew) ⟨w.heap.size, 0, none⟩ 1 1 (mkCells (addr, b, (R.log.length : Int))) (by rfl) (by rfl) (World.news_of_block (cs := #[.int .i64 addr, .int .i64 b, .int .i64 (R.log.length : Int)]) (t := 143) (fr := (0, 0)) (heap_alloc_new w _)) (by simp [Value.oneCell', mkCells]) (by omega) (by simp [maxLen]; omega) (by omega) (by simp) (w.heap.size + 1) (by simp) ?_; intro gg cap2 w7 hown hgrow hat hlt7; have c4' : w7.cell? ⟨p, 4, none⟩ = some vm := (by rw [hgrow.cell_far _ (by simp; omega) (fun e => HAP.out e.symm), World.cell?_drew, World.cell?_alloc_lt _ _ _ hp]; exact c4); have f4' : w7.frozen? ⟨p, 4, none⟩ = false := (by rw [hgrow.frozen_far _ (by simp; omega) (fun e => HAP.out e.symm), World.frozen?_drew, World.frozen?_alloc_old _ _ _ (by show p ≠ _; omega)]; exact cf4)))
  all_goals
    have hg7 : (w.alloc (.cells #[.int .i64 addr, .int .i64 b, .int .i64 (R.log.length : Int)] 143)).grownBy w7 vm.ownBlock := ⟨hgrow.os, hgrow.tape, hgrow.output, hgrow.size, hgrow.block⟩
    have hpush := HR.out.pushMark (addr, b, (R.log.length : Int)) hown hg7 hat
    clear hg7
    go_end0
    exact ⟨_, rfl, hpush.1, hpush.2.1, hpush.2.2⟩
end Go.Proofs.Ytjikemhmnkckcaa
/- The document's access: shape, Access, Usable. -/
namespace Go.Proofs.Ytjikemhmnkckcaa
open Go.RowKit

namespace Ref
def shapeB (n : Int) : Bool := n == 1 || n == 2 || n == 4 || n == 8
/-- one byte after the other: the error, the address -/
def accFrom (tag : Int → Int) (t a : Int) : Nat → Nat → Int × Int
  | 0, _ => (0, 0)
  | f + 1, i => if tag (a + i) = -1 then (6, a + i) else if tag (a + i) = 15 ∨ tag (a + i) ≠ t then (7, a + i) else accFrom tag t a f (i + 1)
end Ref
def RSt.tag (R : RSt) (addr : Int) : Int := Cf.tag R.st R.cls R.log addr
def RSt.access (R : RSt) (q n : Int) : Int × Int :=
  if n < 0 ∨ 65536 < n then (2, 0) else if n = 0 then (0, 0) else if Ref.tameB q then Ref.accFrom R.tag (q / 72057594037927936) (q % 72057594037927936) n.toNat 0 else (5, 0)

theorem shape_of {n : Int} (h : Ref.shapeB n = true) : n = 1 ∨ n = 2 ∨ n = 4 ∨ n = 8 := by simpa [Ref.shapeB, or_assoc] using h
theorem shape_no {n : Int} (h1 : n ≠ 1) (h2 : n ≠ 2) (h4 : n ≠ 4) (h8 : n ≠ 8) : Ref.shapeB n = false := by simp [Ref.shapeB, *]

set_option maxRecDepth 100000 in
set_option maxHeartbeats 800000 in
theorem shape_any (n : Int) (w : World) :
    Calls Try.prog 111 #[.int .i64 n] w fun e w' => e = .returned (.bool (Ref.shapeB n)) ∧ w = w' := by
  go_enter Try.func111, Try.ntmps111
  go_wp2
  go_loopw [3] (fun i wr => w = wr ∧ (i = .int .i64 1 ∨ (i = .int .i64 2 ∧ n ≠ 1) ∨ (i = .int .i64 4 ∧ n ≠ 1 ∧ n ≠ 2) ∨ (i = .int .i64 8 ∧ n ≠ 1 ∧ n ≠ 2 ∧ n ≠ 4) ∨ (i = .int .i64 16 ∧ n ≠ 1 ∧ n ≠ 2 ∧ n ≠ 4 ∧ n ≠ 8))) (fun i _ => (16 - intOf i).toNat)
  case atStart => exact ⟨rfl, .inl rfl⟩
  case round =>
    obtain ⟨rfl, hd⟩ := hrel
    rcases hd with rfl | ⟨rfl, h1⟩ | ⟨rfl, h1, h2⟩ | ⟨rfl, h1, h2, h4⟩ | ⟨rfl, h1, h2, h4, h8⟩
    · by_cases hn : n = 1
      · subst hn
        go_wp2
        go_ret
        exact ⟨rfl, rfl⟩
      · have hb : ((1 : Int) == n) = false := by rw [beq_eq_false_iff_ne]; omega
        have HN := hide2 hn
        clear hn
        go_wp2
        go_roundw
        case rel => have hh := HN.out; simp [hh]
        case measure => simp [intOf]
    · by_cases hn : n = 2
      · subst hn
        go_wp2
        go_ret
        exact ⟨rfl, rfl⟩
      · have hb : ((2 : Int) == n) = false := by rw [beq_eq_false_iff_ne]; omega
        have HN := hide2 (And.intro h1 hn)
        clear hn h1
        go_wp2
        go_roundw
        case rel => have hh := HN.out; simp [hh]
        case measure => simp [intOf]
    · by_cases hn : n = 4
      · subst hn
        go_wp2
        go_ret
        exact ⟨rfl, rfl⟩
      · have hb : ((4 : Int) == n) = false := by rw [beq_eq_false_iff_ne]; omega
        have HN := hide2 (And.intro h1 (And.intro h2 hn))
        clear hn h1 h2
        go_wp2
        go_roundw
        case rel => have hh := HN.out; simp [hh]
        case measure => simp [intOf]
    · by_cases hn : n = 8
      · subst hn
        go_wp2
        go_ret
        exact ⟨rfl, rfl⟩
      · have hb : ((8 : Int) == n) = false := by rw [beq_eq_false_iff_ne]; omega
        have HN := hide2 (And.intro h1 (And.intro h2 (And.intro h4 hn)))
        clear hn h1 h2 h4
        go_wp2
        go_roundw
        case rel => have hh := HN.out; simp [hh]
        case measure => simp [intOf]
    · have HN := hide2 (shape_no h1 h2 h4 h8)
      clear h1 h2 h4 h8
      go_wp2
      go_ret
      exact ⟨by rw [HN.out]; rfl, rfl⟩

set_option maxRecDepth 100000 in
set_option maxHeartbeats 1600000 in
theorem raccess_any (p : Nat) (vc vl vm : Value) (R : RSt) (q n : Int) (w : World) (h : RRep w p vc vl vm R) (ho : ROk R) (q1 : q ≤ 9223372036854775807) :
    Calls Try.prog 112 #[.pointer (some ⟨p, 0, none⟩), .int .i64 q, .int .i64 n] w fun e w' => e = .returned (.tuple #[.int .i64 (R.access q n).1, .int .i64 (R.access q n).2]) ∧ Below w.heap.size w w' := by
  have HR := hide2 h
  have HO := hide2 ho
  clear h ho
  by_cases ha : n < 0 ∨ 65536 < n
  · have HA : Hid (R.access q n = (2, 0)) := if_pos ha
    by_cases h0 : n < 0
    · go_enter Try.func112, Try.ntmps112
      go_wp2
      go_ret2
      exact ⟨by rw [HA.out]; rfl, Below.refl _ _⟩
    · have h1 : 65536 < n := by omega
      have h2 : 0 ≤ n := by omega
      go_enter Try.func112, Try.ntmps112
      go_wp2
      go_ret2
      exact ⟨by rw [HA.out]; rfl, Below.refl _ _⟩
  · have hn0 : 0 ≤ n := by omega
    have hn1 : n ≤ 65536 := by omega
    by_cases hz : n = 0
    · have HA : Hid (R.access q n = (0, 0)) := (if_neg ha).trans (if_pos hz)
      clear ha
      subst hz
      go_enter Try.func112, Try.ntmps112
      go_wp2
      go_ret2
      exact ⟨by rw [HA.out]; rfl, Below.refl _ _⟩
    · have hzb : (n == 0) = false := by rw [beq_eq_false_iff_ne]; exact hz
      cases ht : Ref.tameB q
      · have HA : Hid (R.access q n = (5, 0)) := (if_neg ha).trans ((if_neg hz).trans (by rw [ht]; rfl))
        clear ha hz
        go_enter Try.func112, Try.ntmps112
        go_wp2_with (go_at_call 117; refine (tame_no _ _ q1 ht).mono ?_; rintro e1 w1 ⟨rfl, rfl⟩)
        go_ret2
        exact ⟨by rw [HA.out]; rfl, Below.refl _ _⟩
      · have HA : Hid (R.access q n = Ref.accFrom R.tag (q / 72057594037927936) (q % 72057594037927936) n.toNat 0) := (if_neg ha).trans ((if_neg hz).trans (by rw [ht]; rfl))
        have htm := (tame_iff q).1 ht
        have HT := hide2 ht
        have a0 : 0 ≤ q % 72057594037927936 := by omega
        have a1 : q % 72057594037927936 ≤ 65535 := htm.2.2
        clear ha hz ht htm
        go_enter Try.func112, Try.ntmps112
        go_wp2_with fail
        refine (tame_yes _ _ q1 HT.out).mono ?_
        rintro e1 w1 ⟨rfl, rfl⟩
        generalize q % 72057594037927936 = a at *
        generalize q / 72057594037927936 = t at *
        go_wp2
        go_loopw [11] (fun i wr => ∃ m : Nat, (m : Int) ≤ n ∧ i = .int .i64 (m : Int) ∧ Hid (R.access q n = Ref.accFrom R.tag t a (n.toNat - m) m) ∧ Below w.heap.size w wr) (fun i _ => (n - intOf i).toNat)
        case atStart => exact ⟨0, by omega, rfl, HA.out, Below.refl _ _⟩
        case round =>
          obtain ⟨m, hm, rfl, hA, hb⟩ := hrel
          have HRr := hide2 (HR.out.below hb)
          by_cases hlt : (m : Int) < n
          · have hst : Hid (R.access q n = if R.tag (a + m) = -1 then (6, a + (m : Int)) else if R.tag (a + m) = 15 ∨ R.tag (a + m) ≠ t then (7, a + (m : Int)) else Ref.accFrom R.tag t a (n.toNat - (m + 1)) (m + 1)) := by
              show _ = _
              rw [hA.out, show n.toNat - m = (n.toNat - (m + 1)) + 1 by omega]
              rfl
            have HTG : Hid (Cf.tag R.st R.cls R.log (a + m) = R.tag (a + m)) := rfl
            have m0 : (0 : Int) ≤ (m : Int) := by omega
            clear hA HA
            generalize R.tag (a + m) = tg at *
            by_cases h1 : tg = -1
            · have HF : Hid (R.access q n = (6, a + (m : Int))) := hst.out.trans (if_pos h1)
              have hb1 : (tg == -1) = true := by simp [h1]
              clear hst h1
              go_wp2_with (go_at_call 17; refine (rtag_any p vc vl vm R (a + m) wr HRr.out HO.out).mono ?_; rw [HTG.out]; rintro e2 w2 ⟨rfl, hb2⟩)
              go_ret2
              exact ⟨by rw [HF.out]; rfl, hb.trans (hb2.mono hb.size)⟩
            · have hb1 : (tg == -1) = false := by rw [beq_eq_false_iff_ne]; exact h1
              by_cases h2 : tg = 15 ∨ tg ≠ t
              · have HF : Hid (R.access q n = (7, a + (m : Int))) := hst.out.trans ((if_neg h1).trans (if_pos h2))
                clear hst h1
                by_cases h3 : tg = 15
                · have hb3 : (tg == 15) = true := by simp [h3]
                  clear h2 h3
                  go_wp2_with (go_at_call 17; refine (rtag_any p vc vl vm R (a + m) wr HRr.out HO.out).mono ?_; rw [HTG.out]; rintro e2 w2 ⟨rfl, hb2⟩)
                  go_ret2
                  exact ⟨by rw [HF.out]; rfl, hb.trans (hb2.mono hb.size)⟩
                · have hb3 : (tg == 15) = false := by rw [beq_eq_false_iff_ne]; exact h3
                  have hb4 : (tg != t) = true := by simp; omega
                  clear h2 h3
                  go_wp2_with (go_at_call 17; refine (rtag_any p vc vl vm R (a + m) wr HRr.out HO.out).mono ?_; rw [HTG.out]; rintro e2 w2 ⟨rfl, hb2⟩)
                  go_ret2
                  exact ⟨by rw [HF.out]; rfl, hb.trans (hb2.mono hb.size)⟩
              · have HF : Hid (R.access q n = Ref.accFrom R.tag t a (n.toNat - (m + 1)) (m + 1)) := hst.out.trans ((if_neg h1).trans (if_neg h2))
                have hb3 : (tg == 15) = false := by rw [beq_eq_false_iff_ne]; omega
                have hb4 : (tg != t) = false := by simp; omega
                clear hst h1 h2
                go_wp2_with (go_at_call 17; refine (rtag_any p vc vl vm R (a + m) wr HRr.out HO.out).mono ?_; rw [HTG.out]; rintro e2 w2 ⟨rfl, hb2⟩)
                go_roundw
                case rel => exact ⟨m + 1, by omega, by go_num, HF.out, hb.trans (hb2.mono hb.size)⟩
                case measure => simp [intOf]; omega
          · have HF : Hid (R.access q n = (0, 0)) := by
              show _ = _
              rw [hA.out, show n.toNat - m = 0 by omega]
              rfl
            clear hA HA
            go_wp2
            go_ret2
            exact ⟨by rw [HF.out]; rfl, hb⟩

end Go.Proofs.Ytjikemhmnkckcaa
