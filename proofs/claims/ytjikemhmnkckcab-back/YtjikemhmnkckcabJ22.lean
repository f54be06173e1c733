import Derived.Test.YtjikemhmnkckcabJ20
import Derived.Test.YtjikemhmnkckcabJ6
/- The document's Usable and Load. -/
namespace Go.Proofs.Ytjikemhmnkckcab
open Go.RowKit

def RSt.usable (R : RSt) (q : Int) : Int × Int :=
  if (Ref.block R.st R.cls R.log q).2.2 ≠ 0 then (0, (Ref.block R.st R.cls R.log q).2.2)
  else (16 * (R.log.getD (Ref.given R.log (Ref.block R.st R.cls R.log q).1 (Ref.block R.st R.cls R.log q).2.1).toNat Ref.Ev.no).size, 0)
namespace Ref
/-- the unit, the number that were read after i bytes -/
def ldU : Nat → Int
  | 0 => 1
  | i + 1 => wrap64 (ldU i * 256)
def ldV (byte : Int → Int) (a : Int) : Nat → Int
  | 0 => 0
  | i + 1 => wrap64 (ldV byte a i + wrap64 (byte (a + i) * ldU i))
end Ref
def RSt.load (R : RSt) (q n : Int) : Int × Int :=
  if Ref.shapeB n = false then (0, 2) else if (R.access q n).1 ≠ 0 then (0, (R.access q n).1) else (Ref.ldV R.byte (q % 72057594037927936) n.toNat, 0)

theorem access_ok {R : RSt} {q n : Int} (h : (R.access q n).1 = 0) (hn : 0 < n) : Ref.tameB q = true ∧ n ≤ 65536 := by
  unfold RSt.access at h
  by_cases ha : n < 0 ∨ 65536 < n
  · rw [if_pos ha] at h; simp at h
  · rw [if_neg ha, if_neg (by omega)] at h
    cases ht : Ref.tameB q
    · rw [ht] at h; simp at h
    · exact ⟨rfl, by omega⟩

end Go.Proofs.Ytjikemhmnkckcab
/- The document's Store. -/
namespace Go.Proofs.Ytjikemhmnkckcab
open Go.RowKit

namespace Ref
/-- what is left of the value after i bytes -/
def stV (value : Int) : Nat → Int
  | 0 => value % 18446744073709551616
  | i + 1 => stV value i / 256
theorem stV_bd (value : Int) (i : Nat) : 0 ≤ stV value i ∧ stV value i ≤ 18446744073709551615 := by
  induction i with
  | zero => simp only [stV]; omega
  | succ i ih => simp only [stV]; omega
end Ref
def RSt.stores (R : RSt) (a value : Int) : Nat → RSt
  | 0 => R
  | i + 1 => (R.stores a value i).mark (a + i) (Ref.stV value i % 256)
theorem RSt.stores_same (R : RSt) (a value : Int) (i : Nat) : (R.stores a value i).st = R.st ∧ (R.stores a value i).rest = R.rest ∧ (R.stores a value i).cls = R.cls ∧ (R.stores a value i).log = R.log ∧ (R.stores a value i).marks.length = R.marks.length + i := by
  induction i with
  | zero => exact ⟨rfl, rfl, rfl, rfl, rfl⟩
  | succ i ih => exact ⟨ih.1, ih.2.1, ih.2.2.1, ih.2.2.2.1, by show ((R.stores a value i).marks ++ [(a + i, Ref.stV value i % 256, ((R.stores a value i).log.length : Int))]).length = _; rw [List.length_append, ih.2.2.2.2]; rfl⟩
def RSt.storeErr (R : RSt) (q n : Int) : Int := if Ref.shapeB n = false then 2 else (R.access q n).1
def RSt.store (R : RSt) (q n value : Int) : RSt := if R.storeErr q n = 0 then R.stores (q % 72057594037927936) value n.toNat else R

end Go.Proofs.Ytjikemhmnkckcab
namespace Go.Proofs.Ytjikemhmnkckcab
open Go.RowKit
attribute [local go_sem ↓] Go.wp_at_zero Go.wp_at_succ

set_option maxRecDepth 100000 in
set_option maxHeartbeats 1600000 in
theorem same_any (st rest : Int) (a b : Option Addr) (cap capb : Nat) (cls : List (Int × Int)) (w : World) (ha : CRow w a cap cls) (hb : CRow w b capb cls) :
    Calls Try.prog 27 #[.agg #[.int .i64 st, .int .i64 rest, .slice a cls.length cap], .agg #[.int .i64 st, .int .i64 rest, .slice b cls.length capb]] w fun e w' => e = .returned (.bool true) ∧ Below w.heap.size w w' := by
  have l1 := ha.len
  have l2 := ha.cap
  unfold maxLen at l2
  have l3 := hb.len
  have l4 := hb.cap
  unfold maxLen at l4
  have HA : Hid (CCells w a cls) := ha.cells
  have HB : Hid (CCells w b cls) := hb.cells
  have e1 : (st != st) = false := by simp
  have e2 : (rest != rest) = false := by simp
  have e3 : (((cls.length : Nat) : Int) != ((cls.length : Nat) : Int)) = false := by simp
  clear ha hb
  go_enter Try.func27, Try.ntmps27
  go_wp2
  go_loopw [5] (fun i wr => ∃ m : Nat, m ≤ cls.length ∧ i = .int .i64 (m : Int) ∧ Below w.heap.size w wr ∧ CBox wr w.heap.size st rest a cls.length cap ∧ CBox wr (w.heap.size + 1) st rest b cls.length capb) (fun i _ => cls.length - (intOf i).toNat)
  case atStart =>
    refine ⟨0, by omega, rfl, ((Below.refl _ _).alloc (Nat.le_refl _) _).alloc (by simp) _, (CBox.alloc _ _ _ _ _ _ _).below ((Below.refl _ _).alloc (Nat.le_refl _) _) (by simp), ?_⟩
    have := CBox.alloc (w.alloc (.cells #[.int .i64 st, .int .i64 rest, .slice a cls.length cap] 24)) st rest b cls.length capb 24
    simpa using this
  case round =>
    obtain ⟨m, hm, rfl, hb, ca, cb⟩ := hrel
    have c2 := ca.c2
    have d2 := cb.c2
    by_cases hlt : m < cls.length
    · obtain ⟨g, off, rfl, hgl, hcell⟩ := HA.out (by omega)
      obtain ⟨g', off', rfl, hgl', hcell'⟩ := HB.out (by omega)
      have x0 := (hb.cell (p := ⟨g, off + m * 2, none⟩) hgl).trans (hcell m hlt).1
      have x1 := (hb.cell (p := ⟨g, off + m * 2 + 1, none⟩) hgl).trans (hcell m hlt).2
      have y0 := (hb.cell (p := ⟨g', off' + m * 2, none⟩) hgl').trans (hcell' m hlt).1
      have y1 := (hb.cell (p := ⟨g', off' + m * 2 + 1, none⟩) hgl').trans (hcell' m hlt).2
      have i0 : (0 : Int) ≤ (m : Int) := by omega
      have i1 : (m : Int) < (cls.length : Int) := by omega
      generalize Cf.gr cls m = x at *
      generalize Cf.sl cls m = y at *
      clear hcell hcell' HA HB
      go_wp2
      go_quiet (fail)
      go_wp2
      go_roundw
      case rel => exact ⟨m + 1, by omega, by go_num, below_drewN hb _, ca.below (below_drewN (Below.refl wr.heap.size _) _) ca.lt, cb.below (below_drewN (Below.refl wr.heap.size _) _) cb.lt⟩
      case measure => simp [intOf]; omega
    · go_wp2
      go_ret
      exact ⟨rfl, hb⟩

/-- the owner's list, as far as it can be written -/
structure Own (w : World) (L n : Nat) (wr : World) : Prop where
  kept : Kept w wr (· = L)
  blk : ∃ xs, Blk wr L 37 xs ∧ xs.length = n

theorem Kept.refl (w : World) (S : Nat → Prop) : Kept w w S := ⟨rfl, rfl, rfl, Nat.le_refl _, fun _ _ _ => rfl⟩
theorem Kept.setCell {w wr : World} {S : Nat → Prop} (h : Kept w wr S) (a : Addr) (v : Value) (ha : S a.block) : Kept w (wr.setCell a v) S :=
  ⟨h.os, h.tape, h.output, by rw [World.size_setCell]; exact h.size, fun k hk hs => (Below.heap_setCell wr a v k (fun e => hs (e ▸ ha))).trans (h.block k hk hs)⟩
theorem Own.setCell {w wr : World} {L n : Nat} (h : Own w L n wr) (j : Nat) (v : Value) : Own w L n (wr.setCell ⟨L, j, none⟩ v) := by
  obtain ⟨xs, hx, hn⟩ := h.blk
  exact ⟨h.kept.setCell _ _ rfl, _, hx.setCell j v, by rw [List.length_set]; exact hn⟩
theorem Own.cell {w wr : World} {L n : Nat} (h : Own w L n wr) (j : Nat) (hj : j < n) : ∃ v, wr.cell? ⟨L, j, none⟩ = some v := by
  obtain ⟨xs, hx, hn⟩ := h.blk
  exact ⟨xs[j], hx.cell (List.getElem?_eq_getElem (by omega))⟩
theorem Own.frozen {w wr : World} {L n : Nat} (h : Own w L n wr) (j : Nat) : wr.frozen? ⟨L, j, none⟩ = false := by
  obtain ⟨xs, hx, hn⟩ := h.blk
  exact hx.frozen j

theorem crow_own {w : World} {L : Nat} {cls : List (Int × Int)} {tl : List Value} (h : Blk w L 37 (cls.flatMap clsCells ++ tl)) (hcap : cls.length + 2 ≤ maxLen) : CRow w (some ⟨L, 0, none⟩) (cls.length + 2) cls := by
  refine ⟨by omega, hcap, fun _ => ⟨L, 0, rfl, h.lt, fun i hi => ?_⟩⟩
  have hfl := flat_len clsCells 2 (fun _ => rfl) cls
  have hc : ∀ j u, (cls.flatMap clsCells)[j]? = some u → w.cell? ⟨L, j, none⟩ = some u := fun j u hu => h.cell (by
    rw [List.getElem?_append_left]
    · exact hu
    · rcases Nat.lt_or_ge j (cls.flatMap clsCells).length with h | h
      · exact h
      · rw [List.getElem?_eq_none h] at hu; cases hu)
  have := cls_cells hc i hi
  simp only [Nat.zero_add]
  exact this

set_option maxRecDepth 100000 in
set_option maxHeartbeats 1600000 in
theorem still_any (st rest : Int) (b : Option Addr) (capb L : Nat) (cls : List (Int × Int)) (w : World) (hL : Blk w L 37 (cls.flatMap clsCells ++ room4)) (hb : CRow w b capb cls) (hreach : cls.length * 16 ≤ 140737488351232) :
    Calls Try.prog 15 #[.agg #[.int .i64 st, .int .i64 rest, .slice (some ⟨L, 0, none⟩) cls.length (cls.length + 2)], .agg #[.int .i64 st, .int .i64 rest, .slice b cls.length capb]] w fun e w' => e = .returned (.bool true) ∧ Kept w w' (· = L) := by
  have hfl := flat_len clsCells 2 (fun _ => rfl) cls
  have hLl := hL.lt
  have hca : CRow w (some ⟨L, 0, none⟩) (cls.length + 2) cls := crow_own hL (by simp [maxLen]; omega)
  have HA : Hid (CRow w (some ⟨L, 0, none⟩) (cls.length + 2) cls) := hca
  have HB : Hid (CRow w b capb cls) := hb
  have HL : Hid (Blk w L 37 (cls.flatMap clsCells ++ room4)) := hL
  have n0 := hL.cell (j := cls.length * 2) (v := .int .i64 77) (by rw [List.getElem?_append_right (by omega)]; simp [hfl, room4])
  have n1 := hL.cell (j := cls.length * 2 + 1) (v := .int .i64 77) (by rw [List.getElem?_append_right (by omega)]; simp [hfl, room4])
  have n2 := hL.cell (j := (cls.length + 1) * 2) (v := .int .i64 77) (by rw [List.getElem?_append_right (by omega), hfl, show (cls.length + 1) * 2 - cls.length * 2 = 2 by omega]; rfl)
  have n3 := hL.cell (j := (cls.length + 1) * 2 + 1) (v := .int .i64 77) (by rw [List.getElem?_append_right (by omega), hfl, show (cls.length + 1) * 2 + 1 - cls.length * 2 = 3 by omega]; rfl)
  have a1 : ((cls.length : Int) + 1).toNat = cls.length + 1 := by omega
  have a2 : ((cls.length : Int) + 2).toNat = cls.length + 2 := by omega
  have e77 : ((77 : Int) == 77) = true := by decide
  clear hL hca hb hfl
  go_enter Try.func15, Try.ntmps15
  go_wp2_with (go_at_call 27; refine (same_any st rest _ _ _ _ cls _ (HA.out.below (((Below.refl _ _).alloc (Nat.le_refl _) _).alloc (by simp) _)) (HB.out.below (((Below.refl _ _).alloc (Nat.le_refl _) _).alloc (by simp) _))).mono ?_; rintro e1 w1 ⟨rfl, hb1⟩; have hw1 : Below w.heap.size w w1 := (((Below.refl _ _).alloc (Nat.le_refl _) _).alloc (by simp) _).trans (hb1.mono (by simp; omega)); have q2 := (hb1.cell (p := ⟨w.heap.size, 2, none⟩) (by simp; omega)).trans ((World.cell?_alloc_lt _ _ _ (by simp)).trans (World.cell?_alloc_new _ _ _ _)); have m0 := (hw1.cell (p := ⟨L, cls.length * 2, none⟩) hLl).trans n0; have m1 := (hw1.cell (p := ⟨L, cls.length * 2 + 1, none⟩) hLl).trans n1; have m2 := (hw1.cell (p := ⟨L, (cls.length + 1) * 2, none⟩) hLl).trans n2; have m3 := (hw1.cell (p := ⟨L, (cls.length + 1) * 2 + 1, none⟩) hLl).trans n3)
  have hown : Own w L (cls.length * 2 + 4) w1 := ⟨Kept.of_below hw1 _, _, HL.out.below hw1 hLl, by rw [List.length_append, flat_len clsCells 2 (fun _ => rfl)]; rfl⟩
  go_loopw [9] (fun i wr => ∃ m : Nat, m ≤ cls.length + 2 ∧ i = .int .i64 (m : Int) ∧ Own w L (cls.length * 2 + 4) wr) (fun i _ => cls.length + 2 - (intOf i).toNat)
  case atStart => exact ⟨0, by omega, rfl, hown⟩
  case round =>
    obtain ⟨m, hm, rfl, ho⟩ := hrel
    clear hown m0 m1 m2 m3 n0 n1 n2 n3 q2
    by_cases hlt : m < cls.length + 2
    · obtain ⟨v0, c0⟩ := ho.cell (m * 2) (by omega)
      obtain ⟨v1, c1⟩ := ho.cell (m * 2 + 1) (by omega)
      have f0 := ho.frozen (m * 2)
      have f1 := ho.frozen (m * 2 + 1)
      have hs := (ho.setCell (m * 2) (.int .i64 3)).setCell (m * 2 + 1) (.int .i64 2)
      go_wp2
      go_roundw
      case rel => exact ⟨m + 1, by omega, by go_num, hs⟩
      case measure => simp [intOf]; omega
    · go_wp2
      go_ret
      exact ⟨rfl, ho.kept⟩
end Go.Proofs.Ytjikemhmnkckcab
