import Derived.Test.YtjikemhmnkckcabJ12
import Derived.Test.YtjikemhmnkckcabJ10
namespace Go.Proofs.Ytjikemhmnkckcab
open Go.RowKit
attribute [local go_sem ↓] Go.wp_at_zero Go.wp_at_succ

theorem add_lit (g off j : Nat) : (⟨g, off, none⟩ : Addr).add j = ⟨g, off + j, none⟩ := by unfold Addr.add; split <;> simp_all

/-- what the owner of the handed list holds: the classes and two more -/
def room4 : List Value := [.int .i64 77, .int .i64 77, .int .i64 77, .int .i64 77]

/-- the cells of a list of classes as the reader has them -/
theorem ccells_flat {w : World} {g off : Nat} {cls : List (Int × Int)} (hc : ∀ i, i < cls.length → w.cell? ⟨g, off + i * 2, none⟩ = some (.int .i64 (Cf.gr cls i)) ∧ w.cell? ⟨g, off + i * 2 + 1, none⟩ = some (.int .i64 (Cf.sl cls i))) :
    ∀ j v, (cls.flatMap clsCells)[j]? = some v → w.cell? ((⟨g, off, none⟩ : Addr).add j) = some v := by
  intro j v hv
  have hj : j < cls.length * 2 := by
    have := flat_len clsCells 2 (fun _ => rfl) cls
    rcases Nat.lt_or_ge j (cls.flatMap clsCells).length with h | h
    · omega
    · rw [List.getElem?_eq_none h] at hv; cases hv
  have e : j = j / 2 * 2 + j % 2 := by omega
  have hi : j / 2 < cls.length := by omega
  have hf := flat_get clsCells 2 (fun _ => rfl) cls (j / 2) (j % 2) (by omega)
  rw [← e, hv, List.getElem?_eq_getElem hi] at hf
  have hd := hc (j / 2) hi
  rw [add_lit]
  have hcl : cls[j / 2] = cls.getD (j / 2) (0, 0) := by simp [List.getD_eq_getElem?_getD, List.getElem?_eq_getElem hi]
  rw [hcl] at hf
  rcases (show j % 2 = 0 ∨ j % 2 = 1 by omega) with h | h
  · rw [h] at hf; simp only [Option.bind_some, clsCells] at hf
    rw [show off + j = off + j / 2 * 2 by omega, hd.1]
    simpa [Cf.gr] using hf.symm
  · rw [h] at hf; simp only [Option.bind_some, clsCells] at hf
    rw [show off + j = off + j / 2 * 2 + 1 by omega, hd.2]
    simpa [Cf.sl] using hf.symm

set_option maxRecDepth 100000 in
set_option maxHeartbeats 3200000 in
theorem handed_any (st rest : Int) (a : Option Addr) (cap : Nat) (cls : List (Int × Int)) (w : World) (h : CRow w a cap cls) (hreach : cls.length * 16 ≤ 140737488351232) :
    Calls Try.prog 12 #[.agg #[.int .i64 st, .int .i64 rest, .slice a cls.length cap]] w fun e w' => ∃ L, e = .returned (.agg #[.int .i64 st, .int .i64 rest, .slice (some ⟨L, 0, none⟩) cls.length (cls.length + 2)]) ∧
      Below w.heap.size w w' ∧ w.heap.size ≤ L ∧ Blk w' L 37 (cls.flatMap clsCells ++ room4) := by
  obtain ⟨i0, hi0, hz0, hz1, hz2⟩ := info_parts info_cls
  have hlen := h.len
  have hcap := h.cap
  unfold maxLen at hcap
  -- the new list
  obtain ⟨mc, hmc, hmk⟩ : ∃ mc : List Value, mc.length = (cls.length + 2) * 2 ∧ ∀ w : World, (Instr.makeSlice 22 (.int .i64 ((cls.length : Int) + 2)) (.int .i64 ((cls.length : Int) + 2))).run Try.prog w = .ok (.slice (some ⟨w.heap.size, 0, none⟩) (cls.length + 2) (cls.length + 2)) (w.alloc (.cells mc.toArray 37)) := by
    refine ⟨(madeCells #[.int .i64 0, .int .i64 0] ((cls.length + 2) * 2)).toList, by simp [size_madeCells], fun w => ?_⟩
    have hr := run_make (P := Try.prog) w 22 37 i0 (.agg #[.int .i64 0, .int .i64 0]) Try.underlying22 hi0 hz0 .i64 .i64 ((cls.length : Int) + 2) ((cls.length : Int) + 2) (by omega) (by omega) (by rw [hz2]; omega) (by omega)
    rw [hr, hz1]
    simp [show ((cls.length : Int) + 2).toNat = cls.length + 2 by omega, Value.cells]
  have hsz : (Try.prog.info? 37).map (·.size) = some 2 := by rw [hi0]; simp [hz1]
  have hfl := flat_len clsCells 2 (fun _ => rfl) cls
  obtain ⟨t0, t1, t2, t3, htail⟩ : ∃ t0 t1 t2 t3, mc.drop (cls.length * 2) = [t0, t1, t2, t3] := by
    have hl : (mc.drop (cls.length * 2)).length = 4 := by rw [List.length_drop]; omega
    match hm : mc.drop (cls.length * 2), hl with
    | [t0, t1, t2, t3], _ => exact ⟨t0, t1, t2, t3, rfl⟩
  -- the copy
  obtain ⟨W3, hW3⟩ : ∃ W3 : World, W3 = ((w.alloc (.cells #[.int .i64 st, .int .i64 rest, .slice a cls.length cap] 24)).alloc (.cells #[.int .i64 0, .int .i64 0, .slice none 0 0] 24)).alloc (.cells mc.toArray 37) := ⟨_, rfl⟩
  have hs3 : W3.heap.size = w.heap.size + 3 := by rw [hW3]; simp
  have k3 : Below w.heap.size w W3 := by rw [hW3]; exact (((Below.refl _ _).alloc (Nat.le_refl _) _).alloc (by simp) _).alloc (by simp; omega) _
  have k0 : Blk W3 w.heap.size 24 [.int .i64 st, .int .i64 rest, .slice a cls.length cap] := by
    rw [hW3]
    exact ((Below.heap_alloc _ _ _ (by simp; omega)).trans (Below.heap_alloc _ _ _ (by simp))).trans (heap_alloc_new w _)
  have k1 : Blk W3 (w.heap.size + 1) 24 [.int .i64 0, .int .i64 0, .slice none 0 0] := by
    rw [hW3]
    refine (Below.heap_alloc _ _ _ (by simp)).trans ?_
    rw [show w.heap.size + 1 = (w.alloc (.cells #[.int .i64 st, .int .i64 rest, .slice a cls.length cap] 24)).heap.size by simp]
    exact heap_alloc_new _ _
  have k2 : Blk W3 (w.heap.size + 1 + 1) 37 mc := by
    rw [hW3]
    rw [show w.heap.size + 1 + 1 = ((w.alloc (.cells #[.int .i64 st, .int .i64 rest, .slice a cls.length cap] 24)).alloc (.cells #[.int .i64 0, .int .i64 0, .slice none 0 0] 24)).heap.size by simp]
    exact heap_alloc_new _ _
  obtain ⟨W4, hrun, hs4, m0, m1, m2, k4⟩ : ∃ W4 : World, (Builtin.copy_ #[22, 22] 3 #[.slice (some ⟨w.heap.size + 1 + 1, 0, none⟩) (cls.length + 2) (cls.length + 2), .slice a cls.length cap]).run Try.prog W3 = .ok (goInt cls.length) W4 ∧ W4.heap.size = w.heap.size + 3 ∧
      Blk W4 w.heap.size 24 [.int .i64 st, .int .i64 rest, .slice a cls.length cap] ∧ Blk W4 (w.heap.size + 1) 24 [.int .i64 0, .int .i64 0, .slice none 0 0] ∧ Blk W4 (w.heap.size + 1 + 1) 37 (cls.flatMap clsCells ++ [t0, t1, t2, t3]) ∧ Below w.heap.size w W4 := by
    by_cases hn0 : cls.length = 0
    · have hcl : cls = [] := List.eq_nil_of_length_eq_zero hn0
      subst hcl
      refine ⟨W3, run_copy_empty W3 _ _ _ 37 2 _ _ _ _ _ Try.underlying22 hsz, hs3, k0, k1, ?_, k3⟩
      have : mc = [t0, t1, t2, t3] := by simpa using htail
      rw [← this]; simpa using k2
    · obtain ⟨g, off, ha, hg, hc⟩ := h.cells (by omega)
      subst ha
      have hc3 := fun i hi => (⟨(k3.cell (p := ⟨g, off + i * 2, none⟩) hg).trans (hc i hi).1, (k3.cell (p := ⟨g, off + i * 2 + 1, none⟩) hg).trans (hc i hi).2⟩ : W3.cell? ⟨g, off + i * 2, none⟩ = some (.int .i64 (Cf.gr cls i)) ∧ W3.cell? ⟨g, off + i * 2 + 1, none⟩ = some (.int .i64 (Cf.sl cls i)))
      have hrn := run_copy_wide (P := Try.prog) W3 22 22 3 37 2 (w.heap.size + 1 + 1) (cls.length + 2) (cls.length + 2) ⟨g, off, none⟩ cls.length cap mc.toArray 37 (cls.flatMap clsCells) Try.underlying22 hsz k2 (by omega) hfl (ccells_flat hc3) (by rw [hfl]; simp [hmc]; omega) (by intro v hv; simp only [List.mem_flatMap, clsCells] at hv; obtain ⟨x, _, hv⟩ := hv; simp at hv; rcases hv with rfl | rfl <;> rfl)
      rw [hfl, htail] at hrn
      refine ⟨_, hrn, by simp [World.setRow, hs3], ?_, ?_, setRow_heap W3 _ _ _ _ _ k2, k3.trans ⟨rfl, rfl, rfl, by simp [World.setRow], fun k hk => setRow_other W3 _ k _ (by omega)⟩⟩
      · exact (setRow_other W3 _ _ _ (by omega)).trans k0
      · exact (setRow_other W3 _ _ _ (by omega)).trans k1
  rw [hW3] at hrun
  have hL : (cls.flatMap clsCells ++ [t0, t1, t2, t3]).length = cls.length * 2 + 4 := by simp [hfl]
  have n0 := m2.cell (j := cls.length * 2) (v := t0) (by rw [List.getElem?_append_right (by omega)]; simp [hfl])
  have n1 := m2.cell (j := cls.length * 2 + 1) (v := t1) (by rw [List.getElem?_append_right (by omega)]; simp [hfl])
  have n2 := m2.cell (j := (cls.length + 1) * 2) (v := t2) (by rw [List.getElem?_append_right (by omega), hfl, show (cls.length + 1) * 2 - cls.length * 2 = 2 by omega]; rfl)
  have n3 := m2.cell (j := (cls.length + 1) * 2 + 1) (v := t3) (by rw [List.getElem?_append_right (by omega), hfl, show (cls.length + 1) * 2 + 1 - cls.length * 2 = 3 by omega]; rfl)
  have f0 := m2.frozen (cls.length * 2)
  have f1 := m2.frozen (cls.length * 2 + 1)
  have f2 := m2.frozen ((cls.length + 1) * 2)
  have f3 := m2.frozen ((cls.length + 1) * 2 + 1)
  have p0 := m0.cell (j := 0) rfl
  have p1 := m0.cell (j := 1) rfl
  have r0 := m1.cell (j := 0) rfl
  have r1 := m1.cell (j := 1) rfl
  have r2 := m1.cell (j := 2) rfl
  have rf0 := m1.frozen 0
  have rf1 := m1.frozen 1
  have rf2 := m1.frozen 2
  have M2 : Hid (Blk W4 (w.heap.size + 1 + 1) 37 (cls.flatMap clsCells ++ [t0, t1, t2, t3])) := m2
  have K4 : Hid (Below w.heap.size w W4) := k4
  have a1 : ((cls.length : Int) + 1).toNat = cls.length + 1 := by omega
  clear h k0 k1 k2 k3 hW3 m0 m1 m2 k4 hs3 htail hmc hi0 hz0 hz1 hz2 hsz
  go_enter Try.func12, Try.ntmps12
  go_wp2_with fail
  obtain ⟨W5, hW5⟩ : ∃ W5, W5 = (((W4.setCell ⟨w.heap.size + 1 + 1, cls.length * 2, none⟩ (.int .i64 77)).setCell ⟨w.heap.size + 1 + 1, cls.length * 2 + 1, none⟩ (.int .i64 77)).setCell ⟨w.heap.size + 1 + 1, (cls.length + 1) * 2, none⟩ (.int .i64 77)).setCell ⟨w.heap.size + 1 + 1, (cls.length + 1) * 2 + 1, none⟩ (.int .i64 77) := ⟨_, rfl⟩
  rw [← hW5]
  have M5 : Hid (Blk W5 (w.heap.size + 1 + 1) 37 (cls.flatMap clsCells ++ room4)) := by
    have e := (((M2.out.setCell (cls.length * 2) (.int .i64 77)).setCell (cls.length * 2 + 1) (.int .i64 77)).setCell ((cls.length + 1) * 2) (.int .i64 77)).setCell ((cls.length + 1) * 2 + 1) (.int .i64 77)
    rw [← hW5] at e
    have e2 : ((((cls.flatMap clsCells ++ [t0, t1, t2, t3]).set (cls.length * 2) (.int .i64 77)).set (cls.length * 2 + 1) (.int .i64 77)).set ((cls.length + 1) * 2) (.int .i64 77)).set ((cls.length + 1) * 2 + 1) (.int .i64 77) = cls.flatMap clsCells ++ room4 := by
      rw [List.set_append_right _ _ (by omega), List.set_append_right _ _ (by omega), List.set_append_right _ _ (by omega), List.set_append_right _ _ (by omega), hfl,
        show cls.length * 2 - cls.length * 2 = 0 by omega, show cls.length * 2 + 1 - cls.length * 2 = 1 by omega, show (cls.length + 1) * 2 - cls.length * 2 = 2 by omega, show (cls.length + 1) * 2 + 1 - cls.length * 2 = 3 by omega]
      rfl
    rw [e2] at e
    exact e
  have K5 : Hid (Below w.heap.size w W5) := by
    rw [hW5]
    exact (((K4.out.setCell (by show _ ≤ w.heap.size + 1 + 1; omega) _).setCell (by show _ ≤ w.heap.size + 1 + 1; omega) _).setCell (by show _ ≤ w.heap.size + 1 + 1; omega) _).setCell (by show _ ≤ w.heap.size + 1 + 1; omega) _
  have ho : ∀ b j, b ≠ w.heap.size + 1 + 1 → W5.cell? ⟨b, j, none⟩ = W4.cell? ⟨b, j, none⟩ := fun b j hb => by
    rw [hW5, World.cell?_setCell_other _ _ _ _ (by intro e; injection e with e _ _; omega), World.cell?_setCell_other _ _ _ _ (by intro e; injection e with e _ _; omega), World.cell?_setCell_other _ _ _ _ (by intro e; injection e with e _ _; omega), World.cell?_setCell_other _ _ _ _ (by intro e; injection e with e _ _; omega)]
  have hf : ∀ a, W5.frozen? a = W4.frozen? a := fun a => by rw [hW5]; simp
  have p0' := (ho w.heap.size 0 (by omega)).trans p0
  have p1' := (ho w.heap.size 1 (by omega)).trans p1
  have r0' := (ho (w.heap.size + 1) 0 (by omega)).trans r0
  have r1' := (ho (w.heap.size + 1) 1 (by omega)).trans r1
  have r2' := (ho (w.heap.size + 1) 2 (by omega)).trans r2
  have rf0' := (hf _).trans rf0
  have rf1' := (hf _).trans rf1
  have rf2' := (hf _).trans rf2
  clear hW5 ho hf p0 p1 r0 r1 r2 rf0 rf1 rf2 n0 n1 n2 n3 f0 f1 f2 f3 hmk hrun M2 K4
  have x0 : (0 : Int) ≤ (cls.length : Int) := by omega
  have x1 : (cls.length : Int) ≤ (cls.length : Int) + 2 := by omega
  go_region
  all_goals go_wp2
  refine bodyPost_ret (v := .agg #[.int .i64 st, .int .i64 rest, .slice (some ⟨w.heap.size + 1 + 1, 0, none⟩) cls.length (cls.length + 2)]) (by simp [results, Try.results12, go_sem, r0', r1', r2']) rfl ⟨w.heap.size + 1 + 1, rfl, ?_, by omega, ?_⟩
  · exact ((K5.out.drew.setCell (by show _ ≤ w.heap.size + 1; omega) _).setCell (by show _ ≤ w.heap.size + 1; omega) _).setCell (by show _ ≤ w.heap.size + 1; omega) _
  · have e : Blk W5.drew (w.heap.size + 1 + 1) 37 (cls.flatMap clsCells ++ room4) := M5.out
    exact ((e.setCell_other _ _ (by show _ ≠ w.heap.size + 1; omega)).setCell_other _ _ (by show _ ≠ w.heap.size + 1; omega)).setCell_other _ _ (by show _ ≠ w.heap.size + 1; omega)
end Go.Proofs.Ytjikemhmnkckcab
namespace Go.Proofs.Ytjikemhmnkckcab
open Go.RowKit
attribute [local go_sem ↓] Go.wp_at_zero Go.wp_at_succ

set_option maxRecDepth 100000 in
set_option maxHeartbeats 1600000 in
theorem same_any (st rest : Int) (a b : Option Addr) (cap capb : Nat) (cls : List (Int × Int)) (w : World) (ha : CRow w a cap cls) (hb : CRow w b capb cls) :
    Calls Try.prog 27 #[.agg #[.int .i64 st, .int .i64 rest, .slice a cls.length cap], .agg #[.int .i64 st, .int .i64 rest, .slice b cls.length capb]] w fun e w' => e = .returned (.bool true) ∧ Below w.heap.size w w' := by
  have l1 := ha.len
  have l2 := ha.cap
  unfold maxLen at l2
  have l3 := hb.len
  have l4 := hb.cap
  unfold maxLen at l4
  have HA : Hid (CCells w a cls) := ha.cells
  have HB : Hid (CCells w b cls) := hb.cells
  have e1 : (st != st) = false := by simp
  have e2 : (rest != rest) = false := by simp
  have e3 : (((cls.length : Nat) : Int) != ((cls.length : Nat) : Int)) = false := by simp
  clear ha hb
  go_enter Try.func27, Try.ntmps27
  go_wp2
  go_loopw [5] (fun i wr => ∃ m : Nat, m ≤ cls.length ∧ i = .int .i64 (m : Int) ∧ Below w.heap.size w wr ∧ CBox wr w.heap.size st rest a cls.length cap ∧ CBox wr (w.heap.size + 1) st rest b cls.length capb) (fun i _ => cls.length - (intOf i).toNat)
  case atStart =>
    refine ⟨0, by omega, rfl, ((Below.refl _ _).alloc (Nat.le_refl _) _).alloc (by simp) _, (CBox.alloc _ _ _ _ _ _ _).below ((Below.refl _ _).alloc (Nat.le_refl _) _) (by simp), ?_⟩
    have := CBox.alloc (w.alloc (.cells #[.int .i64 st, .int .i64 rest, .slice a cls.length cap] 24)) st rest b cls.length capb 24
    simpa using this
  case round =>
    obtain ⟨m, hm, rfl, hb, ca, cb⟩ := hrel
    have c2 := ca.c2
    have d2 := cb.c2
    by_cases hlt : m < cls.length
    · obtain ⟨g, off, rfl, hgl, hcell⟩ := HA.out (by omega)
      obtain ⟨g', off', rfl, hgl', hcell'⟩ := HB.out (by omega)
      have x0 := (hb.cell (p := ⟨g, off + m * 2, none⟩) hgl).trans (hcell m hlt).1
      have x1 := (hb.cell (p := ⟨g, off + m * 2 + 1, none⟩) hgl).trans (hcell m hlt).2
      have y0 := (hb.cell (p := ⟨g', off' + m * 2, none⟩) hgl').trans (hcell' m hlt).1
      have y1 := (hb.cell (p := ⟨g', off' + m * 2 + 1, none⟩) hgl').trans (hcell' m hlt).2
      have i0 : (0 : Int) ≤ (m : Int) := by omega
      have i1 : (m : Int) < (cls.length : Int) := by omega
      generalize Cf.gr cls m = x at *
      generalize Cf.sl cls m = y at *
      clear hcell hcell' HA HB
      go_wp2
      go_quiet (fail)
      go_wp2
      go_roundw
      case rel => exact ⟨m + 1, by omega, by go_num, below_drewN hb _, ca.below (below_drewN (Below.refl wr.heap.size _) _) ca.lt, cb.below (below_drewN (Below.refl wr.heap.size _) _) cb.lt⟩
      case measure => simp [intOf]; omega
    · go_wp2
      go_ret
      exact ⟨rfl, hb⟩

/-- the owner's list, as far as it can be written -/
structure Own (w : World) (L n : Nat) (wr : World) : Prop where
  kept : Kept w wr (· = L)
  blk : ∃ xs, Blk wr L 37 xs ∧ xs.length = n

theorem Kept.refl (w : World) (S : Nat → Prop) : Kept w w S := ⟨rfl, rfl, rfl, Nat.le_refl _, fun _ _ _ => rfl⟩
theorem Kept.setCell {w wr : World} {S : Nat → Prop} (h : Kept w wr S) (a : Addr) (v : Value) (ha : S a.block) : Kept w (wr.setCell a v) S :=
  ⟨h.os, h.tape, h.output, by rw [World.size_setCell]; exact h.size, fun k hk hs => (Below.heap_setCell wr a v k (fun e => hs (e ▸ ha))).trans (h.block k hk hs)⟩
theorem Own.setCell {w wr : World} {L n : Nat} (h : Own w L n wr) (j : Nat) (v : Value) : Own w L n (wr.setCell ⟨L, j, none⟩ v) := by
  obtain ⟨xs, hx, hn⟩ := h.blk
  exact ⟨h.kept.setCell _ _ rfl, _, hx.setCell j v, by rw [List.length_set]; exact hn⟩
theorem Own.cell {w wr : World} {L n : Nat} (h : Own w L n wr) (j : Nat) (hj : j < n) : ∃ v, wr.cell? ⟨L, j, none⟩ = some v := by
  obtain ⟨xs, hx, hn⟩ := h.blk
  exact ⟨xs[j], hx.cell (List.getElem?_eq_getElem (by omega))⟩
theorem Own.frozen {w wr : World} {L n : Nat} (h : Own w L n wr) (j : Nat) : wr.frozen? ⟨L, j, none⟩ = false := by
  obtain ⟨xs, hx, hn⟩ := h.blk
  exact hx.frozen j

theorem crow_own {w : World} {L : Nat} {cls : List (Int × Int)} {tl : List Value} (h : Blk w L 37 (cls.flatMap clsCells ++ tl)) (hcap : cls.length + 2 ≤ maxLen) : CRow w (some ⟨L, 0, none⟩) (cls.length + 2) cls := by
  refine ⟨by omega, hcap, fun _ => ⟨L, 0, rfl, h.lt, fun i hi => ?_⟩⟩
  have hfl := flat_len clsCells 2 (fun _ => rfl) cls
  have hc : ∀ j u, (cls.flatMap clsCells)[j]? = some u → w.cell? ⟨L, j, none⟩ = some u := fun j u hu => h.cell (by
    rw [List.getElem?_append_left]
    · exact hu
    · rcases Nat.lt_or_ge j (cls.flatMap clsCells).length with h | h
      · exact h
      · rw [List.getElem?_eq_none h] at hu; cases hu)
  have := cls_cells hc i hi
  simp only [Nat.zero_add]
  exact this

set_option maxRecDepth 100000 in
set_option maxHeartbeats 1600000 in
theorem still_any (st rest : Int) (b : Option Addr) (capb L : Nat) (cls : List (Int × Int)) (w : World) (hL : Blk w L 37 (cls.flatMap clsCells ++ room4)) (hb : CRow w b capb cls) (hreach : cls.length * 16 ≤ 140737488351232) :
    Calls Try.prog 15 #[.agg #[.int .i64 st, .int .i64 rest, .slice (some ⟨L, 0, none⟩) cls.length (cls.length + 2)], .agg #[.int .i64 st, .int .i64 rest, .slice b cls.length capb]] w fun e w' => e = .returned (.bool true) ∧ Kept w w' (· = L) := by
  have hfl := flat_len clsCells 2 (fun _ => rfl) cls
  have hLl := hL.lt
  have hca : CRow w (some ⟨L, 0, none⟩) (cls.length + 2) cls := crow_own hL (by simp [maxLen]; omega)
  have HA : Hid (CRow w (some ⟨L, 0, none⟩) (cls.length + 2) cls) := hca
  have HB : Hid (CRow w b capb cls) := hb
  have HL : Hid (Blk w L 37 (cls.flatMap clsCells ++ room4)) := hL
  have n0 := hL.cell (j := cls.length * 2) (v := .int .i64 77) (by rw [List.getElem?_append_right (by omega)]; simp [hfl, room4])
  have n1 := hL.cell (j := cls.length * 2 + 1) (v := .int .i64 77) (by rw [List.getElem?_append_right (by omega)]; simp [hfl, room4])
  have n2 := hL.cell (j := (cls.length + 1) * 2) (v := .int .i64 77) (by rw [List.getElem?_append_right (by omega), hfl, show (cls.length + 1) * 2 - cls.length * 2 = 2 by omega]; rfl)
  have n3 := hL.cell (j := (cls.length + 1) * 2 + 1) (v := .int .i64 77) (by rw [List.getElem?_append_right (by omega), hfl, show (cls.length + 1) * 2 + 1 - cls.length * 2 = 3 by omega]; rfl)
  have a1 : ((cls.length : Int) + 1).toNat = cls.length + 1 := by omega
  have a2 : ((cls.length : Int) + 2).toNat = cls.length + 2 := by omega
  have e77 : ((77 : Int) == 77) = true := by decide
  clear hL hca hb hfl
  go_enter Try.func15, Try.ntmps15
  go_wp2_with (go_at_call 27; refine (same_any st rest _ _ _ _ cls _ (HA.out.below (((Below.refl _ _).alloc (Nat.le_refl _) _).alloc (by simp) _)) (HB.out.below (((Below.refl _ _).alloc (Nat.le_refl _) _).alloc (by simp) _))).mono ?_; rintro e1 w1 ⟨rfl, hb1⟩; have hw1 : Below w.heap.size w w1 := (((Below.refl _ _).alloc (Nat.le_refl _) _).alloc (by simp) _).trans (hb1.mono (by simp; omega)); have q2 := (hb1.cell (p := ⟨w.heap.size, 2, none⟩) (by simp; omega)).trans ((World.cell?_alloc_lt _ _ _ (by simp)).trans (World.cell?_alloc_new _ _ _ _)); have m0 := (hw1.cell (p := ⟨L, cls.length * 2, none⟩) hLl).trans n0; have m1 := (hw1.cell (p := ⟨L, cls.length * 2 + 1, none⟩) hLl).trans n1; have m2 := (hw1.cell (p := ⟨L, (cls.length + 1) * 2, none⟩) hLl).trans n2; have m3 := (hw1.cell (p := ⟨L, (cls.length + 1) * 2 + 1, none⟩) hLl).trans n3)
  have hown : Own w L (cls.length * 2 + 4) w1 := ⟨Kept.of_below hw1 _, _, HL.out.below hw1 hLl, by rw [List.length_append, flat_len clsCells 2 (fun _ => rfl)]; rfl⟩
  go_loopw [9] (fun i wr => ∃ m : Nat, m ≤ cls.length + 2 ∧ i = .int .i64 (m : Int) ∧ Own w L (cls.length * 2 + 4) wr) (fun i _ => cls.length + 2 - (intOf i).toNat)
  case atStart => exact ⟨0, by omega, rfl, hown⟩
  case round =>
    obtain ⟨m, hm, rfl, ho⟩ := hrel
    clear hown m0 m1 m2 m3 n0 n1 n2 n3 q2
    by_cases hlt : m < cls.length + 2
    · obtain ⟨v0, c0⟩ := ho.cell (m * 2) (by omega)
      obtain ⟨v1, c1⟩ := ho.cell (m * 2 + 1) (by omega)
      have f0 := ho.frozen (m * 2)
      have f1 := ho.frozen (m * 2 + 1)
      have hs := (ho.setCell (m * 2) (.int .i64 3)).setCell (m * 2 + 1) (.int .i64 2)
      go_wp2
      go_roundw
      case rel => exact ⟨m + 1, by omega, by go_num, hs⟩
      case measure => simp [intOf]; omega
    · go_wp2
      go_ret
      exact ⟨rfl, ho.kept⟩
end Go.Proofs.Ytjikemhmnkckcab
/- The law's sameProgram. -/
namespace Go.Proofs.Ytjikemhmnkckcab
open Go.RowKit
attribute [local go_sem ↓] Go.wp_at_zero Go.wp_at_succ

set_option maxRecDepth 100000 in
set_option maxHeartbeats 1600000 in
theorem sameProgram_any (st rest : Int) (a b : Option Addr) (cap capb : Nat) (cls : List (Int × Int)) (d : ByteArray) (ia ib : Option Addr) (icap icapb : Nat) (code : List Ins) (w : World) (ha : CRow w a cap cls) (hb : CRow w b capb cls) (hia : IRow w ia icap code) (hib : IRow w ib icapb code) :
    Calls Try.prog 9 #[.agg #[.int .i64 st, .int .i64 rest, .slice a cls.length cap, .string d, .slice ia code.length icap], .agg #[.int .i64 st, .int .i64 rest, .slice b cls.length capb, .string d, .slice ib code.length icapb]] w fun e w' => e = .returned (.bool true) ∧ Below w.heap.size w w' := by
  have l1 := hia.len
  have l2 := hia.cap
  unfold maxLen at l2
  have l3 := hib.len
  have l4 := hib.cap
  unfold maxLen at l4
  have HA := hide2 ha
  have HB := hide2 hb
  have HIA := hide2 hia
  have HIB := hide2 hib
  have e3 : (((code.length : Nat) : Int) != ((code.length : Nat) : Int)) = false := by simp
  clear ha hb hia hib
  go_enter Try.func9, Try.ntmps9
  go_wp2_with fail
  obtain ⟨wa, hwa⟩ : ∃ wa, wa = (w.alloc (.cells #[.int .i64 st, .int .i64 rest, .slice a cls.length cap, .string d, .slice ia code.length icap] 27)).alloc (.cells #[.int .i64 st, .int .i64 rest, .slice b cls.length capb, .string d, .slice ib code.length icapb] 27) := ⟨_, rfl⟩
  rw [← hwa]
  have HBA : Hid (Below w.heap.size w wa) := by show Below _ _ _; rw [hwa]; exact ((Below.refl _ _).alloc (Nat.le_refl _) _).alloc (by simp) _
  have HP : Hid (Blk wa w.heap.size 27 [.int .i64 st, .int .i64 rest, .slice a cls.length cap, .string d, .slice ia code.length icap]) := by
    show Blk _ _ _ _; rw [hwa]; exact (Below.heap_alloc _ _ _ (by simp)).trans (heap_alloc_new w _)
  have HQ : Hid (Blk wa (w.heap.size + 1) 27 [.int .i64 st, .int .i64 rest, .slice b cls.length capb, .string d, .slice ib code.length icapb]) := by
    show Blk _ _ _ _; rw [hwa, show w.heap.size + 1 = (w.alloc (.cells #[.int .i64 st, .int .i64 rest, .slice a cls.length cap, .string d, .slice ia code.length icap] 27)).heap.size by simp]; exact heap_alloc_new _ _
  clear hwa
  refine (same_any st rest a b cap capb cls _ (HA.out.below HBA.out) (HB.out.below HBA.out)).mono ?_
  rintro e1 w1 ⟨rfl, hb1⟩
  have HP1 := hide2 (HP.out.below hb1 HP.out.lt)
  have HQ1 := hide2 (HQ.out.below hb1 HQ.out.lt)
  have HB1 : Hid (Below w.heap.size w w1) := HBA.out.trans (hb1.mono HBA.out.size)
  clear hb1 HP HQ HBA
  have p3 := HP1.out.cell (j := 3) rfl
  have p4 := HP1.out.cell (j := 4) rfl
  have q3 := HQ1.out.cell (j := 3) rfl
  have q4 := HQ1.out.cell (j := 4) rfl
  go_wp2
  go_loopw [6] (fun i wr => ∃ m : Nat, m ≤ code.length ∧ i = .int .i64 (m : Int) ∧ Hid (Below w1.heap.size w1 wr)) (fun i _ => code.length - (intOf i).toNat)
  case atStart => exact ⟨0, by omega, rfl, Below.refl _ _⟩
  case round =>
    obtain ⟨m, hm, rfl, HBR⟩ := hrel
    have p4' := (HBR.out.cell (p := ⟨w.heap.size, 4, none⟩) HP1.out.lt).trans p4
    have q4' := (HBR.out.cell (p := ⟨w.heap.size + 1, 4, none⟩) HQ1.out.lt).trans q4
    clear p3 q3 p4 q4
    by_cases hlt : m < code.length
    · have HWR : Hid (Below w.heap.size w wr) := HB1.out.trans (HBR.out.mono HB1.out.size)
      obtain ⟨g, off, rfl, hgl, hcell⟩ := HIA.out.cells (by omega)
      obtain ⟨g', off', rfl, hgl', hcell'⟩ := HIB.out.cells (by omega)
      obtain ⟨x0, x1, x2, x3⟩ := hcell m hlt
      obtain ⟨y0, y1, y2, y3⟩ := hcell' m hlt
      have x0' := (HWR.out.cell (p := ⟨g, off + m * 4, none⟩) hgl).trans x0
      have x1' := (HWR.out.cell (p := ⟨g, off + m * 4 + 1, none⟩) hgl).trans x1
      have x2' := (HWR.out.cell (p := ⟨g, off + m * 4 + 2, none⟩) hgl).trans x2
      have x3' := (HWR.out.cell (p := ⟨g, off + m * 4 + 3, none⟩) hgl).trans x3
      have y0' := (HWR.out.cell (p := ⟨g', off' + m * 4, none⟩) hgl').trans y0
      have y1' := (HWR.out.cell (p := ⟨g', off' + m * 4 + 1, none⟩) hgl').trans y1
      have y2' := (HWR.out.cell (p := ⟨g', off' + m * 4 + 2, none⟩) hgl').trans y2
      have y3' := (HWR.out.cell (p := ⟨g', off' + m * 4 + 3, none⟩) hgl').trans y3
      have i0 : (0 : Int) ≤ (m : Int) := by omega
      have i1 : (m : Int) < (code.length : Int) := by omega
      clear x0 x1 x2 x3 y0 y1 y2 y3 hcell hcell'
      generalize (code.getD m Ins.no).op = z0 at *
      generalize (code.getD m Ins.no).a = z1 at *
      generalize (code.getD m Ins.no).b = z2 at *
      generalize (code.getD m Ins.no).c = z3 at *
      go_wp2
      go_quiet (fail)
      go_wp2
      go_roundw
      case rel => exact ⟨m + 1, by omega, by go_num, below_drewN HBR.out _⟩
      case measure => simp [intOf]; omega
    · go_wp2
      go_ret
      exact ⟨rfl, HB1.out.trans (HBR.out.mono HB1.out.size)⟩
end Go.Proofs.Ytjikemhmnkckcab
