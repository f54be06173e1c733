import Derived.Test.YtjikemhmnkckcabRefNew
import Derived.Test.YtjikemhmnkckcabCopyWide
namespace Go.Proofs.Ytjikemhmnkckcab
open Go.RowKit
attribute [local go_sem ↓] Go.wp_at_zero Go.wp_at_succ

theorem add_lit (g off j : Nat) : (⟨g, off, none⟩ : Addr).add j = ⟨g, off + j, none⟩ := by unfold Addr.add; split <;> simp_all

/-- what the owner of the handed list holds: the classes and two more -/
def room4 : List Value := [.int .i64 77, .int .i64 77, .int .i64 77, .int .i64 77]

/-- the cells of a list of classes as the reader has them -/
theorem ccells_flat {w : World} {g off : Nat} {cls : List (Int × Int)} (hc : ∀ i, i < cls.length → w.cell? ⟨g, off + i * 2, none⟩ = some (.int .i64 (Cf.gr cls i)) ∧ w.cell? ⟨g, off + i * 2 + 1, none⟩ = some (.int .i64 (Cf.sl cls i))) :
    ∀ j v, (cls.flatMap clsCells)[j]? = some v → w.cell? ((⟨g, off, none⟩ : Addr).add j) = some v := by
  intro j v hv
  have hj : j < cls.length * 2 := by
    have := flat_len clsCells 2 (fun _ => rfl) cls
    rcases Nat.lt_or_ge j (cls.flatMap clsCells).length with h | h
    · omega
    · rw [List.getElem?_eq_none h] at hv; cases hv
  have e : j = j / 2 * 2 + j % 2 := by omega
  have hi : j / 2 < cls.length := by omega
  have hf := flat_get clsCells 2 (fun _ => rfl) cls (j / 2) (j % 2) (by omega)
  rw [← e, hv, List.getElem?_eq_getElem hi] at hf
  have hd := hc (j / 2) hi
  rw [add_lit]
  have hcl : cls[j / 2] = cls.getD (j / 2) (0, 0) := by simp [List.getD_eq_getElem?_getD, List.getElem?_eq_getElem hi]
  rw [hcl] at hf
  rcases (show j % 2 = 0 ∨ j % 2 = 1 by omega) with h | h
  · rw [h] at hf; simp only [Option.bind_some, clsCells] at hf
    rw [show off + j = off + j / 2 * 2 by omega, hd.1]
    simpa [Cf.gr] using hf.symm
  · rw [h] at hf; simp only [Option.bind_some, clsCells] at hf
    rw [show off + j = off + j / 2 * 2 + 1 by omega, hd.2]
    simpa [Cf.sl] using hf.symm

set_option maxRecDepth 100000 in
set_option maxHeartbeats 3200000 in
theorem handed_any (st rest : Int) (a : Option Addr) (cap : Nat) (cls : List (Int × Int)) (w : World) (h : CRow w a cap cls) (hreach : cls.length * 16 ≤ 140737488351232) :
    Calls Try.prog 12 #[.agg #[.int .i64 st, .int .i64 rest, .slice a cls.length cap]] w fun e w' => ∃ L, e = .returned (.agg #[.int .i64 st, .int .i64 rest, .slice (some ⟨L, 0, none⟩) cls.length (cls.length + 2)]) ∧
      Below w.heap.size w w' ∧ w.heap.size ≤ L ∧ Blk w' L 37 (cls.flatMap clsCells ++ room4) := by
  obtain ⟨i0, hi0, hz0, hz1, hz2⟩ := info_parts info_cls
  have hlen := h.len
  have hcap := h.cap
  unfold maxLen at hcap
  -- the new list
  obtain ⟨mc, hmc, hmk⟩ : ∃ mc : List Value, mc.length = (cls.length + 2) * 2 ∧ ∀ w : World, (Instr.makeSlice 22 (.int .i64 ((cls.length : Int) + 2)) (.int .i64 ((cls.length : Int) + 2))).run Try.prog w = .ok (.slice (some ⟨w.heap.size, 0, none⟩) (cls.length + 2) (cls.length + 2)) (w.alloc (.cells mc.toArray 37)) := by
    refine ⟨(madeCells #[.int .i64 0, .int .i64 0] ((cls.length + 2) * 2)).toList, by simp [size_madeCells], fun w => ?_⟩
    have hr := run_make (P := Try.prog) w 22 37 i0 (.agg #[.int .i64 0, .int .i64 0]) Try.underlying22 hi0 hz0 .i64 .i64 ((cls.length : Int) + 2) ((cls.length : Int) + 2) (by omega) (by omega) (by rw [hz2]; omega) (by omega)
    rw [hr, hz1]
    simp [show ((cls.length : Int) + 2).toNat = cls.length + 2 by omega, Value.cells]
  have hsz : (Try.prog.info? 37).map (·.size) = some 2 := by rw [hi0]; simp [hz1]
  have hfl := flat_len clsCells 2 (fun _ => rfl) cls
  obtain ⟨t0, t1, t2, t3, htail⟩ : ∃ t0 t1 t2 t3, mc.drop (cls.length * 2) = [t0, t1, t2, t3] := by
    have hl : (mc.drop (cls.length * 2)).length = 4 := by rw [List.length_drop]; omega
    match hm : mc.drop (cls.length * 2), hl with
    | [t0, t1, t2, t3], _ => exact ⟨t0, t1, t2, t3, rfl⟩
  -- the copy
  obtain ⟨W3, hW3⟩ : ∃ W3 : World, W3 = ((w.alloc (.cells #[.int .i64 st, .int .i64 rest, .slice a cls.length cap] 24)).alloc (.cells #[.int .i64 0, .int .i64 0, .slice none 0 0] 24)).alloc (.cells mc.toArray 37) := ⟨_, rfl⟩
  have hs3 : W3.heap.size = w.heap.size + 3 := by rw [hW3]; simp
  have k3 : Below w.heap.size w W3 := by rw [hW3]; exact (((Below.refl _ _).alloc (Nat.le_refl _) _).alloc (by simp) _).alloc (by simp; omega) _
  have k0 : Blk W3 w.heap.size 24 [.int .i64 st, .int .i64 rest, .slice a cls.length cap] := by
    rw [hW3]
    exact ((Below.heap_alloc _ _ _ (by simp; omega)).trans (Below.heap_alloc _ _ _ (by simp))).trans (heap_alloc_new w _)
  have k1 : Blk W3 (w.heap.size + 1) 24 [.int .i64 0, .int .i64 0, .slice none 0 0] := by
    rw [hW3]
    refine (Below.heap_alloc _ _ _ (by simp)).trans ?_
    rw [show w.heap.size + 1 = (w.alloc (.cells #[.int .i64 st, .int .i64 rest, .slice a cls.length cap] 24)).heap.size by simp]
    exact heap_alloc_new _ _
  have k2 : Blk W3 (w.heap.size + 1 + 1) 37 mc := by
    rw [hW3]
    rw [show w.heap.size + 1 + 1 = ((w.alloc (.cells #[.int .i64 st, .int .i64 rest, .slice a cls.length cap] 24)).alloc (.cells #[.int .i64 0, .int .i64 0, .slice none 0 0] 24)).heap.size by simp]
    exact heap_alloc_new _ _
  obtain ⟨W4, hrun, hs4, m0, m1, m2, k4⟩ : ∃ W4 : World, (Builtin.copy_ #[22, 22] 3 #[.slice (some ⟨w.heap.size + 1 + 1, 0, none⟩) (cls.length + 2) (cls.length + 2), .slice a cls.length cap]).run Try.prog W3 = .ok (goInt cls.length) W4 ∧ W4.heap.size = w.heap.size + 3 ∧
      Blk W4 w.heap.size 24 [.int .i64 st, .int .i64 rest, .slice a cls.length cap] ∧ Blk W4 (w.heap.size + 1) 24 [.int .i64 0, .int .i64 0, .slice none 0 0] ∧ Blk W4 (w.heap.size + 1 + 1) 37 (cls.flatMap clsCells ++ [t0, t1, t2, t3]) ∧ Below w.heap.size w W4 := by
    by_cases hn0 : cls.length = 0
    · have hcl : cls = [] := List.eq_nil_of_length_eq_zero hn0
      subst hcl
      refine ⟨W3, run_copy_empty W3 _ _ _ 37 2 _ _ _ _ _ Try.underlying22 hsz, hs3, k0, k1, ?_, k3⟩
      have : mc = [t0, t1, t2, t3] := by simpa using htail
      rw [← this]; simpa using k2
    · obtain ⟨g, off, ha, hg, hc⟩ := h.cells (by omega)
      subst ha
      have hc3 := fun i hi => (⟨(k3.cell (p := ⟨g, off + i * 2, none⟩) hg).trans (hc i hi).1, (k3.cell (p := ⟨g, off + i * 2 + 1, none⟩) hg).trans (hc i hi).2⟩ : W3.cell? ⟨g, off + i * 2, none⟩ = some (.int .i64 (Cf.gr cls i)) ∧ W3.cell? ⟨g, off + i * 2 + 1, none⟩ = some (.int .i64 (Cf.sl cls i)))
      have hrn := run_copy_wide (P := Try.prog) W3 22 22 3 37 2 (w.heap.size + 1 + 1) (cls.length + 2) (cls.length + 2) ⟨g, off, none⟩ cls.length cap mc.toArray 37 (cls.flatMap clsCells) Try.underlying22 hsz k2 (by omega) hfl (ccells_flat hc3) (by rw [hfl]; simp [hmc]; omega) (by intro v hv; simp only [List.mem_flatMap, clsCells] at hv; obtain ⟨x, _, hv⟩ := hv; simp at hv; rcases hv with rfl | rfl <;> rfl)
      rw [hfl, htail] at hrn
      refine ⟨_, hrn, by simp [World.setRow, hs3], ?_, ?_, setRow_heap W3 _ _ _ _ _ k2, k3.trans ⟨rfl, rfl, rfl, by simp [World.setRow], fun k hk => setRow_other W3 _ k _ (by omega)⟩⟩
      · exact (setRow_other W3 _ _ _ (by omega)).trans k0
      · exact (setRow_other W3 _ _ _ (by omega)).trans k1
  rw [hW3] at hrun
  have hL : (cls.flatMap clsCells ++ [t0, t1, t2, t3]).length = cls.length * 2 + 4 := by simp [hfl]
  have n0 := m2.cell (j := cls.length * 2) (v := t0) (by rw [List.getElem?_append_right (by omega)]; simp [hfl])
  have n1 := m2.cell (j := cls.length * 2 + 1) (v := t1) (by rw [List.getElem?_append_right (by omega)]; simp [hfl])
  have n2 := m2.cell (j := (cls.length + 1) * 2) (v := t2) (by rw [List.getElem?_append_right (by omega), hfl, show (cls.length + 1) * 2 - cls.length * 2 = 2 by omega]; rfl)
  have n3 := m2.cell (j := (cls.length + 1) * 2 + 1) (v := t3) (by rw [List.getElem?_append_right (by omega), hfl, show (cls.length + 1) * 2 + 1 - cls.length * 2 = 3 by omega]; rfl)
  have f0 := m2.frozen (cls.length * 2)
  have f1 := m2.frozen (cls.length * 2 + 1)
  have f2 := m2.frozen ((cls.length + 1) * 2)
  have f3 := m2.frozen ((cls.length + 1) * 2 + 1)
  have p0 := m0.cell (j := 0) rfl
  have p1 := m0.cell (j := 1) rfl
  have r0 := m1.cell (j := 0) rfl
  have r1 := m1.cell (j := 1) rfl
  have r2 := m1.cell (j := 2) rfl
  have rf0 := m1.frozen 0
  have rf1 := m1.frozen 1
  have rf2 := m1.frozen 2
  have M2 : Hid (Blk W4 (w.heap.size + 1 + 1) 37 (cls.flatMap clsCells ++ [t0, t1, t2, t3])) := m2
  have K4 : Hid (Below w.heap.size w W4) := k4
  have a1 : ((cls.length : Int) + 1).toNat = cls.length + 1 := by omega
  clear h k0 k1 k2 k3 hW3 m0 m1 m2 k4 hs3 htail hmc hi0 hz0 hz1 hz2 hsz
  go_enter Try.func12, Try.ntmps12
  go_wp2_with fail
  obtain ⟨W5, hW5⟩ : ∃ W5, W5 = (((W4.setCell ⟨w.heap.size + 1 + 1, cls.length * 2, none⟩ (.int .i64 77)).setCell ⟨w.heap.size + 1 + 1, cls.length * 2 + 1, none⟩ (.int .i64 77)).setCell ⟨w.heap.size + 1 + 1, (cls.length + 1) * 2, none⟩ (.int .i64 77)).setCell ⟨w.heap.size + 1 + 1, (cls.length + 1) * 2 + 1, none⟩ (.int .i64 77) := ⟨_, rfl⟩
  rw [← hW5]
  have M5 : Hid (Blk W5 (w.heap.size + 1 + 1) 37 (cls.flatMap clsCells ++ room4)) := by
    have e := (((M2.out.setCell (cls.length * 2) (.int .i64 77)).setCell (cls.length * 2 + 1) (.int .i64 77)).setCell ((cls.length + 1) * 2) (.int .i64 77)).setCell ((cls.length + 1) * 2 + 1) (.int .i64 77)
    rw [← hW5] at e
    have e2 : ((((cls.flatMap clsCells ++ [t0, t1, t2, t3]).set (cls.length * 2) (.int .i64 77)).set (cls.length * 2 + 1) (.int .i64 77)).set ((cls.length + 1) * 2) (.int .i64 77)).set ((cls.length + 1) * 2 + 1) (.int .i64 77) = cls.flatMap clsCells ++ room4 := by
      rw [List.set_append_right _ _ (by omega), List.set_append_right _ _ (by omega), List.set_append_right _ _ (by omega), List.set_append_right _ _ (by omega), hfl,
        show cls.length * 2 - cls.length * 2 = 0 by omega, show cls.length * 2 + 1 - cls.length * 2 = 1 by omega, show (cls.length + 1) * 2 - cls.length * 2 = 2 by omega, show (cls.length + 1) * 2 + 1 - cls.length * 2 = 3 by omega]
      rfl
    rw [e2] at e
    exact e
  have K5 : Hid (Below w.heap.size w W5) := by
    rw [hW5]
    exact (((K4.out.setCell (by show _ ≤ w.heap.size + 1 + 1; omega) _).setCell (by show _ ≤ w.heap.size + 1 + 1; omega) _).setCell (by show _ ≤ w.heap.size + 1 + 1; omega) _).setCell (by show _ ≤ w.heap.size + 1 + 1; omega) _
  have ho : ∀ b j, b ≠ w.heap.size + 1 + 1 → W5.cell? ⟨b, j, none⟩ = W4.cell? ⟨b, j, none⟩ := fun b j hb => by
    rw [hW5, World.cell?_setCell_other _ _ _ _ (by intro e; injection e with e _ _; omega), World.cell?_setCell_other _ _ _ _ (by intro e; injection e with e _ _; omega), World.cell?_setCell_other _ _ _ _ (by intro e; injection e with e _ _; omega), World.cell?_setCell_other _ _ _ _ (by intro e; injection e with e _ _; omega)]
  have hf : ∀ a, W5.frozen? a = W4.frozen? a := fun a => by rw [hW5]; simp
  have p0' := (ho w.heap.size 0 (by omega)).trans p0
  have p1' := (ho w.heap.size 1 (by omega)).trans p1
  have r0' := (ho (w.heap.size + 1) 0 (by omega)).trans r0
  have r1' := (ho (w.heap.size + 1) 1 (by omega)).trans r1
  have r2' := (ho (w.heap.size + 1) 2 (by omega)).trans r2
  have rf0' := (hf _).trans rf0
  have rf1' := (hf _).trans rf1
  have rf2' := (hf _).trans rf2
  clear hW5 ho hf p0 p1 r0 r1 r2 rf0 rf1 rf2 n0 n1 n2 n3 f0 f1 f2 f3 hmk hrun M2 K4
  have x0 : (0 : Int) ≤ (cls.length : Int) := by omega
  have x1 : (cls.length : Int) ≤ (cls.length : Int) + 2 := by omega
  go_region
  all_goals go_wp2
  refine bodyPost_ret (v := .agg #[.int .i64 st, .int .i64 rest, .slice (some ⟨w.heap.size + 1 + 1, 0, none⟩) cls.length (cls.length + 2)]) (by simp [results, Try.results12, go_sem, r0', r1', r2']) rfl ⟨w.heap.size + 1 + 1, rfl, ?_, by omega, ?_⟩
  · exact ((K5.out.drew.setCell (by show _ ≤ w.heap.size + 1; omega) _).setCell (by show _ ≤ w.heap.size + 1; omega) _).setCell (by show _ ≤ w.heap.size + 1; omega) _
  · have e : Blk W5.drew (w.heap.size + 1 + 1) 37 (cls.flatMap clsCells ++ room4) := M5.out
    exact ((e.setCell_other _ _ (by show _ ≠ w.heap.size + 1; omega)).setCell_other _ _ (by show _ ≠ w.heap.size + 1; omega)).setCell_other _ _ (by show _ ≠ w.heap.size + 1; omega)
end Go.Proofs.Ytjikemhmnkckcab
