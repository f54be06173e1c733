import Derived.Test.YtjikemhmnkckcaaCodeRep
import Derived.Test.YtjikemhmnkckcaaCodeConf
namespace Go.Proofs.Ytjikemhmnkckcaa
open Go.RowKit
attribute [local go_sem ↓] Go.wp_at_zero Go.wp_at_succ

theorem info_slot : (Try.prog.info? 79).map (fun i => (i.zero, i.size, i.bytes)) = some (some (.agg #[.int .i64 0, .int .i64 0, .int .i64 0, .int .i64 0, .int .i64 0, .int .i64 0]), 6, 48) := by kernel_rfl

theorem made_slots (n : Nat) : (madeCells #[.int .i64 0, .int .i64 0, .int .i64 0, .int .i64 0, .int .i64 0, .int .i64 0] (n * 6)).toList = (List.replicate n GSlot.no).flatMap slotCells := by
  apply List.ext_getElem?
  intro j
  by_cases hj : j < n * 6
  · have e : j = j / 6 * 6 + j % 6 := by omega
    have hf := flat_get slotCells 6 (fun _ => rfl) (List.replicate n GSlot.no) (j / 6) (j % 6) (by omega)
    rw [← e, List.getElem?_replicate, if_pos (by omega)] at hf
    rw [hf]
    simp only [madeCells, Option.bind_some]
    simp [hj]
    rcases (show j % 6 = 0 ∨ j % 6 = 1 ∨ j % 6 = 2 ∨ j % 6 = 3 ∨ j % 6 = 4 ∨ j % 6 = 5 by omega) with h | h | h | h | h | h <;> rw [h] <;> rfl
  · rw [List.getElem?_eq_none (by simp [size_madeCells]; omega), List.getElem?_eq_none (by rw [flat_len slotCells 6 (fun _ => rfl)]; simp; omega)]

/-- newClass, within its loop -/
structure NcRel (w : World) (bg : Int) (by_ : Int) (n kb rb sb : Nat) (m : Nat) (wr : World) : Prop where
  below : Below w.heap.size w wr
  kb0 : w.heap.size ≤ kb
  rb0 : w.heap.size ≤ rb
  sb0 : w.heap.size ≤ sb
  ks : kb ≠ sb
  rs : rb ≠ sb
  rk : rb ≠ kb
  kbk : Blk wr kb 82 [.int .i64 bg, .int .i64 by_, .slice (some ⟨sb, 0, none⟩) n n]
  rbk : ∃ u0 u1 u2, Blk wr rb 82 [u0, u1, u2]
  sbk : Blk wr sb 79 ((List.replicate m GSlot.virgin ++ List.replicate (n - m) GSlot.no).flatMap slotCells)

theorem NcRel.step {w : World} {bg by_ : Int} {n kb rb sb m : Nat} {wr : World} (h : NcRel w bg by_ n kb rb sb m wr) (hm : m < n) : NcRel w bg by_ n kb rb sb (m + 1) (wr.setCell ⟨sb, m * 6, none⟩ (.int .i64 2)) := by
  obtain ⟨u0, u1, u2, hu⟩ := h.rbk
  refine ⟨h.below.setCell h.sb0 _, h.kb0, h.rb0, h.sb0, h.ks, h.rs, h.rk, h.kbk.setCell_other _ _ h.ks, ⟨u0, u1, u2, hu.setCell_other _ _ h.rs⟩, ?_⟩
  have e := h.sbk.setCell (m * 6) (.int .i64 2)
  have hi : m < (List.replicate m GSlot.virgin ++ List.replicate (n - m) GSlot.no).length := by simp; omega
  have hg : (List.replicate m GSlot.virgin ++ List.replicate (n - m) GSlot.no).getD m GSlot.no = GSlot.no := by
    rw [List.getD_eq_getElem?_getD, List.getElem?_append_right (by simp), List.length_replicate, Nat.sub_self, List.getElem?_replicate]
    split <;> rfl
  have e2 := flat_set slotCells 6 (fun _ => rfl) _ GSlot.no m 0 hi (by omega) GSlot.virgin (.int .i64 2) (by rw [hg]; rfl)
  rw [Nat.add_zero] at e2
  rw [e2] at e
  have e3 : (List.replicate m GSlot.virgin ++ List.replicate (n - m) GSlot.no).set m GSlot.virgin = List.replicate (m + 1) GSlot.virgin ++ List.replicate (n - (m + 1)) GSlot.no := by
    rw [List.set_append_right _ _ (by simp), List.length_replicate, Nat.sub_self, show n - m = (n - (m + 1)) + 1 by omega, List.replicate_succ, List.set_cons_zero, List.replicate_succ']
    simp
  rw [e3] at e
  exact e

theorem four_blocks (w : World) (o0 o1 o2 o3 : Obj) :
    ((((w.alloc o0).alloc o1).alloc o2).alloc o3).heap[w.heap.size]? = some o0 ∧ ((((w.alloc o0).alloc o1).alloc o2).alloc o3).heap[w.heap.size + 1]? = some o1 ∧
    ((((w.alloc o0).alloc o1).alloc o2).alloc o3).heap[w.heap.size + 1 + 1]? = some o2 ∧ ((((w.alloc o0).alloc o1).alloc o2).alloc o3).heap[w.heap.size + 1 + 1 + 1]? = some o3 ∧ Below w.heap.size w ((((w.alloc o0).alloc o1).alloc o2).alloc o3) := by
  refine ⟨?_, ?_, ?_, ?_, ((((Below.refl _ _).alloc (Nat.le_refl _) _).alloc (by simp) _).alloc (by simp; omega) _).alloc (by simp; omega) _⟩
  all_goals
    show ((((w.heap.push o0).push o1).push o2).push o3)[_]? = _
    simp only [Array.getElem?_push, Array.size_push]
    repeat (first | rw [if_pos trivial] | rw [if_neg (by omega)])

set_option maxRecDepth 100000 in
set_option maxHeartbeats 3200000 in
theorem newClass_any (g bg : Int) (n : Nat) (w : World) (g0 : 1 ≤ g) (g1 : g ≤ 8) (n1 : n ≤ 16) :
    Calls Try.prog 76 #[.agg #[.int .i64 g, .int .i64 (n : Int)], .int .i64 bg] w fun e w' => ∃ sb, e = .returned (.agg #[.int .i64 bg, .int .i64 (16 * g), .slice (some ⟨sb, 0, none⟩) n n]) ∧
      Below w.heap.size w w' ∧ w.heap.size ≤ sb ∧ Blk w' sb 79 ((List.replicate n GSlot.virgin).flatMap slotCells) := by
  obtain ⟨i0, hi0, hz0, hz1, hz2⟩ := info_parts info_slot
  obtain ⟨mc, hmc, hmk⟩ : ∃ mc : List Value, Hid (mc = (List.replicate n GSlot.no).flatMap slotCells) ∧ ∀ w : World, (Instr.makeSlice 80 (.int .i64 (n : Int)) (.int .i64 (n : Int))).run Try.prog w = .ok (.slice (some ⟨w.heap.size, 0, none⟩) n n) (w.alloc (.cells mc.toArray 79)) := by
    refine ⟨(madeCells #[.int .i64 0, .int .i64 0, .int .i64 0, .int .i64 0, .int .i64 0, .int .i64 0] (n * 6)).toList, made_slots n, fun w => ?_⟩
    have hr := run_make (P := Try.prog) w 80 79 i0 _ Try.underlying80 hi0 hz0 .i64 .i64 (n : Int) (n : Int) (by omega) (by omega) (by rw [hz2]; omega) (by omega)
    rw [hr, hz1]
    simp [Value.cells]
  have hmul : g * 16 = 16 * g := by omega
  clear hi0 hz0 hz1 hz2
  go_enter Try.func76, Try.ntmps76
  go_wp2
  go_region
  · obtain ⟨f0, f1, f2, f3, fb⟩ := four_blocks w (.cells #[.int .i64 g, .int .i64 (n : Int)] 67) (.cells #[.int .i64 0, .int .i64 0, .slice none 0 0] 82) (.cells mc.toArray 79) (.cells #[.int .i64 bg, .int .i64 (16 * g), .slice (some ⟨w.heap.size + 1 + 1, 0, none⟩) n n] 82)
    have HS : Hid (NcRel w bg (16 * g) n (w.heap.size + 1 + 1 + 1) (w.heap.size + 1) (w.heap.size + 1 + 1) 0 (((((w.alloc (.cells #[.int .i64 g, .int .i64 (n : Int)] 67)).alloc (.cells #[.int .i64 0, .int .i64 0, .slice none 0 0] 82)).alloc (.cells mc.toArray 79)).alloc (.cells #[.int .i64 bg, .int .i64 (16 * g), .slice (some ⟨w.heap.size + 1 + 1, 0, none⟩) n n] 82)).drew)) := by
      refine ⟨fb.drew, by omega, by omega, by omega, by omega, by omega, by omega, f3, ⟨_, _, _, f1⟩, ?_⟩
      show _ = _
      rw [show (List.replicate 0 GSlot.virgin ++ List.replicate (n - 0) GSlot.no).flatMap slotCells = mc by rw [hmc.out]; simp]
      exact f2
    clear f0 f1 f2 f3 fb hmk
    go_wp2
    go_loopw [6] (fun i wr => ∃ m : Nat, m ≤ n ∧ i = .int .i64 (m : Int) ∧ NcRel w bg (16 * g) n (w.heap.size + 1 + 1 + 1) (w.heap.size + 1) (w.heap.size + 1 + 1) m wr) (fun i _ => n - (intOf i).toNat)
    case atStart => exact ⟨0, by omega, rfl, HS.out⟩
    case round =>
      obtain ⟨m, hm, rfl, hr⟩ := hrel
      have k2 := hr.kbk.cell (j := 2) rfl
      have HR : Hid (NcRel w bg (16 * g) n (w.heap.size + 1 + 1 + 1) (w.heap.size + 1) (w.heap.size + 1 + 1) m wr) := hr
      by_cases hlt : m < n
      · have hs := hr.step hlt
        obtain ⟨s0, _⟩ := slot_cells hr.sbk m (by simp; omega)
        have sf := hr.sbk.frozen (m * 6)
        clear hr
        go_wp2
        go_roundw
        case rel => exact ⟨m + 1, by omega, by go_num, hs⟩
        case measure => simp [intOf]; omega
      · obtain rfl : m = n := by omega
        have k0 := hr.kbk.cell (j := 0) rfl
        have k1 := hr.kbk.cell (j := 1) rfl
        obtain ⟨u0, u1, u2, hu⟩ := hr.rbk
        have r0 := hu.cell (j := 0) rfl
        have r1 := hu.cell (j := 1) rfl
        have r2 := hu.cell (j := 2) rfl
        have rf0 := hu.frozen 0
        have rf1 := hu.frozen 1
        have rf2 := hu.frozen 2
        clear hr
        go_wp2
        refine bodyPost_ret (v := .agg #[.int .i64 bg, .int .i64 (16 * g), .slice (some ⟨w.heap.size + 1 + 1, 0, none⟩) m m]) (by simp [results, Try.results76, go_sem, r0, r1, r2]) rfl ⟨w.heap.size + 1 + 1, rfl, ?_, by omega, ?_⟩
        · exact ((HR.out.below.setCell HR.out.rb0 _).setCell HR.out.rb0 _).setCell HR.out.rb0 _
        · have e := HR.out.sbk
          rw [show List.replicate m GSlot.virgin ++ List.replicate (m - m) GSlot.no = List.replicate m GSlot.virgin by simp] at e
          exact ((e.setCell_other _ _ HR.out.rs.symm).setCell_other _ _ HR.out.rs.symm).setCell_other _ _ HR.out.rs.symm
  · obtain ⟨f0, f1, f2, f3, fb⟩ := four_blocks w (.cells #[.int .i64 g, .int .i64 (n : Int)] 67) (.cells #[.int .i64 0, .int .i64 0, .slice none 0 0] 82) (.cells #[.int .i64 bg, .int .i64 (16 * g), .slice (some ⟨w.heap.size + 1 + 1 + 1, 0, none⟩) n n] 82) (.cells mc.toArray 79)
    have HS : Hid (NcRel w bg (16 * g) n (w.heap.size + 1 + 1) (w.heap.size + 1) (w.heap.size + 1 + 1 + 1) 0 (((((w.alloc (.cells #[.int .i64 g, .int .i64 (n : Int)] 67)).alloc (.cells #[.int .i64 0, .int .i64 0, .slice none 0 0] 82)).alloc (.cells #[.int .i64 bg, .int .i64 (16 * g), .slice (some ⟨w.heap.size + 1 + 1 + 1, 0, none⟩) n n] 82)).alloc (.cells mc.toArray 79)).drew)) := by
      refine ⟨fb.drew, by omega, by omega, by omega, by omega, by omega, by omega, f2, ⟨_, _, _, f1⟩, ?_⟩
      show _ = _
      rw [show (List.replicate 0 GSlot.virgin ++ List.replicate (n - 0) GSlot.no).flatMap slotCells = mc by rw [hmc.out]; simp]
      exact f3
    clear f0 f1 f2 f3 fb hmk
    go_wp2
    go_loopw [6] (fun i wr => ∃ m : Nat, m ≤ n ∧ i = .int .i64 (m : Int) ∧ NcRel w bg (16 * g) n (w.heap.size + 1 + 1) (w.heap.size + 1) (w.heap.size + 1 + 1 + 1) m wr) (fun i _ => n - (intOf i).toNat)
    case atStart => exact ⟨0, by omega, rfl, HS.out⟩
    case round =>
      obtain ⟨m, hm, rfl, hr⟩ := hrel
      have k2 := hr.kbk.cell (j := 2) rfl
      have HR : Hid (NcRel w bg (16 * g) n (w.heap.size + 1 + 1) (w.heap.size + 1) (w.heap.size + 1 + 1 + 1) m wr) := hr
      by_cases hlt : m < n
      · have hs := hr.step hlt
        obtain ⟨s0, _⟩ := slot_cells hr.sbk m (by simp; omega)
        have sf := hr.sbk.frozen (m * 6)
        clear hr
        go_wp2
        go_roundw
        case rel => exact ⟨m + 1, by omega, by go_num, hs⟩
        case measure => simp [intOf]; omega
      · obtain rfl : m = n := by omega
        have k0 := hr.kbk.cell (j := 0) rfl
        have k1 := hr.kbk.cell (j := 1) rfl
        obtain ⟨u0, u1, u2, hu⟩ := hr.rbk
        have r0 := hu.cell (j := 0) rfl
        have r1 := hu.cell (j := 1) rfl
        have r2 := hu.cell (j := 2) rfl
        have rf0 := hu.frozen 0
        have rf1 := hu.frozen 1
        have rf2 := hu.frozen 2
        clear hr
        go_wp2
        refine bodyPost_ret (v := .agg #[.int .i64 bg, .int .i64 (16 * g), .slice (some ⟨w.heap.size + 1 + 1 + 1, 0, none⟩) m m]) (by simp [results, Try.results76, go_sem, r0, r1, r2]) rfl ⟨w.heap.size + 1 + 1 + 1, rfl, ?_, by omega, ?_⟩
        · exact ((HR.out.below.setCell HR.out.rb0 _).setCell HR.out.rb0 _).setCell HR.out.rb0 _
        · have e := HR.out.sbk
          rw [show List.replicate m GSlot.virgin ++ List.replicate (m - m) GSlot.no = List.replicate m GSlot.virgin by simp] at e
          exact ((e.setCell_other _ _ HR.out.rs.symm).setCell_other _ _ HR.out.rs.symm).setCell_other _ _ HR.out.rs.symm
end Go.Proofs.Ytjikemhmnkckcaa
