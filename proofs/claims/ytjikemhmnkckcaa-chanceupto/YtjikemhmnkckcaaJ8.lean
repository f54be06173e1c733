import Derived.Test.YtjikemhmnkckcaaJ7
namespace Go.Proofs.Ytjikemhmnkckcaa
open Go.RowKit
attribute [local go_sem ↓] Go.wp_at_zero Go.wp_at_succ

theorem info_slot : (Try.prog.info? 79).map (fun i => (i.zero, i.size, i.bytes)) = some (some (.agg #[.int .i64 0, .int .i64 0, .int .i64 0, .int .i64 0, .int .i64 0, .int .i64 0]), 6, 48) := by kernel_rfl

theorem made_slots (n : Nat) : (madeCells #[.int .i64 0, .int .i64 0, .int .i64 0, .int .i64 0, .int .i64 0, .int .i64 0] (n * 6)).toList = (List.replicate n GSlot.no).flatMap slotCells := by
  apply List.ext_getElem?
  intro j
  by_cases hj : j < n * 6
  · have e : j = j / 6 * 6 + j % 6 := by omega
    have hf := flat_get slotCells 6 (fun _ => rfl) (List.replicate n GSlot.no) (j / 6) (j % 6) (by omega)
    rw [← e, List.getElem?_replicate, if_pos (by omega)] at hf
    rw [hf]
    simp only [madeCells, Option.bind_some]
    simp [hj]
    rcases (show j % 6 = 0 ∨ j % 6 = 1 ∨ j % 6 = 2 ∨ j % 6 = 3 ∨ j % 6 = 4 ∨ j % 6 = 5 by omega) with h | h | h | h | h | h <;> rw [h] <;> rfl
  · rw [List.getElem?_eq_none (by simp [size_madeCells]; omega), List.getElem?_eq_none (by rw [flat_len slotCells 6 (fun _ => rfl)]; simp; omega)]

/-- newClass, within its loop -/
structure NcRel (w : World) (bg : Int) (by_ : Int) (n kb rb sb : Nat) (m : Nat) (wr : World) : Prop where
  below : Below w.heap.size w wr
  kb0 : w.heap.size ≤ kb
  rb0 : w.heap.size ≤ rb
  sb0 : w.heap.size ≤ sb
  ks : kb ≠ sb
  rs : rb ≠ sb
  rk : rb ≠ kb
  kbk : Blk wr kb 82 [.int .i64 bg, .int .i64 by_, .slice (some ⟨sb, 0, none⟩) n n]
  rbk : ∃ u0 u1 u2, Blk wr rb 82 [u0, u1, u2]
  sbk : Blk wr sb 79 ((List.replicate m GSlot.virgin ++ List.replicate (n - m) GSlot.no).flatMap slotCells)

theorem NcRel.step {w : World} {bg by_ : Int} {n kb rb sb m : Nat} {wr : World} (h : NcRel w bg by_ n kb rb sb m wr) (hm : m < n) : NcRel w bg by_ n kb rb sb (m + 1) (wr.setCell ⟨sb, m * 6, none⟩ (.int .i64 2)) := by
  obtain ⟨u0, u1, u2, hu⟩ := h.rbk
  refine ⟨h.below.setCell h.sb0 _, h.kb0, h.rb0, h.sb0, h.ks, h.rs, h.rk, h.kbk.setCell_other _ _ h.ks, ⟨u0, u1, u2, hu.setCell_other _ _ h.rs⟩, ?_⟩
  have e := h.sbk.setCell (m * 6) (.int .i64 2)
  have hi : m < (List.replicate m GSlot.virgin ++ List.replicate (n - m) GSlot.no).length := by simp; omega
  have hg : (List.replicate m GSlot.virgin ++ List.replicate (n - m) GSlot.no).getD m GSlot.no = GSlot.no := by
    rw [List.getD_eq_getElem?_getD, List.getElem?_append_right (by simp), List.length_replicate, Nat.sub_self, List.getElem?_replicate]
    split <;> rfl
  have e2 := flat_set slotCells 6 (fun _ => rfl) _ GSlot.no m 0 hi (by omega) GSlot.virgin (.int .i64 2) (by rw [hg]; rfl)
  rw [Nat.add_zero] at e2
  rw [e2] at e
  have e3 : (List.replicate m GSlot.virgin ++ List.replicate (n - m) GSlot.no).set m GSlot.virgin = List.replicate (m + 1) GSlot.virgin ++ List.replicate (n - (m + 1)) GSlot.no := by
    rw [List.set_append_right _ _ (by simp), List.length_replicate, Nat.sub_self, show n - m = (n - (m + 1)) + 1 by omega, List.replicate_succ, List.set_cons_zero, List.replicate_succ']
    simp
  rw [e3] at e
  exact e

theorem four_blocks (w : World) (o0 o1 o2 o3 : Obj) :
    ((((w.alloc o0).alloc o1).alloc o2).alloc o3).heap[w.heap.size]? = some o0 ∧ ((((w.alloc o0).alloc o1).alloc o2).alloc o3).heap[w.heap.size + 1]? = some o1 ∧
    ((((w.alloc o0).alloc o1).alloc o2).alloc o3).heap[w.heap.size + 1 + 1]? = some o2 ∧ ((((w.alloc o0).alloc o1).alloc o2).alloc o3).heap[w.heap.size + 1 + 1 + 1]? = some o3 ∧ Below w.heap.size w ((((w.alloc o0).alloc o1).alloc o2).alloc o3) := by
  refine ⟨?_, ?_, ?_, ?_, ((((Below.refl _ _).alloc (Nat.le_refl _) _).alloc (by simp) _).alloc (by simp; omega) _).alloc (by simp; omega) _⟩
  all_goals
    show ((((w.heap.push o0).push o1).push o2).push o3)[_]? = _
    simp only [Array.getElem?_push, Array.size_push]
    repeat (first | rw [if_pos trivial] | rw [if_neg (by omega)])

set_option maxRecDepth 100000 in
set_option maxHeartbeats 3200000 in
theorem newClass_any (g bg : Int) (n : Nat) (w : World) (g0 : 1 ≤ g) (g1 : g ≤ 8) (n1 : n ≤ 16) :
    Calls Try.prog 76 #[.agg #[.int .i64 g, .int .i64 (n : Int)], .int .i64 bg] w fun e w' => ∃ sb, e = .returned (.agg #[.int .i64 bg, .int .i64 (16 * g), .slice (some ⟨sb, 0, none⟩) n n]) ∧
      Below w.heap.size w w' ∧ w.heap.size ≤ sb ∧ Blk w' sb 79 ((List.replicate n GSlot.virgin).flatMap slotCells) := by
  obtain ⟨i0, hi0, hz0, hz1, hz2⟩ := info_parts info_slot
  obtain ⟨mc, hmc, hmk⟩ : ∃ mc : List Value, Hid (mc = (List.replicate n GSlot.no).flatMap slotCells) ∧ ∀ w : World, (Instr.makeSlice 80 (.int .i64 (n : Int)) (.int .i64 (n : Int))).run Try.prog w = .ok (.slice (some ⟨w.heap.size, 0, none⟩) n n) (w.alloc (.cells mc.toArray 79)) := by
    refine ⟨(madeCells #[.int .i64 0, .int .i64 0, .int .i64 0, .int .i64 0, .int .i64 0, .int .i64 0] (n * 6)).toList, made_slots n, fun w => ?_⟩
    have hr := run_make (P := Try.prog) w 80 79 i0 _ Try.underlying80 hi0 hz0 .i64 .i64 (n : Int) (n : Int) (by omega) (by omega) (by rw [hz2]; omega) (by omega)
    rw [hr, hz1]
    simp [Value.cells]
  have hmul : g * 16 = 16 * g := by omega
  clear hi0 hz0 hz1 hz2
  go_enter Try.func76, Try.ntmps76
  go_wp2
  go_region
  · obtain ⟨f0, f1, f2, f3, fb⟩ := four_blocks w (.cells #[.int .i64 g, .int .i64 (n : Int)] 67) (.cells #[.int .i64 0, .int .i64 0, .slice none 0 0] 82) (.cells mc.toArray 79) (.cells #[.int .i64 bg, .int .i64 (16 * g), .slice (some ⟨w.heap.size + 1 + 1, 0, none⟩) n n] 82)
    have HS : Hid (NcRel w bg (16 * g) n (w.heap.size + 1 + 1 + 1) (w.heap.size + 1) (w.heap.size + 1 + 1) 0 (((((w.alloc (.cells #[.int .i64 g, .int .i64 (n : Int)] 67)).alloc (.cells #[.int .i64 0, .int .i64 0, .slice none 0 0] 82)).alloc (.cells mc.toArray 79)).alloc (.cells #[.int .i64 bg, .int .i64 (16 * g), .slice (some ⟨w.heap.size + 1 + 1, 0, none⟩) n n] 82)).drew)) := by
      refine ⟨fb.drew, by omega, by omega, by omega, by omega, by omega, by omega, f3, ⟨_, _, _, f1⟩, ?_⟩
      show _ = _
      rw [show (List.replicate 0 GSlot.virgin ++ List.replicate (n - 0) GSlot.no).flatMap slotCells = mc by rw [hmc.out]; simp]
      exact f2
    clear f0 f1 f2 f3 fb hmk
    go_wp2
    go_loopw [6] (fun i wr => ∃ m : Nat, m ≤ n ∧ i = .int .i64 (m : Int) ∧ NcRel w bg (16 * g) n (w.heap.size + 1 + 1 + 1) (w.heap.size + 1) (w.heap.size + 1 + 1) m wr) (fun i _ => n - (intOf i).toNat)
    case atStart => exact ⟨0, by omega, rfl, HS.out⟩
    case round =>
      obtain ⟨m, hm, rfl, hr⟩ := hrel
      have k2 := hr.kbk.cell (j := 2) rfl
      have HR : Hid (NcRel w bg (16 * g) n (w.heap.size + 1 + 1 + 1) (w.heap.size + 1) (w.heap.size + 1 + 1) m wr) := hr
      by_cases hlt : m < n
      · have hs := hr.step hlt
        obtain ⟨s0, _⟩ := slot_cells hr.sbk m (by simp; omega)
        have sf := hr.sbk.frozen (m * 6)
        clear hr
        go_wp2
        go_roundw
        case rel => exact ⟨m + 1, by omega, by go_num, hs⟩
        case measure => simp [intOf]; omega
      · obtain rfl : m = n := by omega
        have k0 := hr.kbk.cell (j := 0) rfl
        have k1 := hr.kbk.cell (j := 1) rfl
        obtain ⟨u0, u1, u2, hu⟩ := hr.rbk
        have r0 := hu.cell (j := 0) rfl
        have r1 := hu.cell (j := 1) rfl
        have r2 := hu.cell (j := 2) rfl
        have rf0 := hu.frozen 0
        have rf1 := hu.frozen 1
        have rf2 := hu.frozen 2
        clear hr
        go_wp2
        refine bodyPost_ret (v := .agg #[.int .i64 bg, .int .i64 (16 * g), .slice (some ⟨w.heap.size + 1 + 1, 0, none⟩) m m]) (by simp [results, Try.results76, go_sem, r0, r1, r2]) rfl ⟨w.heap.size + 1 + 1, rfl, ?_, by omega, ?_⟩
        · exact ((HR.out.below.setCell HR.out.rb0 _).setCell HR.out.rb0 _).setCell HR.out.rb0 _
        · have e := HR.out.sbk
          rw [show List.replicate m GSlot.virgin ++ List.replicate (m - m) GSlot.no = List.replicate m GSlot.virgin by simp] at e
          exact ((e.setCell_other _ _ HR.out.rs.symm).setCell_other _ _ HR.out.rs.symm).setCell_other _ _ HR.out.rs.symm
  · obtain ⟨f0, f1, f2, f3, fb⟩ := four_blocks w (.cells #[.int .i64 g, .int .i64 (n : Int)] 67) (.cells #[.int .i64 0, .int .i64 0, .slice none 0 0] 82) (.cells #[.int .i64 bg, .int .i64 (16 * g), .slice (some ⟨w.heap.size + 1 + 1 + 1, 0, none⟩) n n] 82) (.cells mc.toArray 79)
    have HS : Hid (NcRel w bg (16 * g) n (w.heap.size + 1 + 1) (w.heap.size + 1) (w.heap.size + 1 + 1 + 1) 0 (((((w.alloc (.cells #[.int .i64 g, .int .i64 (n : Int)] 67)).alloc (.cells #[.int .i64 0, .int .i64 0, .slice none 0 0] 82)).alloc (.cells #[.int .i64 bg, .int .i64 (16 * g), .slice (some ⟨w.heap.size + 1 + 1 + 1, 0, none⟩) n n] 82)).alloc (.cells mc.toArray 79)).drew)) := by
      refine ⟨fb.drew, by omega, by omega, by omega, by omega, by omega, by omega, f2, ⟨_, _, _, f1⟩, ?_⟩
      show _ = _
      rw [show (List.replicate 0 GSlot.virgin ++ List.replicate (n - 0) GSlot.no).flatMap slotCells = mc by rw [hmc.out]; simp]
      exact f3
    clear f0 f1 f2 f3 fb hmk
    go_wp2
    go_loopw [6] (fun i wr => ∃ m : Nat, m ≤ n ∧ i = .int .i64 (m : Int) ∧ NcRel w bg (16 * g) n (w.heap.size + 1 + 1) (w.heap.size + 1) (w.heap.size + 1 + 1 + 1) m wr) (fun i _ => n - (intOf i).toNat)
    case atStart => exact ⟨0, by omega, rfl, HS.out⟩
    case round =>
      obtain ⟨m, hm, rfl, hr⟩ := hrel
      have k2 := hr.kbk.cell (j := 2) rfl
      have HR : Hid (NcRel w bg (16 * g) n (w.heap.size + 1 + 1) (w.heap.size + 1) (w.heap.size + 1 + 1 + 1) m wr) := hr
      by_cases hlt : m < n
      · have hs := hr.step hlt
        obtain ⟨s0, _⟩ := slot_cells hr.sbk m (by simp; omega)
        have sf := hr.sbk.frozen (m * 6)
        clear hr
        go_wp2
        go_roundw
        case rel => exact ⟨m + 1, by omega, by go_num, hs⟩
        case measure => simp [intOf]; omega
      · obtain rfl : m = n := by omega
        have k0 := hr.kbk.cell (j := 0) rfl
        have k1 := hr.kbk.cell (j := 1) rfl
        obtain ⟨u0, u1, u2, hu⟩ := hr.rbk
        have r0 := hu.cell (j := 0) rfl
        have r1 := hu.cell (j := 1) rfl
        have r2 := hu.cell (j := 2) rfl
        have rf0 := hu.frozen 0
        have rf1 := hu.frozen 1
        have rf2 := hu.frozen 2
        clear hr
        go_wp2
        refine bodyPost_ret (v := .agg #[.int .i64 bg, .int .i64 (16 * g), .slice (some ⟨w.heap.size + 1 + 1 + 1, 0, none⟩) m m]) (by simp [results, Try.results76, go_sem, r0, r1, r2]) rfl ⟨w.heap.size + 1 + 1 + 1, rfl, ?_, by omega, ?_⟩
        · exact ((HR.out.below.setCell HR.out.rb0 _).setCell HR.out.rb0 _).setCell HR.out.rb0 _
        · have e := HR.out.sbk
          rw [show List.replicate m GSlot.virgin ++ List.replicate (m - m) GSlot.no = List.replicate m GSlot.virgin by simp] at e
          exact ((e.setCell_other _ _ HR.out.rs.symm).setCell_other _ _ HR.out.rs.symm).setCell_other _ _ HR.out.rs.symm
end Go.Proofs.Ytjikemhmnkckcaa
namespace Go.Proofs.Ytjikemhmnkckcaa
open Go.RowKit
attribute [local go_sem ↓] Go.wp_at_zero Go.wp_at_succ

set_option maxHeartbeats 400000 in
theorem slotBegin_any (b off : Nat) (bg by_ i : Int) (w : World) (h0 : w.cell? ⟨b, off, none⟩ = some (.int .i64 bg)) (h1 : w.cell? ⟨b, off + 1, none⟩ = some (.int .i64 by_))
    (b0 : 0 ≤ bg) (b1 : bg ≤ 1000000) (m0 : 0 ≤ i * by_) (m1 : i * by_ ≤ 1000000) :
    Calls Try.prog 43 #[.pointer (some ⟨b, off, none⟩), .int .i64 i] w fun e w' => e = .returned (.int .i64 (bg + i * by_)) ∧ Below w.heap.size w w' := by
  go_enter Try.func43, Try.ntmps43
  go_wp2
  go_quiet (fail)
  go_wp2
  go_ret
  exact ⟨rfl, below_drewN (Below.refl _ _) _⟩

theorem info_gcls : (Try.prog.info? 82).map (fun i => (i.zero, i.size, i.bytes)) = some (some (.agg #[.int .i64 0, .int .i64 0, .slice none 0 0]), 3, 40) := by kernel_rfl
theorem info_u8 : (Try.prog.info? 5).map (fun i => (i.zero, i.size, i.bytes)) = some (some (.int .u8 0), 1, 1) := by kernel_rfl

/-- the classes that New has made, up to the m-th -/
structure ClsOk (st : Int) (cls : List (Int × Int)) (m : Nat) (cs : List GCls) : Prop where
  len : cs.length = m
  bg : ∀ k, k < m → (cs.getD k GCls.no).begin_ = 16 * Cf.gran st cls k
  by_ : ∀ k, k < m → (cs.getD k GCls.no).bytes = 16 * Cf.gr cls k
  sl : ∀ k, k < m → (cs.getD k GCls.no).slots = List.replicate (Cf.sl cls k).toNat GSlot.virgin

/-- the program's New, within its loop -/
structure CnRel (w : World) (st rest : Int) (cls : List (Int × Int)) (pb hb : Nat) (sv : Value) (m : Nat) (v : Value) (cs : List GCls) (wr : World) : Prop where
  below : Below w.heap.size w wr
  pb0 : w.heap.size ≤ pb
  pbc : wr.cell? ⟨pb, 2, none⟩ = some sv
  pbl : pb < wr.heap.size
  hb0 : w.heap.size ≤ hb
  ne : pb ≠ hb
  hbk : Blk wr hb 86 [.int .i64 st, .int .i64 rest, v, .slice none 0 0]
  ok : ClsOk st cls m cs
  row : wr.ownsRow 0 82 3 v m (cs.flatMap gclsCells)
  vlo : ∀ g, v.ownBlock = some g → w.heap.size ≤ g ∧ g ≠ pb ∧ g ≠ hb
  slots : ∀ k, k < m → Blk wr (cs.getD k GCls.no).sb 79 ((cs.getD k GCls.no).slots.flatMap slotCells)
  slo : ∀ k, k < m → w.heap.size ≤ (cs.getD k GCls.no).sb ∧ (cs.getD k GCls.no).sb ≠ pb ∧ (cs.getD k GCls.no).sb ≠ hb ∧ v.ownBlock ≠ some (cs.getD k GCls.no).sb
  sne : ∀ j k, j < m → k < m → j ≠ k → (cs.getD j GCls.no).sb ≠ (cs.getD k GCls.no).sb

/-- the relation keeps under calls that only make memory -/
theorem CnRel.later {w wr w' : World} {st rest : Int} {cls : List (Int × Int)} {pb hb : Nat} {sv : Value} {m : Nat} {v : Value} {cs : List GCls} (h : CnRel w st rest cls pb hb sv m v cs wr) (b : Below wr.heap.size wr w') : CnRel w st rest cls pb hb sv m v cs w' :=
  ⟨h.below.trans (b.mono h.below.size), h.pb0, (b.cell (p := ⟨pb, 2, none⟩) h.pbl).trans h.pbc, Nat.lt_of_lt_of_le h.pbl b.size, h.hb0, h.ne, h.hbk.below b h.hbk.lt, h.ok, row_below h.row b fun _ => row_lt h.row, h.vlo, fun k hk => (h.slots k hk).below b (h.slots k hk).lt, h.slo, h.sne⟩

theorem getD_app_l {α : Type} (l : List α) (x d : α) (k : Nat) (h : k < l.length) : (l ++ [x]).getD k d = l.getD k d := by
  rw [List.getD_eq_getElem?_getD, List.getD_eq_getElem?_getD, List.getElem?_append_left h]
theorem getD_app_r {α : Type} (l : List α) (x d : α) (k : Nat) (h : k = l.length) : (l ++ [x]).getD k d = x := by subst h; simp

theorem CnRel.step {w wr : World} {st rest : Int} {cls : List (Int × Int)} {pb hb : Nat} {sv : Value} {m : Nat} {v : Value} {cs : List GCls} (h : CnRel w st rest cls pb hb sv m v cs wr)
    {sb n : Nat} (hn : (Cf.sl cls m).toNat = n) (hsb : Blk wr sb 79 ((List.replicate n GSlot.virgin).flatMap slotCells)) (s0 : w.heap.size ≤ sb) (sp : sb ≠ pb) (sh : sb ≠ hb) (sv' : v.ownBlock ≠ some sb) (ss : ∀ k, k < m → (cs.getD k GCls.no).sb ≠ sb)
    {cs1 : Array Value} {t : TypeId} {w2 : World} {gg cap2 : Nat}
    (hown1 : w2.ownsRow 0 82 3 (.slice (some ⟨gg, 0, none⟩) (m + 1) cap2) (m + 1) (cs.flatMap gclsCells ++ [.int .i64 (16 * Cf.gran st cls m), .int .i64 (16 * Cf.gr cls m), .slice (some ⟨sb, 0, none⟩) n n]))
    (hgrow : ((wr.alloc (.cells cs1 t)).drew).grownBy w2 v.ownBlock) (hat : v.ownBlock = some gg ∨ gg = wr.heap.size + 1) :
    CnRel w st rest cls pb hb sv (m + 1) (.slice (some ⟨gg, 0, none⟩) (m + 1) cap2) (cs ++ [⟨16 * Cf.gran st cls m, 16 * Cf.gr cls m, List.replicate n GSlot.virgin, sb⟩]) (w2.setCell ⟨hb, 2, none⟩ (.slice (some ⟨gg, 0, none⟩) (m + 1) cap2)) := by
  have hpl := h.pbl
  have hol := h.hbk.lt
  have hsl := hsb.lt
  have hsz := h.below.size
  have hp0 := h.pb0
  have ho0 := h.hb0
  have hne := h.ne
  have hlen := h.ok.len
  have hggb : w.heap.size ≤ gg ∧ gg ≠ pb ∧ gg ≠ hb := by
    rcases hat with e | e
    · exact h.vlo gg e
    · omega
  have hggs : gg ≠ sb := by
    rcases hat with e | e
    · intro e2; subst e2; exact sv' e
    · omega
  have hggk : ∀ k, k < m → gg ≠ (cs.getD k GCls.no).sb := fun k hk => by
    have := (h.slots k hk).lt
    rcases hat with e | e
    · intro e2; exact (h.slo k hk).2.2.2 (e2 ▸ e)
    · omega
  have hsz2 := hgrow.size
  rw [World.size_drew, World.size_alloc] at hsz2
  have hpv : some pb ≠ v.ownBlock := fun e => (h.vlo pb e.symm).2.1 rfl
  have hov : some hb ≠ v.ownBlock := fun e => (h.vlo hb e.symm).2.2 rfl
  have hblk : ∀ b, b < wr.heap.size → some b ≠ v.ownBlock → b ≠ hb → (w2.setCell ⟨hb, 2, none⟩ (.slice (some ⟨gg, 0, none⟩) (m + 1) cap2)).heap[b]? = wr.heap[b]? := fun b hb1 hb2 hb3 => by
    rw [Below.heap_setCell w2 _ _ b hb3, hgrow.block b (by simp; omega) hb2]
    exact Below.heap_alloc wr _ b hb1
  refine ⟨?_, hp0, ?_, ?_, ho0, hne, ?_, ?_, ?_, ?_, ?_, ?_, ?_⟩
  · exact (((h.below.alloc (by omega) _).drew).grown hgrow (by rw [World.size_drew, World.size_alloc]; omega) (fun k hk => (h.vlo k hk).1)).setCell ho0 _
  · rw [World.cell?_of_block (hblk pb hpl hpv hne)]; exact h.pbc
  · rw [World.size_setCell]; omega
  · have hbk2 : Blk w2 hb 86 [.int .i64 st, .int .i64 rest, v, .slice none 0 0] := by
      have e1 := hgrow.block hb (by simp; omega) hov
      have e2 : (wr.alloc (.cells cs1 t)).drew.heap[hb]? = wr.heap[hb]? := Below.heap_alloc wr _ hb hol
      exact (e1.trans e2).trans h.hbk
    exact hbk2.setCell 2 _
  · refine ⟨by simp [hlen], fun k hk => ?_, fun k hk => ?_, fun k hk => ?_⟩
    all_goals
      by_cases e : k = m
      · rw [getD_app_r _ _ _ k (by omega), e]
        try rw [hn]
      · rw [getD_app_l _ _ _ _ (by omega)]
        first | exact h.ok.bg k (by omega) | exact h.ok.by_ k (by omega) | exact h.ok.sl k (by omega)
  · refine row_kept ?_ (fun g hg => Below.heap_setCell w2 _ _ g (by simp [Value.ownBlock] at hg; show g ≠ hb; omega))
    rw [List.flatMap_append]
    simpa [gclsCells] using hown1
  · intro g hg
    simp [Value.ownBlock] at hg
    subst hg
    exact hggb
  · intro k hk
    by_cases e : k = m
    · rw [getD_app_r _ _ _ k (by omega)]
      exact (hblk sb hsl (fun e => sv' e.symm) sh).trans hsb
    · rw [getD_app_l _ _ _ _ (by omega)]
      have hs := h.slo k (by omega)
      exact (hblk _ (h.slots k (by omega)).lt (fun e => hs.2.2.2 e.symm) hs.2.2.1).trans (h.slots k (by omega))
  · intro k hk
    by_cases e : k = m
    · rw [getD_app_r _ _ _ k (by omega)]
      exact ⟨s0, sp, sh, by simp [Value.ownBlock]; exact hggs⟩
    · rw [getD_app_l _ _ _ _ (by omega)]
      have hs := h.slo k (by omega)
      exact ⟨hs.1, hs.2.1, hs.2.2.1, by simp [Value.ownBlock]; exact hggk k (by omega)⟩
  · intro j k hj hk hjk
    by_cases e : k = m
    · rw [getD_app_r _ _ _ k (by omega), getD_app_l _ _ _ j (by omega)]
      exact ss j (by omega)
    · by_cases e2 : j = m
      · rw [getD_app_r _ _ _ j (by omega), getD_app_l _ _ _ k (by omega)]
        exact (ss k (by omega)).symm
      · rw [getD_app_l _ _ _ j (by omega), getD_app_l _ _ _ k (by omega)]
        exact h.sne j k (by omega) (by omega) hjk
end Go.Proofs.Ytjikemhmnkckcaa
