import Derived.Test.YtjikemhmnkckcabGreatJ11
namespace Go.Proofs.YtjikemhmnkckcabGreat
open Go.RowKit
attribute [local go_sem ↓] Go.wp_at_zero Go.wp_at_succ
theorem info_slot : (Tryz.prog.info? 146).map (fun i => (i.zero, i.size, i.bytes)) = some (some (.agg #[.int .i64 0, .int .i64 0, .int .i64 0, .int .i64 0, .int .i64 0, .int .i64 0]), 6, 48) := by kernel_rfl
theorem made_slots (n : Nat) : (madeCells #[.int .i64 0, .int .i64 0, .int .i64 0, .int .i64 0, .int .i64 0, .int .i64 0] (n * 6)).toList = (List.replicate n GSlot.no).flatMap slotCells := by
 apply List.ext_getElem?;intro j
 by_cases hj : j < n * 6
 ·have e : j = j / 6 * 6 + j % 6 := by omega
  have hf := flat_get slotCells 6 (fun _ => rfl) (List.replicate n GSlot.no) (j / 6) (j % 6) (by omega);rw [← e, List.getElem?_replicate, if_pos (by omega)] at hf;rw [hf];simp only [madeCells, Option.bind_some];simp [hj]
  rcases (show j % 6 = 0 ∨ j % 6 = 1 ∨ j % 6 = 2 ∨ j % 6 = 3 ∨ j % 6 = 4 ∨ j % 6 = 5 by omega) with h | h | h | h | h | h <;> rw [h] <;> rfl
 ·rw [List.getElem?_eq_none (by simp [size_madeCells]; omega), List.getElem?_eq_none (by rw [flat_len slotCells 6 (fun _ => rfl)]; simp; omega)]
structure NcRel (w : World) (bg : Int) (by_ : Int) (n kb rb sb : Nat) (m : Nat) (wr : World) : Prop where
 below : Below w.heap.size w wr
 kb0 : w.heap.size ≤ kb
 rb0 : w.heap.size ≤ rb
 sb0 : w.heap.size ≤ sb
 ks : kb ≠ sb
 rs : rb ≠ sb
 rk : rb ≠ kb
 kbk : Blk wr kb 124 [.int .i64 bg, .int .i64 by_, .slice (some ⟨sb, 0, none⟩) n n]
 rbk : ∃ u0 u1 u2, Blk wr rb 124 [u0, u1, u2]
 sbk : Blk wr sb 146 ((List.replicate m GSlot.virgin ++ List.replicate (n - m) GSlot.no).flatMap slotCells)
theorem NcRel.step {w : World} {bg by_ : Int} {n kb rb sb m : Nat} {wr : World} (h : NcRel w bg by_ n kb rb sb m wr) (hm : m < n) : NcRel w bg by_ n kb rb sb (m + 1) (wr.setCell ⟨sb, m * 6, none⟩ (.int .i64 2)) := by
 obtain ⟨u0, u1, u2, hu⟩ := h.rbk;refine ⟨h.below.setCell h.sb0 _, h.kb0, h.rb0, h.sb0, h.ks, h.rs, h.rk, h.kbk.setCell_other _ _ h.ks, ⟨u0, u1, u2, hu.setCell_other _ _ h.rs⟩, ?_⟩;have e := h.sbk.setCell (m * 6) (.int .i64 2);have hi : m < (List.replicate m GSlot.virgin ++ List.replicate (n - m) GSlot.no).length := by simp; omega
 have hg : (List.replicate m GSlot.virgin ++ List.replicate (n - m) GSlot.no).getD m GSlot.no = GSlot.no := by
  rw [List.getD_eq_getElem?_getD, List.getElem?_append_right (by simp), List.length_replicate, Nat.sub_self, List.getElem?_replicate]
  split <;> rfl
 have e2 := flat_set slotCells 6 (fun _ => rfl) _ GSlot.no m 0 hi (by omega) GSlot.virgin (.int .i64 2) (by rw [hg]; rfl);rw [Nat.add_zero] at e2;rw [e2] at e
 have e3 : (List.replicate m GSlot.virgin ++ List.replicate (n - m) GSlot.no).set m GSlot.virgin = List.replicate (m + 1) GSlot.virgin ++ List.replicate (n - (m + 1)) GSlot.no := by
  rw [List.set_append_right _ _ (by simp), List.length_replicate, Nat.sub_self, show n - m = (n - (m + 1)) + 1 by omega, List.replicate_succ, List.set_cons_zero, List.replicate_succ'];simp
 rw [e3] at e;exact e
theorem four_blocks (w : World) (o0 o1 o2 o3 : Obj) :
 ((((w.alloc o0).alloc o1).alloc o2).alloc o3).heap[w.heap.size]? = some o0 ∧ ((((w.alloc o0).alloc o1).alloc o2).alloc o3).heap[w.heap.size + 1]? = some o1 ∧
 ((((w.alloc o0).alloc o1).alloc o2).alloc o3).heap[w.heap.size + 1 + 1]? = some o2 ∧ ((((w.alloc o0).alloc o1).alloc o2).alloc o3).heap[w.heap.size + 1 + 1 + 1]? = some o3 ∧ Below w.heap.size w ((((w.alloc o0).alloc o1).alloc o2).alloc o3) := by
 refine ⟨?_, ?_, ?_, ?_, ((((Below.refl _ _).alloc (Nat.le_refl _) _).alloc (by simp) _).alloc (by simp; omega) _).alloc (by simp; omega) _⟩
 all_goals
  show ((((w.heap.push o0).push o1).push o2).push o3)[_]? = _;simp only [Array.getElem?_push, Array.size_push]
  repeat (first | rw [if_pos trivial] | rw [if_neg (by omega)])
set_option maxRecDepth 100000 in
set_option maxHeartbeats 3200000 in
theorem newClass_any (g bg : Int) (n : Nat) (w : World) (g0 : 1 ≤ g) (g1 : g ≤ 8) (n1 : n ≤ 16) :
 Calls Tryz.prog 54 #[.agg #[.int .i64 g, .int .i64 (n : Int)], .int .i64 bg] w fun e w' => ∃ sb, e = .returned (.agg #[.int .i64 bg, .int .i64 (16 * g), .slice (some ⟨sb, 0, none⟩) n n]) ∧
  Below w.heap.size w w' ∧ w.heap.size ≤ sb ∧ Blk w' sb 146 ((List.replicate n GSlot.virgin).flatMap slotCells) := by
 obtain ⟨i0, hi0, hz0, hz1, hz2⟩ := info_parts info_slot
 obtain ⟨mc, hmc, hmk⟩ : ∃ mc : List Value, Hid (mc = (List.replicate n GSlot.no).flatMap slotCells) ∧ ∀ w : World, (Instr.makeSlice 122 (.int .i64 (n : Int)) (.int .i64 (n : Int))).run Tryz.prog w = .ok (.slice (some ⟨w.heap.size, 0, none⟩) n n) (w.alloc (.cells mc.toArray 146)) := by
  refine ⟨(madeCells #[.int .i64 0, .int .i64 0, .int .i64 0, .int .i64 0, .int .i64 0, .int .i64 0] (n * 6)).toList, made_slots n, fun w => ?_⟩;have hr := run_make (P := Tryz.prog) w 122 146 i0 _ Tryz.underlying122 hi0 hz0 .i64 .i64 (n : Int) (n : Int) (by omega) (by omega) (by rw [hz2]; omega) (by omega);rw [hr, hz1];simp [Value.cells]
 have hmul : g * 16 = 16 * g := by omega
 clear hi0 hz0 hz1 hz2;go_enter Tryz.func54, Tryz.ntmps54;go_wp2
 go_region
 ·obtain ⟨f0, f1, f2, f3, fb⟩ := four_blocks w (.cells #[.int .i64 g, .int .i64 (n : Int)] 84) (.cells #[.int .i64 0, .int .i64 0, .slice none 0 0] 124) (.cells mc.toArray 146) (.cells #[.int .i64 bg, .int .i64 (16 * g), .slice (some ⟨w.heap.size + 1 + 1, 0, none⟩) n n] 124)
  have HS : Hid (NcRel w bg (16 * g) n (w.heap.size + 1 + 1 + 1) (w.heap.size + 1) (w.heap.size + 1 + 1) 0 (((((w.alloc (.cells #[.int .i64 g, .int .i64 (n : Int)] 84)).alloc (.cells #[.int .i64 0, .int .i64 0, .slice none 0 0] 124)).alloc (.cells mc.toArray 146)).alloc (.cells #[.int .i64 bg, .int .i64 (16 * g), .slice (some ⟨w.heap.size + 1 + 1, 0, none⟩) n n] 124)).drew)) := by
   refine ⟨fb.drew, by omega, by omega, by omega, by omega, by omega, by omega, f3, ⟨_, _, _, f1⟩, ?_⟩;show _ = _;rw [show (List.replicate 0 GSlot.virgin ++ List.replicate (n - 0) GSlot.no).flatMap slotCells = mc by rw [hmc.out]; simp];exact f2
  clear f0 f1 f2 f3 fb hmk;go_wp2
  go_loopw [6] (fun i wr => ∃ m : Nat, m ≤ n ∧ i = .int .i64 (m : Int) ∧ NcRel w bg (16 * g) n (w.heap.size + 1 + 1 + 1) (w.heap.size + 1) (w.heap.size + 1 + 1) m wr) (fun i _ => n - (intOf i).toNat)
  case atStart => exact ⟨0, by omega, rfl, HS.out⟩
  case round =>
   obtain ⟨m, hm, rfl, hr⟩ := hrel;have k2 := hr.kbk.cell (j := 2) rfl;have HR : Hid (NcRel w bg (16 * g) n (w.heap.size + 1 + 1 + 1) (w.heap.size + 1) (w.heap.size + 1 + 1) m wr) := hr
   by_cases hlt : m < n
   ·have hs := hr.step hlt;obtain ⟨s0, _⟩ := slot_cells hr.sbk m (by simp; omega);have sf := hr.sbk.frozen (m * 6);clear hr;go_wp2
    go_roundw
    case rel => exact ⟨m + 1, by omega, by go_num, hs⟩
    case measure => simp [intOf]; omega
   ·obtain rfl : m = n := by omega
    have k0 := hr.kbk.cell (j := 0) rfl;have k1 := hr.kbk.cell (j := 1) rfl;obtain ⟨u0, u1, u2, hu⟩ := hr.rbk;have r0 := hu.cell (j := 0) rfl;have r1 := hu.cell (j := 1) rfl;have r2 := hu.cell (j := 2) rfl;have rf0 := hu.frozen 0;have rf1 := hu.frozen 1;have rf2 := hu.frozen 2;clear hr;go_wp2;refine bodyPost_ret (v := .agg #[.int .i64 bg, .int .i64 (16 * g), .slice (some ⟨w.heap.size + 1 + 1, 0, none⟩) m m]) (by simp [results, Tryz.results54, go_sem, r0, r1, r2]) rfl ⟨w.heap.size + 1 + 1, rfl, ?_, by omega, ?_⟩
    ·exact ((HR.out.below.setCell HR.out.rb0 _).setCell HR.out.rb0 _).setCell HR.out.rb0 _
    ·have e := HR.out.sbk;rw [show List.replicate m GSlot.virgin ++ List.replicate (m - m) GSlot.no = List.replicate m GSlot.virgin by simp] at e;exact ((e.setCell_other _ _ HR.out.rs.symm).setCell_other _ _ HR.out.rs.symm).setCell_other _ _ HR.out.rs.symm
 ·obtain ⟨f0, f1, f2, f3, fb⟩ := four_blocks w (.cells #[.int .i64 g, .int .i64 (n : Int)] 84) (.cells #[.int .i64 0, .int .i64 0, .slice none 0 0] 124) (.cells #[.int .i64 bg, .int .i64 (16 * g), .slice (some ⟨w.heap.size + 1 + 1 + 1, 0, none⟩) n n] 124) (.cells mc.toArray 146)
  have HS : Hid (NcRel w bg (16 * g) n (w.heap.size + 1 + 1) (w.heap.size + 1) (w.heap.size + 1 + 1 + 1) 0 (((((w.alloc (.cells #[.int .i64 g, .int .i64 (n : Int)] 84)).alloc (.cells #[.int .i64 0, .int .i64 0, .slice none 0 0] 124)).alloc (.cells #[.int .i64 bg, .int .i64 (16 * g), .slice (some ⟨w.heap.size + 1 + 1 + 1, 0, none⟩) n n] 124)).alloc (.cells mc.toArray 146)).drew)) := by
   refine ⟨fb.drew, by omega, by omega, by omega, by omega, by omega, by omega, f2, ⟨_, _, _, f1⟩, ?_⟩;show _ = _;rw [show (List.replicate 0 GSlot.virgin ++ List.replicate (n - 0) GSlot.no).flatMap slotCells = mc by rw [hmc.out]; simp];exact f3
  clear f0 f1 f2 f3 fb hmk;go_wp2
  go_loopw [6] (fun i wr => ∃ m : Nat, m ≤ n ∧ i = .int .i64 (m : Int) ∧ NcRel w bg (16 * g) n (w.heap.size + 1 + 1) (w.heap.size + 1) (w.heap.size + 1 + 1 + 1) m wr) (fun i _ => n - (intOf i).toNat)
  case atStart => exact ⟨0, by omega, rfl, HS.out⟩
  case round =>
   obtain ⟨m, hm, rfl, hr⟩ := hrel;have k2 := hr.kbk.cell (j := 2) rfl;have HR : Hid (NcRel w bg (16 * g) n (w.heap.size + 1 + 1) (w.heap.size + 1) (w.heap.size + 1 + 1 + 1) m wr) := hr
   by_cases hlt : m < n
   ·have hs := hr.step hlt;obtain ⟨s0, _⟩ := slot_cells hr.sbk m (by simp; omega);have sf := hr.sbk.frozen (m * 6);clear hr;go_wp2
    go_roundw
    case rel => exact ⟨m + 1, by omega, by go_num, hs⟩
    case measure => simp [intOf]; omega
   ·obtain rfl : m = n := by omega
    have k0 := hr.kbk.cell (j := 0) rfl;have k1 := hr.kbk.cell (j := 1) rfl;obtain ⟨u0, u1, u2, hu⟩ := hr.rbk;have r0 := hu.cell (j := 0) rfl;have r1 := hu.cell (j := 1) rfl;have r2 := hu.cell (j := 2) rfl;have rf0 := hu.frozen 0;have rf1 := hu.frozen 1;have rf2 := hu.frozen 2;clear hr;go_wp2;refine bodyPost_ret (v := .agg #[.int .i64 bg, .int .i64 (16 * g), .slice (some ⟨w.heap.size + 1 + 1 + 1, 0, none⟩) m m]) (by simp [results, Tryz.results54, go_sem, r0, r1, r2]) rfl ⟨w.heap.size + 1 + 1 + 1, rfl, ?_, by omega, ?_⟩
    ·exact ((HR.out.below.setCell HR.out.rb0 _).setCell HR.out.rb0 _).setCell HR.out.rb0 _
    ·have e := HR.out.sbk;rw [show List.replicate m GSlot.virgin ++ List.replicate (m - m) GSlot.no = List.replicate m GSlot.virgin by simp] at e;exact ((e.setCell_other _ _ HR.out.rs.symm).setCell_other _ _ HR.out.rs.symm).setCell_other _ _ HR.out.rs.symm
set_option maxHeartbeats 400000 in
theorem slotBegin_any (b off : Nat) (bg by_ i : Int) (w : World) (h0 : w.cell? ⟨b, off, none⟩ = some (.int .i64 bg)) (h1 : w.cell? ⟨b, off + 1, none⟩ = some (.int .i64 by_))
 (b0 : 0 ≤ bg) (b1 : bg ≤ 1000000) (m0 : 0 ≤ i * by_) (m1 : i * by_ ≤ 1000000) :
 Calls Tryz.prog 55 #[.pointer (some ⟨b, off, none⟩), .int .i64 i] w fun e w' => e = .returned (.int .i64 (bg + i * by_)) ∧ Below w.heap.size w w' := by
 go_enter Tryz.func55, Tryz.ntmps55;go_wp2
 go_quiet (fail)
 go_wp2;go_ret;exact ⟨rfl, below_drewN (Below.refl _ _) _⟩
theorem info_gcls : (Tryz.prog.info? 124).map (fun i => (i.zero, i.size, i.bytes)) = some (some (.agg #[.int .i64 0, .int .i64 0, .slice none 0 0]), 3, 40) := by kernel_rfl
theorem info_u8 : (Tryz.prog.info? 5).map (fun i => (i.zero, i.size, i.bytes)) = some (some (.int .u8 0), 1, 1) := by kernel_rfl
structure ClsOk (st : Int) (cls : List (Int × Int)) (m : Nat) (cs : List GCls) : Prop where
 len : cs.length = m
 bg : ∀ k, k < m → (cs.getD k GCls.no).begin_ = 16 * Cf.gran st cls k
 by_ : ∀ k, k < m → (cs.getD k GCls.no).bytes = 16 * Cf.gr cls k
 sl : ∀ k, k < m → (cs.getD k GCls.no).slots = List.replicate (Cf.sl cls k).toNat GSlot.virgin
structure CnRel (w : World) (st rest : Int) (cls : List (Int × Int)) (pb hb : Nat) (sv : Value) (m : Nat) (v : Value) (cs : List GCls) (wr : World) : Prop where
 below : Below w.heap.size w wr
 pb0 : w.heap.size ≤ pb
 pbc : wr.cell? ⟨pb, 2, none⟩ = some sv
 pbl : pb < wr.heap.size
 hb0 : w.heap.size ≤ hb
 ne : pb ≠ hb
 hbk : Blk wr hb 79 [.int .i64 st, .int .i64 rest, v, .slice none 0 0]
 ok : ClsOk st cls m cs
 row : wr.ownsRow 0 124 3 v m (cs.flatMap gclsCells)
 vlo : ∀ g, v.ownBlock = some g → w.heap.size ≤ g ∧ g ≠ pb ∧ g ≠ hb
 slots : ∀ k, k < m → Blk wr (cs.getD k GCls.no).sb 146 ((cs.getD k GCls.no).slots.flatMap slotCells)
 slo : ∀ k, k < m → w.heap.size ≤ (cs.getD k GCls.no).sb ∧ (cs.getD k GCls.no).sb ≠ pb ∧ (cs.getD k GCls.no).sb ≠ hb ∧ v.ownBlock ≠ some (cs.getD k GCls.no).sb
 sne : ∀ j k, j < m → k < m → j ≠ k → (cs.getD j GCls.no).sb ≠ (cs.getD k GCls.no).sb
theorem CnRel.later {w wr w' : World} {st rest : Int} {cls : List (Int × Int)} {pb hb : Nat} {sv : Value} {m : Nat} {v : Value} {cs : List GCls} (h : CnRel w st rest cls pb hb sv m v cs wr) (b : Below wr.heap.size wr w') : CnRel w st rest cls pb hb sv m v cs w' :=
 ⟨h.below.trans (b.mono h.below.size), h.pb0, (b.cell (p := ⟨pb, 2, none⟩) h.pbl).trans h.pbc, Nat.lt_of_lt_of_le h.pbl b.size, h.hb0, h.ne, h.hbk.below b h.hbk.lt, h.ok, row_below h.row b fun _ => row_lt h.row, h.vlo, fun k hk => (h.slots k hk).below b (h.slots k hk).lt, h.slo, h.sne⟩
theorem getD_app_l {α : Type} (l : List α) (x d : α) (k : Nat) (h : k < l.length) : (l ++ [x]).getD k d = l.getD k d := by
 rw [List.getD_eq_getElem?_getD, List.getD_eq_getElem?_getD, List.getElem?_append_left h]
theorem getD_app_r {α : Type} (l : List α) (x d : α) (k : Nat) (h : k = l.length) : (l ++ [x]).getD k d = x := by subst h; simp
theorem CnRel.step {w wr : World} {st rest : Int} {cls : List (Int × Int)} {pb hb : Nat} {sv : Value} {m : Nat} {v : Value} {cs : List GCls} (h : CnRel w st rest cls pb hb sv m v cs wr)
 {sb n : Nat} (hn : (Cf.sl cls m).toNat = n) (hsb : Blk wr sb 146 ((List.replicate n GSlot.virgin).flatMap slotCells)) (s0 : w.heap.size ≤ sb) (sp : sb ≠ pb) (sh : sb ≠ hb) (sv' : v.ownBlock ≠ some sb) (ss : ∀ k, k < m → (cs.getD k GCls.no).sb ≠ sb)
 {cs1 : Array Value} {t : TypeId} {w2 : World} {gg cap2 : Nat}
 (hown1 : w2.ownsRow 0 124 3 (.slice (some ⟨gg, 0, none⟩) (m + 1) cap2) (m + 1) (cs.flatMap gclsCells ++ [.int .i64 (16 * Cf.gran st cls m), .int .i64 (16 * Cf.gr cls m), .slice (some ⟨sb, 0, none⟩) n n]))
 (hgrow : ((wr.alloc (.cells cs1 t)).drew).grownBy w2 v.ownBlock) (hat : v.ownBlock = some gg ∨ gg = wr.heap.size + 1) :
 CnRel w st rest cls pb hb sv (m + 1) (.slice (some ⟨gg, 0, none⟩) (m + 1) cap2) (cs ++ [⟨16 * Cf.gran st cls m, 16 * Cf.gr cls m, List.replicate n GSlot.virgin, sb⟩]) (w2.setCell ⟨hb, 2, none⟩ (.slice (some ⟨gg, 0, none⟩) (m + 1) cap2)) := by
 have hpl := h.pbl;have hol := h.hbk.lt;have hsl := hsb.lt;have hsz := h.below.size;have hp0 := h.pb0;have ho0 := h.hb0;have hne := h.ne;have hlen := h.ok.len
 have hggb : w.heap.size ≤ gg ∧ gg ≠ pb ∧ gg ≠ hb := by
  rcases hat with e | e
  ·exact h.vlo gg e
  ·omega
 have hggs : gg ≠ sb := by
  rcases hat with e | e
  ·intro e2; subst e2; exact sv' e
  ·omega
 have hggk : ∀ k, k < m → gg ≠ (cs.getD k GCls.no).sb := fun k hk => by
  have := (h.slots k hk).lt
  rcases hat with e | e
  ·intro e2; exact (h.slo k hk).2.2.2 (e2 ▸ e)
  ·omega
 have hsz2 := hgrow.size;rw [World.size_drew, World.size_alloc] at hsz2;have hpv : some pb ≠ v.ownBlock := fun e => (h.vlo pb e.symm).2.1 rfl
 have hov : some hb ≠ v.ownBlock := fun e => (h.vlo hb e.symm).2.2 rfl
 have hblk : ∀ b, b < wr.heap.size → some b ≠ v.ownBlock → b ≠ hb → (w2.setCell ⟨hb, 2, none⟩ (.slice (some ⟨gg, 0, none⟩) (m + 1) cap2)).heap[b]? = wr.heap[b]? := fun b hb1 hb2 hb3 => by
  rw [Below.heap_setCell w2 _ _ b hb3, hgrow.block b (by simp; omega) hb2];exact Below.heap_alloc wr _ b hb1
 refine ⟨?_, hp0, ?_, ?_, ho0, hne, ?_, ?_, ?_, ?_, ?_, ?_, ?_⟩
 ·exact (((h.below.alloc (by omega) _).drew).grown hgrow (by rw [World.size_drew, World.size_alloc]; omega) (fun k hk => (h.vlo k hk).1)).setCell ho0 _
 ·rw [World.cell?_of_block (hblk pb hpl hpv hne)]; exact h.pbc
 ·rw [World.size_setCell]; omega
 ·have hbk2 : Blk w2 hb 79 [.int .i64 st, .int .i64 rest, v, .slice none 0 0] := by
   have e1 := hgrow.block hb (by simp; omega) hov;have e2 : (wr.alloc (.cells cs1 t)).drew.heap[hb]? = wr.heap[hb]? := Below.heap_alloc wr _ hb hol;exact (e1.trans e2).trans h.hbk
  exact hbk2.setCell 2 _
 ·refine ⟨by simp [hlen], fun k hk => ?_, fun k hk => ?_, fun k hk => ?_⟩
  all_goals
   by_cases e : k = m
   ·rw [getD_app_r _ _ _ k (by omega), e]
    try rw [hn]
   ·rw [getD_app_l _ _ _ _ (by omega)]
    first | exact h.ok.bg k (by omega) | exact h.ok.by_ k (by omega) | exact h.ok.sl k (by omega)
 ·refine row_kept ?_ (fun g hg => Below.heap_setCell w2 _ _ g (by simp [Value.ownBlock] at hg; show g ≠ hb; omega));rw [List.flatMap_append]
  simpa [gclsCells] using hown1
 ·intro g hg;simp [Value.ownBlock] at hg;subst hg;exact hggb
 ·intro k hk
  by_cases e : k = m
  ·rw [getD_app_r _ _ _ k (by omega)];exact (hblk sb hsl (fun e => sv' e.symm) sh).trans hsb
  ·rw [getD_app_l _ _ _ _ (by omega)];have hs := h.slo k (by omega);exact (hblk _ (h.slots k (by omega)).lt (fun e => hs.2.2.2 e.symm) hs.2.2.1).trans (h.slots k (by omega))
 ·intro k hk
  by_cases e : k = m
  ·rw [getD_app_r _ _ _ k (by omega)];exact ⟨s0, sp, sh, by simp [Value.ownBlock]; exact hggs⟩
  ·rw [getD_app_l _ _ _ _ (by omega)];have hs := h.slo k (by omega);exact ⟨hs.1, hs.2.1, hs.2.2.1, by simp [Value.ownBlock]; exact hggk k (by omega)⟩
 ·intro j k hj hk hjk
  by_cases e : k = m
  ·rw [getD_app_r _ _ _ k (by omega), getD_app_l _ _ _ j (by omega)];exact ss j (by omega)
  ·by_cases e2 : j = m
   ·rw [getD_app_r _ _ _ j (by omega), getD_app_l _ _ _ k (by omega)];exact (ss k (by omega)).symm
   ·rw [getD_app_l _ _ _ j (by omega), getD_app_l _ _ _ k (by omega)];exact h.sne j k (by omega) (by omega) hjk
theorem gran_next (st : Int) (cls : List (Int × Int)) (m n : Nat) (hn : Cf.sl cls m = (n : Int)) : 16 * Cf.gran st cls m + (n : Int) * (16 * Cf.gr cls m) + 16 = 16 * Cf.gran st cls (m + 1) := by
 show _ = 16 * (Cf.gran st cls m + Cf.sl cls m * Cf.gr cls m + 1);rw [hn, Int.mul_add, Int.mul_add, Int.mul_left_comm]; omega
theorem CnRel.finish {w wr : World} {st rest : Int} {cls : List (Int × Int)} {pb hb : Nat} {sv : Value} {v : Value} {cs : List GCls} (h : CnRel w st rest cls pb hb sv cls.length v cs wr) (nb : Nat) (mc : List Value) (hmc : mc = (List.replicate nb (0 : Int)).map (Value.int .u8)) :
 GRep ((wr.alloc (.cells mc.toArray 5)).setCell ⟨hb, 3, none⟩ (.slice (some ⟨wr.heap.size, 0, none⟩) nb nb)) hb v wr.heap.size ⟨st, rest, cs, List.replicate nb 0⟩ ∧
 Below w.heap.size w ((wr.alloc (.cells mc.toArray 5)).setCell ⟨hb, 3, none⟩ (.slice (some ⟨wr.heap.size, 0, none⟩) nb nb)) ∧
 ∀ b, GFoot hb v wr.heap.size ⟨st, rest, cs, List.replicate nb 0⟩ b → w.heap.size ≤ b := by
 have hol := h.hbk.lt;have hsz := h.below.size;have hlen := h.ok.len
 have hblk : ∀ b, b < wr.heap.size → b ≠ hb → ((wr.alloc (.cells mc.toArray 5)).setCell ⟨hb, 3, none⟩ (.slice (some ⟨wr.heap.size, 0, none⟩) nb nb)).heap[b]? = wr.heap[b]? := fun b h1 h2 => by
  rw [Below.heap_setCell _ _ _ b h2]; exact Below.heap_alloc wr _ b h1
 refine ⟨⟨?_, ?_, ?_, ?_, ?_, ?_, ?_, ?_, ?_⟩, (h.below.alloc hsz _).setCell h.hb0 _, ?_⟩
 ·have e : Blk (wr.alloc (.cells mc.toArray 5)) hb 79 [.int .i64 st, .int .i64 rest, v, .slice none 0 0] := (Below.heap_alloc wr _ hb hol).trans h.hbk;have e2 := e.setCell 3 (.slice (some ⟨wr.heap.size, 0, none⟩) nb nb)
  simpa using e2
 ·show World.ownsRow _ _ _ _ _ cs.length _;rw [hlen];exact row_kept h.row fun g hg => hblk g (row_lt h.row hg) (h.vlo g hg).2.2
 ·intro k hk;have hk' : k < cls.length := by rw [← hlen]; exact hk
  exact (hblk _ (h.slots k hk').lt (h.slo k hk').2.2.1).trans (h.slots k hk')
 ·rw [← hmc];exact (Below.heap_setCell _ _ _ _ (show wr.heap.size ≠ hb by omega)).trans (heap_alloc_new wr _)
 ·exact fun e => (h.vlo _ e).2.2 rfl
 ·omega
 ·exact fun e => by have := row_lt h.row e; omega
 ·intro k hk;have hk' : k < cls.length := by rw [← hlen]; exact hk
  have h1 := h.slo k hk';have h2 := (h.slots k hk').lt;exact ⟨h1.2.2.1, by show (cs.getD k GCls.no).sb ≠ wr.heap.size; omega, h1.2.2.2⟩
 ·intro j k hj hk;exact h.sne j k (by rw [← hlen]; exact hj) (by rw [← hlen]; exact hk)
 ·intro b hb
  rcases hb with rfl | hb | rfl | ⟨k, hk, rfl⟩
  ·exact h.hb0
  ·exact (h.vlo b hb).1
  ·exact hsz
  ·exact (h.slo k (by rw [← hlen]; exact hk)).1
set_option maxRecDepth 100000 in
set_option maxHeartbeats 6400000 in
theorem gnew_yes (st rest : Int) (a : Option Addr) (cap : Nat) (cls : List (Int × Int)) (w : World) (h : CRow w a cap cls) (hv : Cf.Valid st rest cls) :
 Calls Tryz.prog 28 #[.agg #[.int .i64 st, .int .i64 rest, .slice a cls.length cap]] w fun e w' => ∃ p vc bb cs, e = .returned (.tuple #[.pointer (some ⟨p, 0, none⟩), .int .i64 0]) ∧
  GRep w' p vc bb ⟨st, rest, cs, List.replicate (16 * Cf.gran st cls cls.length).toNat 0⟩ ∧ ClsOk st cls cls.length cs ∧ Below w.heap.size w w' ∧ ∀ b, GFoot p vc bb ⟨st, rest, cs, List.replicate (16 * Cf.gran st cls cls.length).toNat 0⟩ b → w.heap.size ≤ b := by
 have HC : Hid (CRow w a cap cls) := h;have HV : Hid (Cf.Valid st rest cls) := hv;have HB : Hid (Cf.validB st rest cls = true) := Cf.validB_of hv;obtain ⟨g, off, rfl, hgl, hcell⟩ := h.cells hv.n0;obtain ⟨i0, hi0, hz0, hz1, hz2⟩ := info_parts info_gcls;obtain ⟨i8, hi8, hy0, hy1, hy2⟩ := info_parts info_u8;have hlen := h.len;have hcap := h.cap;have b0 := hv.st0;have b1 := hv.st1;have n1 := hv.n1;unfold maxLen at hcap;have HCL : Hid (∀ i, i < cls.length → w.cell? ⟨g, off + i * 2, none⟩ = some (.int .i64 (Cf.gr cls i)) ∧ w.cell? ⟨g, off + i * 2 + 1, none⟩ = some (.int .i64 (Cf.sl cls i))) := hcell;clear h hv hcell;go_enter Tryz.func28, Tryz.ntmps28
 go_wp2_with (go_at_call 51; refine (validConf_any st rest _ cap cls _ (HC.out.below ((Below.refl _ _).alloc (Nat.le_refl _) _))).mono ?_; rw [HB.out]; rintro e1 w1 ⟨rfl, hb1⟩; have hs1 : w.heap.size < w1.heap.size := (by have := hb1.size; rw [World.size_alloc] at this; omega); have q0 := (hb1.cell (p := ⟨w.heap.size, 0, none⟩) (by simp)).trans (World.cell?_alloc_new _ _ _ _); have q1 := (hb1.cell (p := ⟨w.heap.size, 1, none⟩) (by simp)).trans (World.cell?_alloc_new _ _ _ _); have q2 := (hb1.cell (p := ⟨w.heap.size, 2, none⟩) (by simp)).trans (World.cell?_alloc_new _ _ _ _))
 go_loopw [5, 6] (fun bg i wr => ∃ (m : Nat) (v : Value) (cs : List GCls), m ≤ cls.length ∧ i = .int .i64 (m : Int) ∧ bg = .int .i64 (16 * Cf.gran st cls m) ∧ CnRel w st rest cls w.heap.size w1.heap.size (.slice (some ⟨g, off, none⟩) cls.length cap) m v cs wr) (fun _ i _ => cls.length - (intOf i).toNat)
 case atStart =>
  refine ⟨0, .slice none 0 0, [], by omega, rfl, by simp [Cf.gran]; omega, ⟨(((Below.refl _ _).alloc (Nat.le_refl _) _).trans (hb1.mono (by simp))).alloc (by omega) _, Nat.le_refl _, ?_, ?_, by omega, by omega, Blk.alloc _ _ _, ⟨rfl, fun k hk => by omega, fun k hk => by omega, fun k hk => by omega⟩, World.ownsRow_nil _ _ _ _, nofun, fun k hk => by omega, fun k hk => by omega, fun j k hj => by omega⟩⟩
  ·rw [World.cell?_alloc_lt _ _ _ (by show w.heap.size < _; omega)]; exact q2
  ·rw [World.size_alloc]; omega
 case round =>
  obtain ⟨m, v, cs, hm, rfl, rfl, hr⟩ := hrel;have r2 := hr.pbc;have hsz := hr.below.size;have gb := Cf.gran_bd HV.out m (by omega);have HRR : Hid (CnRel w st rest cls w.heap.size w1.heap.size (.slice (some ⟨g, off, none⟩) cls.length cap) m v cs wr) := hr
  by_cases hlt : m < cls.length
  ·obtain ⟨d0, d1⟩ := HCL.out m hlt;have d0' := (hr.below.cell (p := ⟨g, off + m * 2, none⟩) hgl).trans d0;have d1' := (hr.below.cell (p := ⟨g, off + m * 2 + 1, none⟩) hgl).trans d1;have s0 := HV.out.s0 m hlt;have s1 := HV.out.s1 m hlt;have g0 := HV.out.g0 m hlt;have g1 := HV.out.g1 m hlt;obtain ⟨n, hn⟩ := Int.eq_ofNat_of_zero_le (show 0 ≤ Cf.sl cls m by omega);have HN : Hid (Cf.sl cls m = (n : Int)) := hn;have hgn : Hid (16 * Cf.gran st cls m + (n : Int) * (16 * Cf.gr cls m) + 16 = 16 * Cf.gran st cls (m + 1)) := gran_next st cls m n hn;rw [hn] at d1' s0 s1;have x0 : (0 : Int) ≤ (m : Int) := by omega
   have x1 : (m : Int) < (cls.length : Int) := by omega
   have pbd := Cf.prod_bd (a := (n : Int)) (b := Cf.gr cls m) (by omega) (by omega) (by omega) (by omega);have pb2 : Hid ((n : Int) * (16 * Cf.gr cls m) = 16 * ((n : Int) * Cf.gr cls m)) := Int.mul_left_comm _ _ _;clear d0 d1 hr hn q0 q1 q2
   go_wp2_with (go_at_call 54; refine (newClass_any (Cf.gr cls m) (16 * Cf.gran st cls m) n _ g0 g1 (by omega)).mono ?_; rintro e1 w2 ⟨sb, rfl, hb2, sb0, sbk⟩)
   obtain ⟨W3, hW3⟩ : ∃ W3, W3 = w2.alloc (.cells #[.int .i64 (16 * Cf.gran st cls m), .int .i64 (16 * Cf.gr cls m), .slice (some ⟨sb, 0, none⟩) n n] 124) := ⟨_, rfl⟩
   rw [← hW3];have hb3 : Below wr.heap.size wr W3 := by rw [hW3]; exact hb2.alloc hb2.size _
   have hR3 : Hid (CnRel w st rest cls w.heap.size w1.heap.size (.slice (some ⟨g, off, none⟩) cls.length cap) m v cs W3) := HRR.out.later hb3;have kbk : Blk W3 w2.heap.size 124 [.int .i64 (16 * Cf.gran st cls m), .int .i64 (16 * Cf.gr cls m), .slice (some ⟨sb, 0, none⟩) n n] := by rw [hW3]; exact Blk.alloc _ _ _
   have sbk3 : Hid (Blk W3 sb 146 ((List.replicate n GSlot.virgin).flatMap slotCells)) := by
    have : Below w2.heap.size w2 W3 := by rw [hW3]; exact (Below.refl _ _).alloc (Nat.le_refl _) _
    exact sbk.below this sbk.lt
   have kne : w2.heap.size ≠ w1.heap.size ∧ w1.heap.size < wr.heap.size ∧ wr.heap.size ≤ w2.heap.size ∧ w2.heap.size < W3.heap.size := by
    have h1 := HRR.out.hbk.lt;have h2 := hb2.size;have h3 := kbk.lt;omega
   obtain ⟨kn1, kn2, kn3, kn4⟩ := kne
   have hsb : Hid (sb ≠ w.heap.size ∧ sb ≠ w1.heap.size ∧ v.ownBlock ≠ some sb ∧ ∀ k, k < m → (cs.getD k GCls.no).sb ≠ sb) := by
    refine ⟨by omega, by omega, fun e => ?_, fun k hk e => ?_⟩
    ·have := row_lt HRR.out.row e; omega
    ·have := (HRR.out.slots k hk).lt; omega
   have hvk : Hid (v.ownBlock ≠ some w2.heap.size) := fun e => by have := row_lt HRR.out.row e; omega
   have k0 := kbk.cell (j := 0) rfl;have k1 := kbk.cell (j := 1) rfl;have k2 := kbk.cell (j := 2) rfl;have o2 := hR3.out.hbk.cell (j := 2) rfl;have of2 := hR3.out.hbk.frozen 2;have obl := hR3.out.hbk.lt;have hrow : Hid (W3.ownsRow 0 124 3 v m (cs.flatMap gclsCells)) := hR3.out.row;have KB : Hid (Blk W3 w2.heap.size 124 [.int .i64 (16 * Cf.gran st cls m), .int .i64 (16 * Cf.gr cls m), .slice (some ⟨sb, 0, none⟩) n n]) := kbk;have vlo : Hid (v.ownBlock ≠ some w1.heap.size) := fun e => (HRR.out.vlo _ e).2.2 rfl
   clear hW3 hb2 sbk kbk d0' d1' r2
   go_region_law ((refine step_append_lies _ (by rfl) _ _ _ (by rfl) 0 124 i0 _ 3 40 Tryz.underlying76 hi0 hz0 hz1 hz2 rfl (by omega) v m (cs.flatMap gclsCells) (by rfl) ((hrow.out.alloc _).drew) ⟨W3.heap.size, 0, none⟩ 1 1 [.int .i64 (16 * Cf.gran st cls m), .int .i64 (16 * Cf.gr cls m), .slice (some ⟨sb, 0, none⟩) n n] (by rfl) (by rfl) (World.news_of_block (cs := #[.int .i64 (16 * Cf.gran st cls m), .int .i64 (16 * Cf.gr cls m), .slice (some ⟨sb, 0, none⟩) n n]) (t := 124) (fr := (0, 0)) (heap_alloc_new W3 _)) (by simp [Value.oneCell']) (by omega) (by simp [maxLen]; omega) (by omega) (by simp) (W3.heap.size + 1) (by simp) ?_; intro gg cap2 w4 hown1 hgrow hat hlt2; have o2' : w4.cell? ⟨w1.heap.size, 2, none⟩ = some v := (by rw [hgrow.cell_far _ (by simp; omega) (fun e => vlo.out e.symm), World.cell?_drew, World.cell?_alloc_lt _ _ _ obl]; exact o2); have of2' : w4.frozen? ⟨w1.heap.size, 2, none⟩ = false := (by rw [hgrow.frozen_far _ (by simp; omega) (fun e => vlo.out e.symm), World.frozen?_drew, World.frozen?_alloc_old _ _ _ (by show w1.heap.size ≠ _; omega)]; exact of2)))
   all_goals
    have hst := HRR.out
    have hR5 : Hid (CnRel w st rest cls w.heap.size w1.heap.size (.slice (some ⟨g, off, none⟩) cls.length cap) (m + 1) (.slice (some ⟨gg, 0, none⟩) (m + 1) cap2) (cs ++ [⟨16 * Cf.gran st cls m, 16 * Cf.gr cls m, List.replicate n GSlot.virgin, sb⟩]) (w4.setCell ⟨w1.heap.size, 2, none⟩ (.slice (some ⟨gg, 0, none⟩) (m + 1) cap2))) :=
     hR3.out.step (by rw [HN.out]; omega) sbk3.out (by omega) hsb.out.1 hsb.out.2.1 hsb.out.2.2.1 hsb.out.2.2.2 hown1 hgrow hat
    have hk5 : Hid (Blk (w4.setCell ⟨w1.heap.size, 2, none⟩ (.slice (some ⟨gg, 0, none⟩) (m + 1) cap2)) w2.heap.size 124 [.int .i64 (16 * Cf.gran st cls m), .int .i64 (16 * Cf.gr cls m), .slice (some ⟨sb, 0, none⟩) n n]) := by
     refine Blk.setCell_other ?_ _ _ kn1;exact ((hgrow.block w2.heap.size (by simp; omega) (fun e => hvk.out e.symm)).trans (Below.heap_alloc W3 _ _ kn4)).trans KB.out
    generalize w4.setCell ⟨w1.heap.size, 2, none⟩ (.slice (some ⟨gg, 0, none⟩) (m + 1) cap2) = W5 at *;have z0 := hk5.out.cell (j := 0) rfl;have z1 := hk5.out.cell (j := 1) rfl;have z2 := hk5.out.cell (j := 2) rfl;clear hown1 hgrow hat o2' of2' o2 of2 k0 k1 k2 hst;have mm0 : Hid (0 ≤ (n : Int) * (16 * Cf.gr cls m) ∧ (n : Int) * (16 * Cf.gr cls m) ≤ 1000000) := by rw [pb2.out]; exact ⟨by omega, by omega⟩
    go_wp2_with (go_at_call 55; refine (slotBegin_any w2.heap.size 0 (16 * Cf.gran st cls m) (16 * Cf.gr cls m) (n : Int) _ z0 z1 (by omega) (by omega) mm0.out.1 mm0.out.2).mono ?_; rintro e1 w6 ⟨rfl, hb6⟩; have mm1 := mm0.out.1; have mm2 := mm0.out.2)
    go_roundw
    case rel => exact ⟨m + 1, _, _, by omega, by go_num, by rw [hgn.out], hR5.out.later hb6⟩
    case measure => simp [intOf]; omega
  ·obtain rfl : m = cls.length := by omega
   obtain ⟨nb, hnb⟩ := Int.eq_ofNat_of_zero_le (show 0 ≤ 16 * Cf.gran st cls cls.length by omega);have HNB : Hid (16 * Cf.gran st cls cls.length = (nb : Int)) := hnb
   obtain ⟨mc, hmc, hmk⟩ : ∃ mc : List Value, Hid (mc = (List.replicate nb (0 : Int)).map (Value.int .u8)) ∧ ∀ w : World, (Instr.makeSlice 77 (.int .i64 (nb : Int)) (.int .i64 (nb : Int))).run Tryz.prog w = .ok (.slice (some ⟨w.heap.size, 0, none⟩) nb nb) (w.alloc (.cells mc.toArray 5)) := by
    refine ⟨(madeCells #[.int .u8 0] nb).toList, ?_, fun w => ?_⟩
    ·show _ = _;rw [toList_madeCells_one]; simp
    ·have hr := run_make (P := Tryz.prog) w 77 5 i8 _ Tryz.underlying77 hi8 hy0 .i64 .i64 (nb : Int) (nb : Int) (by omega) (by omega) (by rw [hy2]; omega) (by omega);rw [hr, hy1];simp [Value.cells]
   have o3 := hr.hbk.cell (j := 3) rfl;have of3 := hr.hbk.frozen 3;have obl := hr.hbk.lt;rw [hnb];clear hr q0 q1 q2 hnb gb hi0 hz0 hz1 hz2 hi8 hy0 hy1 hy2;go_wp2;go_ret2;have hf := HRR.out.finish nb mc hmc.out;rw [HNB.out, Int.toNat_natCast];rw [World.setCell_alloc_past _ _ _ _ obl] at hf;exact ⟨w1.heap.size, v, wr.heap.size, cs, rfl, hf.1, HRR.out.ok, hf.2.1, hf.2.2⟩
end Go.Proofs.YtjikemhmnkckcabGreat
