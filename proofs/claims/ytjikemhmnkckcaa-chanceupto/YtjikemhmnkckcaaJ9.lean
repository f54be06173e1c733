import Derived.Test.YtjikemhmnkckcaaJ8
namespace Go.Proofs.Ytjikemhmnkckcaa
open Go.RowKit
attribute [local go_sem ↓] Go.wp_at_zero Go.wp_at_succ

set_option maxRecDepth 100000 in
set_option maxHeartbeats 1000000 in
theorem gnew_no (st rest : Int) (a : Option Addr) (cap : Nat) (cls : List (Int × Int)) (w : World) (h : CRow w a cap cls) (hv : Cf.validB st rest cls = false) :
    Calls Try.prog 37 #[.agg #[.int .i64 st, .int .i64 rest, .slice a cls.length cap]] w fun e w' => e = .returned (.tuple #[.pointer none, .int .i64 1]) ∧ Below w.heap.size w w' := by
  have HC : Hid (CRow w a cap cls) := h
  have HV : Hid (Cf.validB st rest cls = false) := hv
  clear h hv
  go_enter Try.func37, Try.ntmps37
  go_wp2_with (go_at_call 75; refine (validConf_any st rest _ cap cls _ (HC.out.below ((Below.refl _ _).alloc (Nat.le_refl _) _))).mono ?_; rw [HV.out]; rintro e1 w1 ⟨rfl, hb1⟩)
  go_ret2
  exact ⟨rfl, ((Below.refl _ _).alloc (Nat.le_refl _) _).trans (hb1.mono (by simp))⟩

theorem gran_next (st : Int) (cls : List (Int × Int)) (m n : Nat) (hn : Cf.sl cls m = (n : Int)) : 16 * Cf.gran st cls m + (n : Int) * (16 * Cf.gr cls m) + 16 = 16 * Cf.gran st cls (m + 1) := by
  show _ = 16 * (Cf.gran st cls m + Cf.sl cls m * Cf.gr cls m + 1)
  rw [hn, Int.mul_add, Int.mul_add, Int.mul_left_comm]; omega

theorem CnRel.finish {w wr : World} {st rest : Int} {cls : List (Int × Int)} {pb hb : Nat} {sv : Value} {v : Value} {cs : List GCls} (h : CnRel w st rest cls pb hb sv cls.length v cs wr) (nb : Nat) (mc : List Value) (hmc : mc = (List.replicate nb (0 : Int)).map (Value.int .u8)) :
    GRep ((wr.alloc (.cells mc.toArray 5)).setCell ⟨hb, 3, none⟩ (.slice (some ⟨wr.heap.size, 0, none⟩) nb nb)) hb v wr.heap.size ⟨st, rest, cs, List.replicate nb 0⟩ ∧
    Below w.heap.size w ((wr.alloc (.cells mc.toArray 5)).setCell ⟨hb, 3, none⟩ (.slice (some ⟨wr.heap.size, 0, none⟩) nb nb)) ∧
    ∀ b, GFoot hb v wr.heap.size ⟨st, rest, cs, List.replicate nb 0⟩ b → w.heap.size ≤ b := by
  have hol := h.hbk.lt
  have hsz := h.below.size
  have hlen := h.ok.len
  have hblk : ∀ b, b < wr.heap.size → b ≠ hb → ((wr.alloc (.cells mc.toArray 5)).setCell ⟨hb, 3, none⟩ (.slice (some ⟨wr.heap.size, 0, none⟩) nb nb)).heap[b]? = wr.heap[b]? := fun b h1 h2 => by
    rw [Below.heap_setCell _ _ _ b h2]; exact Below.heap_alloc wr _ b h1
  refine ⟨⟨?_, ?_, ?_, ?_, ?_, ?_, ?_, ?_, ?_⟩, (h.below.alloc hsz _).setCell h.hb0 _, ?_⟩
  · have e : Blk (wr.alloc (.cells mc.toArray 5)) hb 86 [.int .i64 st, .int .i64 rest, v, .slice none 0 0] := (Below.heap_alloc wr _ hb hol).trans h.hbk
    have e2 := e.setCell 3 (.slice (some ⟨wr.heap.size, 0, none⟩) nb nb)
    simpa using e2
  · show World.ownsRow _ _ _ _ _ cs.length _
    rw [hlen]
    exact row_kept h.row fun g hg => hblk g (row_lt h.row hg) (h.vlo g hg).2.2
  · intro k hk
    have hk' : k < cls.length := by rw [← hlen]; exact hk
    exact (hblk _ (h.slots k hk').lt (h.slo k hk').2.2.1).trans (h.slots k hk')
  · rw [← hmc]
    exact (Below.heap_setCell _ _ _ _ (show wr.heap.size ≠ hb by omega)).trans (heap_alloc_new wr _)
  · exact fun e => (h.vlo _ e).2.2 rfl
  · omega
  · exact fun e => by have := row_lt h.row e; omega
  · intro k hk
    have hk' : k < cls.length := by rw [← hlen]; exact hk
    have h1 := h.slo k hk'
    have h2 := (h.slots k hk').lt
    exact ⟨h1.2.2.1, by show (cs.getD k GCls.no).sb ≠ wr.heap.size; omega, h1.2.2.2⟩
  · intro j k hj hk
    exact h.sne j k (by rw [← hlen]; exact hj) (by rw [← hlen]; exact hk)
  · intro b hb
    rcases hb with rfl | hb | rfl | ⟨k, hk, rfl⟩
    · exact h.hb0
    · exact (h.vlo b hb).1
    · exact hsz
    · exact (h.slo k (by rw [← hlen]; exact hk)).1

set_option maxRecDepth 100000 in
set_option maxHeartbeats 6400000 in
theorem gnew_yes (st rest : Int) (a : Option Addr) (cap : Nat) (cls : List (Int × Int)) (w : World) (h : CRow w a cap cls) (hv : Cf.Valid st rest cls) :
    Calls Try.prog 37 #[.agg #[.int .i64 st, .int .i64 rest, .slice a cls.length cap]] w fun e w' => ∃ p vc bb cs, e = .returned (.tuple #[.pointer (some ⟨p, 0, none⟩), .int .i64 0]) ∧
      GRep w' p vc bb ⟨st, rest, cs, List.replicate (16 * Cf.gran st cls cls.length).toNat 0⟩ ∧ ClsOk st cls cls.length cs ∧ Below w.heap.size w w' ∧ ∀ b, GFoot p vc bb ⟨st, rest, cs, List.replicate (16 * Cf.gran st cls cls.length).toNat 0⟩ b → w.heap.size ≤ b := by
  have HC : Hid (CRow w a cap cls) := h
  have HV : Hid (Cf.Valid st rest cls) := hv
  have HB : Hid (Cf.validB st rest cls = true) := Cf.validB_of hv
  obtain ⟨g, off, rfl, hgl, hcell⟩ := h.cells hv.n0
  obtain ⟨i0, hi0, hz0, hz1, hz2⟩ := info_parts info_gcls
  obtain ⟨i8, hi8, hy0, hy1, hy2⟩ := info_parts info_u8
  have hlen := h.len
  have hcap := h.cap
  have b0 := hv.st0
  have b1 := hv.st1
  have n1 := hv.n1
  unfold maxLen at hcap
  have HCL : Hid (∀ i, i < cls.length → w.cell? ⟨g, off + i * 2, none⟩ = some (.int .i64 (Cf.gr cls i)) ∧ w.cell? ⟨g, off + i * 2 + 1, none⟩ = some (.int .i64 (Cf.sl cls i))) := hcell
  clear h hv hcell
  go_enter Try.func37, Try.ntmps37
  go_wp2_with (go_at_call 75; refine (validConf_any st rest _ cap cls _ (HC.out.below ((Below.refl _ _).alloc (Nat.le_refl _) _))).mono ?_; rw [HB.out]; rintro e1 w1 ⟨rfl, hb1⟩; have hs1 : w.heap.size < w1.heap.size := (by have := hb1.size; rw [World.size_alloc] at this; omega); have q0 := (hb1.cell (p := ⟨w.heap.size, 0, none⟩) (by simp)).trans (World.cell?_alloc_new _ _ _ _); have q1 := (hb1.cell (p := ⟨w.heap.size, 1, none⟩) (by simp)).trans (World.cell?_alloc_new _ _ _ _); have q2 := (hb1.cell (p := ⟨w.heap.size, 2, none⟩) (by simp)).trans (World.cell?_alloc_new _ _ _ _))
  go_loopw [5, 6] (fun bg i wr => ∃ (m : Nat) (v : Value) (cs : List GCls), m ≤ cls.length ∧ i = .int .i64 (m : Int) ∧ bg = .int .i64 (16 * Cf.gran st cls m) ∧ CnRel w st rest cls w.heap.size w1.heap.size (.slice (some ⟨g, off, none⟩) cls.length cap) m v cs wr) (fun _ i _ => cls.length - (intOf i).toNat)
  case atStart =>
    refine ⟨0, .slice none 0 0, [], by omega, rfl, by simp [Cf.gran]; omega, ⟨(((Below.refl _ _).alloc (Nat.le_refl _) _).trans (hb1.mono (by simp))).alloc (by omega) _, Nat.le_refl _, ?_, ?_, by omega, by omega, Blk.alloc _ _ _, ⟨rfl, fun k hk => by omega, fun k hk => by omega, fun k hk => by omega⟩, World.ownsRow_nil _ _ _ _, nofun, fun k hk => by omega, fun k hk => by omega, fun j k hj => by omega⟩⟩
    · rw [World.cell?_alloc_lt _ _ _ (by show w.heap.size < _; omega)]; exact q2
    · rw [World.size_alloc]; omega
  case round =>
    obtain ⟨m, v, cs, hm, rfl, rfl, hr⟩ := hrel
    have r2 := hr.pbc
    have hsz := hr.below.size
    have gb := Cf.gran_bd HV.out m (by omega)
    have HRR : Hid (CnRel w st rest cls w.heap.size w1.heap.size (.slice (some ⟨g, off, none⟩) cls.length cap) m v cs wr) := hr
    by_cases hlt : m < cls.length
    · obtain ⟨d0, d1⟩ := HCL.out m hlt
      have d0' := (hr.below.cell (p := ⟨g, off + m * 2, none⟩) hgl).trans d0
      have d1' := (hr.below.cell (p := ⟨g, off + m * 2 + 1, none⟩) hgl).trans d1
      have s0 := HV.out.s0 m hlt
      have s1 := HV.out.s1 m hlt
      have g0 := HV.out.g0 m hlt
      have g1 := HV.out.g1 m hlt
      obtain ⟨n, hn⟩ := Int.eq_ofNat_of_zero_le (show 0 ≤ Cf.sl cls m by omega)
      have HN : Hid (Cf.sl cls m = (n : Int)) := hn
      have hgn : Hid (16 * Cf.gran st cls m + (n : Int) * (16 * Cf.gr cls m) + 16 = 16 * Cf.gran st cls (m + 1)) := gran_next st cls m n hn
      rw [hn] at d1' s0 s1
      have x0 : (0 : Int) ≤ (m : Int) := by omega
      have x1 : (m : Int) < (cls.length : Int) := by omega
      have pbd := Cf.prod_bd (a := (n : Int)) (b := Cf.gr cls m) (by omega) (by omega) (by omega) (by omega)
      have pb2 : Hid ((n : Int) * (16 * Cf.gr cls m) = 16 * ((n : Int) * Cf.gr cls m)) := Int.mul_left_comm _ _ _
      clear d0 d1 hr hn q0 q1 q2
      go_wp2_with (go_at_call 76; refine (newClass_any (Cf.gr cls m) (16 * Cf.gran st cls m) n _ g0 g1 (by omega)).mono ?_; rintro e1 w2 ⟨sb, rfl, hb2, sb0, sbk⟩)
      obtain ⟨W3, hW3⟩ : ∃ W3, W3 = w2.alloc (.cells #[.int .i64 (16 * Cf.gran st cls m), .int .i64 (16 * Cf.gr cls m), .slice (some ⟨sb, 0, none⟩) n n] 82) := ⟨_, rfl⟩
      rw [← hW3]
      have hb3 : Below wr.heap.size wr W3 := by rw [hW3]; exact hb2.alloc hb2.size _
      have hR3 : Hid (CnRel w st rest cls w.heap.size w1.heap.size (.slice (some ⟨g, off, none⟩) cls.length cap) m v cs W3) := HRR.out.later hb3
      have kbk : Blk W3 w2.heap.size 82 [.int .i64 (16 * Cf.gran st cls m), .int .i64 (16 * Cf.gr cls m), .slice (some ⟨sb, 0, none⟩) n n] := by rw [hW3]; exact Blk.alloc _ _ _
      have sbk3 : Hid (Blk W3 sb 79 ((List.replicate n GSlot.virgin).flatMap slotCells)) := by
        have : Below w2.heap.size w2 W3 := by rw [hW3]; exact (Below.refl _ _).alloc (Nat.le_refl _) _
        exact sbk.below this sbk.lt
      have kne : w2.heap.size ≠ w1.heap.size ∧ w1.heap.size < wr.heap.size ∧ wr.heap.size ≤ w2.heap.size ∧ w2.heap.size < W3.heap.size := by
        have h1 := HRR.out.hbk.lt
        have h2 := hb2.size
        have h3 := kbk.lt
        omega
      obtain ⟨kn1, kn2, kn3, kn4⟩ := kne
      have hsb : Hid (sb ≠ w.heap.size ∧ sb ≠ w1.heap.size ∧ v.ownBlock ≠ some sb ∧ ∀ k, k < m → (cs.getD k GCls.no).sb ≠ sb) := by
        refine ⟨by omega, by omega, fun e => ?_, fun k hk e => ?_⟩
        · have := row_lt HRR.out.row e; omega
        · have := (HRR.out.slots k hk).lt; omega
      have hvk : Hid (v.ownBlock ≠ some w2.heap.size) := fun e => by have := row_lt HRR.out.row e; omega
      have k0 := kbk.cell (j := 0) rfl
      have k1 := kbk.cell (j := 1) rfl
      have k2 := kbk.cell (j := 2) rfl
      have o2 := hR3.out.hbk.cell (j := 2) rfl
      have of2 := hR3.out.hbk.frozen 2
      have obl := hR3.out.hbk.lt
      have hrow : Hid (W3.ownsRow 0 82 3 v m (cs.flatMap gclsCells)) := hR3.out.row
      have KB : Hid (Blk W3 w2.heap.size 82 [.int .i64 (16 * Cf.gran st cls m), .int .i64 (16 * Cf.gr cls m), .slice (some ⟨sb, 0, none⟩) n n]) := kbk
      have vlo : Hid (v.ownBlock ≠ some w1.heap.size) := fun e => (HRR.out.vlo _ e).2.2 rfl
      clear hW3 hb2 sbk kbk d0' d1' r2
      go_region_law ((refine step_append_lies _ (by rfl) _ _ _ (by rfl) 0 82 i0 _ 3 40 Try.underlying83 hi0 hz0 hz1 hz2 rfl (by omega) v m (cs.flatMap gclsCells) (by rfl) ((hrow.out.alloc _).drew) ⟨W3.heap.size, 0, none⟩ 1 1 [.int .i64 (16 * Cf.gran st cls m), .int .i64 (16 * Cf.gr cls m), .slice (some ⟨sb, 0, none⟩) n n] (by rfl) (by rfl) (World.news_of_block (cs := #[.int .i64 (16 * Cf.gran st cls m), .int .i64 (16 * Cf.gr cls m), .slice (some ⟨sb, 0, none⟩) n n]) (t := 82) (fr := (0, 0)) (heap_alloc_new W3 _)) (by simp [Value.oneCell']) (by omega) (by simp [maxLen]; omega) (by omega) (by simp) (W3.heap.size + 1) (by simp) ?_; intro gg cap2 w4 hown1 hgrow hat hlt2; have o2' : w4.cell? ⟨w1.heap.size, 2, none⟩ = some v := (by rw [hgrow.cell_far _ (by simp; omega) (fun e => vlo.out e.symm), World.cell?_drew, World.cell?_alloc_lt _ _ _ obl]; exact o2); have of2' : w4.frozen? ⟨w1.heap.size, 2, none⟩ = false := (by rw [hgrow.frozen_far _ (by simp; omega) (fun e => vlo.out e.symm), World.frozen?_drew, World.frozen?_alloc_old _ _ _ (by show w1.heap.size ≠ _; omega)]; exact of2)))
      all_goals
        have hst := HRR.out
        have hR5 : Hid (CnRel w st rest cls w.heap.size w1.heap.size (.slice (some ⟨g, off, none⟩) cls.length cap) (m + 1) (.slice (some ⟨gg, 0, none⟩) (m + 1) cap2) (cs ++ [⟨16 * Cf.gran st cls m, 16 * Cf.gr cls m, List.replicate n GSlot.virgin, sb⟩]) (w4.setCell ⟨w1.heap.size, 2, none⟩ (.slice (some ⟨gg, 0, none⟩) (m + 1) cap2))) :=
          hR3.out.step (by rw [HN.out]; omega) sbk3.out (by omega) hsb.out.1 hsb.out.2.1 hsb.out.2.2.1 hsb.out.2.2.2 hown1 hgrow hat
        have hk5 : Hid (Blk (w4.setCell ⟨w1.heap.size, 2, none⟩ (.slice (some ⟨gg, 0, none⟩) (m + 1) cap2)) w2.heap.size 82 [.int .i64 (16 * Cf.gran st cls m), .int .i64 (16 * Cf.gr cls m), .slice (some ⟨sb, 0, none⟩) n n]) := by
          refine Blk.setCell_other ?_ _ _ kn1
          exact ((hgrow.block w2.heap.size (by simp; omega) (fun e => hvk.out e.symm)).trans (Below.heap_alloc W3 _ _ kn4)).trans KB.out
        generalize w4.setCell ⟨w1.heap.size, 2, none⟩ (.slice (some ⟨gg, 0, none⟩) (m + 1) cap2) = W5 at *
        have z0 := hk5.out.cell (j := 0) rfl
        have z1 := hk5.out.cell (j := 1) rfl
        have z2 := hk5.out.cell (j := 2) rfl
        clear hown1 hgrow hat o2' of2' o2 of2 k0 k1 k2 hst
        have mm0 : Hid (0 ≤ (n : Int) * (16 * Cf.gr cls m) ∧ (n : Int) * (16 * Cf.gr cls m) ≤ 1000000) := by rw [pb2.out]; exact ⟨by omega, by omega⟩
        go_wp2_with (go_at_call 43; refine (slotBegin_any w2.heap.size 0 (16 * Cf.gran st cls m) (16 * Cf.gr cls m) (n : Int) _ z0 z1 (by omega) (by omega) mm0.out.1 mm0.out.2).mono ?_; rintro e1 w6 ⟨rfl, hb6⟩; have mm1 := mm0.out.1; have mm2 := mm0.out.2)
        go_roundw
        case rel => exact ⟨m + 1, _, _, by omega, by go_num, by rw [hgn.out], hR5.out.later hb6⟩
        case measure => simp [intOf]; omega
    · obtain rfl : m = cls.length := by omega
      obtain ⟨nb, hnb⟩ := Int.eq_ofNat_of_zero_le (show 0 ≤ 16 * Cf.gran st cls cls.length by omega)
      have HNB : Hid (16 * Cf.gran st cls cls.length = (nb : Int)) := hnb
      obtain ⟨mc, hmc, hmk⟩ : ∃ mc : List Value, Hid (mc = (List.replicate nb (0 : Int)).map (Value.int .u8)) ∧ ∀ w : World, (Instr.makeSlice 84 (.int .i64 (nb : Int)) (.int .i64 (nb : Int))).run Try.prog w = .ok (.slice (some ⟨w.heap.size, 0, none⟩) nb nb) (w.alloc (.cells mc.toArray 5)) := by
        refine ⟨(madeCells #[.int .u8 0] nb).toList, ?_, fun w => ?_⟩
        · show _ = _
          rw [toList_madeCells_one]; simp
        · have hr := run_make (P := Try.prog) w 84 5 i8 _ Try.underlying84 hi8 hy0 .i64 .i64 (nb : Int) (nb : Int) (by omega) (by omega) (by rw [hy2]; omega) (by omega)
          rw [hr, hy1]
          simp [Value.cells]
      have o3 := hr.hbk.cell (j := 3) rfl
      have of3 := hr.hbk.frozen 3
      have obl := hr.hbk.lt
      rw [hnb]
      clear hr q0 q1 q2 hnb gb hi0 hz0 hz1 hz2 hi8 hy0 hy1 hy2
      go_wp2
      go_ret2
      have hf := HRR.out.finish nb mc hmc.out
      rw [HNB.out, Int.toNat_natCast]
      rw [World.setCell_alloc_past _ _ _ _ obl] at hf
      exact ⟨w1.heap.size, v, wr.heap.size, cs, rfl, hf.1, HRR.out.ok, hf.2.1, hf.2.2⟩
end Go.Proofs.Ytjikemhmnkckcaa
