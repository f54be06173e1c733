import Derived.Test.YtjikemhmnkckcabJ26
import Derived.Deep.RegionHeld3
import Derived.Deep.DrawnRows
namespace Go.Proofs.Ytjikemhmnkckcab
open Go.RowKit
attribute [local go_sem ↓] Go.wp_at_zero Go.wp_at_succ

/-- one free of the class less to rest for -/
def dec1 (x : GSlot) : GSlot := if 0 < x.rest then ⟨x.state, x.tag, x.bytes, x.rest - 1, x.alloc, x.gone⟩ else x
def decTo (xs : List GSlot) : Nat → List GSlot
  | 0 => xs
  | m + 1 => (decTo xs m).set m (dec1 ((decTo xs m).getD m GSlot.no))
theorem decTo_len (xs : List GSlot) (m : Nat) : (decTo xs m).length = xs.length := by
  induction m with
  | zero => rfl
  | succ m ih => simp [decTo, ih]
theorem decTo_getD (xs : List GSlot) (m j : Nat) (hj : j < xs.length) : (decTo xs m).getD j GSlot.no = if j < m then dec1 (xs.getD j GSlot.no) else xs.getD j GSlot.no := by
  induction m with
  | zero => simp [decTo]
  | succ m ih =>
    have hl := decTo_len xs m
    simp only [decTo]
    by_cases e : j = m
    · subst e
      rw [getD_set_same _ _ _ _ (by omega), ih, if_neg (by omega), if_pos (by omega)]
    · have e2 : ((decTo xs m).set m (dec1 ((decTo xs m).getD m GSlot.no))).getD j GSlot.no = (decTo xs m).getD j GSlot.no := by
        simp [List.getD_eq_getElem?_getD, List.getElem?_set_ne (Ne.symm e)]
      rw [e2, ih]
      by_cases h2 : j < m
      · rw [if_pos h2, if_pos (by omega)]
      · rw [if_neg h2, if_neg (by omega)]

/-- the slots of a class behind a free -/
def freed (xs : List GSlot) (i : Nat) (r site : Int) : List GSlot :=
  (decTo xs xs.length).set i ⟨4, (xs.getD i GSlot.no).tag, (xs.getD i GSlot.no).bytes, r, (xs.getD i GSlot.no).alloc, site⟩
theorem freed_len (xs : List GSlot) (i : Nat) (r site : Int) : (freed xs i r site).length = xs.length := by simp [freed, decTo_len]

theorem set_getD_self {α : Type} (xs : List α) (i : Nat) (d : α) : xs.set i (xs.getD i d) = xs := by
  by_cases h : i < xs.length
  · apply List.ext_getElem?
    intro j
    by_cases e : i = j
    · subst e; simp [List.getD_eq_getElem?_getD, List.getElem?_eq_getElem h]
    · rw [List.getElem?_set_ne e]
  · exact List.set_eq_of_length_le (by omega)

set_option maxRecDepth 100000 in
set_option maxHeartbeats 800000 in
theorem freeSlot_any (b off sb : Nat) (xs : List GSlot) (i : Nat) (r site : Int) (w : World) (h2 : w.cell? ⟨b, off + 2, none⟩ = some (.slice (some ⟨sb, 0, none⟩) xs.length xs.length)) (hs : Blk w sb 97 (xs.flatMap slotCells)) (hne : b ≠ sb) (hi : i < xs.length) (hx : xs.length ≤ 16)
    (hr : ∀ j, j < xs.length → (xs.getD j GSlot.no).rest ≤ 16) :
    Calls Try.prog 85 #[.pointer (some ⟨b, off, none⟩), .int .i64 (i : Int), .int .i64 r, .int .i64 site] w fun e w' => e = .returned (.tuple #[]) ∧ Blk w' sb 97 ((freed xs i r site).flatMap slotCells) ∧ Kept w w' (· = sb) := by
  have HS := hide2 hs
  have HRR := hide2 hr
  have hbl := World.block_lt_of_cell? w _ h2
  have hiI : (i : Int) < (xs.length : Int) := by omega
  clear hs hr
  go_enter Try.func85, Try.ntmps85
  go_wp2
  go_loopw [8] (fun j wr => ∃ m : Nat, m ≤ xs.length ∧ j = .int .i64 (m : Int) ∧ Blk wr sb 97 ((decTo xs m).flatMap slotCells) ∧ Kept w wr (· = sb)) (fun j _ => xs.length - (intOf j).toNat)
  case atStart => exact ⟨0, by omega, rfl, HS.out, Kept.same _ _⟩
  case round =>
    obtain ⟨m, hm, rfl, hb, hk⟩ := hrel
    have h2' : wr.cell? ⟨b, off + 2, none⟩ = some (.slice (some ⟨sb, 0, none⟩) xs.length xs.length) := by
      rw [World.cell?_of_block (w := w) (hk.block b hbl hne)]; exact h2
    have HB := hide2 hb
    have HK := hide2 hk
    have hl := decTo_len xs m
    by_cases hlt : m < xs.length
    · obtain ⟨e0, e1, e2, e3, e4, e5⟩ := slot_cells hb m (by omega)
      have f3 := hb.frozen (m * 6 + 3)
      have hg : Hid ((decTo xs m).getD m GSlot.no = xs.getD m GSlot.no) := by show _ = _; rw [decTo_getD xs m m hlt, if_neg (by omega)]
      rw [hg.out] at e3
      have hrm := HRR.out m hlt
      have hst : Hid (decTo xs (m + 1) = (decTo xs m).set m (dec1 (xs.getD m GSlot.no))) := by show _ = _; simp only [decTo]; rw [hg.out]
      have hltI : (m : Int) < (xs.length : Int) := by omega
      generalize hxm : xs.getD m GSlot.no = x at *
      have HXM := hide2 hxm
      clear hb hk e0 e1 e2 e4 e5 hxm
      by_cases hpos : 0 < x.rest
      · have hfin : Hid (decTo xs (m + 1) = (decTo xs m).set m ⟨x.state, x.tag, x.bytes, x.rest - 1, x.alloc, x.gone⟩) := by show _ = _; rw [hst.out, dec1, if_pos hpos]
        go_wp2
        go_roundw
        case rel =>
          have hsf := slot_field HB.out m 3 (by omega) (by omega) (.int .i64 (x.rest - 1)) ⟨x.state, x.tag, x.bytes, x.rest - 1, x.alloc, x.gone⟩ (by rw [hg.out]; rfl)
          rw [← hfin.out] at hsf
          exact ⟨m + 1, by omega, by go_num, hsf, HK.out.set _ _ rfl⟩
        case measure => simp [intOf]; omega
      · have hfin : Hid (decTo xs (m + 1) = decTo xs m) := by
          show _ = _
          rw [hst.out, dec1, if_neg hpos, ← hg.out, set_getD_self]
        go_wp2
        go_roundw
        case rel => exact ⟨m + 1, by omega, by go_num, by rw [hfin.out]; exact HB.out, HK.out⟩
        case measure => simp [intOf]; omega
    · obtain rfl : m = xs.length := by omega
      obtain ⟨e0, e1, e2, e3, e4, e5⟩ := slot_cells hb i (by omega)
      have f0 := hb.frozen (i * 6)
      have f3 := hb.frozen (i * 6 + 3)
      have f5 := hb.frozen (i * 6 + 5)
      have hg : Hid ((decTo xs xs.length).getD i GSlot.no = dec1 (xs.getD i GSlot.no)) := by show _ = _; rw [decTo_getD xs xs.length i hi, if_pos hi]
      generalize hyi : (decTo xs xs.length).getD i GSlot.no = y at *
      have HY := hide2 hyi
      clear hb hk hyi
      go_wp2
      go_end0
      refine ⟨rfl, ?_, ((HK.out.set _ _ rfl).set _ _ rfl).set _ _ rfl⟩
      have a0 := slot_field HB.out i 0 (by omega) (by omega) (.int .i64 4) ⟨4, y.tag, y.bytes, y.rest, y.alloc, y.gone⟩ (by rw [HY.out]; rfl)
      have a1 := slot_field a0 i 3 (by simpa using by omega) (by omega) (.int .i64 r) ⟨4, y.tag, y.bytes, r, y.alloc, y.gone⟩ (by rw [getD_set_same _ _ _ _ (by omega)]; rfl)
      rw [List.set_set] at a1
      have a2 := slot_field a1 i 5 (by simpa using by omega) (by omega) (.int .i64 site) ⟨4, y.tag, y.bytes, r, y.alloc, site⟩ (by rw [getD_set_same _ _ _ _ (by omega)]; rfl)
      rw [List.set_set] at a2
      have e : freed xs i r site = (decTo xs xs.length).set i ⟨4, y.tag, y.bytes, r, y.alloc, site⟩ := by
        unfold freed
        have h1 : (xs.getD i GSlot.no).tag = y.tag ∧ (xs.getD i GSlot.no).bytes = y.bytes ∧ (xs.getD i GSlot.no).alloc = y.alloc := by
          rw [hg.out]; unfold dec1; split <;> exact ⟨rfl, rfl, rfl⟩
        rw [h1.1, h1.2.1, h1.2.2]
      rw [e]
      exact a2

set_option maxRecDepth 100000 in
set_option maxHeartbeats 800000 in
theorem gfree_none (p : Nat) (site : Int) (w : World) :
    Calls Try.prog 70 #[.pointer (some ⟨p, 0, none⟩), .int .i64 0, .int .i64 site] w fun e w' => e = .returned (.int .i64 0) ∧ w = w' := by
  go_enter Try.func70, Try.ntmps70
  go_wp2
  go_ret
  exact ⟨rfl, rfl⟩

theorem blockOf_all (p : Nat) (vc : Value) (bb : Nat) (G : GSt) (rest : Int) (cls : List (Int × Int)) (q : Int) (w : World) (h : GRep w p vc bb G) (ho : GOk G rest cls) (q1 : q ≤ 9223372036854775807) :
    Calls Try.prog 84 #[.pointer (some ⟨p, 0, none⟩), .int .i64 q] w fun e w' => e = .returned (.tuple #[.int .i64 (gblock G cls q).1, .int .i64 (gblock G cls q).2.1, .int .i64 (gblock G cls q).2.2]) ∧ Below w.heap.size w w' := by
  cases ht : Ref.tameB q
  · exact blockOf_wild p G cls q w q1 ht
  · exact blockOf_any p vc bb G rest cls q w h ho q1 ht

set_option maxRecDepth 100000 in
set_option maxHeartbeats 800000 in
theorem gfree_err (p : Nat) (vc : Value) (bb : Nat) (G : GSt) (rest : Int) (cls : List (Int × Int)) (q site : Int) (w : World) (h : GRep w p vc bb G) (ho : GOk G rest cls) (q1 : q ≤ 9223372036854775807) (hq : q ≠ 0) (he : (gblock G cls q).2.2 ≠ 0) :
    Calls Try.prog 70 #[.pointer (some ⟨p, 0, none⟩), .int .i64 q, .int .i64 site] w fun e w' => e = .returned (.int .i64 (gblock G cls q).2.2) ∧ Below w.heap.size w w' := by
  have hq0 : (q == 0) = false := by rw [beq_eq_false_iff_ne]; exact hq
  have he0 : ((gblock G cls q).2.2 != 0) = true := by rw [bne_iff_ne]; exact he
  have HR := hide2 h
  have HO := hide2 ho
  clear hq he h ho
  go_enter Try.func70, Try.ntmps70
  go_wp2_with (go_at_call 84; refine (blockOf_all p vc bb G rest cls q _ HR.out HO.out q1).mono ?_; rintro e1 w1 ⟨rfl, hb1⟩)
  go_ret
  exact ⟨rfl, hb1⟩

set_option maxRecDepth 100000 in
set_option maxHeartbeats 1600000 in
theorem gfree_ok (p : Nat) (vc : Value) (bb : Nat) (G : GSt) (rest : Int) (cls : List (Int × Int)) (q site : Int) (k s : Nat) (w : World) (h : GRep w p vc bb G) (ho : GOk G rest cls) (q1 : q ≤ 9223372036854775807) (hq : q ≠ 0) (he : gblock G cls q = ((k : Int), (s : Int), 0))
    (hk : k < cls.length) (hs : s < (G.cs.getD k GCls.no).slots.length) (hr : ∀ j, j < (G.cs.getD k GCls.no).slots.length → ((G.cs.getD k GCls.no).slots.getD j GSlot.no).rest ≤ 16) :
    Calls Try.prog 70 #[.pointer (some ⟨p, 0, none⟩), .int .i64 q, .int .i64 site] w fun e w' => e = .returned (.int .i64 0) ∧
      GRep w' p vc bb (G.withSlots k (freed (G.cs.getD k GCls.no).slots s G.rest site)) ∧ Kept w w' (fun b => b = (G.cs.getD k GCls.no).sb) := by
  have hq0 : (q == 0) = false := by rw [beq_eq_false_iff_ne]; exact hq
  have HR := hide2 h
  have HO := hide2 ho
  have HE := hide2 he
  have hlen := ho.len
  have hkl : k < G.cs.length := by omega
  have hp := h.blk.lt
  have c1 := h.blk.cell (j := 1) rfl
  have c2 := h.blk.cell (j := 2) rfl
  obtain ⟨ac, cap, rfl, hcap, hmax, hrow⟩ := row_open h.cls
  obtain ⟨g, rfl, hgl, hcell, _⟩ := hrow (by omega)
  unfold maxLen at hmax
  obtain ⟨_, _, d2⟩ := gcls_cells hcell k hkl
  have HBK := hide2 (h.slots k hkl)
  have hbl := (h.slots k hkl).lt
  have hx : (G.cs.getD k GCls.no).slots.length ≤ 16 := by have := ho.sl k hk; have := ho.conf.s1 k hk; omega
  have hkI : (k : Int) < (G.cs.length : Int) := by omega
  have hk0 : (0 : Int) ≤ (k : Int) := by omega
  have hl4 : G.cs.length ≤ 4 := by have := ho.conf.n1; omega
  have hgs : g ≠ (G.cs.getD k GCls.no).sb := fun e => (h.apS k hkl).2.2 (by rw [← e]; rfl)
  have hps : p ≠ (G.cs.getD k GCls.no).sb := fun e => (h.apS k hkl).1 e.symm
  have HRS := hide2 hr
  have HSL := hide2 (show (freed (G.cs.getD k GCls.no).slots s G.rest site).length = (G.cs.getD k GCls.no).slots.length from freed_len _ _ _ _)
  generalize hsb : (G.cs.getD k GCls.no).sb = sb at *
  generalize hxs : (G.cs.getD k GCls.no).slots = xs at *
  have HSB := hide2 hsb
  have HXS := hide2 hxs
  clear hq he h ho hrow hcell hlen hr hsb hxs
  go_enter Try.func70, Try.ntmps70
  go_wp2_with fail
  refine (blockOf_all p _ bb G rest cls q _ HR.out HO.out q1).mono ?_
  rw [HE.out]
  rintro e1 w1 ⟨rfl, hb1⟩
  have c1' := (hb1.cell (p := ⟨p, 1, none⟩) hp).trans c1
  have c2' := (hb1.cell (p := ⟨p, 2, none⟩) hp).trans c2
  have d2' := (hb1.cell (p := ⟨g, k * 3 + 2, none⟩) hgl).trans d2
  have HB1 := hide2 (HBK.out.below hb1 hbl)
  have hp1 : p < w1.heap.size := Nat.lt_of_lt_of_le hp hb1.size
  clear c1 c2 d2
  go_wp2_with fail
  go_region_held3 (fun w' => w'.cell? ⟨p, 1, none⟩ = some (.int .i64 G.rest) ∧ w'.cell? ⟨p, 2, none⟩ = some (.slice (some ⟨g, 0, none⟩) G.cs.length cap)) (go_keep)
    (first | (go_at_call 85; refine (freeSlot_any g (k * 3) sb xs s G.rest site w1.drew d2' HB1.out hgs hs hx HRS.out).mono ?_; rintro e1 w2 ⟨rfl, hb2, hk2⟩; have c1'' : w2.cell? ⟨p, 1, none⟩ = some (.int .i64 G.rest) := ((World.cell?_of_block (w := w1.drew) (hk2.block p hp1 hps)).trans c1'); have c2'' : w2.cell? ⟨p, 2, none⟩ = some (.slice (some ⟨g, 0, none⟩) G.cs.length cap) := ((World.cell?_of_block (w := w1.drew) (hk2.block p hp1 hps)).trans c2')))
  go_wp2
  go_ret
  refine ⟨rfl, ?_, (Kept.of_below hb1 _).trans (show Kept w1 w2 _ from ⟨hk2.os, hk2.tape, hk2.output, hk2.size, hk2.block⟩)⟩
  exact (HR.out.below hb1).setSlots k hkl _ (by rw [HXS.out]; exact HSL.out) (by rw [HSB.out]; exact ⟨hk2.os, hk2.tape, hk2.output, hk2.size, hk2.block⟩) (by rw [HSB.out]; exact hb2)
end Go.Proofs.Ytjikemhmnkckcab
