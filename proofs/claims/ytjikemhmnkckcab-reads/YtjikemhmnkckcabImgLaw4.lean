import Derived.Test.YtjikemhmnkckcabImgScan6
/- The law's full: the lists of a program are written over. -/
namespace Go.Proofs.Ytjikemhmnkckcab
open Go.RowKit
attribute [local go_sem ↓] Go.wp_at_zero Go.wp_at_succ

set_option maxRecDepth 100000 in
set_option maxHeartbeats 800000 in
theorem full_nil (st rest : Int) (d : ByteArray) (w : World) :
    Calls Try.prog 11 #[.agg #[.int .i64 st, .int .i64 rest, .slice none 0 0, .string d, .slice none 0 0]] w fun e w' => e = .returned (.tuple #[]) ∧ Below w.heap.size w w' := by
  go_enter Try.func11, Try.ntmps11
  go_upto_region 2 with (fail)
  obtain ⟨wa, hwa⟩ : ∃ wa, wa = w.alloc (.cells #[.int .i64 st, .int .i64 rest, .slice none 0 0, .string d, .slice none 0 0] 27) := ⟨_, rfl⟩
  have HB : Hid (Below w.heap.size w wa) := by show Below _ _ _; rw [hwa]; exact (Below.refl _ _).alloc (Nat.le_refl _) _
  have HP : Hid (Blk wa w.heap.size 27 [.int .i64 st, .int .i64 rest, .slice none 0 0, .string d, .slice none 0 0]) := by show Blk _ _ _ _; rw [hwa]; exact Blk.alloc _ _ _
  rw [← hwa]
  clear hwa
  have p4 := HP.out.cell (j := 4) rfl
  go_wp2
  go_loopw [3] (fun i wr => i = .int .i64 0 ∧ wr = wa) (fun _ _ => 0)
  case atStart => exact ⟨rfl, rfl⟩
  case round =>
    obtain ⟨rfl, rfl⟩ := hrel
    go_wp2
    go_loopw [5] (fun i wr' => i = .int .i64 0 ∧ wr' = wr) (fun _ _ => 0)
    case atStart => exact ⟨rfl, rfl⟩
    case round =>
      obtain ⟨rfl, rfl⟩ := hrel
      go_wp2
      go_end0
      exact ⟨rfl, HB.out⟩

/-- all 77 as far as n -/
def All77 (xs : List Value) (n : Nat) : Prop := ∀ j, j < n → xs[j]? = some (.int .i64 77)
theorem All77.set {xs : List Value} {n k : Nat} (h : All77 xs n) : All77 (xs.set k (.int .i64 77)) n := fun j hj => by
  by_cases e : k = j
  · subst e
    have hl : k < xs.length := by
      rcases Nat.lt_or_ge k xs.length with hl | hl
      · exact hl
      · have := h k hj; rw [List.getElem?_eq_none hl] at this; cases this
    rw [List.getElem?_set_self hl]
  · rw [List.getElem?_set_ne e]; exact h j hj
theorem All77.more {xs : List Value} {n : Nat} (h : All77 xs n) (hn : n < xs.length) : All77 (xs.set n (.int .i64 77)) (n + 1) := fun j hj => by
  by_cases e : n = j
  · subst e; rw [List.getElem?_set_self hn]
  · rw [List.getElem?_set_ne e]; exact h j (by omega)

set_option maxRecDepth 100000 in
set_option maxHeartbeats 1600000 in
theorem full_some (st rest : Int) (d : ByteArray) (g n cap gi ni icap : Nat) (xs ys : List Value) (w : World) (hb : Blk w g 37 xs) (hx : xs.length = cap * 2) (hbi : Blk w gi 35 ys) (hy : ys.length = icap * 4) (hne : g ≠ gi) (hn : n ≤ cap) (hni : ni ≤ icap) (hc : cap ≤ maxLen) (hci : icap ≤ maxLen) :
    Calls Try.prog 11 #[.agg #[.int .i64 st, .int .i64 rest, .slice (some ⟨g, 0, none⟩) n cap, .string d, .slice (some ⟨gi, 0, none⟩) ni icap]] w fun e w' => e = .returned (.tuple #[]) ∧ (∃ xs', Blk w' g 37 xs' ∧ All77 xs' (cap * 2)) ∧ (∃ ys', Blk w' gi 35 ys' ∧ All77 ys' (icap * 4)) ∧ Kept w w' (fun b => b = g ∨ b = gi) := by
  have hgl := hb.lt
  have hgil := hbi.lt
  have HB := hide2 hb
  have HBI := hide2 hbi
  unfold maxLen at hc hci
  clear hb hbi
  go_enter Try.func11, Try.ntmps11
  go_upto_region 2 with (fail)
  obtain ⟨wa, hwa⟩ : ∃ wa, wa = w.alloc (.cells #[.int .i64 st, .int .i64 rest, .slice (some ⟨g, 0, none⟩) n cap, .string d, .slice (some ⟨gi, 0, none⟩) ni icap] 27) := ⟨_, rfl⟩
  have hbl : Below w.heap.size w wa := by rw [hwa]; exact (Below.refl _ _).alloc (Nat.le_refl _) _
  have HP : Hid (Blk wa w.heap.size 27 [.int .i64 st, .int .i64 rest, .slice (some ⟨g, 0, none⟩) n cap, .string d, .slice (some ⟨gi, 0, none⟩) ni icap]) := by show Blk _ _ _ _; rw [hwa]; exact Blk.alloc _ _ _
  rw [← hwa]
  have HK : Hid (Kept w wa (fun b => b = g ∨ b = gi)) := Kept.of_below hbl _
  have HG := hide2 (HB.out.below hbl hgl)
  have HGI := hide2 (HBI.out.below hbl hgil)
  clear hwa hbl
  go_wp2
  go_loopw [3] (fun i wr => ∃ (m : Nat) (xs' : List Value), m ≤ cap ∧ i = .int .i64 (m : Int) ∧ Hid (Blk wr g 37 xs') ∧ xs'.length = cap * 2 ∧ All77 xs' (m * 2) ∧ Hid (Blk wr gi 35 ys) ∧ Hid (Blk wr w.heap.size 27 [.int .i64 st, .int .i64 rest, .slice (some ⟨g, 0, none⟩) n cap, .string d, .slice (some ⟨gi, 0, none⟩) ni icap]) ∧ Hid (Kept w wr (fun b => b = g ∨ b = gi))) (fun i _ => cap - (intOf i).toNat)
  case atStart => exact ⟨0, xs, by omega, rfl, HG, hx, fun j hj => by omega, HGI, HP, HK⟩
  case round =>
    obtain ⟨m, xs', hm, rfl, HGR, hxl, h77, HGIR, HPR, HKR⟩ := hrel
    clear HG HGI HP HK
    by_cases hlt : m < cap
    · have hmI : (m : Int) < (cap : Int) := by omega
      have c0 := HGR.out.cell (j := m * 2) (List.getElem?_eq_getElem (by omega))
      have c1 := HGR.out.cell (j := m * 2 + 1) (List.getElem?_eq_getElem (by omega))
      have f0 := HGR.out.frozen (m * 2)
      have f1 := HGR.out.frozen (m * 2 + 1)
      generalize xs'[m * 2]'(by omega) = z0 at *
      generalize xs'[m * 2 + 1]'(by omega) = z1 at *
      have H77 := hide2 h77
      clear h77
      go_wp2
      go_roundw
      case rel =>
        refine ⟨m + 1, _, by omega, by go_num, (HGR.out.setCell (m * 2) _).setCell (m * 2 + 1) _, by rw [List.length_set, List.length_set]; exact hxl, ?_, (HGIR.out.setCell_other _ _ (fun e => hne e.symm)).setCell_other _ _ (fun e => hne e.symm), (HPR.out.setCell_other _ _ (by show w.heap.size ≠ g; omega)).setCell_other _ _ (by show w.heap.size ≠ g; omega), (HKR.out.setCell _ _ (.inl rfl)).setCell _ _ (.inl rfl)⟩
        have := (H77.out.more (by omega)).more (by rw [List.length_set]; omega)
        rw [show (m + 1) * 2 = m * 2 + 1 + 1 by omega]
        exact this
      case measure => simp [intOf]; omega
    · obtain rfl : m = cap := by omega
      have p4 := HPR.out.cell (j := 4) rfl
      have H77 := hide2 h77
      clear h77
      go_wp2
      go_loopw [5] (fun i wr => ∃ (k : Nat) (ys' : List Value), k ≤ icap ∧ i = .int .i64 (k : Int) ∧ Hid (Blk wr gi 35 ys') ∧ ys'.length = icap * 4 ∧ Hid (All77 ys' (k * 4)) ∧ Hid (Blk wr g 37 xs') ∧ Hid (Kept w wr (fun b => b = g ∨ b = gi))) (fun i _ => icap - (intOf i).toNat)
      case atStart => exact ⟨0, ys, by omega, rfl, HGIR, hy, fun j hj => by omega, HGR, HKR⟩
      case round =>
        obtain ⟨k, ys', hk, rfl, HG2, hyl, H772, HG1, HK2⟩ := hrel
        clear HGIR HGR HKR p4
        by_cases hlt2 : k < icap
        · have hmI : (k : Int) < (icap : Int) := by omega
          have c0 := HG2.out.cell (j := k * 4) (List.getElem?_eq_getElem (by omega))
          have c1 := HG2.out.cell (j := k * 4 + 1) (List.getElem?_eq_getElem (by omega))
          have c2 := HG2.out.cell (j := k * 4 + 2) (List.getElem?_eq_getElem (by omega))
          have c3 := HG2.out.cell (j := k * 4 + 3) (List.getElem?_eq_getElem (by omega))
          have f0 := HG2.out.frozen (k * 4)
          have f1 := HG2.out.frozen (k * 4 + 1)
          have f2 := HG2.out.frozen (k * 4 + 2)
          have f3 := HG2.out.frozen (k * 4 + 3)
          generalize ys'[k * 4]'(by omega) = z0 at *
          generalize ys'[k * 4 + 1]'(by omega) = z1 at *
          generalize ys'[k * 4 + 2]'(by omega) = z2 at *
          generalize ys'[k * 4 + 3]'(by omega) = z3 at *
          go_wp2
          go_roundw
          case rel =>
            refine ⟨k + 1, _, by omega, by go_num, (((HG2.out.setCell (k * 4) _).setCell (k * 4 + 1) _).setCell (k * 4 + 2) _).setCell (k * 4 + 3) _, by rw [List.length_set, List.length_set, List.length_set, List.length_set]; exact hyl, ?_, (((HG1.out.setCell_other _ _ hne).setCell_other _ _ hne).setCell_other _ _ hne).setCell_other _ _ hne, (((HK2.out.setCell _ _ (.inr rfl)).setCell _ _ (.inr rfl)).setCell _ _ (.inr rfl)).setCell _ _ (.inr rfl)⟩
            have := (((H772.out.more (by omega)).more (by rw [List.length_set]; omega)).more (by rw [List.length_set, List.length_set]; omega)).more (by rw [List.length_set, List.length_set, List.length_set]; omega)
            show All77 _ _
            rw [show (k + 1) * 4 = k * 4 + 1 + 1 + 1 + 1 by omega]
            exact this
          case measure => simp [intOf]; omega
        · obtain rfl : k = icap := by omega
          go_wp2
          go_end0
          exact ⟨rfl, ⟨xs', HG1.out, H77.out⟩, ⟨ys', HG2.out, H772.out⟩, HK2.out⟩
end Go.Proofs.Ytjikemhmnkckcab
