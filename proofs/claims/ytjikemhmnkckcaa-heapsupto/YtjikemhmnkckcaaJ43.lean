import Derived.Test.YtjikemhmnkckcaaJ42
/- own, looks. -/
namespace Go.Proofs.Ytjikemhmnkckcaa
open Go.RowKit
attribute [local go_sem ↓] Go.wp_at_zero Go.wp_at_succ

set_option maxRecDepth 100000 in
set_option maxHeartbeats 1600000 in
theorem own_nil (q : Nat) (x0 x1 x2 vs : Value) (L : List Value) (w : World) (hB : Blk w q 33 [x0, x1, x2, vs]) (hL : LRep w vs L) (hsq : vs.ownBlock ≠ some q) (hlq : ∀ i, i < L.length → (L.getD i undef).ownBlock ≠ some q) (hroom : (L.length + 1) * 24 ≤ 140737488355328) :
    Calls Try.prog 90 #[.pointer (some ⟨q, 0, none⟩), .slice none 0 0] w fun e' w' => ∃ vs', e' = .returned (.tuple #[]) ∧ Blk w' q 33 [x0, x1, x2, vs'] ∧ LRep w' vs' (L ++ [.slice none 0 0]) ∧ Kept w w' (fun b => b = q ∨ vs.ownBlock = some b) ∧ NewBlk vs vs' w := by
  obtain ⟨i0, hi0, hz0, hz1, hz2⟩ := info_parts info_lists
  have c3 := hB.cell (j := 3) rfl
  have f3 := hB.frozen 3
  have hql := hB.lt
  have HB := hide2 hB
  have HL := hide2 hL
  have HQ := hide2 hsq
  have HLQ := hide2 hlq
  clear hB hL hsq hlq
  go_enter Try.func90, Try.ntmps90
  go_wp2
  go_loopw [5] (fun i wr => w = wr ∧ i = .int .i64 0) (fun i _ => 0)
  case atStart => exact ⟨rfl, rfl⟩
  case round =>
    obtain ⟨rfl, rfl⟩ := hrel
    go_wp2_with (at_builtin; refine wpList_append_lies _ rfl _ _ _ rfl 0 62 i0 _ 1 24 Try.underlying31 hi0 hz0 hz1 hz2 rfl (by omega) vs L.length L rfl (HL.out.row.alloc _) ⟨w.heap.size, 0, none⟩ 1 1 [.slice none 0 0] rfl rfl (World.news_of_block (cs := #[.slice none 0 0]) (t := 62) (fr := (0, 0)) (heap_alloc_new w _)) (by simp [Value.oneCell']) (by omega) (by simp [maxLen]; omega) (by omega) (by simp) (w.heap.size + 1) (by simp) ?_; intro gg cap2 w7 hown hgrow hat hlt7; have c3' : w7.cell? ⟨q, 3, none⟩ = some vs := (by rw [hgrow.cell_far _ (by simp; omega) (fun e => HQ.out e.symm), World.cell?_alloc_lt _ _ _ hql]; exact c3); have f3' : w7.frozen? ⟨q, 3, none⟩ = false := (by rw [hgrow.frozen_far _ (by simp; omega) (fun e => HQ.out e.symm), World.frozen?_alloc_old _ _ _ (by show q ≠ _; omega)]; exact f3))
    go_end0
    obtain ⟨j1, j2, j3, j4⟩ := HL.out.join (w := w) HB.out (.inl rfl) (Nat.le_refl _) HQ.out nofun HLQ.out nofun hown hgrow hat
    exact ⟨_, rfl, j1, j2, j3, j4⟩

set_option maxRecDepth 100000 in
set_option maxHeartbeats 1600000 in
theorem own_some (q g c n : Nat) (x0 x1 x2 vs : Value) (L : List Value) (cur : List Value) (w : World) (hB : Blk w q 33 [x0, x1, x2, vs]) (hL : LRep w vs L) (hsq : vs.ownBlock ≠ some q) (hlq : ∀ i, i < L.length → (L.getD i undef).ownBlock ≠ some q) (hroom : (L.length + 1) * 24 ≤ 140737488355328)
    (hg : Blk w g 117 cur) (hcl : cur.length = c * 3) (hnc : n ≤ c) (hcm : c ≤ maxLen) (hgq : g ≠ q) (hgs : vs.ownBlock ≠ some g) (hgl : ∀ i, i < L.length → (L.getD i undef).ownBlock ≠ some g) :
    Calls Try.prog 90 #[.pointer (some ⟨q, 0, none⟩), .slice (some ⟨g, 0, none⟩) n c] w fun e' w' => ∃ vs', e' = .returned (.tuple #[]) ∧ Blk w' q 33 [x0, x1, x2, vs'] ∧ LRep w' vs' (L ++ [.slice (some ⟨g, 0, none⟩) c c]) ∧ Kept w w' (fun b => b = q ∨ b = g ∨ vs.ownBlock = some b) ∧ NewBlk vs vs' w := by
  obtain ⟨i0, hi0, hz0, hz1, hz2⟩ := info_parts info_lists
  obtain ⟨al, cap, hvs, hcap, hmax, -⟩ := row_open hL.row
  have hql := hB.lt
  have hgl0 := hg.lt
  have HB := hide2 hB
  have HL := hide2 hL
  have HQ := hide2 hsq
  have HLQ := hide2 hlq
  have HG := hide2 hg
  have HGS := hide2 hgs
  have HGL := hide2 hgl
  have HCM := hide2 hcm
  have hcm2 : c ≤ 9223372036854775807 := by unfold maxLen at hcm; omega
  unfold maxLen at hmax
  subst hvs
  have hll : L.length ≤ 9223372036854775807 := by omega
  have hnI : (n : Int) ≤ (c : Int) := by omega
  clear hB hL hsq hlq hg hgs hgl hcm
  go_enter Try.func90, Try.ntmps90
  go_wp2
  go_loopw [5] (fun i wr => ∃ (m : Nat) (xs : List Value), m ≤ c ∧ i = .int .i64 (m : Int) ∧ Hid (Blk wr g 117 xs) ∧ xs.length = c * 3 ∧ xs.take (m * 3) = fullCells L.length m ∧ Hid (Kept w wr (· = g))) (fun i _ => c - (intOf i).toNat)
  case atStart => exact ⟨0, cur, by omega, rfl, HG, hcl, by simp [fullCells], Kept.refl _ _⟩
  case round =>
    obtain ⟨m, xs, hm, rfl, HX, hxl, hxt, HK⟩ := hrel
    have hsz := HK.out.size
    have HQ1 : Hid (Blk wr q 33 [x0, x1, x2, .slice al L.length cap]) := (HK.out.block q hql (fun e => hgq e.symm)).trans HB.out
    have c3 := HQ1.out.cell (j := 3) rfl
    have hq1 := HQ1.out.lt
    by_cases hlt : m < c
    · have hmI : (m : Int) < (c : Int) := by omega
      have hgl1 := HX.out.lt
      have d0 : wr.cell? ⟨g, m * 3, none⟩ = some (xs.getD (m * 3) undef) := HX.out.cell (by rw [List.getElem?_eq_getElem (by omega), List.getD_eq_getElem?_getD, List.getElem?_eq_getElem (by omega)]; rfl)
      have d1 : wr.cell? ⟨g, m * 3 + 1, none⟩ = some (xs.getD (m * 3 + 1) undef) := HX.out.cell (by rw [List.getElem?_eq_getElem (by omega), List.getD_eq_getElem?_getD, List.getElem?_eq_getElem (by omega)]; rfl)
      have d2 : wr.cell? ⟨g, m * 3 + 2, none⟩ = some (xs.getD (m * 3 + 2) undef) := HX.out.cell (by rw [List.getElem?_eq_getElem (by omega), List.getD_eq_getElem?_getD, List.getElem?_eq_getElem (by omega)]; rfl)
      have z0 := HX.out.frozen (m * 3)
      have z1 := HX.out.frozen (m * 3 + 1)
      have z2 := HX.out.frozen (m * 3 + 2)
      have HT := hide2 (take_set3 xs m (.int .i64 (-1)) (.int .i64 (L.length : Int)) (.int .i64 (m : Int)) (by omega))
      have HXT := hide2 hxt
      have HXL := hide2 hxl
      clear hxt hxl
      generalize xs.getD (m * 3) undef = y0 at *
      generalize xs.getD (m * 3 + 1) undef = y1 at *
      generalize xs.getD (m * 3 + 2) undef = y2 at *
      go_wp2
      go_roundw
      case rel => exact ⟨m + 1, ((xs.set (m * 3) (.int .i64 (-1))).set (m * 3 + 1) (.int .i64 (L.length : Int))).set (m * 3 + 2) (.int .i64 (m : Int)), by omega, by go_num, ((HX.out.setCell (m * 3) _).setCell (m * 3 + 1) _).setCell (m * 3 + 2) _, by rw [List.length_set, List.length_set, List.length_set]; exact HXL.out, by rw [HT.out, HXT.out]; rfl, ((HK.out.setCell ⟨g, m * 3, none⟩ _ rfl).setCell ⟨g, m * 3 + 1, none⟩ _ rfl).setCell ⟨g, m * 3 + 2, none⟩ _ rfl⟩
      case measure => simp [intOf]; omega
    · obtain rfl : m = c := by omega
      have HFX : Hid (Blk wr g 117 (fullCells L.length m)) := by
        show Blk _ _ _ _
        rw [← hxt, List.take_of_length_le (by omega)]
        exact HX.out
      have HL1 : Hid (LRep wr (.slice al L.length cap) L) := HL.out.kept (fun b hb => HK.out.block b (HL.out.foot_lt hb) (fun e => by
        subst e
        rcases hb with y | ⟨i, hi, y⟩
        · exact HGS.out y
        · exact HGL.out i hi y))
      have f3 := HQ1.out.frozen 3
      clear hxt hxl
      go_wp2_with (at_builtin; refine wpList_append_lies _ rfl _ _ _ rfl 0 62 i0 _ 1 24 Try.underlying31 hi0 hz0 hz1 hz2 rfl (by omega) (.slice al L.length cap) L.length L rfl (HL1.out.row.alloc _) ⟨wr.heap.size, 0, none⟩ 1 1 [.slice (some ⟨g, 0, none⟩) m m] rfl rfl (World.news_of_block (cs := #[.slice (some ⟨g, 0, none⟩) m m]) (t := 62) (fr := (0, 0)) (heap_alloc_new wr _)) (by simp [Value.oneCell']) (by omega) (by simp [maxLen]; omega) (by omega) (by simp) (wr.heap.size + 1) (by simp) ?_; intro gg cap2 w7 hown hgrow hat hlt7; have c3' : w7.cell? ⟨q, 3, none⟩ = some (.slice al L.length cap) := (by rw [hgrow.cell_far _ (by simp; omega) (fun e => HQ.out e.symm), World.cell?_alloc_lt _ _ _ hq1]; exact c3); have f3' : w7.frozen? ⟨q, 3, none⟩ = false := (by rw [hgrow.frozen_far _ (by simp; omega) (fun e => HQ.out e.symm), World.frozen?_alloc_old _ _ _ (by show q ≠ _; omega)]; exact f3))
      go_end0
      obtain ⟨j1, j2, j3, j4⟩ := HL1.out.join (w := w) (f := .slice (some ⟨g, 0, none⟩) m m) HQ1.out (.inr ⟨g, m, rfl, HCM.out, HFX.out⟩) hsz HQ.out (by simp [Value.ownBlock]; exact hgq) HLQ.out (fun g' hg' => by simp [Value.ownBlock] at hg'; rw [← hg']; exact HGS.out) hown hgrow hat
      refine ⟨_, rfl, j1, j2, ?_, j4⟩
      exact (HK.out.mono fun b _ e => .inr (.inl e)).trans (j3.mono fun b _ e => by rcases e with e | e; exact .inl e; exact .inr (.inr e))
end Go.Proofs.Ytjikemhmnkckcaa
/- looks: every list reads as its owner wrote it. -/
namespace Go.Proofs.Ytjikemhmnkckcaa
open Go.RowKit
attribute [local go_sem ↓] Go.wp_at_zero Go.wp_at_succ

theorem own_any (q : Nat) (x0 x1 x2 vs v : Value) (L : List Value) (n : Nat) (xs : List Value) (w : World) (hB : Blk w q 33 [x0, x1, x2, vs]) (hL : LRep w vs L) (hsq : vs.ownBlock ≠ some q) (hlq : ∀ i, i < L.length → (L.getD i undef).ownBlock ≠ some q) (hroom : (L.length + 1) * 24 ≤ 140737488355328)
    (hv : w.ownsRow 0 117 3 v n xs) (hvq : v.ownBlock ≠ some q) (hvl : ∀ b, v.ownBlock = some b → ¬ LFoot vs L b) :
    Calls Try.prog 90 #[.pointer (some ⟨q, 0, none⟩), v] w fun e' w' => ∃ vs' f, e' = .returned (.tuple #[]) ∧ Blk w' q 33 [x0, x1, x2, vs'] ∧ LRep w' vs' (L ++ [f]) ∧ Kept w w' (fun b => b = q ∨ v.ownBlock = some b ∨ vs.ownBlock = some b) ∧ NewBlk vs vs' w ∧ (∀ b, f.ownBlock = some b → v.ownBlock = some b) := by
  rcases hv.2 with ⟨rfl, _⟩ | ⟨g, cap, cur, rfl, _, hg, hnc, hcm, hcs, _⟩
  · refine (own_nil q x0 x1 x2 vs L w hB hL hsq hlq hroom).mono ?_
    rintro e' w' ⟨vs', rfl, h1, h2, h3, h4⟩
    exact ⟨vs', _, rfl, h1, h2, h3.mono fun b _ e => by rcases e with e | e; exact .inl e; exact .inr (.inr e), h4, nofun⟩
  · have hvb : (Value.slice (some ⟨g, 0, none⟩) n cap).ownBlock = some g := rfl
    have hcs' : cur.toList.length = cap * 3 := by rw [Array.length_toList]; exact hcs
    have hgb : Blk w g 117 cur.toList := by
      show w.heap[g]? = _
      rw [hg]
    refine (own_some q g cap n x0 x1 x2 vs L cur.toList w hB hL hsq hlq hroom hgb hcs' hnc hcm (fun e => hvq (by rw [hvb, e])) (fun e => hvl g hvb (.inl e)) (fun i hi e => hvl g hvb (.inr ⟨i, hi, e⟩))).mono ?_
    rintro e' w' ⟨vs', rfl, h1, h2, h3, h4⟩
    exact ⟨vs', _, rfl, h1, h2, h3.mono fun b _ e => by rcases e with e | e | e; exact .inl e; exact .inr (.inl (by rw [hvb, e])); exact .inr (.inr e), h4, fun b hb => hb⟩

set_option maxRecDepth 100000 in
set_option maxHeartbeats 1600000 in
theorem elooks_any (q : Nat) (x0 x1 x2 vs : Value) (L : List Value) (w : World) (hB : Blk w q 33 [x0, x1, x2, vs]) (hL : LRep w vs L) :
    Calls Try.prog 52 #[.pointer (some ⟨q, 0, none⟩)] w fun e w' => e = .returned (.bool true) ∧ Below w.heap.size w w' := by
  obtain ⟨al, cap, rfl, hcap, hmax, hrow⟩ := row_open hL.row
  unfold maxLen at hmax
  have c3 := hB.cell (j := 3) rfl
  have hql := hB.lt
  have HROW := hide2 hrow
  have HE := hide2 hL.each
  clear hB hL hrow
  go_enter Try.func52, Try.ntmps52
  go_wp2
  go_loopw [3] (fun i wr => ∃ m : Nat, m ≤ L.length ∧ i = .int .i64 (m : Int) ∧ Below w.heap.size w wr) (fun i _ => L.length - (intOf i).toNat)
  case atStart => exact ⟨0, by omega, rfl, Below.refl _ _⟩
  case round =>
    obtain ⟨m, hm, rfl, hb⟩ := hrel
    have HB := hide2 hb
    have c3' := (hb.cell (p := ⟨q, 3, none⟩) hql).trans c3
    clear hb
    by_cases hlt : m < L.length
    · have hmI : (m : Int) < (L.length : Int) := by omega
      obtain ⟨g, rfl, hgl, hcell, _⟩ := HROW.out (by omega)
      have dm := hcell m (L.getD m undef) (by rw [List.getElem?_eq_getElem hlt, List.getD_eq_getElem?_getD, List.getElem?_eq_getElem hlt]; rfl)
      have dm' := (HB.out.cell (p := ⟨g, m, none⟩) hgl).trans dm
      have hok := HE.out m hlt
      have HDM := hide2 dm
      clear hcell dm
      generalize L.getD m undef = f at *
      rcases hok with rfl | ⟨fg, fc, rfl, hfm, hfb⟩
      · go_wp2
        go_loopw [4] (fun j w2 => j = .int .i64 0 ∧ Below w.heap.size w w2) (fun j _ => 0)
        case atStart => exact ⟨rfl, HB.out⟩
        case round =>
          rename_i w2
          obtain ⟨rfl, hb2⟩ := hrel
          have HB2 := hide2 hb2
          have c32 := (hb2.cell (p := ⟨q, 3, none⟩) hql).trans c3
          have d2 := (hb2.cell (p := ⟨g, m, none⟩) hgl).trans HDM.out
          clear hb2 dm' c3'
          go_wp2
          go_roundw
          case rel => exact ⟨m + 1, by omega, by go_num, HB2.out⟩
          case measure => simp [intOf]; omega
      · unfold maxLen at hfm
        have hfl := hfb.lt
        have HFB := hide2 hfb
        clear hfb
        go_wp2
        go_loopw [4] (fun j w2 => ∃ t : Nat, t ≤ fc ∧ j = .int .i64 (t : Int) ∧ Below w.heap.size w w2) (fun j _ => fc - (intOf j).toNat)
        case atStart => exact ⟨0, by omega, rfl, HB.out⟩
        case round =>
          rename_i w2
          obtain ⟨t, ht, rfl, hb2⟩ := hrel
          have HB2 := hide2 hb2
          have c32 := (hb2.cell (p := ⟨q, 3, none⟩) hql).trans c3
          have d2 := (hb2.cell (p := ⟨g, m, none⟩) hgl).trans HDM.out
          by_cases htl : t < fc
          · have htI : (t : Int) < (fc : Int) := by omega
            obtain ⟨k0, k1, k2⟩ := fullCells_get (m : Int) fc t htl
            have e0 := (hb2.cell (p := ⟨fg, t * 3, none⟩) hfl).trans (HFB.out.cell k0)
            have e1 := (hb2.cell (p := ⟨fg, t * 3 + 1, none⟩) hfl).trans (HFB.out.cell k1)
            have e2 := (hb2.cell (p := ⟨fg, t * 3 + 2, none⟩) hfl).trans (HFB.out.cell k2)
            have n1 : ((m : Int) != (m : Int)) = false := by simp
            have n2 : ((t : Int) != (t : Int)) = false := by simp
            clear hb2 dm' c3' k0 k1 k2
            go_wp2
            go_roundw
            case rel => exact ⟨t + 1, by omega, by go_num, HB2.out⟩
            case measure => simp [intOf]; omega
          · clear hb2 dm' c3'
            obtain rfl : t = fc := by omega
            go_wp2
            go_roundw
            case rel => exact ⟨m + 1, by omega, by go_num, HB2.out⟩
            case measure => simp [intOf]; omega
    · go_wp2
      go_ret
      exact ⟨rfl, HB.out⟩
end Go.Proofs.Ytjikemhmnkckcaa
