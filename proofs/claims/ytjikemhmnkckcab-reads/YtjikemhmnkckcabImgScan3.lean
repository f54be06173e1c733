import Derived.Test.YtjikemhmnkckcabImgScan2
/- The program's scanner: the data. -/
namespace Go.Proofs.Ytjikemhmnkckcab
open Go.RowKit

theorem pDataG_size (d : ByteArray) (m : Nat) : (pDataG d m).size = m := by simp [pDataG, ByteArray.size]
theorem pDataG_succ (d : ByteArray) (m : Nat) : bytesV (pDataG d (m + 1)) = bytesV (pDataG d m) ++ [.int .u8 (byteAt d (pD d + 1 + m))] := by
  have h := byteAt_bd d (pD d + 1 + m)
  simp [bytesV, pDataG, List.range_succ]
  omega

/-- A row that grows, beside the scanner. -/
structure SRow (w wr : World) (q : Nat) (d : ByteArray) (k : Nat) (bad : Bool) (e : TypeId) (sz : Nat) (v : Value) (n : Nat) (xs : List Value) : Prop where
  kept : Kept w wr (· = q)
  scan : Blk wr q 59 (scV d k bad)
  row : wr.ownsRow 0 e sz v n xs
  scb : q < w.heap.size
  far : ∀ g, v.ownBlock = some g → w.heap.size ≤ g
section
variable {w wr : World} {q : Nat} {d : ByteArray} {k : Nat} {bad : Bool} {e : TypeId} {sz : Nat} {v : Value} {n : Nat} {xs : List Value}
theorem SRow.under {wx : World} (h : SRow w wr q d k bad e sz v n xs) (hx : Below wr.heap.size wr wx) : SRow w wx q d k bad e sz v n xs :=
  ⟨h.kept.trans (Kept.of_below hx _), h.scan.below hx h.scan.lt, row_below h.row hx (own_lt h.row), h.scb, h.far⟩
theorem SRow.next {wx : World} {k' : Nat} (h : SRow w wr q d k bad e sz v n xs) (hs : Blk wx q 59 (scV d k' bad)) (hk : Kept wr wx (· = q)) : SRow w wx q d k' bad e sz v n xs :=
  ⟨h.kept.trans hk, hs, row_kept h.row (fun g hg => hk.block g (own_lt h.row g hg) (by have := h.far g hg; have := h.scb; omega)), h.scb, h.far⟩
theorem SRow.other (h : SRow w wr q d k bad e sz v n xs) (b j : Nat) (u : Value) (h1 : q ≠ b) (h3 : ∀ g, v.ownBlock = some g → g ≠ b) (h4 : w.heap.size ≤ b) : SRow w (wr.setCell ⟨b, j, none⟩ u) q d k bad e sz v n xs :=
  ⟨⟨by rw [← h.kept.os]; rfl, by rw [← h.kept.tape]; rfl, by rw [← h.kept.output]; rfl, by rw [World.size_setCell]; exact h.kept.size, fun b' hb hs => (Below.heap_setCell wr _ _ b' (by show b' ≠ b; omega)).trans (h.kept.block b' hb hs)⟩, h.scan.setCell_other _ _ h1, row_kept h.row (fun g hg => Below.heap_setCell wr _ _ g (h3 g hg)), h.scb, h.far⟩
theorem SRow.add {wx w2 : World} {g cap n2 : Nat} {xs2 : List Value} (h : SRow w wr q d k bad e sz v n xs) (hx : Below wr.heap.size wr wx) (hown : w2.ownsRow 0 e sz (.slice (some ⟨g, 0, none⟩) n2 cap) n2 xs2)
    (hgrow : wx.grownBy w2 v.ownBlock) (hat : v.ownBlock = some g ∨ wr.heap.size ≤ g) : SRow w w2 q d k bad e sz (.slice (some ⟨g, 0, none⟩) n2 cap) n2 xs2 := by
  have hu := h.under hx
  have hxs := hx.size
  have hks := h.kept.size
  have hscb := h.scb
  refine ⟨⟨by rw [← hu.kept.os, ← hgrow.os], by rw [← hu.kept.tape, ← hgrow.tape], by rw [← hu.kept.output, ← hgrow.output], Nat.le_trans hu.kept.size hgrow.size, fun b hb hs => ?_⟩, (hgrow.block q (by omega) (fun e => by have := h.far q e.symm; omega)).trans hu.scan, hown, h.scb, fun g' hg' => ?_⟩
  · rw [hgrow.block b (by omega) (fun e => by have := h.far b e.symm; omega)]
    exact hu.kept.block b hb hs
  · simp [Value.ownBlock] at hg'
    subst hg'
    rcases hat with e | e
    · exact h.far g e
    · omega
end

theorem convert_row {w : World} {v : Value} {b : ByteArray} (h : w.ownsRow 0 5 1 v b.size (bytesV b)) : (convert 76 9 v).run Try.prog w = .ok (.string b) w := by
  rcases h.2 with ⟨rfl, h0⟩ | ⟨g, cap, cur, rfl, _⟩
  · have : b = ByteArray.empty := bext (List.eq_nil_of_length_eq_zero (by simpa using h0))
    subst this
    exact Go.run_convert_bytes_nil _ _ _ Try.underlying76 Try.underlying5 _ _ _ Try.underlying9
  · exact Go.Lib.run_convert_whole (P := Try.prog) w 76 5 9 Try.underlying76 Try.underlying5 Try.underlying9 g 0 b (row_bytes h) cap

set_option maxRecDepth 100000 in
set_option maxHeartbeats 3200000 in
theorem data_any (q : Nat) (d : ByteArray) (bad : Bool) (w : World) (h : Blk w q 59 (scV d (pD d) bad)) (hd : (d.size : Int) ≤ 9223372036854775807) :
    Calls Try.prog 39 #[.pointer (some ⟨q, 0, none⟩)] w fun e w' => e = .returned (.string (pDataG d (pM d))) ∧ Blk w' q 59 (scV d (pF d) bad) ∧ Kept w w' (· = q) := by
  obtain ⟨i0, hi0, hz0, hz1, hz2⟩ := info_parts info_byte
  have hql := h.lt
  have HM := hide2 (pM_cast d)
  have mle := pM_le d
  have H := hide2 h
  clear h
  go_enter Try.func39, Try.ntmps39
  go_wp2_with (go_at_call 48; refine (next_any q d (pD d) bad _ H.out hd).mono ?_; rintro e1 w1 ⟨rfl, hb1, hk1, hz1⟩; have HS : Hid (SRow w w1 q d (pD d + 1) bad 5 1 (.slice none 0 0) (pDataG d 0).size (bytesV (pDataG d 0))) := ⟨hk1, hb1, ⟨rfl, .inl ⟨rfl, rfl⟩⟩, hql, fun g hg => by simp [Value.ownBlock] at hg⟩; clear hb1 hk1 hz1; rw [← HM.out])
  go_loopw [3, 4] (fun v n wr => ∃ (m : Nat) (s : Value), m ≤ pM d ∧ n = .int .i64 ((pM d : Int) - (m : Int)) ∧ s = v ∧ Hid (SRow w wr q d (pD d + 1 + m) bad 5 1 s (pDataG d m).size (bytesV (pDataG d m)))) (fun _ n _ => (intOf n).toNat)
  case atStart => exact ⟨0, _, by omega, by simp, rfl, HS⟩
  case round =>
    obtain ⟨m, s, hm, rfl, rfl, HR⟩ := hrel
    clear HS
    by_cases hlt : m < pM d
    · have hmI : (0 : Int) < (pM d : Int) - (m : Int) := by omega
      have HNX := hide2 (pDataG_succ d m)
      have HS1 := hide2 (pDataG_size d (m + 1))
      have HS0 := hide2 (pDataG_size d m)
      have hcm : (pDataG d m).size ≤ 255 := by rw [pDataG_size]; omega
      have hbb := byteAt_bd d (pD d + 1 + m)
      generalize pDataG d m = sm at *
      go_upto_region 6 with (go_at_call 48; refine (next_any q d (pD d + 1 + m) bad _ HR.out.scan hd).mono ?_; rintro e1 w1 ⟨rfl, hb1, hk1, hz1⟩; have HR1 := hide2 (HR.out.next hb1 hk1); clear hb1 hk1 hz1)
      generalize byteAt d (pD d + 1 + m) = x at *
      have HX : Hid (Below w1.heap.size w1 (w1.alloc (.cells #[.int .u8 x] 5))) := (Below.refl _ _).alloc (Nat.le_refl _) _
      have HRW := hide2 (HR1.out.under HX.out).row
      go_wp2_with (at_builtin; go_loud (refine wpList_append_lies _ rfl _ _ _ rfl 0 5 i0 _ 1 1 Try.underlying76 hi0 hz0 hz1 hz2 rfl (by omega) s sm.size (bytesV sm) rfl HRW.out ⟨w1.heap.size, 0, none⟩ 1 1 [.int .u8 x] rfl rfl (World.news_of_block (cs := #[.int .u8 x]) (t := 5) (fr := (0, 0)) (heap_alloc_new w1 _)) (by simp [Value.oneCell']) (by omega) (by simp [maxLen]; omega) (by omega) (by simp) (w1.heap.size + 1) (by simp) ?_; intro gg cap2 w2 hown hgrow hat hlt2))
      have HN2 : Hid (SRow w w2 q d (pD d + 1 + (m + 1)) bad 5 1 (.slice (some ⟨gg, 0, none⟩) (sm.size + 1) cap2) (pDataG d (m + 1)).size (bytesV (pDataG d (m + 1)))) := by
        have := HR1.out.add HX.out hown hgrow (by rcases hat with e | e; exact .inl e; right; omega)
        show SRow _ _ _ _ _ _ _ _ _ _ _
        rw [HNX.out, HS1.out, show pD d + 1 + (m + 1) = pD d + 1 + m + 1 by omega, show m + 1 = sm.size + 1 by rw [HS0.out]]
        exact this
      go_roundw
      case rel => exact ⟨m + 1, _, by omega, by go_num, rfl, HN2⟩
      case measure => simp [intOf]; omega
    · obtain rfl : m = pM d := by omega
      have hcv := convert_row HR.out.row
      go_wp2
      go_ret
      exact ⟨rfl, HR.out.scan, HR.out.kept⟩
end Go.Proofs.Ytjikemhmnkckcab
