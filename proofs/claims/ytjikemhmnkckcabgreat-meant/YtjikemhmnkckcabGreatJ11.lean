import Derived.Test.YtjikemhmnkckcabGreatJ10
namespace Go.Proofs.YtjikemhmnkckcabGreat
open Go.RowKit
theorem pDataG_size (d : ByteArray) (m : Nat) : (pDataG d m).size = m := by simp [pDataG, ByteArray.size]
theorem pDataG_succ (d : ByteArray) (m : Nat) : bytesV (pDataG d (m + 1)) = bytesV (pDataG d m) ++ [.int .u8 (byteAt d (pD d + 1 + m))] := by
 have h := byteAt_bd d (pD d + 1 + m);simp [bytesV, pDataG, List.range_succ];omega
structure SRow (w wr : World) (q : Nat) (d : ByteArray) (k : Nat) (bad : Bool) (e : TypeId) (sz : Nat) (v : Value) (n : Nat) (xs : List Value) : Prop where
 kept : Kept w wr (· = q)
 scan : Blk wr q 70 (scV d k bad)
 row : wr.ownsRow 0 e sz v n xs
 scb : q < w.heap.size
 far : ∀ g, v.ownBlock = some g → w.heap.size ≤ g
section
variable {w wr : World} {q : Nat} {d : ByteArray} {k : Nat} {bad : Bool} {e : TypeId} {sz : Nat} {v : Value} {n : Nat} {xs : List Value}
theorem SRow.under {wx : World} (h : SRow w wr q d k bad e sz v n xs) (hx : Below wr.heap.size wr wx) : SRow w wx q d k bad e sz v n xs :=
 ⟨h.kept.trans (Kept.of_below hx _), h.scan.below hx h.scan.lt, row_below h.row hx (own_lt h.row), h.scb, h.far⟩
theorem SRow.next {wx : World} {k' : Nat} (h : SRow w wr q d k bad e sz v n xs) (hs : Blk wx q 70 (scV d k' bad)) (hk : Kept wr wx (· = q)) : SRow w wx q d k' bad e sz v n xs :=
 ⟨h.kept.trans hk, hs, row_kept h.row (fun g hg => hk.block g (own_lt h.row g hg) (by have := h.far g hg; have := h.scb; omega)), h.scb, h.far⟩
theorem SRow.other (h : SRow w wr q d k bad e sz v n xs) (b j : Nat) (u : Value) (h1 : q ≠ b) (h3 : ∀ g, v.ownBlock = some g → g ≠ b) (h4 : w.heap.size ≤ b) : SRow w (wr.setCell ⟨b, j, none⟩ u) q d k bad e sz v n xs :=
 ⟨⟨by rw [← h.kept.os]; rfl, by rw [← h.kept.tape]; rfl, by rw [← h.kept.output]; rfl, by rw [World.size_setCell]; exact h.kept.size, fun b' hb hs => (Below.heap_setCell wr _ _ b' (by show b' ≠ b; omega)).trans (h.kept.block b' hb hs)⟩, h.scan.setCell_other _ _ h1, row_kept h.row (fun g hg => Below.heap_setCell wr _ _ g (h3 g hg)), h.scb, h.far⟩
theorem SRow.add {wx w2 : World} {g cap n2 : Nat} {xs2 : List Value} (h : SRow w wr q d k bad e sz v n xs) (hx : Below wr.heap.size wr wx) (hown : w2.ownsRow 0 e sz (.slice (some ⟨g, 0, none⟩) n2 cap) n2 xs2)
 (hgrow : wx.grownBy w2 v.ownBlock) (hat : v.ownBlock = some g ∨ wr.heap.size ≤ g) : SRow w w2 q d k bad e sz (.slice (some ⟨g, 0, none⟩) n2 cap) n2 xs2 := by
 have hu := h.under hx;have hxs := hx.size;have hks := h.kept.size;have hscb := h.scb;refine ⟨⟨by rw [← hu.kept.os, ← hgrow.os], by rw [← hu.kept.tape, ← hgrow.tape], by rw [← hu.kept.output, ← hgrow.output], Nat.le_trans hu.kept.size hgrow.size, fun b hb hs => ?_⟩, (hgrow.block q (by omega) (fun e => by have := h.far q e.symm; omega)).trans hu.scan, hown, h.scb, fun g' hg' => ?_⟩
 ·rw [hgrow.block b (by omega) (fun e => by have := h.far b e.symm; omega)];exact hu.kept.block b hb hs
 ·simp [Value.ownBlock] at hg';subst hg'
  rcases hat with e | e
  ·exact h.far g e
  ·omega
end
theorem convert_row {w : World} {v : Value} {b : ByteArray} (h : w.ownsRow 0 5 1 v b.size (bytesV b)) : (convert 77 9 v).run Tryz.prog w = .ok (.string b) w := by
 rcases h.2 with ⟨rfl, h0⟩ | ⟨g, cap, cur, rfl, _⟩
 ·have : b = ByteArray.empty := bext (List.eq_nil_of_length_eq_zero (by simpa using h0));subst this;exact Go.run_convert_bytes_nil _ _ _ Tryz.underlying77 Tryz.underlying5 _ _ _ Tryz.underlying9
 ·exact Go.Lib.run_convert_whole (P := Tryz.prog) w 77 5 9 Tryz.underlying77 Tryz.underlying5 Tryz.underlying9 g 0 b (row_bytes h) cap
set_option maxRecDepth 100000 in
set_option maxHeartbeats 3200000 in
theorem data_any (q : Nat) (d : ByteArray) (bad : Bool) (w : World) (h : Blk w q 70 (scV d (pD d) bad)) (hd : (d.size : Int) ≤ 9223372036854775807) :
 Calls Tryz.prog 49 #[.pointer (some ⟨q, 0, none⟩)] w fun e w' => e = .returned (.string (pDataG d (pM d))) ∧ Blk w' q 70 (scV d (pF d) bad) ∧ Kept w w' (· = q) := by
 obtain ⟨i0, hi0, hz0, hz1, hz2⟩ := info_parts info_byte;have hql := h.lt;have HM := hide2 (pM_cast d);have mle := pM_le d;have H := hide2 h;clear h;go_enter Tryz.func49, Tryz.ntmps49
 go_wp2_with (go_at_call 72; refine (next_any q d (pD d) bad _ H.out hd).mono ?_; rintro e1 w1 ⟨rfl, hb1, hk1, hz1⟩; have HS : Hid (SRow w w1 q d (pD d + 1) bad 5 1 (.slice none 0 0) (pDataG d 0).size (bytesV (pDataG d 0))) := ⟨hk1, hb1, ⟨rfl, .inl ⟨rfl, rfl⟩⟩, hql, fun g hg => by simp [Value.ownBlock] at hg⟩; clear hb1 hk1 hz1; rw [← HM.out])
 go_loopw [3, 4] (fun v n wr => ∃ (m : Nat) (s : Value), m ≤ pM d ∧ n = .int .i64 ((pM d : Int) - (m : Int)) ∧ s = v ∧ Hid (SRow w wr q d (pD d + 1 + m) bad 5 1 s (pDataG d m).size (bytesV (pDataG d m)))) (fun _ n _ => (intOf n).toNat)
 case atStart => exact ⟨0, _, by omega, by simp, rfl, HS⟩
 case round =>
  obtain ⟨m, s, hm, rfl, rfl, HR⟩ := hrel;clear HS
  by_cases hlt : m < pM d
  ·have hmI : (0 : Int) < (pM d : Int) - (m : Int) := by omega
   have HNX := hide2 (pDataG_succ d m);have HS1 := hide2 (pDataG_size d (m + 1));have HS0 := hide2 (pDataG_size d m);have hcm : (pDataG d m).size ≤ 255 := by rw [pDataG_size]; omega
   have hbb := byteAt_bd d (pD d + 1 + m);generalize pDataG d m = sm at *;go_upto_region 6 with (go_at_call 72; refine (next_any q d (pD d + 1 + m) bad _ HR.out.scan hd).mono ?_; rintro e1 w1 ⟨rfl, hb1, hk1, hz1⟩; have HR1 := hide2 (HR.out.next hb1 hk1); clear hb1 hk1 hz1);generalize byteAt d (pD d + 1 + m) = x at *;have HX : Hid (Below w1.heap.size w1 (w1.alloc (.cells #[.int .u8 x] 5))) := (Below.refl _ _).alloc (Nat.le_refl _) _;have HRW := hide2 (HR1.out.under HX.out).row
   go_wp2_with (at_builtin; go_loud (refine wpList_append_lies _ rfl _ _ _ rfl 0 5 i0 _ 1 1 Tryz.underlying77 hi0 hz0 hz1 hz2 rfl (by omega) s sm.size (bytesV sm) rfl HRW.out ⟨w1.heap.size, 0, none⟩ 1 1 [.int .u8 x] rfl rfl (World.news_of_block (cs := #[.int .u8 x]) (t := 5) (fr := (0, 0)) (heap_alloc_new w1 _)) (by simp [Value.oneCell']) (by omega) (by simp [maxLen]; omega) (by omega) (by simp) (w1.heap.size + 1) (by simp) ?_; intro gg cap2 w2 hown hgrow hat hlt2))
   have HN2 : Hid (SRow w w2 q d (pD d + 1 + (m + 1)) bad 5 1 (.slice (some ⟨gg, 0, none⟩) (sm.size + 1) cap2) (pDataG d (m + 1)).size (bytesV (pDataG d (m + 1)))) := by
    have := HR1.out.add HX.out hown hgrow (by rcases hat with e | e; exact .inl e; right; omega);show SRow _ _ _ _ _ _ _ _ _ _ _;rw [HNX.out, HS1.out, show pD d + 1 + (m + 1) = pD d + 1 + m + 1 by omega, show m + 1 = sm.size + 1 by rw [HS0.out]];exact this
   go_roundw
   case rel => exact ⟨m + 1, _, by omega, by go_num, rfl, HN2⟩
   case measure => simp [intOf]; omega
  ·obtain rfl : m = pM d := by omega
   have hcv := convert_row HR.out.row;go_wp2;go_ret;exact ⟨rfl, HR.out.scan, HR.out.kept⟩
set_option maxRecDepth 100000 in
set_option maxHeartbeats 3200000 in
theorem code_any (q : Nat) (d : ByteArray) (bad : Bool) (w : World) (h : Blk w q 70 (scV d (pF d) bad)) (hd : (d.size : Int) ≤ 9223372036854775807) :
 Calls Tryz.prog 50 #[.pointer (some ⟨q, 0, none⟩)] w fun e w' => ∃ a cap, e = .returned (.slice a (pCode d).length cap) ∧ w'.ownsRow 0 60 4 (.slice a (pCode d).length cap) (pCode d).length ((pCode d).flatMap insCells) ∧
  (∀ g, (Value.slice a (pCode d).length cap).ownBlock = some g → w.heap.size ≤ g) ∧ Blk w' q 70 (scV d (pEnd d) bad) ∧ Kept w w' (· = q) := by
 obtain ⟨j0, hj0, hy0, hy1, hy2⟩ := info_parts info_ins;have hql := h.lt;have HM := hide2 (pL_cast d);have mle := pL_le d;have H := hide2 h;clear h;go_enter Tryz.func50, Tryz.ntmps50
 go_wp2_with (go_at_call 72; refine (next_any q d (pF d) bad _ H.out hd).mono ?_; rintro e1 w1 ⟨rfl, hb1, hk1, hz1⟩; have HS : Hid (SRow w w1 q d (pF d + 1) bad 60 4 (.slice none 0 0) ((pCode d).take 0).length (((pCode d).take 0).flatMap insCells)) := ⟨hk1, hb1, ⟨rfl, .inl ⟨rfl, rfl⟩⟩, hql, fun g hg => by simp [Value.ownBlock] at hg⟩; clear hb1 hk1 hz1; rw [← HM.out])
 go_loopw [3, 4] (fun v n wr => ∃ (m : Nat) (s : Value), m ≤ pL d ∧ n = .int .i64 ((pL d : Int) - (m : Int)) ∧ s = v ∧ Hid (SRow w wr q d (pF d + 1 + 4 * m) bad 60 4 s ((pCode d).take m).length (((pCode d).take m).flatMap insCells))) (fun _ n _ => (intOf n).toNat)
 case atStart => exact ⟨0, _, by omega, by simp, rfl, HS⟩
 case round =>
  obtain ⟨m, s, hm, rfl, rfl, HR⟩ := hrel;clear HS
  by_cases hlt : m < pL d
  ·have hmI : (0 : Int) < (pL d : Int) - (m : Int) := by omega
   have HNX := hide2 (pCode_take d m hlt);have hcm : ((pCode d).take m).length ≤ 255 := by rw [List.length_take, pCode_len]; omega
   have HPI : Hid (pIns d m = ⟨byteAt d (pF d + 1 + 4 * m), byteAt d (pF d + 1 + 4 * m + 1), byteAt d (pF d + 1 + 4 * m + 1 + 1), byteAt d (pF d + 1 + 4 * m + 1 + 1 + 1)⟩) := rfl;have HPE : Hid (pF d + 1 + 4 * (m + 1) = pF d + 1 + 4 * m + 1 + 1 + 1 + 1) := by show _ = _; omega
   generalize (pCode d).take m = cs at *;generalize pF d + 1 + 4 * m = p at *;go_upto_region 6 with (fail);obtain ⟨w4, hw4⟩ : ∃ w4, w4 = wr.alloc (.cells #[.int .i64 0, .int .i64 0, .int .i64 0, .int .i64 0] 60) := ⟨_, rfl⟩
   rw [← hw4];have hBw : Below wr.heap.size wr w4 := by rw [hw4]; exact (Below.refl _ _).alloc (Nat.le_refl _) _
   have HR0 := hide2 (HR.out.under hBw);have HK0 : Hid (Blk w4 wr.heap.size 60 [.int .i64 0, .int .i64 0, .int .i64 0, .int .i64 0]) := by show Blk _ _ _ _; rw [hw4]; exact heap_alloc_new _ _
   have hkq : wr.heap.size ≠ q := by have := HR.out.scan.lt; omega
   have hkw : w.heap.size ≤ wr.heap.size := HR.out.kept.size;have hkr : ∀ g, s.ownBlock = some g → g ≠ wr.heap.size := fun g hg => by have := own_lt HR.out.row g hg; omega
   have HKR := hide2 hkr;clear hBw hw4 hkr;go_upto_region 7 with (go_at_call 72; refine (next_any q d (p) bad _ HR0.out.scan hd).mono ?_; rintro e1 u1 ⟨rfl, hb1, hk1, hz1⟩; have HRn := hide2 (HR0.out.next hb1 hk1); have HKn := hide2 (HK0.out.kept hk1 hkq); have k0 := HKn.out.cell (j := 0) rfl; have kf0 := HKn.out.frozen 0; clear hb1 hk1 hz1);generalize byteAt d (p) = x0 at *;obtain ⟨v1, hv⟩ : ∃ v, v = u1.setCell ⟨wr.heap.size, 0, none⟩ (.int .i64 x0) := ⟨_, rfl⟩
   rw [← hv];have HR1 := hide2 (HRn.out.other wr.heap.size 0 (.int .i64 x0) (fun e => hkq e.symm) HKR.out hkw);have HK1 := hide2 (HKn.out.setCell 0 (.int .i64 x0));rw [← hv] at HR1 HK1;clear hv k0 kf0 HRn HKn HR0 HK0;go_upto_region 8 with (go_at_call 72; refine (next_any q d (p + 1) bad _ HR1.out.scan hd).mono ?_; rintro e1 u2 ⟨rfl, hb1, hk1, hz1⟩; have HRn := hide2 (HR1.out.next hb1 hk1); have HKn := hide2 (HK1.out.kept hk1 hkq); have k0 := HKn.out.cell (j := 1) rfl; have kf0 := HKn.out.frozen 1; clear hb1 hk1 hz1);generalize byteAt d (p + 1) = x1 at *;obtain ⟨v2, hv⟩ : ∃ v, v = u2.setCell ⟨wr.heap.size, 1, none⟩ (.int .i64 x1) := ⟨_, rfl⟩
   rw [← hv];have HR2 := hide2 (HRn.out.other wr.heap.size 1 (.int .i64 x1) (fun e => hkq e.symm) HKR.out hkw);have HK2 := hide2 (HKn.out.setCell 1 (.int .i64 x1));rw [← hv] at HR2 HK2;clear hv k0 kf0 HRn HKn HR1 HK1;go_upto_region 9 with (go_at_call 72; refine (next_any q d (p + 1 + 1) bad _ HR2.out.scan hd).mono ?_; rintro e1 u3 ⟨rfl, hb1, hk1, hz1⟩; have HRn := hide2 (HR2.out.next hb1 hk1); have HKn := hide2 (HK2.out.kept hk1 hkq); have k0 := HKn.out.cell (j := 2) rfl; have kf0 := HKn.out.frozen 2; clear hb1 hk1 hz1);generalize byteAt d (p + 1 + 1) = x2 at *;obtain ⟨v3, hv⟩ : ∃ v, v = u3.setCell ⟨wr.heap.size, 2, none⟩ (.int .i64 x2) := ⟨_, rfl⟩
   rw [← hv];have HR3 := hide2 (HRn.out.other wr.heap.size 2 (.int .i64 x2) (fun e => hkq e.symm) HKR.out hkw);have HK3 := hide2 (HKn.out.setCell 2 (.int .i64 x2));rw [← hv] at HR3 HK3;clear hv k0 kf0 HRn HKn HR2 HK2;go_upto_region 10 with (go_at_call 72; refine (next_any q d (p + 1 + 1 + 1) bad _ HR3.out.scan hd).mono ?_; rintro e1 u4 ⟨rfl, hb1, hk1, hz1⟩; have HRn := hide2 (HR3.out.next hb1 hk1); have HKn := hide2 (HK3.out.kept hk1 hkq); have k0 := HKn.out.cell (j := 3) rfl; have kf0 := HKn.out.frozen 3; clear hb1 hk1 hz1);generalize byteAt d (p + 1 + 1 + 1) = x3 at *;obtain ⟨v4, hv⟩ : ∃ v, v = u4.setCell ⟨wr.heap.size, 3, none⟩ (.int .i64 x3) := ⟨_, rfl⟩
   rw [← hv];have HR4 := hide2 (HRn.out.other wr.heap.size 3 (.int .i64 x3) (fun e => hkq e.symm) HKR.out hkw);have HK4 := hide2 (HKn.out.setCell 3 (.int .i64 x3));rw [← hv] at HR4 HK4;clear hv k0 kf0 HRn HKn HR3 HK3;have k0 := HK4.out.cell (j := 0) rfl;have k1 := HK4.out.cell (j := 1) rfl;have k2 := HK4.out.cell (j := 2) rfl;have k3 := HK4.out.cell (j := 3) rfl;have HX : Hid (Below v4.heap.size v4 (v4.alloc (.cells #[.int .i64 x0, .int .i64 x1, .int .i64 x2, .int .i64 x3] 60))) := (Below.refl _ _).alloc (Nat.le_refl _) _;have HRW := hide2 (HR4.out.under HX.out).row
   go_wp2_with (at_builtin; go_loud (refine wpList_append_lies _ rfl _ _ _ rfl 0 60 j0 _ 4 32 Tryz.underlying37 hj0 hy0 hy1 hy2 rfl (by omega) s cs.length (cs.flatMap insCells) rfl HRW.out ⟨v4.heap.size, 0, none⟩ 1 1 [.int .i64 x0, .int .i64 x1, .int .i64 x2, .int .i64 x3] rfl rfl (World.news_of_block (cs := #[.int .i64 x0, .int .i64 x1, .int .i64 x2, .int .i64 x3]) (t := 60) (fr := (0, 0)) (heap_alloc_new v4 _)) (by simp [Value.oneCell']) (by omega) (by simp [maxLen]; omega) (by omega) (by simp) (v4.heap.size + 1) (by simp) ?_; intro gg cap2 w9 hown hgrow hat hlt2))
   have HN2 : Hid (SRow w w9 q d (pF d + 1 + 4 * (m + 1)) bad 60 4 (.slice (some ⟨gg, 0, none⟩) (cs.length + 1) cap2) ((pCode d).take (m + 1)).length (((pCode d).take (m + 1)).flatMap insCells)) := by
    have := HR4.out.add HX.out hown hgrow (by rcases hat with e | e; exact .inl e; right; omega);show SRow _ _ _ _ _ _ _ _ _ _ _;rw [HNX.out, HPI.out, HPE.out]
    simpa [insCells] using this
   go_roundw
   case rel => exact ⟨m + 1, _, by omega, by go_num, rfl, HN2⟩
   case measure => simp [intOf]; omega
  ·obtain rfl : m = pL d := by omega
   rw [show (pCode d).take (pL d) = pCode d from List.take_of_length_le (by rw [pCode_len]; omega)] at HR;obtain ⟨a, cap, rfl, -, -, -⟩ := row_open HR.out.row;go_wp2;go_ret;exact ⟨a, cap, rfl, HR.out.row, HR.out.far, HR.out.scan, HR.out.kept⟩
theorem kept_setCell {w wr : World} {q : Nat} (h : Kept w wr (· = q)) (b j : Nat) (v : Value) (hb : w.heap.size ≤ b) : Kept w (wr.setCell ⟨b, j, none⟩ v) (· = q) :=
 ⟨h.os, h.tape, h.output, by rw [World.size_setCell]; exact h.size, fun k hk hs => (Below.heap_setCell wr _ _ k (by show k ≠ b; omega)).trans (h.block k hk hs)⟩
set_option maxRecDepth 100000 in
set_option maxHeartbeats 3200000 in
theorem program_any (q : Nat) (d : ByteArray) (w : World) (h : Blk w q 70 (scV d 0 false)) (hd : (d.size : Int) ≤ 9223372036854775807) :
 Calls Tryz.prog 26 #[.pointer (some ⟨q, 0, none⟩)] w fun e w' => ∃ a cap ia icap, e = .returned (.agg #[.int .i64 (byteAt d 2), .int .i64 (byteAt d 3), .slice a (pCls d).length cap, .string (pDataG d (pM d)), .slice ia (pCode d).length icap]) ∧
  Rows2 w' (w.heap.size + 2) (.slice a (pCls d).length cap) (.slice ia (pCode d).length icap) (pCls d) (pCode d) ∧ Blk w' q 70 (scV d (pEnd d) (!pHead d)) ∧ Kept w w' (· = q) := by
 have hql := h.lt;have H := hide2 h;clear h;go_enter Tryz.func26, Tryz.ntmps26;go_upto_region 2 with (fail);obtain ⟨wa, hwa⟩ : ∃ wa, wa = (w.alloc (.cells zProg.toArray 39)).alloc (.cells zProg.toArray 39) := ⟨_, rfl⟩
 have hbl : Below w.heap.size w wa := by rw [hwa]; exact ((Below.refl _ _).alloc (Nat.le_refl _) _).alloc (by simp) _
 have hsa : wa.heap.size = w.heap.size + 2 := by rw [hwa]; simp
 have HZ : Hid (Blk wa w.heap.size 39 zProg) := by
  show Blk _ _ _ _; rw [hwa]; exact (Below.heap_alloc _ _ _ (by simp)).trans (heap_alloc_new w _)
 have HP : Hid (Blk wa (w.heap.size + 1) 39 zProg) := by
  show Blk _ _ _ _;rw [hwa, show w.heap.size + 1 = (w.alloc (.cells zProg.toArray 39)).heap.size by simp];exact heap_alloc_new _ _
 have HS := hide2 (H.out.below hbl hql);have HK : Hid (Kept w wa (· = q)) := Kept.of_below hbl _;have HSA := hide2 hsa;unfold zProg at hwa;rw [← hwa];clear hwa hbl hsa;have hpq : w.heap.size + 1 ≠ q := by omega
 have hzq : w.heap.size ≠ q := by omega
 go_upto_region 3 with (go_at_call 47; refine (head_any q d _ HS.out hd).mono ?_; rintro e1 w1 ⟨rfl, hb1, hk1, hz1⟩; have HS1 := hide2 hb1; have HK1 := hide2 (HK.out.trans hk1); have HP1 := hide2 (HP.out.kept hk1 hpq); have HZ1 := hide2 (HZ.out.kept hk1 hzq); have HSZ1 : Hid (w.heap.size + 2 ≤ w1.heap.size) := (by show _ ≤ _; rw [hz1, HSA.out]; omega); clear hb1 hk1 hz1);clear HS HK HP HZ HSA;have c0 := HP1.out.cell (j := 0) rfl;have c1 := HP1.out.cell (j := 1) rfl;have c2 := HP1.out.cell (j := 2) rfl;have f0 := HP1.out.frozen 0;have f1 := HP1.out.frozen 1;have f2 := HP1.out.frozen 2;go_upto_region 4 with (go_at_call 48; refine (conf_any q d _ _ HS1.out hd).mono ?_; rintro e1 w2 ⟨a, cap, rfl, hrow, hfar, hb1, hk1⟩; have HS2 := hide2 hb1; have HK2 := hide2 (HK1.out.trans hk1); have HP2 := hide2 (HP1.out.kept hk1 hpq); have HZ2 := hide2 (HZ1.out.kept hk1 hzq); have HRW := hide2 hrow; have HFR := hide2 hfar; have HSZ2 : Hid (w1.heap.size ≤ w2.heap.size) := hk1.size; have c0' := HP2.out.cell (j := 0) rfl; have c1' := HP2.out.cell (j := 1) rfl; have c2' := HP2.out.cell (j := 2) rfl; have f0' := HP2.out.frozen 0; have f1' := HP2.out.frozen 1; have f2' := HP2.out.frozen 2; clear hb1 hk1 hrow hfar);generalize hst : byteAt d 2 = st at *;generalize hre : byteAt d 3 = re at *;have HST := hide2 hst;have HRE := hide2 hre;clear hst hre;obtain ⟨w3, hw3⟩ : ∃ w3, w3 = ((w2.setCell ⟨w.heap.size + 1, 0, none⟩ (.int .i64 st)).setCell ⟨w.heap.size + 1, 1, none⟩ (.int .i64 re)).setCell ⟨w.heap.size + 1, 2, none⟩ (.slice a (pCls d).length cap) := ⟨_, rfl⟩
 rw [← hw3];have hsz1 := HSZ1.out;have hsz2 := HSZ2.out;have HP3 : Hid (Blk w3 (w.heap.size + 1) 39 [.int .i64 st, .int .i64 re, .slice a (pCls d).length cap, .string ⟨#[]⟩, .slice none 0 0]) := by show Blk _ _ _ _; rw [hw3]; exact ((HP2.out.setCell 0 _).setCell 1 _).setCell 2 _
 have hzp : w.heap.size ≠ w.heap.size + 1 := by omega
 have HZ3 : Hid (Blk w3 w.heap.size 39 zProg) := by show Blk _ _ _ _; rw [hw3]; exact ((HZ2.out.setCell_other _ _ hzp).setCell_other _ _ hzp).setCell_other _ _ hzp
 have hqp : q ≠ w.heap.size + 1 := by omega
 have HS3 : Hid (Blk w3 q 70 (scV d (pD d) (!pHead d))) := by show Blk _ _ _ _; rw [hw3]; exact ((HS2.out.setCell_other _ _ hqp).setCell_other _ _ hqp).setCell_other _ _ hqp
 have HK3 : Hid (Kept w w3 (· = q)) := by show Kept _ _ _; rw [hw3]; exact kept_setCell (kept_setCell (kept_setCell HK2.out _ _ _ (by omega)) _ _ _ (by omega)) _ _ _ (by omega)
 have HR3 : Hid (w3.ownsRow 0 84 2 (.slice a (pCls d).length cap) (pCls d).length ((pCls d).flatMap clsCells)) := by
  show w3.ownsRow _ _ _ _ _ _;refine row_kept HRW.out (fun g hg => ?_);have hn : g ≠ w.heap.size + 1 := by have := HFR.out g hg; omega
  rw [hw3, Below.heap_setCell _ _ _ g hn, Below.heap_setCell _ _ _ g hn, Below.heap_setCell _ _ _ g hn]
 have HSZ3 : Hid (w3.heap.size = w2.heap.size) := by show _ = _; rw [hw3]; simp
 clear hw3 c0 c1 c2 f0 f1 f2 c0' c1' c2' f0' f1' f2' HP1 HP2 HZ1 HZ2 HS1 HS2 HK1 HK2 HRW;have c3 := HP3.out.cell (j := 3) rfl;have f3 := HP3.out.frozen 3;go_upto_region 5 with (go_at_call 49; refine (data_any q d _ _ HS3.out hd).mono ?_; rintro e1 w4 ⟨rfl, hb1, hk1⟩; have HS4 := hide2 hb1; have HK4 := hide2 (HK3.out.trans hk1); have HP4 := hide2 (HP3.out.kept hk1 hpq); have HZ4 := hide2 (HZ3.out.kept hk1 hzq); have HKK := hide2 hk1; have HSZ4 : Hid (w3.heap.size ≤ w4.heap.size) := hk1.size; have c3' := HP4.out.cell (j := 3) rfl; have f3' := HP4.out.frozen 3; clear hb1 hk1);generalize hdt : pDataG d (pM d) = dt at *;have HDT := hide2 hdt;clear hdt;obtain ⟨w5, hw5⟩ : ∃ w5, w5 = w4.setCell ⟨w.heap.size + 1, 3, none⟩ (.string dt) := ⟨_, rfl⟩
 rw [← hw5];have HP5 : Hid (Blk w5 (w.heap.size + 1) 39 [.int .i64 st, .int .i64 re, .slice a (pCls d).length cap, .string dt, .slice none 0 0]) := by show Blk _ _ _ _; rw [hw5]; exact HP4.out.setCell 3 _
 have HZ5 : Hid (Blk w5 w.heap.size 39 zProg) := by show Blk _ _ _ _; rw [hw5]; exact HZ4.out.setCell_other _ _ hzp
 have HS5 : Hid (Blk w5 q 70 (scV d (pF d) (!pHead d))) := by show Blk _ _ _ _; rw [hw5]; exact HS4.out.setCell_other _ _ hqp
 have HK5 : Hid (Kept w w5 (· = q)) := by show Kept _ _ _; rw [hw5]; exact kept_setCell HK4.out _ _ _ (by omega)
 have hfq : ∀ g, (Value.slice a (pCls d).length cap).ownBlock = some g → g ≠ q ∧ g ≠ w.heap.size + 1 ∧ g ≠ w.heap.size := fun g hg => by have := HFR.out g hg; omega
 have HFQ := hide2 hfq
 have HR5 : Hid (w5.ownsRow 0 84 2 (.slice a (pCls d).length cap) (pCls d).length ((pCls d).flatMap clsCells)) := by
  show w5.ownsRow _ _ _ _ _ _;refine row_kept HR3.out (fun g hg => ?_);rw [hw5, Below.heap_setCell _ _ _ g (HFQ.out g hg).2.1, HKK.out.block g (own_lt HR3.out g hg) (HFQ.out g hg).1]
 have HSZ5 : Hid (w5.heap.size = w4.heap.size) := by show _ = _; rw [hw5]; simp
 clear hw5 c3 f3 c3' f3' HP3 HP4 HZ3 HZ4 HS3 HS4 HK3 HK4 HR3 HKK hfq;have c4 := HP5.out.cell (j := 4) rfl;have f4 := HP5.out.frozen 4;go_upto_region 6 with (go_at_call 50; refine (code_any q d _ _ HS5.out hd).mono ?_; rintro e1 w6 ⟨ia, icap, rfl, hrow, hfar, hb1, hk1⟩; have HS6 := hide2 hb1; have HK6 := hide2 (HK5.out.trans hk1); have HP6 := hide2 (HP5.out.kept hk1 hpq); have HZ6 := hide2 (HZ5.out.kept hk1 hzq); have HRI := hide2 hrow; have HFI := hide2 hfar; have HKK := hide2 hk1; have c4' := HP6.out.cell (j := 4) rfl; have f4' := HP6.out.frozen 4; clear hb1 hk1 hrow hfar);obtain ⟨w7, hw7⟩ : ∃ w7, w7 = w6.setCell ⟨w.heap.size + 1, 4, none⟩ (.slice ia (pCode d).length icap) := ⟨_, rfl⟩
 rw [← hw7];have HP7 : Hid (Blk w7 (w.heap.size + 1) 39 [.int .i64 st, .int .i64 re, .slice a (pCls d).length cap, .string dt, .slice ia (pCode d).length icap]) := by show Blk _ _ _ _; rw [hw7]; exact HP6.out.setCell 4 _
 have HZ7 : Hid (Blk w7 w.heap.size 39 zProg) := by show Blk _ _ _ _; rw [hw7]; exact HZ6.out.setCell_other _ _ hzp
 have HS7 : Hid (Blk w7 q 70 (scV d (pEnd d) (!pHead d))) := by show Blk _ _ _ _; rw [hw7]; exact HS6.out.setCell_other _ _ hqp
 have HK7 : Hid (Kept w w7 (· = q)) := by show Kept _ _ _; rw [hw7]; exact kept_setCell HK6.out _ _ _ (by omega)
 have hs3 := HSZ3.out;have hs4 := HSZ4.out;have hs5 := HSZ5.out
 have HR7 : Hid (Rows2 w7 (w.heap.size + 2) (.slice a (pCls d).length cap) (.slice ia (pCode d).length icap) (pCls d) (pCode d)) := by
  refine ⟨row_kept HR5.out (fun g hg => ?_), row_kept HRI.out (fun g hg => ?_), fun g hg => by have := HFR.out g hg; omega, fun g hg => by have := HFI.out g hg; omega, fun g hg e => ?_⟩
  ·rw [hw7, Below.heap_setCell _ _ _ g (HFQ.out g hg).2.1, HKK.out.block g (own_lt HR5.out g hg) (HFQ.out g hg).1]
  ·rw [hw7, Below.heap_setCell _ _ _ g (by have := HFI.out g hg; show g ≠ w.heap.size + 1; omega)]
  ·have h1 := own_lt HR5.out g hg;have h2 := HFI.out g e;omega
 clear hw7 c4 f4 c4' f4' HP5 HP6 HZ5 HZ6 HS5 HS6 HK5 HK6 HR5 HKK HRI HFI;have c0 := HP7.out.cell (j := 0) rfl;have c1 := HP7.out.cell (j := 1) rfl;have c2 := HP7.out.cell (j := 2) rfl;have c3 := HP7.out.cell (j := 3) rfl;have c4 := HP7.out.cell (j := 4) rfl;have z0 := HZ7.out.cell (j := 0) rfl;have z1 := HZ7.out.cell (j := 1) rfl;have z2 := HZ7.out.cell (j := 2) rfl;have z3 := HZ7.out.cell (j := 3) rfl;have z4 := HZ7.out.cell (j := 4) rfl;have zf0 := HZ7.out.frozen 0;have zf1 := HZ7.out.frozen 1;have zf2 := HZ7.out.frozen 2;have zf3 := HZ7.out.frozen 3;have zf4 := HZ7.out.frozen 4;go_wp2;refine bodyPost_ret (v := .agg #[.int .i64 st, .int .i64 re, .slice a (pCls d).length cap, .string dt, .slice ia (pCode d).length icap]) (by simp [results, Tryz.results26, go_sem, z0, z1, z2, z3, z4]) rfl ?_;rw [HST.out, HRE.out, HDT.out];refine ⟨a, cap, ia, icap, rfl, HR7.out.kept (fun g hg _ => ?_), ?_, ?_⟩
 ·have hn : g ≠ w.heap.size := by omega
  rw [Below.heap_setCell _ _ _ g hn, Below.heap_setCell _ _ _ g hn, Below.heap_setCell _ _ _ g hn, Below.heap_setCell _ _ _ g hn, Below.heap_setCell _ _ _ g hn]
 ·exact ((((HS7.out.setCell_other _ _ hzq.symm).setCell_other _ _ hzq.symm).setCell_other _ _ hzq.symm).setCell_other _ _ hzq.symm).setCell_other _ _ hzq.symm
 ·exact kept_setCell (kept_setCell (kept_setCell (kept_setCell (kept_setCell HK7.out _ _ _ (Nat.le_refl _)) _ _ _ (Nat.le_refl _)) _ _ _ (Nat.le_refl _)) _ _ _ (Nat.le_refl _)) _ _ _ (Nat.le_refl _)
set_option maxRecDepth 100000 in
set_option maxHeartbeats 3200000 in
theorem gread_any (d : ByteArray) (w : World) (hd : (d.size : Int) ≤ 9223372036854775807) : Calls Tryz.prog 13 #[.string d] w fun e w' =>
 ∃ a cap ia icap, e = .returned (.tuple #[.agg #[.int .i64 (oSt d), .int .i64 (oRest d), .slice a (oCls d).length cap, .string (oData d), .slice ia (oCode d).length icap], .int .i64 (oErr d)]) ∧
  Rows2 w' w.heap.size (.slice a (oCls d).length cap) (.slice ia (oCode d).length icap) (oCls d) (oCode d) ∧ Below w.heap.size w w' ∧ (imgB d = false → a = none ∧ cap = 0 ∧ ia = none ∧ icap = 0) := by
 go_enter Tryz.func13, Tryz.ntmps13;go_upto_region 2 with (fail);obtain ⟨wa, hwa⟩ : ∃ wa, wa = (w.alloc (.cells zProg.toArray 39)).alloc (.cells (scV d 0 false).toArray 70) := ⟨_, rfl⟩
 have hsc : scV d 0 false = [.string d, .int .i64 0, .bool false] := by simp [scV]
 have HBL : Hid (Below w.heap.size w wa) := by show Below _ _ _; rw [hwa]; exact ((Below.refl _ _).alloc (Nat.le_refl _) _).alloc (by simp) _
 have hsa : Hid (wa.heap.size = w.heap.size + 2) := by show _ = _; rw [hwa]; simp
 have HZ : Hid (Blk wa w.heap.size 39 zProg) := by
  show Blk _ _ _ _; rw [hwa]; exact (Below.heap_alloc _ _ _ (by simp)).trans (heap_alloc_new w _)
 have HS : Hid (Blk wa (w.heap.size + 1) 70 (scV d 0 false)) := by
  show Blk _ _ _ _;rw [hwa, show w.heap.size + 1 = (w.alloc (.cells zProg.toArray 39)).heap.size by simp];exact heap_alloc_new _ _
 rw [hsc] at hwa;unfold zProg at hwa;rw [← hwa];clear hwa hsc;go_upto_region 3 with (go_at_call 26; refine (program_any (w.heap.size + 1) d _ HS.out hd).mono ?_; rintro e1 w1 ⟨a, cap, ia, icap, rfl, hrows, hb1, hk1⟩; have HS1 := hide2 hb1; have HR1 := hide2 hrows; have HK1 := hide2 hk1; have HZ1 := hide2 (HZ.out.kept hk1 (by omega)); have hsz1 := hk1.size; clear hb1 hk1 hrows);have hwa2 := hsa.out;have HB1 : Hid (Below w.heap.size w w1) := ⟨by rw [HK1.out.os, HBL.out.os], by rw [HK1.out.tape, HBL.out.tape], by rw [HK1.out.output, HBL.out.output], by omega, fun k hk => (HK1.out.block k (by omega) (by omega)).trans (HBL.out.block k hk)⟩
 generalize hst : byteAt d 2 = st at *;generalize hre : byteAt d 3 = re at *;obtain ⟨w2, hw2⟩ : ∃ w2, w2 = w1.alloc (.cells #[.int .i64 st, .int .i64 re, .slice a (pCls d).length cap, .string (pDataG d (pM d)), .slice ia (pCode d).length icap] 39) := ⟨_, rfl⟩
 have HX2 : Hid (Below w1.heap.size w1 w2) := by show Below _ _ _; rw [hw2]; exact (Below.refl _ _).alloc (Nat.le_refl _) _
 have HP2 : Hid (Blk w2 w1.heap.size 39 [.int .i64 st, .int .i64 re, .slice a (pCls d).length cap, .string (pDataG d (pM d)), .slice ia (pCode d).length icap]) := by show Blk _ _ _ _; rw [hw2]; exact Blk.alloc _ _ _
 rw [← hw2];have HST := hide2 hst;have HRE := hide2 hre;clear hst hre hw2;have HS2 := hide2 (HS1.out.below HX2.out HS1.out.lt);have HZ2 := hide2 (HZ1.out.below HX2.out HZ1.out.lt);have HR2 := hide2 ((HR1.out.kept (fun g _ hg => HX2.out.block g hg)).le (show w.heap.size + 2 ≤ wa.heap.size + 2 by omega));have HB2 : Hid (Below w.heap.size w w2) := HB1.out.trans (HX2.out.mono (by omega));have hpz : w1.heap.size ≠ w.heap.size := by omega
 clear HS HZ HBL HS1 HZ1 HR1 HB1 hsa HK1 HX2;have s1 := HS2.out.cell (j := 1) rfl;have s2 := HS2.out.cell (j := 2) rfl;have z0 := HZ2.out.cell (j := 0) rfl;have z1 := HZ2.out.cell (j := 1) rfl;have z2 := HZ2.out.cell (j := 2) rfl;have z3 := HZ2.out.cell (j := 3) rfl;have z4 := HZ2.out.cell (j := 4) rfl;have zf0 := HZ2.out.frozen 0;have zf1 := HZ2.out.frozen 1;have zf2 := HZ2.out.frozen 2;have zf3 := HZ2.out.frozen 3;have zf4 := HZ2.out.frozen 4;have p0 := HP2.out.cell (j := 0) rfl;have p1 := HP2.out.cell (j := 1) rfl;have p2 := HP2.out.cell (j := 2) rfl;have p3 := HP2.out.cell (j := 3) rfl;have p4 := HP2.out.cell (j := 4) rfl
 cases hh : pHead d with
 | false =>
   have HY := hide2 (o_no (d := d) (by unfold imgB; rw [hh]; rfl));rw [hh] at s2;simp only [Bool.not_false, Bool.true_or] at s2;go_wp2;refine bodyPost_ret (v := .tuple #[.agg zProg.toArray, .int .i64 10]) (by simp [results, Tryz.results13, go_sem, z0, z1, z2, z3, z4, zProg]) rfl ?_;obtain ⟨y0, y1, y2, y3, y4, y5⟩ := HY.out;rw [y0, y1, y2, y3, y4, y5];exact ⟨none, 0, none, 0, rfl, rows2_nil _ _, below_set5 HB2.out _ _ _ _ _, fun _ => ⟨rfl, rfl, rfl, rfl⟩⟩
 | true =>
   rw [hh] at s2
   rcases Nat.lt_trichotomy (pEnd d) d.size with hlt | heq | hgt
   ·have HY := hide2 (o_no (d := d) (by unfold imgB; rw [show decide (pEnd d = d.size) = false by simp; omega]; simp));rw [show (!true || decide (d.size < pEnd d)) = false by simp; omega] at s2;rw [show min (pEnd d) d.size = pEnd d by omega] at s1;have hne : (((pEnd d : Nat) : Int) != ((d.size : Nat) : Int)) = true := by rw [bne_iff_ne]; omega
    go_wp2;refine bodyPost_ret (v := .tuple #[.agg zProg.toArray, .int .i64 10]) (by simp [results, Tryz.results13, go_sem, z0, z1, z2, z3, z4, zProg]) rfl ?_;obtain ⟨y0, y1, y2, y3, y4, y5⟩ := HY.out;rw [y0, y1, y2, y3, y4, y5];exact ⟨none, 0, none, 0, rfl, rows2_nil _ _, below_set5 HB2.out _ _ _ _ _, fun _ => ⟨rfl, rfl, rfl, rfl⟩⟩
   ·rw [show (!true || decide (d.size < pEnd d)) = false by simp; omega] at s2;rw [show min (pEnd d) d.size = d.size by omega] at s1;have hne : (((d.size : Nat) : Int) != ((d.size : Nat) : Int)) = false := by simp
    have hF := pEnd_F heq
    cases hs : pSound d (pM d) with
    | false =>
      have HY := hide2 (o_no (d := d) (by unfold imgB; rw [hs]; simp));have HSB : Hid (soundB st re (pCls d) (pDataG d (pM d)).size (pCode d) = false) := by show _ = _; rw [pDataG_size, ← HST.out, ← HRE.out]; exact hs
      go_wp2_with (go_at_call 27; refine (validProgram_any st re a cap (pCls d) (pDataG d (pM d)) ia icap (pCode d) _ (crow_of HR2.out.crow) (irow_of HR2.out.irow)).mono ?_; rw [HSB.out]; rintro e2 w3 ⟨rfl, hb3⟩; have HB3 := hide2 (HB2.out.trans (hb3.mono HB2.out.size)); have HZ3 := hide2 (HZ2.out.below hb3 HZ2.out.lt); have zz0 := HZ3.out.cell (j := 0) rfl; have zz1 := HZ3.out.cell (j := 1) rfl; have zz2 := HZ3.out.cell (j := 2) rfl; have zz3 := HZ3.out.cell (j := 3) rfl; have zz4 := HZ3.out.cell (j := 4) rfl; have zzf0 := HZ3.out.frozen 0; have zzf1 := HZ3.out.frozen 1; have zzf2 := HZ3.out.frozen 2; have zzf3 := HZ3.out.frozen 3; have zzf4 := HZ3.out.frozen 4; clear hb3)
      refine bodyPost_ret (v := .tuple #[.agg zProg.toArray, .int .i64 10]) (by simp [results, Tryz.results13, go_sem, zz0, zz1, zz2, zz3, zz4, zProg]) rfl ?_;obtain ⟨y0, y1, y2, y3, y4, y5⟩ := HY.out;rw [y0, y1, y2, y3, y4, y5];exact ⟨none, 0, none, 0, rfl, rows2_nil _ _, below_set5 HB3.out _ _ _ _ _, fun _ => ⟨rfl, rfl, rfl, rfl⟩⟩
    | true =>
      have hB : imgB d = true := by unfold imgB; rw [hh, hs]; simp [heq]
      have HY := hide2 (o_yes hB);have HBB := hide2 hB;have HDT : Hid (pDataG d (pM d) = pData d) := by show _ = _; rw [pDataG_eq (by omega)]; unfold pData; rw [if_pos (by omega)]
      have HSB : Hid (soundB st re (pCls d) (pDataG d (pM d)).size (pCode d) = true) := by show _ = _; rw [pDataG_size, ← HST.out, ← HRE.out]; exact hs
      clear hB
      go_wp2_with (go_at_call 27; refine (validProgram_any st re a cap (pCls d) (pDataG d (pM d)) ia icap (pCode d) _ (crow_of HR2.out.crow) (irow_of HR2.out.irow)).mono ?_; rw [HSB.out]; rintro e2 w3 ⟨rfl, hb3⟩; have HB3 := hide2 (HB2.out.trans (hb3.mono HB2.out.size)); have HZ3 := hide2 (HZ2.out.below hb3 HZ2.out.lt); have HP3 := hide2 (HP2.out.below hb3 HP2.out.lt); have HR3 := hide2 (HR2.out.kept (fun g _ hg => hb3.block g hg)); have zz0 := HZ3.out.cell (j := 0) rfl; have zz1 := HZ3.out.cell (j := 1) rfl; have zz2 := HZ3.out.cell (j := 2) rfl; have zz3 := HZ3.out.cell (j := 3) rfl; have zz4 := HZ3.out.cell (j := 4) rfl; have zzf0 := HZ3.out.frozen 0; have zzf1 := HZ3.out.frozen 1; have zzf2 := HZ3.out.frozen 2; have zzf3 := HZ3.out.frozen 3; have zzf4 := HZ3.out.frozen 4; have pp0 := HP3.out.cell (j := 0) rfl; have pp1 := HP3.out.cell (j := 1) rfl; have pp2 := HP3.out.cell (j := 2) rfl; have pp3 := HP3.out.cell (j := 3) rfl; have pp4 := HP3.out.cell (j := 4) rfl; clear hb3)
      refine bodyPost_ret (v := .tuple #[.agg #[.int .i64 st, .int .i64 re, .slice a (pCls d).length cap, .string (pDataG d (pM d)), .slice ia (pCode d).length icap], .int .i64 0]) (by simp [results, Tryz.results13, go_sem, zz0, zz1, zz2, zz3, zz4]) rfl ?_;obtain ⟨y0, y1, y2, y3, y4, y5⟩ := HY.out;rw [y0, y1, y2, y3, y4, y5, HST.out, HRE.out, HDT.out];refine ⟨a, cap, ia, icap, rfl, (HR3.out.kept (fun g hg _ => ?_)).le (by omega), below_set5 HB3.out _ _ _ _ _, fun h => by rw [HBB.out] at h; cases h⟩;have hn : g ≠ w.heap.size := by omega
      rw [Below.heap_setCell _ _ _ g hn, Below.heap_setCell _ _ _ g hn, Below.heap_setCell _ _ _ g hn, Below.heap_setCell _ _ _ g hn, Below.heap_setCell _ _ _ g hn]
   ·have HY := hide2 (o_no (d := d) (by unfold imgB; rw [show decide (pEnd d = d.size) = false by simp; omega]; simp));rw [show (!true || decide (d.size < pEnd d)) = true by simp; omega] at s2;go_wp2;refine bodyPost_ret (v := .tuple #[.agg zProg.toArray, .int .i64 10]) (by simp [results, Tryz.results13, go_sem, z0, z1, z2, z3, z4, zProg]) rfl ?_;obtain ⟨y0, y1, y2, y3, y4, y5⟩ := HY.out;rw [y0, y1, y2, y3, y4, y5];exact ⟨none, 0, none, 0, rfl, rows2_nil _ _, below_set5 HB2.out _ _ _ _ _, fun _ => ⟨rfl, rfl, rfl, rfl⟩⟩
structure GSlot where
 state : Int
 tag : Int
 bytes : Int
 rest : Int
 alloc : Int
 gone : Int
def GSlot.no : GSlot := ⟨0, 0, 0, 0, 0, 0⟩
def GSlot.virgin : GSlot := ⟨2, 0, 0, 0, 0, 0⟩
def slotCells (x : GSlot) : List Value := [.int .i64 x.state, .int .i64 x.tag, .int .i64 x.bytes, .int .i64 x.rest, .int .i64 x.alloc, .int .i64 x.gone]
structure GCls where
 begin_ : Int
 bytes : Int
 slots : List GSlot
 sb : Nat
def GCls.no : GCls := ⟨0, 0, [], 0⟩
def gclsCells (c : GCls) : List Value := [.int .i64 c.begin_, .int .i64 c.bytes, .slice (some ⟨c.sb, 0, none⟩) c.slots.length c.slots.length]
structure GSt where
 st : Int
 rest : Int
 cs : List GCls
 mem : List Int
structure GRep (w : World) (p : Nat) (vc : Value) (bb : Nat) (G : GSt) : Prop where
 blk : Blk w p 79 [.int .i64 G.st, .int .i64 G.rest, vc, .slice (some ⟨bb, 0, none⟩) G.mem.length G.mem.length]
 cls : w.ownsRow 0 124 3 vc G.cs.length (G.cs.flatMap gclsCells)
 slots : ∀ k, k < G.cs.length → Blk w (G.cs.getD k GCls.no).sb 146 ((G.cs.getD k GCls.no).slots.flatMap slotCells)
 mem : Blk w bb 5 (G.mem.map (Value.int .u8))
 apC : vc.ownBlock ≠ some p
 apB : bb ≠ p
 apCB : vc.ownBlock ≠ some bb
 apS : ∀ k, k < G.cs.length → (G.cs.getD k GCls.no).sb ≠ p ∧ (G.cs.getD k GCls.no).sb ≠ bb ∧ vc.ownBlock ≠ some (G.cs.getD k GCls.no).sb
 apSS : ∀ j k, j < G.cs.length → k < G.cs.length → j ≠ k → (G.cs.getD j GCls.no).sb ≠ (G.cs.getD k GCls.no).sb
def GFoot (p : Nat) (vc : Value) (bb : Nat) (G : GSt) (b : Nat) : Prop := b = p ∨ vc.ownBlock = some b ∨ b = bb ∨ ∃ k, k < G.cs.length ∧ b = (G.cs.getD k GCls.no).sb
theorem GRep.foot_lt {w : World} {p : Nat} {vc : Value} {bb : Nat} {G : GSt} (h : GRep w p vc bb G) {b : Nat} (hb : GFoot p vc bb G b) : b < w.heap.size := by
 rcases hb with rfl | hb | rfl | ⟨k, hk, rfl⟩
 ·exact h.blk.lt
 ·exact row_lt h.cls hb
 ·exact h.mem.lt
 ·exact (h.slots k hk).lt
theorem GRep.kept {w w' : World} {p : Nat} {vc : Value} {bb : Nat} {G : GSt} (h : GRep w p vc bb G) (hk : ∀ b, GFoot p vc bb G b → w'.heap[b]? = w.heap[b]?) : GRep w' p vc bb G :=
 ⟨(hk p (.inl rfl)).trans h.blk, row_kept h.cls (fun g hg => hk g (.inr (.inl hg))), fun k hk' => (hk _ (.inr (.inr (.inr ⟨k, hk', rfl⟩)))).trans (h.slots k hk'), (hk bb (.inr (.inr (.inl rfl)))).trans h.mem, h.apC, h.apB, h.apCB, h.apS, h.apSS⟩
theorem GRep.below {w w' : World} {p : Nat} {vc : Value} {bb : Nat} {G : GSt} (h : GRep w p vc bb G) (hb : Below w.heap.size w w') : GRep w' p vc bb G :=
 h.kept fun b hf => hb.block b (h.foot_lt hf)
theorem flat_set {α : Type} (enc : α → List Value) (m : Nat) (hm : ∀ x, (enc x).length = m) (xs : List α) (d : α) (i j : Nat) (hi : i < xs.length) (hj : j < m) (x' : α) (v : Value) (h : enc x' = (enc (xs.getD i d)).set j v) :
 (xs.flatMap enc).set (i * m + j) v = (xs.set i x').flatMap enc := by
 induction xs generalizing i with
 | nil => simp at hi
 | cons x xs ih =>
   cases i with
   | zero =>
     simp only [Nat.zero_mul, Nat.zero_add, List.flatMap_cons, List.set_cons_zero];rw [List.set_append_left _ _ (by rw [hm]; exact hj)];simp only [List.getD_cons_zero] at h;rw [h]
   | succ i =>
     simp only [List.flatMap_cons, List.set_cons_succ];rw [List.set_append_right _ _ (by rw [hm, Nat.succ_mul]; omega), hm, show (i + 1) * m + j - m = i * m + j by rw [Nat.succ_mul]; omega];rw [ih i (by simpa using hi) (by simpa using h)]
theorem slot_cells {w : World} {b : Nat} {xs : List GSlot} (h : Blk w b 146 (xs.flatMap slotCells)) (i : Nat) (hi : i < xs.length) :
 w.cell? ⟨b, i * 6, none⟩ = some (.int .i64 (xs.getD i GSlot.no).state) ∧ w.cell? ⟨b, i * 6 + 1, none⟩ = some (.int .i64 (xs.getD i GSlot.no).tag) ∧ w.cell? ⟨b, i * 6 + 2, none⟩ = some (.int .i64 (xs.getD i GSlot.no).bytes) ∧
 w.cell? ⟨b, i * 6 + 3, none⟩ = some (.int .i64 (xs.getD i GSlot.no).rest) ∧ w.cell? ⟨b, i * 6 + 4, none⟩ = some (.int .i64 (xs.getD i GSlot.no).alloc) ∧ w.cell? ⟨b, i * 6 + 5, none⟩ = some (.int .i64 (xs.getD i GSlot.no).gone) := by
 have h6 : ∀ j, j < 6 → (xs.flatMap slotCells)[i * 6 + j]? = (slotCells (xs.getD i GSlot.no))[j]? := fun j hj => by
  rw [flat_get slotCells 6 (fun _ => rfl) xs i j hj, List.getElem?_eq_getElem hi];simp [List.getD_eq_getElem?_getD, List.getElem?_eq_getElem hi]
 have hx := fun j (hj : j < 6) u hu => h.cell (j := i * 6 + j) (v := u) (by rw [h6 j hj]; exact hu)
 exact ⟨hx 0 (by omega) _ rfl, hx 1 (by omega) _ rfl, hx 2 (by omega) _ rfl, hx 3 (by omega) _ rfl, hx 4 (by omega) _ rfl, hx 5 (by omega) _ rfl⟩
theorem gcls_cells {w : World} {g : Nat} {cs : List GCls} (hc : ∀ j u, (cs.flatMap gclsCells)[j]? = some u → w.cell? ⟨g, j, none⟩ = some u) (i : Nat) (hi : i < cs.length) :
 w.cell? ⟨g, i * 3, none⟩ = some (.int .i64 (cs.getD i GCls.no).begin_) ∧ w.cell? ⟨g, i * 3 + 1, none⟩ = some (.int .i64 (cs.getD i GCls.no).bytes) ∧ w.cell? ⟨g, i * 3 + 2, none⟩ = some (.slice (some ⟨(cs.getD i GCls.no).sb, 0, none⟩) (cs.getD i GCls.no).slots.length (cs.getD i GCls.no).slots.length) := by
 have h6 : ∀ j, j < 3 → (cs.flatMap gclsCells)[i * 3 + j]? = (gclsCells (cs.getD i GCls.no))[j]? := fun j hj => by
  rw [flat_get gclsCells 3 (fun _ => rfl) cs i j hj, List.getElem?_eq_getElem hi];simp [List.getD_eq_getElem?_getD, List.getElem?_eq_getElem hi]
 have hx := fun j (hj : j < 3) u hu => hc (i * 3 + j) u (by rw [h6 j hj]; exact hu)
 exact ⟨hx 0 (by omega) _ rfl, hx 1 (by omega) _ rfl, hx 2 (by omega) _ rfl⟩
end Go.Proofs.YtjikemhmnkckcabGreat
