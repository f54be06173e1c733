import Derived.Test.YtjikemhmnkckcabGreatJ9
namespace Go.Proofs.YtjikemhmnkckcabGreat
open Go.RowKit
def scV (d : ByteArray) (k : Nat) (bad : Bool) : List Value := [.string d, .int .i64 ((min k d.size : Nat) : Int), .bool (bad || decide (d.size < k))]
theorem Kept.drewN {w w' : World} {S : Nat → Prop} (h : Kept w w' S) (n : Nat) : Kept w (w'.drewN n) S := ⟨h.os, h.tape, h.output, h.size, h.block⟩
set_option maxRecDepth 100000 in
set_option maxHeartbeats 800000 in
theorem next_any (q : Nat) (d : ByteArray) (k : Nat) (bad : Bool) (w : World) (h : Blk w q 70 (scV d k bad)) (hd : (d.size : Int) ≤ 9223372036854775807) :
 Calls Tryz.prog 72 #[.pointer (some ⟨q, 0, none⟩)] w fun e w' => e = .returned (.int .i64 (byteAt d k)) ∧ Blk w' q 70 (scV d (k + 1) bad) ∧ Kept w w' (· = q) ∧ w'.heap.size = w.heap.size := by
 have H := hide2 h;have c0 := h.cell (j := 0) rfl;have c1 := h.cell (j := 1) rfl;have c2 := h.cell (j := 2) rfl;have f1 := h.frozen 1;have f2 := h.frozen 2;clear h
 by_cases hk : k < d.size
 ·have e1 : min k d.size = k := by omega
  rw [e1] at c1;have hI : (k : Int) < (d.size : Int) := by omega
  have hv : byteAt d k = (d[k].toNat : Int) := byteAt_lt hk;have hb := byteAt_bd d k;rw [hv] at hb;have HV := hide2 hv;clear hv e1;go_enter Tryz.func72, Tryz.ntmps72;go_wp2
  go_quiet (fail)
  go_wp2
  go_quiet (fail)
  go_wp2;go_ret;have hb2 := fun n => (show Blk (w.drewN n) q 70 (scV d k bad) from H.out).setCell 1 (.int .i64 ((k : Int) + 1))
  rw [show (scV d k bad).set 1 (.int .i64 ((k : Int) + 1)) = scV d (k + 1) bad by
   unfold scV;rw [show min (k + 1) d.size = k + 1 by omega, show decide (d.size < k) = false by simp; omega, show decide (d.size < k + 1) = false by simp; omega];simp] at hb2
  exact ⟨by rw [HV.out]; rfl, hb2 _, ((Kept.refl w _).drewN _).setCell _ _ rfl, by simp⟩
 ·have e1 : min k d.size = d.size := by omega
  rw [e1] at c1;have hI : (d.size : Int) ≤ (d.size : Int) := by omega
  have HV := hide2 (byteAt_ge (d := d) (k := k) (by omega));clear e1;go_enter Tryz.func72, Tryz.ntmps72;go_wp2
  go_quiet (fail)
  go_wp2;go_ret;have hb2 := fun n => (show Blk (w.drewN n) q 70 (scV d k bad) from H.out).setCell 2 (.bool true)
  rw [show (scV d k bad).set 2 (.bool true) = scV d (k + 1) bad by
   unfold scV;rw [show min (k + 1) d.size = min k d.size by omega, show decide (d.size < k + 1) = true by simp; omega];simp] at hb2
  exact ⟨by rw [HV.out]; rfl, hb2 _, ((Kept.refl w _).drewN _).setCell _ _ rfl, by simp⟩
def badH (d : ByteArray) : Nat → Bool
 | 0 => false
 | 1 => !(byteAt d 0 == 71)
 | _ => !(byteAt d 0 == 71) || !(byteAt d 1 == 82)
theorem badH_two (d : ByteArray) : badH d 2 = !pHead d := by unfold badH pHead; simp
theorem badH_step (d : ByteArray) (m : Nat) (hm : m < 2) : badH d (m + 1) = (badH d m || !(byteAt d m == (if m = 0 then 71 else 82))) := by
 rcases (show m = 0 ∨ m = 1 by omega) with rfl | rfl <;> simp [badH]
theorem scV_bad (d : ByteArray) (k : Nat) (b : Bool) : (scV d k b).set 2 (.bool true) = scV d k true := by simp [scV]
set_option maxRecDepth 100000 in
set_option maxHeartbeats 1600000 in
theorem head_any (q : Nat) (d : ByteArray) (w : World) (h : Blk w q 70 (scV d 0 false)) (hd : (d.size : Int) ≤ 9223372036854775807) :
 Calls Tryz.prog 47 #[.pointer (some ⟨q, 0, none⟩)] w fun e w' => e = .returned (.tuple #[]) ∧ Blk w' q 70 (scV d 2 (!pHead d)) ∧ Kept w w' (· = q) ∧ w'.heap.size = w.heap.size := by
 have g0 : wrap64 (((⟨#[71, 82]⟩ : ByteArray)[0]'(by decide)).toNat : Int) = 71 := by kernel_rfl
 have g1 : wrap64 (((⟨#[71, 82]⟩ : ByteArray)[1]'(by decide)).toNat : Int) = 82 := by kernel_rfl
 have H := hide2 h;clear h;go_enter Tryz.func47, Tryz.ntmps47;go_wp2
 go_loopw [2] (fun i wr => ∃ m : Nat, m ≤ 2 ∧ i = .int .i64 (m : Int) ∧ Hid (Blk wr q 70 (scV d m (badH d m))) ∧ Hid (Kept w wr (· = q)) ∧ Hid (wr.heap.size = w.heap.size)) (fun i _ => 2 - (intOf i).toNat)
 case atStart => exact ⟨0, by omega, rfl, H, Kept.refl _ _, rfl⟩
 case round =>
  obtain ⟨m, hm, rfl, HR, HK, HZ⟩ := hrel
  by_cases hlt : m < 2
  ·have HBD := hide2 (badH_step d m hlt);have hbb := byteAt_bd d m
   rcases (show m = 0 ∨ m = 1 by omega) with rfl | rfl
   ·go_upto_region 4 with (go_at_call 72; refine (next_any q d _ _ _ HR.out hd).mono ?_; rintro e1 w1 ⟨rfl, hb1, hk1, hz1⟩; have HB1 := hide2 hb1; have HK1 : Hid (Kept w w1 (· = q)) := HK.out.trans hk1; have HZ1 : Hid (w1.heap.size = w.heap.size) := hz1.trans HZ.out; have c2 := hb1.cell (j := 2) rfl; have f2 := hb1.frozen 2; clear hb1 hk1 hz1)
    by_cases he : byteAt d 0 = 71
    ·have HN : Hid (badH d (0 + 1) = badH d 0) := by show _ = _; rw [HBD.out, he]; simp
     rw [he];clear he hbb;go_wp2
     go_roundw
     case rel => exact ⟨0 + 1, by omega, by go_num, by rw [HN.out]; exact HB1, HK1, HZ1⟩
     case measure => simp [intOf]
    ·have HN : Hid (badH d (0 + 1) = true) := by show _ = _; rw [HBD.out]; simp [he]
     have hx : (byteAt d 0 != 71) = true := by simpa using he
     generalize byteAt d 0 = x at *;go_wp2
     go_roundw
     case rel => exact ⟨0 + 1, by omega, by go_num, by rw [HN.out, ← scV_bad d (0 + 1) (badH d 0)]; exact HB1.out.setCell 2 _, HK1.out.setCell _ _ rfl, (World.size_setCell _ _ _).trans HZ1.out⟩
     case measure => simp [intOf]
   ·go_upto_region 4 with (go_at_call 72; refine (next_any q d _ _ _ HR.out hd).mono ?_; rintro e1 w1 ⟨rfl, hb1, hk1, hz1⟩; have HB1 := hide2 hb1; have HK1 : Hid (Kept w w1 (· = q)) := HK.out.trans hk1; have HZ1 : Hid (w1.heap.size = w.heap.size) := hz1.trans HZ.out; have c2 := hb1.cell (j := 2) rfl; have f2 := hb1.frozen 2; clear hb1 hk1 hz1)
    by_cases he : byteAt d 1 = 82
    ·have HN : Hid (badH d (1 + 1) = badH d 1) := by show _ = _; rw [HBD.out, he]; simp
     rw [he];clear he hbb;go_wp2
     go_roundw
     case rel => exact ⟨1 + 1, by omega, by go_num, by rw [HN.out]; exact HB1, HK1, HZ1⟩
     case measure => simp [intOf]
    ·have HN : Hid (badH d (1 + 1) = true) := by show _ = _; rw [HBD.out]; simp [he]
     have hx : (byteAt d 1 != 82) = true := by simpa using he
     generalize byteAt d 1 = x at *;go_wp2
     go_roundw
     case rel => exact ⟨1 + 1, by omega, by go_num, by rw [HN.out, ← scV_bad d (1 + 1) (badH d 1)]; exact HB1.out.setCell 2 _, HK1.out.setCell _ _ rfl, (World.size_setCell _ _ _).trans HZ1.out⟩
     case measure => simp [intOf]
  ·obtain rfl : m = 2 := by omega
   rw [badH_two] at HR;go_wp2;go_end0;exact ⟨rfl, HR.out, HK.out, HZ.out⟩
structure SBox (w wr : World) (q cb : Nat) (d : ByteArray) (k : Nat) (bad : Bool) (st rest : Int) (vc : Value) (cls : List (Int × Int)) : Prop where
 kept : Kept w wr (· = q)
 scan : Blk wr q 70 (scV d k bad)
 blk : Blk wr cb 36 [.int .i64 st, .int .i64 rest, vc]
 row : wr.ownsRow 0 84 2 vc cls.length (cls.flatMap clsCells)
 base : w.heap.size ≤ cb
 scb : q < w.heap.size
 far : ∀ g, vc.ownBlock = some g → cb < g
section
variable {w wr : World} {q cb : Nat} {d : ByteArray} {k : Nat} {bad : Bool} {st rest : Int} {vc : Value} {cls : List (Int × Int)}
theorem SBox.under {wx : World} (h : SBox w wr q cb d k bad st rest vc cls) (hx : Below wr.heap.size wr wx) : SBox w wx q cb d k bad st rest vc cls :=
 ⟨h.kept.trans (Kept.of_below hx _), h.scan.below hx h.scan.lt, h.blk.below hx h.blk.lt, row_below h.row hx (own_lt h.row), h.base, h.scb, h.far⟩
theorem SBox.next {wx : World} {k' : Nat} (h : SBox w wr q cb d k bad st rest vc cls) (hs : Blk wx q 70 (scV d k' bad)) (hk : Kept wr wx (· = q)) : SBox w wx q cb d k' bad st rest vc cls :=
 ⟨h.kept.trans hk, hs, h.blk.kept hk (by have := h.base; have := h.scb; omega), row_kept h.row (fun g hg => hk.block g (own_lt h.row g hg) (by have := h.far g hg; have := h.base; have := h.scb; omega)), h.base, h.scb, h.far⟩
theorem SBox.num {j : Nat} {wx : World} (h : SBox w wr q cb d k bad st rest vc cls) (v : Value) (hx : wx = wr.setCell ⟨cb, j, none⟩ v) (st' rest' : Int) (he : ([.int .i64 st, .int .i64 rest, vc] : List Value).set j v = [.int .i64 st', .int .i64 rest', vc]) :
 SBox w wx q cb d k bad st' rest' vc cls := by
 subst hx;have hb := h.blk.setCell j v;rw [he] at hb;have hqc : q ≠ cb := by have := h.base; have := h.scb; omega
 refine ⟨⟨by rw [← h.kept.os]; rfl, by rw [← h.kept.tape]; rfl, by rw [← h.kept.output]; rfl, by rw [World.size_setCell]; exact h.kept.size, fun b hb hs => (Below.heap_setCell wr _ _ b (by have := h.base; show b ≠ cb; omega)).trans (h.kept.block b hb hs)⟩, h.scan.setCell_other _ _ hqc, hb, row_kept h.row (fun g hg => Below.heap_setCell wr _ _ g (by have := h.far g hg; show g ≠ cb; omega)), h.base, h.scb, h.far⟩
theorem SBox.other (h : SBox w wr q cb d k bad st rest vc cls) (b j : Nat) (v : Value) (h1 : q ≠ b) (h2 : cb ≠ b) (h3 : ∀ g, vc.ownBlock = some g → g ≠ b) (h4 : w.heap.size ≤ b) : SBox w (wr.setCell ⟨b, j, none⟩ v) q cb d k bad st rest vc cls :=
 ⟨⟨by rw [← h.kept.os]; rfl, by rw [← h.kept.tape]; rfl, by rw [← h.kept.output]; rfl, by rw [World.size_setCell]; exact h.kept.size, fun b' hb hs => (Below.heap_setCell wr _ _ b' (by show b' ≠ b; omega)).trans (h.kept.block b' hb hs)⟩, h.scan.setCell_other _ _ h1, h.blk.setCell_other _ _ h2, row_kept h.row (fun g hg => Below.heap_setCell wr _ _ g (h3 g hg)), h.base, h.scb, h.far⟩
theorem SBox.add {wx w2 : World} {g cap : Nat} {c : Int × Int} (h : SBox w wr q cb d k bad st rest vc cls) (hx : Below wr.heap.size wr wx) (hown : w2.ownsRow 0 84 2 (.slice (some ⟨g, 0, none⟩) (cls.length + 1) cap) (cls.length + 1) (cls.flatMap clsCells ++ clsCells c))
 (hgrow : wx.grownBy w2 vc.ownBlock) (hat : vc.ownBlock = some g ∨ wr.heap.size ≤ g) : SBox w (w2.setCell ⟨cb, 2, none⟩ (.slice (some ⟨g, 0, none⟩) (cls.length + 1) cap)) q cb d k bad st rest (.slice (some ⟨g, 0, none⟩) (cls.length + 1) cap) (cls ++ [c]) := by
 have hu := h.under hx;have hbl := h.blk.lt;have hxs := hx.size;have hbs := h.base;have hscb := h.scb
 have hgp : cb < g := by
  rcases hat with e | e
  ·exact h.far g e
  ·omega
 have hks := h.kept.size;have hblk : Blk w2 cb 36 [.int .i64 st, .int .i64 rest, vc] := (hgrow.block cb (by omega) (fun e => by have := h.far cb e.symm; omega)).trans hu.blk;have hsc : Blk w2 q 70 (scV d k bad) := (hgrow.block q (by omega) (fun e => by have := h.far q e.symm; omega)).trans hu.scan;refine ⟨⟨by rw [← hu.kept.os, ← hgrow.os]; rfl, by rw [← hu.kept.tape, ← hgrow.tape]; rfl, by rw [← hu.kept.output, ← hgrow.output]; rfl, by rw [World.size_setCell]; exact Nat.le_trans hu.kept.size hgrow.size, fun b hb hs => ?_⟩, hsc.setCell_other _ _ (by show q ≠ cb; omega), hblk.setCell 2 _, ?_, h.base, h.scb, fun g' hg' => ?_⟩
 ·rw [Below.heap_setCell w2 _ _ b (by show b ≠ cb; omega), hgrow.block b (by omega) (fun e => by have := h.far b e.symm; omega)];exact hu.kept.block b hb hs
 ·refine row_kept ?_ (fun g' hg' => Below.heap_setCell w2 _ _ g' (by simp [Value.ownBlock] at hg'; show g' ≠ cb; omega))
  simpa using hown
 ·simp [Value.ownBlock] at hg'; omega
end
set_option maxRecDepth 100000 in
set_option maxHeartbeats 3200000 in
theorem conf_any (q : Nat) (d : ByteArray) (bad : Bool) (w : World) (h : Blk w q 70 (scV d 2 bad)) (hd : (d.size : Int) ≤ 9223372036854775807) :
 Calls Tryz.prog 48 #[.pointer (some ⟨q, 0, none⟩)] w fun e w' => ∃ a cap, e = .returned (.agg #[.int .i64 (byteAt d 2), .int .i64 (byteAt d 3), .slice a (pCls d).length cap]) ∧
  w'.ownsRow 0 84 2 (.slice a (pCls d).length cap) (pCls d).length ((pCls d).flatMap clsCells) ∧ (∀ g, (Value.slice a (pCls d).length cap).ownBlock = some g → w.heap.size ≤ g) ∧ Blk w' q 70 (scV d (pD d) bad) ∧ Kept w w' (· = q) := by
 obtain ⟨i0, hi0, hz0, hz1, hz2⟩ := info_parts info_cls;have hql := h.lt;have b2 := byteAt_bd d 2;have b3 := byteAt_bd d 3;have HN := hide2 (pN_cast d);have nle := pN_le d;have H := hide2 h;clear h;go_enter Tryz.func48, Tryz.ntmps48;go_upto_region 2 with (fail);obtain ⟨wa, hwa⟩ : ∃ wa, wa = (w.alloc (.cells #[.int .i64 0, .int .i64 0, .slice none 0 0] 36)).alloc (.cells #[.int .i64 0, .int .i64 0, .slice none 0 0] 36) := ⟨_, rfl⟩
 have HB : Hid (SBox w wa q (w.heap.size + 1) d 2 bad 0 0 (.slice none 0 0) []) := by
  have hbl : Below w.heap.size w wa := by rw [hwa]; exact ((Below.refl _ _).alloc (Nat.le_refl _) _).alloc (by simp) _
  refine ⟨Kept.of_below hbl _, H.out.below hbl hql, ?_, ⟨rfl, .inl ⟨rfl, rfl⟩⟩, by omega, hql, fun g hg => by simp [Value.ownBlock] at hg⟩;rw [hwa, show w.heap.size + 1 = (w.alloc (.cells #[.int .i64 0, .int .i64 0, .slice none 0 0] 36)).heap.size by simp];exact heap_alloc_new _ _
 have HZ : Hid (Blk wa w.heap.size 36 [.int .i64 0, .int .i64 0, .slice none 0 0]) := by
  show Blk _ _ _ _; rw [hwa]; exact (Below.heap_alloc _ _ _ (by simp)).trans (heap_alloc_new w _)
 rw [← hwa];clear hwa;have c0 := HB.out.blk.cell (j := 0) rfl;have c1 := HB.out.blk.cell (j := 1) rfl;have f0 := HB.out.blk.frozen 0;have f1 := HB.out.blk.frozen 1;go_upto_region 3 with (go_at_call 72; refine (next_any q d 2 bad _ HB.out.scan hd).mono ?_; rintro e1 w1 ⟨rfl, hb1, hk1, hz1⟩; have HB1 := hide2 (HB.out.next hb1 hk1); have HZ1 : Hid (Blk w1 w.heap.size 36 [.int .i64 0, .int .i64 0, .slice none 0 0]) := HZ.out.kept hk1 (by omega); have c0' := HB1.out.blk.cell (j := 0) rfl; have f0' := HB1.out.blk.frozen 0; clear hb1 hk1 hz1);obtain ⟨wb, hwb⟩ : ∃ wb, wb = w1.setCell ⟨w.heap.size + 1, 0, none⟩ (.int .i64 (byteAt d 2)) := ⟨_, rfl⟩
 rw [← hwb];have HB2 := hide2 (HB1.out.num (.int .i64 (byteAt d 2)) hwb (byteAt d 2) 0 rfl);have HZ2 : Hid (Blk wb w.heap.size 36 [.int .i64 0, .int .i64 0, .slice none 0 0]) := by show Blk _ _ _ _; rw [hwb]; exact HZ1.out.setCell_other _ _ (by show w.heap.size ≠ w.heap.size + 1; omega)
 clear hwb c0 c1 f0 f1 c0' f0' HB HB1 HZ HZ1;go_upto_region 4 with (go_at_call 72; refine (next_any q d 3 bad _ HB2.out.scan hd).mono ?_; rintro e1 w2 ⟨rfl, hb1, hk1, hz1⟩; have HB3 := hide2 (HB2.out.next hb1 hk1); have HZ3 : Hid (Blk w2 w.heap.size 36 [.int .i64 0, .int .i64 0, .slice none 0 0]) := HZ2.out.kept hk1 (by omega); have c1 := HB3.out.blk.cell (j := 1) rfl; have f1 := HB3.out.blk.frozen 1; clear hb1 hk1 hz1);obtain ⟨we, hwe⟩ : ∃ we, we = w2.setCell ⟨w.heap.size + 1, 1, none⟩ (.int .i64 (byteAt d 3)) := ⟨_, rfl⟩
 rw [← hwe];have HB4 := hide2 (HB3.out.num (.int .i64 (byteAt d 3)) hwe (byteAt d 2) (byteAt d 3) rfl);have HZ4 : Hid (Blk we w.heap.size 36 [.int .i64 0, .int .i64 0, .slice none 0 0]) := by show Blk _ _ _ _; rw [hwe]; exact HZ3.out.setCell_other _ _ (by show w.heap.size ≠ w.heap.size + 1; omega)
 clear hwe c1 f1 HB2 HB3 HZ2 HZ3;generalize hst : byteAt d 2 = st at *;generalize hrest : byteAt d 3 = rest at *;have HST := hide2 hst;have HRE := hide2 hrest;clear hst hrest
 go_wp2_with (go_at_call 72; refine (next_any q d 4 bad _ HB4.out.scan hd).mono ?_; rintro e1 w3 ⟨rfl, hb1, hk1, hz1⟩; have HB5 := hide2 (HB4.out.next hb1 hk1); have HZ5 : Hid (Blk w3 w.heap.size 36 [.int .i64 0, .int .i64 0, .slice none 0 0]) := HZ4.out.kept hk1 (by omega); clear hb1 hk1 hz1; rw [← HN.out])
 clear HB4 HZ4
 go_loopw [4] (fun n wr => ∃ (m : Nat) (vc : Value), m ≤ pN d ∧ n = .int .i64 ((pN d : Int) - (m : Int)) ∧ Hid (SBox w wr q (w.heap.size + 1) d (5 + 2 * m) bad st rest vc ((pCls d).take m)) ∧ Hid (Blk wr w.heap.size 36 [.int .i64 0, .int .i64 0, .slice none 0 0])) (fun n _ => (intOf n).toNat)
 case atStart => exact ⟨0, _, by omega, by simp, HB5, HZ5⟩
 case round =>
  obtain ⟨m, vc, hm, rfl, HR, HZ⟩ := hrel;clear HB5 HZ5
  by_cases hlt : m < pN d
  ·have hmI : (0 : Int) < (pN d : Int) - (m : Int) := by omega
   have hlen : ((pCls d).take m).length = m := by rw [List.length_take, pCls_len]; omega
   have HNX := hide2 (pCls_take d m hlt);have hcm : ((pCls d).take m).length ≤ 255 := by omega
   generalize (pCls d).take m = cs at *;clear hlen;go_upto_region 8 with (fail);obtain ⟨w4, hw4⟩ : ∃ w4, w4 = wr.alloc (.cells #[.int .i64 0, .int .i64 0] 84) := ⟨_, rfl⟩
   rw [← hw4];have hBw : Below wr.heap.size wr w4 := by rw [hw4]; exact (Below.refl _ _).alloc (Nat.le_refl _) _
   have HR4 := hide2 (HR.out.under hBw);have HZ4 : Hid (Blk w4 w.heap.size 36 [.int .i64 0, .int .i64 0, .slice none 0 0]) := HZ.out.below hBw HZ.out.lt;have HK4 : Hid (Blk w4 wr.heap.size 84 [.int .i64 0, .int .i64 0]) := by show Blk _ _ _ _; rw [hw4]; exact heap_alloc_new _ _
   have hkq : wr.heap.size ≠ q := by have := HR.out.scan.lt; omega
   have hkc : w.heap.size + 1 ≠ wr.heap.size := by have := HR.out.blk.lt; omega
   have hkz : w.heap.size ≠ wr.heap.size := by have := HZ.out.lt; omega
   have hkw : w.heap.size ≤ wr.heap.size := HR.out.kept.size;have hkr : ∀ g, vc.ownBlock = some g → g ≠ wr.heap.size := fun g hg => by have := own_lt HR.out.row g hg; omega
   have HKR := hide2 hkr;clear hBw hw4 hkr;go_upto_region 9 with (go_at_call 72; refine (next_any q d (5 + 2 * m) bad _ HR4.out.scan hd).mono ?_; rintro e1 w5 ⟨rfl, hb1, hk1, hz1⟩; have HR5 := hide2 (HR4.out.next hb1 hk1); have HZ5 := hide2 (HZ4.out.kept hk1 (by omega)); have HK5 := hide2 (HK4.out.kept hk1 hkq); have k0 := HK5.out.cell (j := 0) rfl; have kf0 := HK5.out.frozen 0; clear hb1 hk1 hz1);generalize byteAt d (5 + 2 * m) = gx at *;obtain ⟨w6, hw6⟩ : ∃ w6, w6 = w5.setCell ⟨wr.heap.size, 0, none⟩ (.int .i64 gx) := ⟨_, rfl⟩
   rw [← hw6];have HR6 := hide2 (HR5.out.other wr.heap.size 0 (.int .i64 gx) (fun e => hkq e.symm) hkc HKR.out hkw);have HZ6 := hide2 (HZ5.out.setCell_other ⟨wr.heap.size, 0, none⟩ (.int .i64 gx) hkz);have HK6 := hide2 (HK5.out.setCell 0 (.int .i64 gx));rw [← hw6] at HR6 HZ6 HK6;clear hw6 k0 kf0 HR4 HR5 HZ4 HZ5 HK4 HK5;go_upto_region 10 with (go_at_call 72; refine (next_any q d (5 + 2 * m + 1) bad _ HR6.out.scan hd).mono ?_; rintro e1 w7 ⟨rfl, hb1, hk1, hz1⟩; have HR7 := hide2 (HR6.out.next hb1 hk1); have HZ7 := hide2 (HZ6.out.kept hk1 (by omega)); have HK7 := hide2 (HK6.out.kept hk1 hkq); have k1 := HK7.out.cell (j := 1) rfl; have kf1 := HK7.out.frozen 1; clear hb1 hk1 hz1);rw [show 5 + 2 * m + 1 = 6 + 2 * m by omega];generalize byteAt d (6 + 2 * m) = gy at *;obtain ⟨w8, hw8⟩ : ∃ w8, w8 = w7.setCell ⟨wr.heap.size, 1, none⟩ (.int .i64 gy) := ⟨_, rfl⟩
   rw [← hw8];have HR8 := hide2 (HR7.out.other wr.heap.size 1 (.int .i64 gy) (fun e => hkq e.symm) hkc HKR.out hkw);have HZ8 := hide2 (HZ7.out.setCell_other ⟨wr.heap.size, 1, none⟩ (.int .i64 gy) hkz);have HK8 := hide2 (HK7.out.setCell 1 (.int .i64 gy));rw [← hw8] at HR8 HZ8 HK8;clear hw8 k1 kf1 HR6 HR7 HZ6 HZ7 HK6 HK7;have k0 := HK8.out.cell (j := 0) rfl;have k1 := HK8.out.cell (j := 1) rfl;have q2 := HR8.out.blk.cell (j := 2) rfl;have qf := HR8.out.blk.frozen 2;have hcl := HR8.out.blk.lt;have HX : Hid (Below w8.heap.size w8 (w8.alloc (.cells #[.int .i64 gx, .int .i64 gy] 84))) := (Below.refl _ _).alloc (Nat.le_refl _) _;have HRW := hide2 (HR8.out.under HX.out).row;have HFAR := hide2 HR8.out.far
   go_wp2_with (at_builtin; go_loud (refine wpList_append_lies _ rfl _ _ _ rfl 0 84 i0 _ 2 16 Tryz.underlying34 hi0 hz0 hz1 hz2 rfl (by omega) vc cs.length (cs.flatMap clsCells) rfl HRW.out ⟨w8.heap.size, 0, none⟩ 1 1 [.int .i64 gx, .int .i64 gy] rfl rfl (World.news_of_block (cs := #[.int .i64 gx, .int .i64 gy]) (t := 84) (fr := (0, 0)) (heap_alloc_new w8 _)) (by simp [Value.oneCell']) (by omega) (by simp [maxLen]; omega) (by omega) (by simp) (w8.heap.size + 1) (by simp) ?_; intro gg cap2 w9 hown hgrow hat hlt2; have q2' : w9.cell? ⟨w.heap.size + 1, 2, none⟩ = some vc := (by rw [hgrow.cell_far _ (by simp; omega) (fun e => by have := HFAR.out _ e.symm; simp at this), World.cell?_alloc_lt _ _ _ hcl]; exact q2); have qf' : w9.frozen? ⟨w.heap.size + 1, 2, none⟩ = false := (by rw [hgrow.frozen_far _ (by simp; omega) (fun e => by have := HFAR.out _ e.symm; simp at this), World.frozen?_alloc_old _ _ _ (by show w.heap.size + 1 ≠ _; omega)]; exact qf)))
   have HN2 := hide2 (HR8.out.add (c := (gx, gy)) HX.out hown hgrow (by rcases hat with e | e; exact .inl e; right; omega));have hzb : Blk w9 w.heap.size 36 [.int .i64 0, .int .i64 0, .slice none 0 0] := (hgrow.block w.heap.size (by have := HZ8.out.lt; rw [World.size_alloc]; omega) (fun e => by have := HFAR.out _ e.symm; omega)).trans (HZ8.out.below HX.out HZ8.out.lt);have HZ9 := hide2 (hzb.setCell_other ⟨w.heap.size + 1, 2, none⟩ (.slice (some ⟨gg, 0, none⟩) (cs.length + 1) cap2) (by show w.heap.size ≠ w.heap.size + 1; omega));clear hzb
   go_roundw
   case rel => exact ⟨m + 1, _, by omega, by go_num, by rw [HNX.out, show 5 + 2 * (m + 1) = 5 + 2 * m + 1 + 1 by omega]; exact HN2, HZ9⟩
   case measure => simp [intOf]; omega
  ·obtain rfl : m = pN d := by omega
   rw [show (pCls d).take (pN d) = pCls d from List.take_of_length_le (by rw [pCls_len]; omega)] at HR;obtain ⟨a, cap, rfl, -, -, -⟩ := row_open HR.out.row;have c0 := HR.out.blk.cell (j := 0) rfl;have c1 := HR.out.blk.cell (j := 1) rfl;have c2 := HR.out.blk.cell (j := 2) rfl;have z0 := HZ.out.cell (j := 0) rfl;have z1 := HZ.out.cell (j := 1) rfl;have z2 := HZ.out.cell (j := 2) rfl;have zf0 := HZ.out.frozen 0;have zf1 := HZ.out.frozen 1;have zf2 := HZ.out.frozen 2;go_wp2;refine bodyPost_ret (v := .agg #[.int .i64 st, .int .i64 rest, .slice a (pCls d).length cap]) (by simp [results, Tryz.results48, go_sem, z0, z1, z2]) rfl ?_;rw [HST.out, HRE.out];have hqz : q ≠ w.heap.size := by omega
   have hcz : w.heap.size + 1 ≠ w.heap.size := by omega
   have hrz : ∀ g, (Value.slice a (pCls d).length cap).ownBlock = some g → g ≠ w.heap.size := fun g hg => by have := HR.out.far g hg; omega
   have hfin := ((HR.out.other w.heap.size 0 (.int .i64 st) hqz hcz hrz (Nat.le_refl _)).other w.heap.size 1 (.int .i64 rest) hqz hcz hrz (Nat.le_refl _)).other w.heap.size 2 (.slice a (pCls d).length cap) hqz hcz hrz (Nat.le_refl _);exact ⟨a, cap, rfl, hfin.row, fun g hg => by have := HR.out.far g hg; omega, hfin.scan, hfin.kept⟩
end Go.Proofs.YtjikemhmnkckcabGreat
