import Derived.Test.YtjikemhmnkckcabGreatJ33
import Derived.StillTail
import Derived.StillTactics
namespace Go.Proofs.YtjikemhmnkckcabGreat
open Go.RowKit
attribute [local go_sem ↓] Go.wp_at_zero Go.wp_at_succ
theorem iInp_size (inp : ByteArray) (k : Nat) : (iInp inp k).size = inp.size - k := by unfold iInp; rw [ByteArray.size_extract]; omega
theorem iInp_next (inp : ByteArray) (k : Nat) : (iInp inp k).extract 1 (iInp inp k).size = iInp inp (k + 1) := by
 rw [iInp_size];unfold iInp;apply ByteArray.ext;simp only [ByteArray.data_extract, Array.extract_extract]
 congr 1
 all_goals (have : inp.data.size = inp.size := rfl; omega)
theorem iInp_head (inp : ByteArray) (k : Nat) (hk : k < inp.size) (h0 : 0 < (iInp inp k).size) : (((iInp inp k)[0]'h0).toNat : Int) = byteAt inp k := by
 rw [byteAt_lt hk]
 have e : (iInp inp k)[0]'h0 = inp[k]'hk := by
  have := ByteArray.getElem_extract (b := inp) (start := k) (stop := inp.size) (i := 0) (h := h0);exact this
 rw [e]
theorem IRep.setInp {F : IFix} {wB w : World} {vT vF : Value} {V : List Value} {col : Nat → Nat} {S : IS} (h : IRep F wB w vT vF V col S) (hk : S.heard < F.inp.size) : IRep F wB (w.setCell ⟨F.mb, 23, none⟩ (.string (iInp F.inp (S.heard + 1)))) vT vF V col (S.hears F.inp) := by
 obtain ⟨r0, r1, r2, r3, r4, r5, r6, r7, hr, hb⟩ := h.blk8;have hn : hearN F.inp S.heard = S.heard + 1 := by unfold hearN; rw [if_pos hk]
 refine h.own ((Kept.refl w (· = F.mb)).setCell _ _ rfl) ?_ rfl rfl h.r8 h.dl (by show hearN F.inp S.heard ≤ _; rw [hn]; omega);unfold iC IS.hears;simp only;rw [hr, hn];exact hb.setCell 23 (.string (iInp F.inp (S.heard + 1)))
theorem conv_one (v : Int) (w : World) (b : Nat) (hb : Blk w b 5 [.int .u8 (v % 256)]) : (convert 77 9 (.slice (some ⟨b, 0, none⟩) 1 1)).run Tryz.prog w = .ok (.string (bOne (v % 256))) w := by
 refine Go.Lib.run_convert_whole (P := Tryz.prog) _ 77 5 9 Tryz.underlying77 Tryz.underlying5 Tryz.underlying9 b 0 ⟨#[UInt8.ofNat (v % 256).toNat]⟩ (fun i hi => ?_) 1;have hi' : i < 1 := hi;obtain rfl : i = 0 := by omega
 have hx : (((UInt8.ofNat (v % 256).toNat).toNat : Nat) : Int) = v % 256 := by rw [UInt8.toNat_ofNat']; omega
 show _ = some (Value.int .u8 (((UInt8.ofNat (v % 256).toNat).toNat : Nat) : Int));rw [hx];exact hb.cell (j := 0) rfl
section
variable (F : IFix) (wB : World) (vT vF : Value) (V : List Value) (col : Nat → Nat) (S : IS) (w : World)
set_option maxRecDepth 100000 in
set_option maxHeartbeats 6400000 in
theorem ido_in (h : IRep F wB w vT vF V col S) (hg : IGood F S) (ka : Nat) (b c : Int) (hka : ka < 8) (hi : (F.inp.size : Int) ≤ 9223372036854775807) :
 Calls Tryz.prog 46 #[.pointer (some ⟨F.mb, 0, none⟩), .agg #[.int .i64 8, .int .i64 (ka : Int), .int .i64 b, .int .i64 c]] w fun e w' => e = .returned (.tuple #[]) ∧ IDone F wB w' ((S.hears F.inp).reg ka ⟨0, hearV F.inp S.heard⟩) := by
 obtain ⟨wa, hwa⟩ : ∃ wa, wa = w.alloc (.cells #[.int .i64 8, .int .i64 (ka : Int), .int .i64 b, .int .i64 c] 60) := ⟨_, rfl⟩
 have HB : Hid (Below w.heap.size w wa) := by show Below _ _ _; rw [hwa]; exact (Below.refl _ _).alloc (Nat.le_refl _) _
 have HX : Hid (Blk wa w.heap.size 60 [.int .i64 8, .int .i64 (ka : Int), .int .i64 b, .int .i64 c]) := by show Blk _ _ _ _; rw [hwa]; exact Blk.alloc _ _ _
 have HRa := hide2 (h.under HB.out);have HG := hide2 hg;have x0 := HX.out.cell (j := 0) rfl;have x1 := HX.out.cell (j := 1) rfl;have x2 := HX.out.cell (j := 2) rfl;have x3 := HX.out.cell (j := 3) rfl;have hxl := HX.out.lt;have hmbw := h.blk.lt;have hnm : w.heap.size ≠ F.mb := by omega
 have hnm' : F.mb ≠ w.heap.size := by omega
 clear h hg;go_enter Tryz.func46, Tryz.ntmps46;go_upto_region 1 with (fail);rw [← hwa];clear hwa;have kaI : (ka : Int) < 8 := by omega
 have hhl := HRa.out.hl;go_upto_region 28 with (fail);have q7 := HRa.out.cOf ka hka;have q8 := HRa.out.cN ka hka;have f7 := HRa.out.blk.frozen (7 + ka * 2);have f8 := HRa.out.blk.frozen (7 + ka * 2 + 1);refine wp_region_still_tail 6 (by kernel_rfl) (by kernel_rfl) ?_
 repeat still_step
 refine wpStill_nil ?_;obtain ⟨wb, hwb⟩ : ∃ wb, wb = ((wa.setCell ⟨F.mb, 7 + ka * 2, none⟩ (.int .i64 0)).setCell ⟨F.mb, 7 + ka * 2 + 1, none⟩ (.int .i64 (-1))).drew := ⟨_, rfl⟩
 have HRb : Hid (IRep F wB wb vT vF V col (S.reg ka ⟨0, -1⟩)) := by show IRep _ _ _ _ _ _ _ _; rw [hwb]; exact (HRa.out.setReg ka hka ⟨0, -1⟩).under ((Below.refl _ _).drew)
 have HXb : Hid (Blk wb w.heap.size 60 [.int .i64 8, .int .i64 (ka : Int), .int .i64 b, .int .i64 c]) := by show Blk _ _ _ _; rw [hwb]; exact (HX.out.setCell_other _ _ hnm).setCell_other _ _ hnm
 go_upto_region 29 with (fail);rw [← hwb];clear hwb q7 q8 f7 f8 x0 x1 x2 x3 HX HRa;have c23 : wb.cell? ⟨F.mb, 23, none⟩ = some (.string (iInp F.inp S.heard)) := HRb.out.c23;have x1 := HXb.out.cell (j := 1) rfl
 by_cases hk : S.heard < F.inp.size
 ·have HK := hide2 hk
  have HE : Hid ((S.hears F.inp).reg ka ⟨0, hearV F.inp S.heard⟩ = (((S.reg ka ⟨0, -1⟩).reg ka ⟨0, byteAt F.inp S.heard⟩)).hears F.inp) := by
   show _ = _;unfold hearV IS.reg IS.hears;rw [if_pos hk];simp only [List.set_set]
  have HNX := hide2 (iInp_next F.inp S.heard);have hsz := iInp_size F.inp S.heard;have h0 : 0 < (iInp F.inp S.heard).size := by omega
  have HHD := hide2 (iInp_head F.inp S.heard hk h0);have HWV : Hid (wrap64 (((iInp F.inp S.heard)[0]'h0).toNat : Int) = byteAt F.inp S.heard) := by show _ = _; rw [HHD.out]; have := byteAt_bd F.inp S.heard; unfold wrap64; omega
  have hne : (iInp F.inp S.heard).toList.isEmpty = false := by
   cases he : (iInp F.inp S.heard).toList.isEmpty with
   | false => rfl
   | true =>
     rw [ByteArray.toList_eq, List.isEmpty_iff] at he;have : (iInp F.inp S.heard).size = 0 := by rw [← ByteArray.size_data, ← Array.length_toList, he]; rfl
     omega
  have h1 : 1 ≤ (iInp F.inp S.heard).size := h0;have hbig : ((iInp F.inp S.heard).size : Int) ≤ 9223372036854775807 := by omega
  generalize hs : iInp F.inp S.heard = s at *;clear hk hsz;go_upto_region 30 with (fail);have q7 := HRb.out.cOf ka hka;have q8 := HRb.out.cN ka hka;have f7 := HRb.out.blk.frozen (7 + ka * 2);have f8 := HRb.out.blk.frozen (7 + ka * 2 + 1);refine wp_region_still_tail 13 (by kernel_rfl) (by kernel_rfl) ?_
  repeat still_step
  refine wpStill_nil ?_;go_upto_region 31 with (fail);rw [HWV.out];obtain ⟨wc, hwc⟩ : ∃ wc, wc = ((wb.setCell ⟨F.mb, 7 + ka * 2, none⟩ (.int .i64 0)).setCell ⟨F.mb, 7 + ka * 2 + 1, none⟩ (.int .i64 (byteAt F.inp S.heard))).drew := ⟨_, rfl⟩
  rw [← hwc];have HRc : Hid (IRep F wB wc vT vF V col ((S.reg ka ⟨0, -1⟩).reg ka ⟨0, byteAt F.inp S.heard⟩)) := by show IRep _ _ _ _ _ _ _ _; rw [hwc]; exact (HRb.out.setReg ka hka ⟨0, byteAt F.inp S.heard⟩).under ((Below.refl _ _).drew)
  clear hwc x1 q7 q8 f7 f8 c23;have c23 : wc.cell? ⟨F.mb, 23, none⟩ = some (.string s) := HRc.out.c23.trans (by rw [← hs]; rfl);have f23 := HRc.out.blk.frozen 23;go_wp2;go_end0;rw [HNX.out];exact ⟨rfl, _, _, _, _, _, HRc.out.setInp HK.out, .inl HE.out.symm⟩
 ·have HE : Hid ((S.hears F.inp).reg ka ⟨0, hearV F.inp S.heard⟩ = S.reg ka ⟨0, -1⟩) := by show _ = _; unfold hearV IS.hears hearN; rw [if_neg hk, if_neg hk]
  have hsz := iInp_size F.inp S.heard
  have hem : iInp F.inp S.heard = ⟨#[]⟩ := by
   apply ByteArray.ext;apply Array.eq_empty_of_size_eq_zero;show (iInp F.inp S.heard).size = 0;omega
  rw [hem] at c23;clear hk hsz hem;go_wp2;go_end0;exact ⟨rfl, _, _, _, _, _, HRb.out, .inl HE.out.symm⟩
set_option maxRecDepth 100000 in
set_option maxHeartbeats 6400000 in
theorem ido_out (h : IRep F wB w vT vF V col S) (hg : IGood F S) (ka : Nat) (b c : Int) (hka : ka < 8) (ho : S.out.size ≤ 1048576) :
 Calls Tryz.prog 46 #[.pointer (some ⟨F.mb, 0, none⟩), .agg #[.int .i64 9, .int .i64 (ka : Int), .int .i64 b, .int .i64 c]] w fun e w' => e = .returned (.tuple #[]) ∧ IDone F wB w' (iOut S ka) := by
 obtain ⟨wa, hwa⟩ : ∃ wa, wa = w.alloc (.cells #[.int .i64 9, .int .i64 (ka : Int), .int .i64 b, .int .i64 c] 60) := ⟨_, rfl⟩
 have HB : Hid (Below w.heap.size w wa) := by show Below _ _ _; rw [hwa]; exact (Below.refl _ _).alloc (Nat.le_refl _) _
 have HX : Hid (Blk wa w.heap.size 60 [.int .i64 9, .int .i64 (ka : Int), .int .i64 b, .int .i64 c]) := by show Blk _ _ _ _; rw [hwa]; exact Blk.alloc _ _ _
 have HRa := hide2 (h.under HB.out);have HG := hide2 hg;have x0 := HX.out.cell (j := 0) rfl;have x1 := HX.out.cell (j := 1) rfl;have x2 := HX.out.cell (j := 2) rfl;have x3 := HX.out.cell (j := 3) rfl;have hxl := HX.out.lt;have hmbw := h.blk.lt;have hnm : w.heap.size ≠ F.mb := by omega
 have hnm' : F.mb ≠ w.heap.size := by omega
 clear h hg;go_enter Tryz.func46, Tryz.ntmps46;go_upto_region 1 with (fail);rw [← hwa];clear hwa;have kaI : (ka : Int) < 8 := by omega
 go_upto_region 33 with (fail)
 go_wp2_with fail
 refine (inumber_any F wB vT vF V col S wa HRa.out ka hka).mono ?_;rintro e1 w1 ⟨rfl, hR1, hk1⟩;have HR1 := hide2 hR1;have hso : (S.num ka).out = S.out := by unfold IS.num; split <;> rfl
 have c31 : w1.cell? ⟨F.mb, 31, none⟩ = some (.string S.out) := hR1.c31.trans (by rw [hso]);have f31 := hR1.blk.frozen 31;have hmb1 := hR1.blk.lt;clear hR1 hk1 x0 x1 x2 x3 hso;generalize hq : (iv S.r ka).n = q at *;have HE : Hid (iOut S ka = (S.num ka).says (S.out ++ bOne (q % 256))) := by show _ = _; unfold iOut; rw [hq]
 have hconv := conv_one q ((w1.alloc (.cells #[.int .u8 (q % 256)] 5)).drew) w1.heap.size (Blk.alloc w1 _ _);have hmn : F.mb ≠ w1.heap.size := by omega
 clear hq;obtain ⟨ob, hob⟩ : ∃ ob, ob = bOne (q % 256) := ⟨_, rfl⟩
 have hroom2 : ¬ (9223372036854775807 < S.out.size + ob.size) := by rw [hob, bOne_size]; omega
 rw [← hob] at hconv HE;clear hob;have HFIN : Hid (IRep F wB ((w1.setCell ⟨F.mb, 31, none⟩ (.string (S.out ++ ob))).alloc (.cells #[.int .u8 (q % 256)] 5)).drew vT vF V col ((S.num ka).says (S.out ++ ob))) := ((HR1.out.setOut (S.out ++ ob)).under ((Below.refl _ _).alloc (Nat.le_refl _) _)).under ((Below.refl _ _).drew);go_upto_region 34 with (fail)
 go_region
 all_goals go_end0
 all_goals exact ⟨rfl, _, _, _, _, _, HFIN.out, .inl HE.out.symm⟩
end
end Go.Proofs.YtjikemhmnkckcabGreat
namespace Go.Proofs.YtjikemhmnkckcabGreat
open Go.RowKit
def nearCells (x : Int × Int × Int) : List Value := [.int .i64 x.1, .int .i64 x.2.1, .int .i64 x.2.2]
def nearAt (xs : List GSlot) (j tag : Int) : List (Int × Int × Int) :=
 if 0 ≤ j ∧ j < xs.length ∧ ghad (xs.getD j.toNat GSlot.no) tag = true then [(j, (xs.getD j.toNat GSlot.no).alloc, (xs.getD j.toNat GSlot.no).gone)] else []
def nearTo (xs : List GSlot) (i tag : Int) : Nat → List (Int × Int × Int)
 | 0 => []
 | m + 1 => nearTo xs i tag m ++ nearAt xs (i - 1 + m) tag
def gnear (xs : List GSlot) (i tag : Int) : List (Int × Int × Int) := nearTo xs i tag 3
theorem nearAt_len (xs : List GSlot) (j tag : Int) : (nearAt xs j tag).length ≤ 1 := by unfold nearAt; split <;> simp
theorem nearTo_len (xs : List GSlot) (i tag : Int) (m : Nat) : (nearTo xs i tag m).length ≤ m := by
 induction m with
 | zero => simp [nearTo]
 | succ m ih =>
   have := nearAt_len xs (i - 1 + m) tag;simp only [nearTo, List.length_append]; omega
theorem info_near : (Tryz.prog.info? 64).map (fun i => (i.zero, i.size, i.bytes)) = some (some (.agg #[.int .i64 0, .int .i64 0, .int .i64 0]), 3, 24) := by kernel_rfl
structure NearRel (w : World) (l : List (Int × Int × Int)) (v : Value) (wr : World) : Prop where
 below : Below w.heap.size w wr
 row : wr.ownsRow 0 64 3 v l.length (l.flatMap nearCells)
 vlo : ∀ g, v.ownBlock = some g → w.heap.size ≤ g
theorem NearRel.later {w wr w' : World} {l : List (Int × Int × Int)} {v : Value} (h : NearRel w l v wr) (b : Below wr.heap.size wr w') : NearRel w l v w' :=
 ⟨h.below.trans (b.mono h.below.size), row_below h.row b fun _ => row_lt h.row, h.vlo⟩
theorem NearRel.step {w wr : World} {l : List (Int × Int × Int)} {v : Value} (hr : NearRel w l v wr) (x : Int × Int × Int) {cs : Array Value} {t : TypeId} {w2 : World} {gg cap2 : Nat}
 (hown1 : w2.ownsRow 0 64 3 (.slice (some ⟨gg, 0, none⟩) (l.length + 1) cap2) (l.length + 1) (l.flatMap nearCells ++ nearCells x))
 (hgrow : (wr.alloc (.cells cs t)).grownBy w2 v.ownBlock) (hat : v.ownBlock = some gg ∨ gg = wr.heap.size + 1) :
 NearRel w (l ++ [x]) (.slice (some ⟨gg, 0, none⟩) (l.length + 1) cap2) w2 := by
 have hsz := hr.below.size;refine ⟨?_, ?_, ?_⟩
 ·exact (hr.below.alloc (by omega) _).grown hgrow (by rw [World.size_alloc]; omega) (fun k hk => hr.vlo k hk)
 ·rw [List.length_append, List.flatMap_append]
  simpa using hown1
 ·intro g hg;simp [Value.ownBlock] at hg;subst hg
  rcases hat with h | h
  ·exact hr.vlo gg h
  ·omega
set_option maxRecDepth 100000 in
set_option maxHeartbeats 3200000 in
theorem near_any (cb co sb : Nat) (xs : List GSlot) (i tag : Int) (w : World) (hc : w.cell? ⟨cb, co + 2, none⟩ = some (.slice (some ⟨sb, 0, none⟩) xs.length xs.length)) (hcb : cb < w.heap.size) (hs : Blk w sb 146 (xs.flatMap slotCells)) (hlen : xs.length ≤ 16) (i0 : 0 ≤ i) (i1 : i < xs.length) :
 Calls Tryz.prog 165 #[.pointer (some ⟨cb, co, none⟩), .int .i64 i, .int .i64 tag] w fun e w' => ∃ v, e = .returned v ∧ NearRel w (gnear xs i tag) v w' := by
 obtain ⟨n0, hn0, hz0, hz1, hz2⟩ := info_parts info_near;have HS := hide2 hs;have hsl := hs.lt;clear hs;go_enter Tryz.func165, Tryz.ntmps165;go_wp2
 go_loopw [7, 8] (fun l j wr => ∃ m : Nat, m ≤ 3 ∧ j = .int .i64 (i - 1 + (m : Int)) ∧ Hid (NearRel w (nearTo xs i tag m) l wr)) (fun _ j _ => (i + 2 - intOf j).toNat)
 case atStart => exact ⟨0, by omega, by simp, ⟨Below.refl _ _, World.ownsRow_nil _ _ _ _, nofun⟩⟩
 case round =>
  obtain ⟨m, hm, rfl, HR⟩ := hrel;have hc' := (HR.out.below.cell (p := ⟨cb, co + 2, none⟩) hcb).trans hc;have hsz := HR.out.below.size;have HST : Hid (nearTo xs i tag (m + 1) = nearTo xs i tag m ++ nearAt xs (i - 1 + m) tag) := rfl
  by_cases hlt : m < 3
  ·have hjl : i - 1 + (m : Int) ≤ i + 1 := by omega
   by_cases hj : i - 1 + (m : Int) < 0
   ·have HN : Hid (nearTo xs i tag (m + 1) = nearTo xs i tag m) := by
     show _ = _;rw [HST.out]; unfold nearAt; rw [if_neg (by omega), List.append_nil]
    go_wp2
    go_roundw
    case rel => exact ⟨m + 1, by omega, by congr 1; omega, by rw [HN.out]; exact HR⟩
    case measure => simp [intOf]; omega
   ·by_cases hj2 : (xs.length : Int) ≤ i - 1 + (m : Int)
    ·have HN : Hid (nearTo xs i tag (m + 1) = nearTo xs i tag m) := by
      show _ = _;rw [HST.out]; unfold nearAt; rw [if_neg (by omega), List.append_nil]
     go_wp2
     go_roundw
     case rel => exact ⟨m + 1, by omega, by congr 1; omega, by rw [HN.out]; exact HR⟩
     case measure => simp [intOf]; omega
    ·obtain ⟨j, hjn⟩ := Int.eq_ofNat_of_zero_le (show 0 ≤ i - 1 + (m : Int) by omega);have hjx : j < xs.length := by omega
     have HA : Hid (nearAt xs (i - 1 + m) tag = if ghad (xs.getD j GSlot.no) tag = true then [((j : Int), (xs.getD j GSlot.no).alloc, (xs.getD j GSlot.no).gone)] else []) := by
      show _ = _;unfold nearAt;rw [hjn, Int.toNat_natCast]
      by_cases c : ghad (xs.getD j GSlot.no) tag = true
      ·rw [if_pos ⟨by omega, by omega, c⟩, if_pos c]
      ·rw [if_neg (fun y => c y.2.2), if_neg c]
     obtain ⟨e0, e1, e2, e3, e4, e5⟩ := slot_cells HS.out j hjx;have e0' := (HR.out.below.cell (p := ⟨sb, j * 6, none⟩) hsl).trans e0;have e1' := (HR.out.below.cell (p := ⟨sb, j * 6 + 1, none⟩) hsl).trans e1;have e2' := (HR.out.below.cell (p := ⟨sb, j * 6 + 2, none⟩) hsl).trans e2;have e3' := (HR.out.below.cell (p := ⟨sb, j * 6 + 3, none⟩) hsl).trans e3;have e4' := (HR.out.below.cell (p := ⟨sb, j * 6 + 4, none⟩) hsl).trans e4;have e5' := (HR.out.below.cell (p := ⟨sb, j * 6 + 5, none⟩) hsl).trans e5;clear e0 e1 e2 e3 e4 e5;generalize xs.getD j GSlot.no = x at *;have HJ := hide2 hjn;have hjI : (j : Int) < (xs.length : Int) := by omega
     have hji : (j : Int) ≤ i + 1 := by omega
     rw [hjn];clear hjn hj hj2 hjl
     go_wp2_with fail
     have hsc : Blk (wr.alloc (.cells #[.int .i64 x.state, .int .i64 x.tag, .int .i64 x.bytes, .int .i64 x.rest, .int .i64 x.alloc, .int .i64 x.gone] 146)) wr.heap.size 146 [.int .i64 x.state, .int .i64 x.tag, .int .i64 x.bytes, .int .i64 x.rest, .int .i64 x.alloc, .int .i64 x.gone] := Blk.alloc wr _ _;have hba : Below wr.heap.size wr (wr.alloc (.cells #[.int .i64 x.state, .int .i64 x.tag, .int .i64 x.bytes, .int .i64 x.rest, .int .i64 x.alloc, .int .i64 x.gone] 146)) := (Below.refl _ _).alloc (Nat.le_refl _) _;obtain ⟨ob, hobe⟩ : ∃ ob, ob = wr.heap.size := ⟨_, rfl⟩
     rw [← hobe] at hsc ⊢;generalize (wr.alloc (.cells #[.int .i64 x.state, .int .i64 x.tag, .int .i64 x.bytes, .int .i64 x.rest, .int .i64 x.alloc, .int .i64 x.gone] 146)) = w4 at *;have hs4 := hsc.lt;refine (had_any x tag w4).mono ?_
     cases hz : ghad x tag
     ·have HN : Hid (nearTo xs i tag (m + 1) = nearTo xs i tag m) := by
       show _ = _;rw [HST.out, HA.out, hz, if_neg (by decide), List.append_nil]
      rintro e1 w5 ⟨rfl, hb5⟩;have HR5 := hide2 ((HR.out.later hba).later hb5);clear hb5 hba hsc hobe e0' e1' e2' e3' e4' e5' hz HA;go_wp2
      go_roundw
      case rel => exact ⟨m + 1, by omega, by have := HJ.out; congr 1; omega, by rw [HN.out]; exact HR5⟩
      case measure => simp [intOf]; omega
     ·have HN : Hid (nearTo xs i tag (m + 1) = nearTo xs i tag m ++ [((j : Int), x.alloc, x.gone)]) := by
       show _ = _;rw [HST.out, HA.out, hz, if_pos rfl]
      rintro e1 w5 ⟨rfl, hb5⟩;have HR5 := hide2 ((HR.out.later hba).later hb5);have q4 := (hb5.cell (p := ⟨ob, 4, none⟩) hs4).trans (hsc.cell (j := 4) rfl);have q5 := (hb5.cell (p := ⟨ob, 5, none⟩) hs4).trans (hsc.cell (j := 5) rfl);have hob5 : ob < w5.heap.size := Nat.lt_of_lt_of_le hs4 hb5.size;have hlm := nearTo_len xs i tag m;have hrow := hide2 HR5.out.row;clear hb5 hba hsc hobe e0' e1' e2' e3' e4' e5' hz HA
      go_wp2_with (at_builtin; refine wpList_append_lies _ rfl _ _ _ rfl 0 64 n0 _ 3 24 Tryz.underlying24 hn0 hz0 hz1 hz2 rfl (by omega) u7 (nearTo xs i tag m).length _ rfl (hrow.out.alloc _) ⟨w5.heap.size, 0, none⟩ 1 1 [.int .i64 (j : Int), .int .i64 x.alloc, .int .i64 x.gone] rfl rfl (World.news_of_block (cs := #[.int .i64 (j : Int), .int .i64 x.alloc, .int .i64 x.gone]) (t := 64) (fr := (0, 0)) (heap_alloc_new w5 _)) (by simp [Value.oneCell']) (by omega) (by simp [maxLen]; omega) (by omega) (by simp) (w5.heap.size + 1) (by simp) ?_; intro gg cap2 w7 hown hgrow hat hlt7)
      go_roundw
      case rel => exact ⟨m + 1, by omega, by have := HJ.out; congr 1; omega, by rw [HN.out]; exact HR5.out.step ((j : Int), x.alloc, x.gone) hown hgrow hat⟩
      case measure => simp [intOf]; omega
  ·obtain rfl : m = 3 := by omega
   have hji : i + 1 < i - 1 + ((3 : Nat) : Int) := by omega
   go_wp2;go_ret;exact ⟨_, rfl, HR.out⟩
structure Rpt where
 err : Int
 addr : Int
 want : Int
 found : Int
 state : Int
 cls : Int
 slot : Int
 alloc : Int
 gone : Int
 near : List (Int × Int × Int)
def rptCells (r : Rpt) (vn : Value) : List Value := [.int .i64 r.err, .int .i64 r.addr, .int .i64 r.want, .int .i64 r.found, .int .i64 r.state, .int .i64 r.cls, .int .i64 r.slot, .int .i64 r.alloc, .int .i64 r.gone, vn]
def rptV (r : Rpt) (vn : Value) : Value := .agg (rptCells r vn).toArray
def Rpt.only (e : Int) : Rpt := ⟨e, 0, 0, 0, 0, 0, 0, 0, 0, []⟩
def grpt (G : GSt) (cls : List (Int × Int)) (e addr want : Int) : Rpt :=
 if 16 ≤ addr ∧ addr < 16 * (1 + G.st) then ⟨e, addr, want, gtag G cls addr, 1, 0, 0, 0, 0, []⟩
 else if (Cf.slot G.st cls addr).1 < 0 then ⟨e, addr, want, gtag G cls addr, 0, 0, 0, 0, 0, []⟩
 else ⟨e, addr, want, gtag G cls addr, (slotOf G (Cf.slot G.st cls addr).1.toNat (Cf.slot G.st cls addr).2.toNat).state, (Cf.slot G.st cls addr).1, (Cf.slot G.st cls addr).2, (slotOf G (Cf.slot G.st cls addr).1.toNat (Cf.slot G.st cls addr).2.toNat).alloc, (slotOf G (Cf.slot G.st cls addr).1.toNat (Cf.slot G.st cls addr).2.toNat).gone,
  gnear (G.cs.getD (Cf.slot G.st cls addr).1.toNat GCls.no).slots (Cf.slot G.st cls addr).2 want⟩
theorem below_set10 {B : Nat} {a w : World} (h : Below B a w) {b : Nat} (hb : B ≤ b) (v0 v1 v2 v3 v4 v5 v6 v7 v8 v9 : Value) :
 Below B a ((((((((((w.setCell ⟨b, 0, none⟩ v0).setCell ⟨b, 1, none⟩ v1).setCell ⟨b, 2, none⟩ v2).setCell ⟨b, 3, none⟩ v3).setCell ⟨b, 4, none⟩ v4).setCell ⟨b, 5, none⟩ v5).setCell ⟨b, 6, none⟩ v6).setCell ⟨b, 7, none⟩ v7).setCell ⟨b, 8, none⟩ v8).setCell ⟨b, 9, none⟩ v9) :=
 (((((((((h.setCell (p := ⟨b, 0, none⟩) hb _).setCell (p := ⟨b, 1, none⟩) hb _).setCell (p := ⟨b, 2, none⟩) hb _).setCell (p := ⟨b, 3, none⟩) hb _).setCell (p := ⟨b, 4, none⟩) hb _).setCell (p := ⟨b, 5, none⟩) hb _).setCell (p := ⟨b, 6, none⟩) hb _).setCell (p := ⟨b, 7, none⟩) hb _).setCell (p := ⟨b, 8, none⟩) hb _).setCell (p := ⟨b, 9, none⟩) hb _
theorem heap_set10 (w : World) {b g : Nat} (hg : g ≠ b) (v0 v1 v2 v3 v4 v5 v6 v7 v8 v9 : Value) :
 ((((((((((w.setCell ⟨b, 0, none⟩ v0).setCell ⟨b, 1, none⟩ v1).setCell ⟨b, 2, none⟩ v2).setCell ⟨b, 3, none⟩ v3).setCell ⟨b, 4, none⟩ v4).setCell ⟨b, 5, none⟩ v5).setCell ⟨b, 6, none⟩ v6).setCell ⟨b, 7, none⟩ v7).setCell ⟨b, 8, none⟩ v8).setCell ⟨b, 9, none⟩ v9).heap[g]? = w.heap[g]? := by
 rw [Below.heap_setCell _ ⟨b, 9, none⟩ _ g hg, Below.heap_setCell _ ⟨b, 8, none⟩ _ g hg, Below.heap_setCell _ ⟨b, 7, none⟩ _ g hg, Below.heap_setCell _ ⟨b, 6, none⟩ _ g hg, Below.heap_setCell _ ⟨b, 5, none⟩ _ g hg, Below.heap_setCell _ ⟨b, 4, none⟩ _ g hg, Below.heap_setCell _ ⟨b, 3, none⟩ _ g hg, Below.heap_setCell _ ⟨b, 2, none⟩ _ g hg, Below.heap_setCell _ ⟨b, 1, none⟩ _ g hg, Below.heap_setCell _ ⟨b, 0, none⟩ _ g hg]
set_option maxRecDepth 100000 in
set_option maxHeartbeats 6400000 in
theorem report_away (p : Nat) (vc : Value) (bb : Nat) (G : GSt) (rest : Int) (cls : List (Int × Int)) (er addr want : Int) (w : World) (h : GRep w p vc bb G) (ho : GOk G rest cls) (hbd : GBd G) (a0 : -9223372036854775808 ≤ addr) (a1 : addr ≤ 9223372036854775807) (haw : (16 ≤ addr ∧ addr < 16 * (1 + G.st)) ∨ (Cf.slot G.st cls addr).1 < 0) :
 Calls Tryz.prog 159 #[.pointer (some ⟨p, 0, none⟩), .int .i64 er, .int .i64 addr, .int .i64 want] w fun e w' => ∃ v, e = .returned (rptV (grpt G cls er addr want) v) ∧ NearRel w (grpt G cls er addr want).near v w' := by
 have HR := hide2 h;have HO := hide2 ho;have HBD := hide2 hbd;have hp := h.blk.lt;have s0 := ho.conf.st0;have s1 := ho.conf.st1;have n1 := ho.conf.n1;have hlen := ho.len;clear h ho hbd;obtain ⟨tg, htg⟩ : ∃ tg, gtag G cls addr = tg := ⟨_, rfl⟩
 have HTG := hide2 htg
 by_cases hst : 16 ≤ addr ∧ addr < 16 * (1 + G.st)
 ·have HF : Hid (grpt G cls er addr want = ⟨er, addr, want, tg, 1, 0, 0, 0, 0, []⟩) := by show _ = _; unfold grpt; rw [if_pos hst, htg]
  have HS : Hid ((decide (16 ≤ addr) && decide (addr < 16 * (1 + G.st))) = true) := by show _ = _; simp [hst.1, hst.2]
  rw [HF.out];clear hst htg HF;go_enter Tryz.func159, Tryz.ntmps159
  go_wp2_with fail
  obtain ⟨wa, hwa⟩ : ∃ wa, wa = w.alloc (.cells (rptCells (Rpt.only 0) (.slice none 0 0)).toArray 26) := ⟨_, rfl⟩
  have hwa' := hwa;simp only [rptCells, Rpt.only] at hwa';rw [← hwa'];have HBA : Hid (Below w.heap.size w wa) := by show Below _ _ _; rw [hwa]; exact (Below.refl _ _).alloc (Nat.le_refl _) _
  have HRB : Hid (Blk wa w.heap.size 26 (rptCells (Rpt.only 0) (.slice none 0 0))) := by show Blk _ _ _ _; rw [hwa]; exact Blk.alloc _ _ _
  obtain ⟨rb, hrb⟩ : ∃ rb, rb = w.heap.size := ⟨_, rfl⟩
  rw [← hrb] at HRB ⊢;have HRBE := hide2 hrb;have hrl := HRB.out.lt;clear hwa hwa' hrb;refine (gtag_any p _ bb G rest cls addr wa (HR.out.below HBA.out) HO.out HBD.out a0 a1).mono ?_;rw [HTG.out];rintro e1 w1 ⟨rfl, hb1⟩;have HB1 : Hid (Below w.heap.size w w1) := HBA.out.trans (hb1.mono HBA.out.size);have HR1 := hide2 (HRB.out.below hb1 hrl);have hrl1 := HR1.out.lt;clear hb1 HRB HBA hrl
  go_wp2_with fail
  obtain ⟨w2, hw2⟩ : ∃ w2, w2 = w1.alloc (.cells (rptCells ⟨er, addr, want, tg, 0, 0, 0, 0, 0, []⟩ (.slice none 0 0)).toArray 26) := ⟨_, rfl⟩
  have hw2' := hw2;simp only [rptCells] at hw2';rw [← hw2'];have HB2 : Hid (Below w.heap.size w w2) := by show Below _ _ _; rw [hw2]; exact HB1.out.alloc HB1.out.size _
  have HO2 : Hid (Blk w2 w1.heap.size 26 (rptCells ⟨er, addr, want, tg, 0, 0, 0, 0, 0, []⟩ (.slice none 0 0))) := by show Blk _ _ _ _; rw [hw2]; exact Blk.alloc _ _ _
  have HR2 : Hid (Blk w2 rb 26 (rptCells (Rpt.only 0) (.slice none 0 0))) := by show Blk _ _ _ _; rw [hw2]; exact HR1.out.below ((Below.refl _ _).alloc (Nat.le_refl _) _) hrl1
  obtain ⟨ob, hob⟩ : ∃ ob, ob = w1.heap.size := ⟨_, rfl⟩
  rw [← hob] at HO2 ⊢;have hne : rb ≠ ob := by omega
  have hne2 : ob ≠ rb := by omega
  have hol := HO2.out.lt;have hrl2 := HR2.out.lt;have hobw : w.heap.size ≤ ob := by have := HB1.out.size; omega
  have hrbw : w.heap.size ≤ rb := by have := HRBE.out; omega
  clear hw2 hw2' hob HR1 hrl1;refine (inStatic_any p _ bb G addr w2 (HR.out.below HB2.out) s0 s1).mono ?_;rw [HS.out];rintro e1 w3 ⟨rfl, rfl⟩;have o0 := HO2.out.cell (j := 0) rfl;have o1 := HO2.out.cell (j := 1) rfl;have o2 := HO2.out.cell (j := 2) rfl;have o3 := HO2.out.cell (j := 3) rfl;have o4 := HO2.out.cell (j := 4) rfl;have o5 := HO2.out.cell (j := 5) rfl;have o6 := HO2.out.cell (j := 6) rfl;have o7 := HO2.out.cell (j := 7) rfl;have o8 := HO2.out.cell (j := 8) rfl;have o9 := HO2.out.cell (j := 9) rfl;have of4 := HO2.out.frozen 4;have r0 := HR2.out.cell (j := 0) rfl;have r1 := HR2.out.cell (j := 1) rfl;have r2 := HR2.out.cell (j := 2) rfl;have r3 := HR2.out.cell (j := 3) rfl;have r4 := HR2.out.cell (j := 4) rfl;have r5 := HR2.out.cell (j := 5) rfl;have r6 := HR2.out.cell (j := 6) rfl;have r7 := HR2.out.cell (j := 7) rfl;have r8 := HR2.out.cell (j := 8) rfl;have r9 := HR2.out.cell (j := 9) rfl;have rf0 := HR2.out.frozen 0;have rf1 := HR2.out.frozen 1;have rf2 := HR2.out.frozen 2;have rf3 := HR2.out.frozen 3;have rf4 := HR2.out.frozen 4;have rf5 := HR2.out.frozen 5;have rf6 := HR2.out.frozen 6;have rf7 := HR2.out.frozen 7;have rf8 := HR2.out.frozen 8;have rf9 := HR2.out.frozen 9;clear HO2 HR2;go_wp2;refine bodyPost_ret (v := rptV ⟨er, addr, want, tg, 1, 0, 0, 0, 0, []⟩ (.slice none 0 0)) (by simp [results, Tryz.results159, go_sem, rptV, rptCells, *]) rfl ⟨_, rfl, ?_⟩;exact ⟨below_set10 (HB2.out.setCell (p := ⟨ob, 4, none⟩) hobw _) hrbw _ _ _ _ _ _ _ _ _ _, World.ownsRow_nil _ _ _ _, nofun⟩
 ·have HS : Hid ((decide (16 ≤ addr) && decide (addr < 16 * (1 + G.st))) = false) := by
   show _ = _
   by_cases c : 16 ≤ addr
   ·have : ¬ addr < 16 * (1 + G.st) := fun y => hst ⟨c, y⟩
    simp [this]
   ·simp [c]
  rcases Cf.slot_bd G.st cls addr with hsl | ⟨k, s, hsl, hk, hs2, _⟩
  ·have HF : Hid (grpt G cls er addr want = ⟨er, addr, want, tg, 0, 0, 0, 0, 0, []⟩) := by show _ = _; unfold grpt; rw [if_neg hst, hsl, if_pos (by decide), htg]
   have HL : Hid (Cf.cslot G.st cls addr = (-1, 0)) := Cf.cslot_no HO.out.conf _ hsl;rw [HF.out];clear hst htg HF hsl;go_enter Tryz.func159, Tryz.ntmps159
   go_wp2_with fail
   obtain ⟨wa, hwa⟩ : ∃ wa, wa = w.alloc (.cells (rptCells (Rpt.only 0) (.slice none 0 0)).toArray 26) := ⟨_, rfl⟩
   have hwa' := hwa;simp only [rptCells, Rpt.only] at hwa';rw [← hwa'];have HBA : Hid (Below w.heap.size w wa) := by show Below _ _ _; rw [hwa]; exact (Below.refl _ _).alloc (Nat.le_refl _) _
   have HRB : Hid (Blk wa w.heap.size 26 (rptCells (Rpt.only 0) (.slice none 0 0))) := by show Blk _ _ _ _; rw [hwa]; exact Blk.alloc _ _ _
   obtain ⟨rb, hrb⟩ : ∃ rb, rb = w.heap.size := ⟨_, rfl⟩
   rw [← hrb] at HRB ⊢;have HRBE := hide2 hrb;have hrl := HRB.out.lt;clear hwa hwa' hrb;refine (gtag_any p _ bb G rest cls addr wa (HR.out.below HBA.out) HO.out HBD.out a0 a1).mono ?_;rw [HTG.out];rintro e1 w1 ⟨rfl, hb1⟩;have HB1 : Hid (Below w.heap.size w w1) := HBA.out.trans (hb1.mono HBA.out.size);have HR1 := hide2 (HRB.out.below hb1 hrl);have hrl1 := HR1.out.lt;clear hb1 HRB HBA hrl
   go_wp2_with fail
   obtain ⟨w2, hw2⟩ : ∃ w2, w2 = w1.alloc (.cells (rptCells ⟨er, addr, want, tg, 0, 0, 0, 0, 0, []⟩ (.slice none 0 0)).toArray 26) := ⟨_, rfl⟩
   have hw2' := hw2;simp only [rptCells] at hw2';rw [← hw2'];have HB2 : Hid (Below w.heap.size w w2) := by show Below _ _ _; rw [hw2]; exact HB1.out.alloc HB1.out.size _
   have HO2 : Hid (Blk w2 w1.heap.size 26 (rptCells ⟨er, addr, want, tg, 0, 0, 0, 0, 0, []⟩ (.slice none 0 0))) := by show Blk _ _ _ _; rw [hw2]; exact Blk.alloc _ _ _
   have HR2 : Hid (Blk w2 rb 26 (rptCells (Rpt.only 0) (.slice none 0 0))) := by show Blk _ _ _ _; rw [hw2]; exact HR1.out.below ((Below.refl _ _).alloc (Nat.le_refl _) _) hrl1
   obtain ⟨ob, hob⟩ : ∃ ob, ob = w1.heap.size := ⟨_, rfl⟩
   rw [← hob] at HO2 ⊢;have hne : rb ≠ ob := by omega
   have hne2 : ob ≠ rb := by omega
   have hol := HO2.out.lt;have hrl2 := HR2.out.lt;have hobw : w.heap.size ≤ ob := by have := HB1.out.size; omega
   have hrbw : w.heap.size ≤ rb := by have := HRBE.out; omega
   clear hw2 hw2' hob HR1 hrl1;refine (inStatic_any p _ bb G addr w2 (HR.out.below HB2.out) s0 s1).mono ?_;rw [HS.out];rintro e1 w3 ⟨rfl, rfl⟩
   go_wp2_with fail
   refine (slotAt_any p _ bb G rest cls addr _ (HR.out.below HB2.out) HO.out a0 a1).mono ?_;rw [HL.out];rintro e1 w4 ⟨rfl, hb4⟩;have HO4 := hide2 (HO2.out.below hb4 hol);have HR4 := hide2 (HR2.out.below hb4 hrl2);have HB4 : Hid (Below w.heap.size w w4) := HB2.out.trans (hb4.mono HB2.out.size);have hol4 := HO4.out.lt;have hrl4 := HR4.out.lt;clear hb4 HO2 HR2 hol hrl2;have o0 := HO4.out.cell (j := 0) rfl;have o1 := HO4.out.cell (j := 1) rfl;have o2 := HO4.out.cell (j := 2) rfl;have o3 := HO4.out.cell (j := 3) rfl;have o4 := HO4.out.cell (j := 4) rfl;have o5 := HO4.out.cell (j := 5) rfl;have o6 := HO4.out.cell (j := 6) rfl;have o7 := HO4.out.cell (j := 7) rfl;have o8 := HO4.out.cell (j := 8) rfl;have o9 := HO4.out.cell (j := 9) rfl;have r0 := HR4.out.cell (j := 0) rfl;have r1 := HR4.out.cell (j := 1) rfl;have r2 := HR4.out.cell (j := 2) rfl;have r3 := HR4.out.cell (j := 3) rfl;have r4 := HR4.out.cell (j := 4) rfl;have r5 := HR4.out.cell (j := 5) rfl;have r6 := HR4.out.cell (j := 6) rfl;have r7 := HR4.out.cell (j := 7) rfl;have r8 := HR4.out.cell (j := 8) rfl;have r9 := HR4.out.cell (j := 9) rfl;have rf0 := HR4.out.frozen 0;have rf1 := HR4.out.frozen 1;have rf2 := HR4.out.frozen 2;have rf3 := HR4.out.frozen 3;have rf4 := HR4.out.frozen 4;have rf5 := HR4.out.frozen 5;have rf6 := HR4.out.frozen 6;have rf7 := HR4.out.frozen 7;have rf8 := HR4.out.frozen 8;have rf9 := HR4.out.frozen 9;clear HO4 HR4;go_wp2;refine bodyPost_ret (v := rptV ⟨er, addr, want, tg, 0, 0, 0, 0, 0, []⟩ (.slice none 0 0)) (by simp [results, Tryz.results159, go_sem, rptV, rptCells, *]) rfl ⟨_, rfl, ?_⟩;exact ⟨below_set10 HB4.out hrbw _ _ _ _ _ _ _ _ _ _, World.ownsRow_nil _ _ _ _, nofun⟩
  ·exfalso
   rcases haw with y | y
   ·exact hst y
   ·rw [hsl] at y; simp at y; omega
set_option maxRecDepth 100000 in
set_option maxHeartbeats 1600000 in
theorem report_slot (p : Nat) (vc : Value) (bb : Nat) (G : GSt) (rest : Int) (cls : List (Int × Int)) (er addr want : Int) (w : World) (h : GRep w p vc bb G) (ho : GOk G rest cls) (hbd : GBd G) (a0 : -9223372036854775808 ≤ addr) (a1 : addr ≤ 9223372036854775807) (hst : ¬ (16 ≤ addr ∧ addr < 16 * (1 + G.st))) (k s : Nat) (hsl : Cf.slot G.st cls addr = ((k : Int), (s : Int))) (hk : k < cls.length) (hs2 : s < (Cf.sl cls k).toNat) :
 Calls Tryz.prog 159 #[.pointer (some ⟨p, 0, none⟩), .int .i64 er, .int .i64 addr, .int .i64 want] w fun e w' => ∃ v, e = .returned (rptV (grpt G cls er addr want) v) ∧ NearRel w (grpt G cls er addr want).near v w' := by
 have HR := hide2 h;have HO := hide2 ho;have HBD := hide2 hbd;have hp := h.blk.lt;have s0 := ho.conf.st0;have s1 := ho.conf.st1;have n1 := ho.conf.n1;have hlen := ho.len;clear h ho hbd;obtain ⟨tg, htg⟩ : ∃ tg, gtag G cls addr = tg := ⟨_, rfl⟩
 have HTG := hide2 htg
 have HS : Hid ((decide (16 ≤ addr) && decide (addr < 16 * (1 + G.st))) = false) := by
  show _ = _
  by_cases c : 16 ≤ addr
  ·have : ¬ addr < 16 * (1 + G.st) := fun y => hst ⟨c, y⟩
   simp [this]
  ·simp [c]
 have hkl : k < G.cs.length := by omega
 have hsl2 := HO.out.sl k hk;have s1' := HO.out.conf.s1 k hk;have hsn : s < (G.cs.getD k GCls.no).slots.length := by omega
 obtain ⟨ac, cap, hvc, hcap, hmax, hrow⟩ := row_open HR.out.cls;subst hvc;obtain ⟨g, rfl, hgl, hcell, _⟩ := hrow (by omega);unfold maxLen at hmax;obtain ⟨_, _, d2⟩ := gcls_cells hcell k hkl;have hblk := HR.out.slots k hkl;have D2 := hide2 d2;have hbl := hblk.lt;have HBLK := hide2 hblk;obtain ⟨e0, e1, e2, e3, e4, e5⟩ := slot_cells hblk s hsn;have HF : Hid (grpt G cls er addr want = ⟨er, addr, want, tg, ((G.cs.getD k GCls.no).slots.getD s GSlot.no).state, k, s, ((G.cs.getD k GCls.no).slots.getD s GSlot.no).alloc, ((G.cs.getD k GCls.no).slots.getD s GSlot.no).gone, gnear (G.cs.getD k GCls.no).slots s want⟩) := by show _ = _; unfold grpt; rw [if_neg hst, hsl, htg]; rfl
 have HL : Hid (Cf.cslot G.st cls addr = ((k : Int), (s : Int))) := Cf.cslot_yes HO.out.conf _ k s hsl;rw [HF.out];have c2 := HR.out.blk.cell (j := 2) rfl;have hkI : (k : Int) < (G.cs.length : Int) := by omega
 have hl16 : (G.cs.getD k GCls.no).slots.length ≤ 16 := by omega
 clear hst htg HF hsl hblk hrow hcell hsl2 s1' hs2 hk;generalize (G.cs.getD k GCls.no).slots = xs at *;generalize (G.cs.getD k GCls.no).sb = sb at *;have hsI : (s : Int) < (xs.length : Int) := by omega
 generalize xs.getD s GSlot.no = x at *;go_enter Tryz.func159, Tryz.ntmps159
 go_wp2_with fail
 obtain ⟨wa, hwa⟩ : ∃ wa, wa = w.alloc (.cells (rptCells (Rpt.only 0) (.slice none 0 0)).toArray 26) := ⟨_, rfl⟩
 have hwa' := hwa;simp only [rptCells, Rpt.only] at hwa';rw [← hwa'];have HBA : Hid (Below w.heap.size w wa) := by show Below _ _ _; rw [hwa]; exact (Below.refl _ _).alloc (Nat.le_refl _) _
 have HRB : Hid (Blk wa w.heap.size 26 (rptCells (Rpt.only 0) (.slice none 0 0))) := by show Blk _ _ _ _; rw [hwa]; exact Blk.alloc _ _ _
 obtain ⟨rb, hrb⟩ : ∃ rb, rb = w.heap.size := ⟨_, rfl⟩
 rw [← hrb] at HRB ⊢;have HRBE := hide2 hrb;have hrl := HRB.out.lt;clear hwa hwa' hrb;refine (gtag_any p _ bb G rest cls addr wa (HR.out.below HBA.out) HO.out HBD.out a0 a1).mono ?_;rw [HTG.out];rintro e1 w1 ⟨rfl, hb1⟩;have HB1 : Hid (Below w.heap.size w w1) := HBA.out.trans (hb1.mono HBA.out.size);have HR1 := hide2 (HRB.out.below hb1 hrl);have hrl1 := HR1.out.lt;clear hb1 HRB HBA hrl
 go_wp2_with fail
 obtain ⟨w2, hw2⟩ : ∃ w2, w2 = w1.alloc (.cells (rptCells ⟨er, addr, want, tg, 0, 0, 0, 0, 0, []⟩ (.slice none 0 0)).toArray 26) := ⟨_, rfl⟩
 have hw2' := hw2;simp only [rptCells] at hw2';rw [← hw2'];have HB2 : Hid (Below w.heap.size w w2) := by show Below _ _ _; rw [hw2]; exact HB1.out.alloc HB1.out.size _
 have HO2 : Hid (Blk w2 w1.heap.size 26 (rptCells ⟨er, addr, want, tg, 0, 0, 0, 0, 0, []⟩ (.slice none 0 0))) := by show Blk _ _ _ _; rw [hw2]; exact Blk.alloc _ _ _
 have HR2 : Hid (Blk w2 rb 26 (rptCells (Rpt.only 0) (.slice none 0 0))) := by show Blk _ _ _ _; rw [hw2]; exact HR1.out.below ((Below.refl _ _).alloc (Nat.le_refl _) _) hrl1
 obtain ⟨ob, hob⟩ : ∃ ob, ob = w1.heap.size := ⟨_, rfl⟩
 rw [← hob] at HO2 ⊢;have hne : rb ≠ ob := by omega
 have hne2 : ob ≠ rb := by omega
 have hol := HO2.out.lt;have hrl2 := HR2.out.lt;have hobw : w.heap.size ≤ ob := by have := HB1.out.size; omega
 have hrbw : w.heap.size ≤ rb := by have := HRBE.out; omega
 clear hw2 hw2' hob HR1 hrl1;refine (inStatic_any p _ bb G addr w2 (HR.out.below HB2.out) s0 s1).mono ?_;rw [HS.out];rintro e1 w3 ⟨rfl, rfl⟩
 go_wp2_with fail
 refine (slotAt_any p _ bb G rest cls addr _ (HR.out.below HB2.out) HO.out a0 a1).mono ?_;rw [HL.out];rintro e1 w4 ⟨rfl, hb4⟩;have HO4 := hide2 (HO2.out.below hb4 hol);have HR4 := hide2 (HR2.out.below hb4 hrl2);have HB4 : Hid (Below w.heap.size w w4) := HB2.out.trans (hb4.mono HB2.out.size);have hol4 := HO4.out.lt;have hrl4 := HR4.out.lt;have c2' := (HB4.out.cell (p := ⟨p, 2, none⟩) hp).trans c2;have d2' := (HB4.out.cell (p := ⟨g, k * 3 + 2, none⟩) hgl).trans d2;have e0' := (HB4.out.cell (p := ⟨sb, s * 6, none⟩) hbl).trans e0;have e1' := (HB4.out.cell (p := ⟨sb, s * 6 + 1, none⟩) hbl).trans e1;have e2' := (HB4.out.cell (p := ⟨sb, s * 6 + 2, none⟩) hbl).trans e2;have e3' := (HB4.out.cell (p := ⟨sb, s * 6 + 3, none⟩) hbl).trans e3;have e4' := (HB4.out.cell (p := ⟨sb, s * 6 + 4, none⟩) hbl).trans e4;have e5' := (HB4.out.cell (p := ⟨sb, s * 6 + 5, none⟩) hbl).trans e5;have hx1 : p ≠ ob := by omega
 have hx2 : g ≠ ob := by omega
 have hx3 : ob ≠ w4.heap.size := by omega
 have hx4 : w4.heap.size ≠ ob := by omega
 clear hb4 HO2 HR2 hol hrl2 e0 e1 e2 e3 e4 e5 d2 c2;go_upto_region 10 with (fail);obtain ⟨w5, hw5⟩ : ∃ w5, w5 = w4.alloc (.cells #[.int .i64 x.state, .int .i64 x.tag, .int .i64 x.bytes, .int .i64 x.rest, .int .i64 x.alloc, .int .i64 x.gone] 146) := ⟨_, rfl⟩
 rw [← hw5];have hb5 : Below w4.heap.size w4 w5 := by rw [hw5]; exact (Below.refl _ _).alloc (Nat.le_refl _) _
 have HX5 : Hid (Blk w5 w4.heap.size 146 [.int .i64 x.state, .int .i64 x.tag, .int .i64 x.bytes, .int .i64 x.rest, .int .i64 x.alloc, .int .i64 x.gone]) := by show Blk _ _ _ _; rw [hw5]; exact Blk.alloc _ _ _
 have HO5 := hide2 (HO4.out.below hb5 hol4);have HR5 := hide2 (HR4.out.below hb5 hrl4);have HB5 : Hid (Below w.heap.size w w5) := HB4.out.trans (hb5.mono HB4.out.size);obtain ⟨bx, hbx⟩ : ∃ bx, bx = w4.heap.size := ⟨_, rfl⟩
 rw [← hbx] at HX5 hx3 hx4 ⊢;have hxl5 := HX5.out.lt;have hol5 := HO5.out.lt;have q0 := HX5.out.cell (j := 0) rfl;have q4 := HX5.out.cell (j := 4) rfl;have q5 := HX5.out.cell (j := 5) rfl;have o4 := HO5.out.cell (j := 4) rfl;have o5 := HO5.out.cell (j := 5) rfl;have o6 := HO5.out.cell (j := 6) rfl;have o7 := HO5.out.cell (j := 7) rfl;have o8 := HO5.out.cell (j := 8) rfl;have of4 := HO5.out.frozen 4;have of5 := HO5.out.frozen 5;have of6 := HO5.out.frozen 6;have of7 := HO5.out.frozen 7;have of8 := HO5.out.frozen 8;clear hw5 hbx hb5 HO4 HR4 e0' e1' e2' e3' e4' e5' c2' d2' hol4 hrl4;go_upto_region 15 with (fail);have hO6 := ((((HO5.out.setCell 4 (.int .i64 x.state)).setCell 5 (.int .i64 (k : Int))).setCell 6 (.int .i64 (s : Int))).setCell 7 (.int .i64 x.alloc)).setCell 8 (.int .i64 x.gone);have HO6 : Hid (Blk _ ob 26 (rptCells ⟨er, addr, want, tg, x.state, k, s, x.alloc, x.gone, []⟩ (.slice none 0 0))) := hO6;have HR6 := hide2 (((((HR5.out.setCell_other ⟨ob, 4, none⟩ (.int .i64 x.state) hne).setCell_other ⟨ob, 5, none⟩ (.int .i64 (k : Int)) hne).setCell_other ⟨ob, 6, none⟩ (.int .i64 (s : Int)) hne).setCell_other ⟨ob, 7, none⟩ (.int .i64 x.alloc) hne).setCell_other ⟨ob, 8, none⟩ (.int .i64 x.gone) hne);have HB6 := hide2 (((((HB5.out.setCell (p := ⟨ob, 4, none⟩) hobw (.int .i64 x.state)).setCell (p := ⟨ob, 5, none⟩) hobw (.int .i64 (k : Int))).setCell (p := ⟨ob, 6, none⟩) hobw (.int .i64 (s : Int))).setCell (p := ⟨ob, 7, none⟩) hobw (.int .i64 x.alloc)).setCell (p := ⟨ob, 8, none⟩) hobw (.int .i64 x.gone));clear hO6 q0 q4 q5 o4 o5 o6 o7 o8 of4 of5 of6 of7 of8 HO5 HR5 HX5;generalize (((((w5.setCell ⟨ob, 4, none⟩ (.int .i64 x.state)).setCell ⟨ob, 5, none⟩ (.int .i64 (k : Int))).setCell ⟨ob, 6, none⟩ (.int .i64 (s : Int))).setCell ⟨ob, 7, none⟩ (.int .i64 x.alloc)).setCell ⟨ob, 8, none⟩ (.int .i64 x.gone)) = w6 at *;have c26 := (HB6.out.cell (p := ⟨p, 2, none⟩) hp).trans (HR.out.blk.cell (j := 2) rfl);have d26 := (HB6.out.cell (p := ⟨g, k * 3 + 2, none⟩) hgl).trans D2.out;have hg6 : g < w6.heap.size := Nat.lt_of_lt_of_le hgl HB6.out.size;have hb6 := hide2 (HBLK.out.below HB6.out hbl);have hol6 := HO6.out.lt;have hrl6 := HR6.out.lt
 go_wp2_with fail
 refine (near_any g (k * 3) sb xs (s : Int) want w6 d26 hg6 hb6.out hl16 (by omega) (by omega)).mono ?_;rintro e1 w7 ⟨v, rfl, hn⟩;obtain ⟨na, ncap, hv, -, -, -⟩ := row_open hn.row;subst hv;have HN := hide2 hn;have HO7 := hide2 (HO6.out.below hn.below hol6);have HR7 := hide2 (HR6.out.below hn.below hrl6);have HB7 : Hid (Below w.heap.size w w7) := HB6.out.trans (hn.below.mono HB6.out.size);have hol7 := HO7.out.lt;have o9 := HO7.out.cell (j := 9) rfl;have of9 := HO7.out.frozen 9;clear hn c26 d26 HO6 HR6;go_upto_region 16 with (fail);have HO8 : Hid (Blk _ ob 26 (rptCells ⟨er, addr, want, tg, x.state, k, s, x.alloc, x.gone, []⟩ (.slice na (gnear xs (s : Int) want).length ncap))) := HO7.out.setCell 9 (.slice na (gnear xs (s : Int) want).length ncap);have HR8 := hide2 (HR7.out.setCell_other ⟨ob, 9, none⟩ (.slice na (gnear xs (s : Int) want).length ncap) hne);have HB8 := hide2 (HB7.out.setCell (p := ⟨ob, 9, none⟩) hobw (.slice na (gnear xs (s : Int) want).length ncap));have HW8 : Hid (∀ b, b ≠ ob → (w7.setCell ⟨ob, 9, none⟩ (.slice na (gnear xs (s : Int) want).length ncap)).heap[b]? = w7.heap[b]?) := fun b hb => Below.heap_setCell _ _ _ b hb
 clear o9 of9 HO7 HR7;generalize w7.setCell ⟨ob, 9, none⟩ (.slice na (gnear xs (s : Int) want).length ncap) = w8 at *;have hol8 := HO8.out.lt;have hrl8 := HR8.out.lt;have o0 := HO8.out.cell (j := 0) rfl;have o1 := HO8.out.cell (j := 1) rfl;have o2 := HO8.out.cell (j := 2) rfl;have o3 := HO8.out.cell (j := 3) rfl;have o4 := HO8.out.cell (j := 4) rfl;have o5 := HO8.out.cell (j := 5) rfl;have o6 := HO8.out.cell (j := 6) rfl;have o7 := HO8.out.cell (j := 7) rfl;have o8 := HO8.out.cell (j := 8) rfl;have o9 := HO8.out.cell (j := 9) rfl;have r0 := HR8.out.cell (j := 0) rfl;have r1 := HR8.out.cell (j := 1) rfl;have r2 := HR8.out.cell (j := 2) rfl;have r3 := HR8.out.cell (j := 3) rfl;have r4 := HR8.out.cell (j := 4) rfl;have r5 := HR8.out.cell (j := 5) rfl;have r6 := HR8.out.cell (j := 6) rfl;have r7 := HR8.out.cell (j := 7) rfl;have r8 := HR8.out.cell (j := 8) rfl;have r9 := HR8.out.cell (j := 9) rfl;have rf0 := HR8.out.frozen 0;have rf1 := HR8.out.frozen 1;have rf2 := HR8.out.frozen 2;have rf3 := HR8.out.frozen 3;have rf4 := HR8.out.frozen 4;have rf5 := HR8.out.frozen 5;have rf6 := HR8.out.frozen 6;have rf7 := HR8.out.frozen 7;have rf8 := HR8.out.frozen 8;have rf9 := HR8.out.frozen 9;clear HO8 HR8;go_wp2;refine bodyPost_ret (v := rptV ⟨er, addr, want, tg, x.state, k, s, x.alloc, x.gone, []⟩ (.slice na (gnear xs (s : Int) want).length ncap)) (by simp [results, Tryz.results159, go_sem, rptV, rptCells, *]) rfl ⟨_, rfl, ?_⟩;have hvl : ∀ b, (Value.ownBlock (.slice na (gnear xs (s : Int) want).length ncap)) = some b → w6.heap.size ≤ b := HN.out.vlo;refine ⟨below_set10 HB8.out hrbw _ _ _ _ _ _ _ _ _ _, row_kept HN.out.row (fun b hb => ?_), fun b hb => ?_⟩
 ·have := hvl b hb;rw [heap_set10 w8 (by omega), HW8.out b (by omega)]
 ·have := hvl b hb;have := HB6.out.size;omega
theorem report_any (p : Nat) (vc : Value) (bb : Nat) (G : GSt) (rest : Int) (cls : List (Int × Int)) (er addr want : Int) (w : World) (h : GRep w p vc bb G) (ho : GOk G rest cls) (hbd : GBd G) (a0 : -9223372036854775808 ≤ addr) (a1 : addr ≤ 9223372036854775807) :
 Calls Tryz.prog 159 #[.pointer (some ⟨p, 0, none⟩), .int .i64 er, .int .i64 addr, .int .i64 want] w fun e w' => ∃ v, e = .returned (rptV (grpt G cls er addr want) v) ∧ NearRel w (grpt G cls er addr want).near v w' := by
 by_cases hst : 16 ≤ addr ∧ addr < 16 * (1 + G.st)
 ·exact report_away p vc bb G rest cls er addr want w h ho hbd a0 a1 (.inl hst)
 ·rcases Cf.slot_bd G.st cls addr with hsl | ⟨k, s, hsl, hk, hs2, _⟩
  ·exact report_away p vc bb G rest cls er addr want w h ho hbd a0 a1 (.inr (by rw [hsl]; decide))
  ·exact report_slot p vc bb G rest cls er addr want w h ho hbd a0 a1 hst k s hsl hk hs2
end Go.Proofs.YtjikemhmnkckcabGreat
