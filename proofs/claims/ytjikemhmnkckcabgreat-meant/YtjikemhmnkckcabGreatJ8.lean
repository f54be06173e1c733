import Derived.Test.YtjikemhmnkckcabGreatJ7
import Derived.Deep.CutRange
namespace Go.Proofs.YtjikemhmnkckcabGreat
open Go.RowKit
theorem info_byte : (Tryz.prog.info? 5).map (fun i => (i.zero, i.size, i.bytes)) = some (some (.int .u8 0), 1, 1) := by kernel_rfl
def imgD (st rest : Int) (cls : List (Int × Int)) (d : ByteArray) (m : Nat) : ByteArray := ⟨((img2 st rest cls cls.length ++ bOne (d.size : Int)).data.toList ++ d.data.toList.take m).toArray⟩
theorem imgD_zero (st rest : Int) (cls : List (Int × Int)) (d : ByteArray) : imgD st rest cls d 0 = img2 st rest cls cls.length ++ bOne (d.size : Int) := by
 apply ByteArray.ext;simp [imgD]
theorem imgD_size (st rest : Int) (cls : List (Int × Int)) (d : ByteArray) (m : Nat) (hm : m ≤ d.size) : (imgD st rest cls d m).size = 6 + 2 * cls.length + m := by
 have := img2_size st rest cls cls.length;have h2 : d.data.size = d.size := rfl;have h3 : (img2 st rest cls cls.length).data.size = (img2 st rest cls cls.length).size := rfl;have h4 : ∀ v : Int, (bOne v).data.size = 1 := fun _ => rfl
 simp only [imgD, h4, ByteArray.size, List.size_toArray, List.length_append, List.length_take, Array.length_toList, ByteArray.data_append, Array.size_append];omega
theorem imgD_succ (st rest : Int) (cls : List (Int × Int)) (d : ByteArray) (m : Nat) (hm : m < d.size) : bytesV (imgD st rest cls d (m + 1)) = bytesV (imgD st rest cls d m) ++ [.int .u8 (d[m].toNat : Int)] := by
 have hl : m < d.data.toList.length := by simpa using hm
 simp only [bytesV, imgD, List.take_add_one, List.getElem?_eq_getElem hl, List.map_append, Option.toList_some, List.append_assoc, List.map_cons, List.map_nil];rfl
theorem imgD_all (st rest : Int) (cls : List (Int × Int)) (d : ByteArray) : imgD st rest cls d d.size = img2 st rest cls cls.length ++ bOne (d.size : Int) ++ d := by
 apply ByteArray.ext;have : d.data.toList.take d.size = d.data.toList := List.take_of_length_le (by simp);simp only [imgD, this, ByteArray.data_append];simp
structure ILoop (w wr : World) (pb : Nat) (pv : List Value) (v : Value) (b : ByteArray) : Prop where
 below : Below pb w wr
 blk : Blk wr pb 39 pv
 row : wr.ownsRow 0 5 1 v b.size (bytesV b)
 far : ∀ g, v.ownBlock = some g → pb < g
theorem ILoop.lt {w wr : World} {pb : Nat} {pv : List Value} {v : Value} {b : ByteArray} (h : ILoop w wr pb pv v b) : ∀ g, v.ownBlock = some g → g < wr.heap.size := fun g hg => by
 rcases h.row.2 with ⟨rfl, _⟩ | ⟨g', cap, cur, rfl, _, hgg, _⟩
 ·simp [Value.ownBlock] at hg
 ·simp [Value.ownBlock] at hg;subst hg;exact (Array.getElem?_eq_some_iff.1 hgg).1
theorem ILoop.row_at {w wr wx : World} {pb : Nat} {pv : List Value} {v : Value} {b : ByteArray} (h : ILoop w wr pb pv v b) (hx : Below wr.heap.size wr wx) : wx.ownsRow 0 5 1 v b.size (bytesV b) :=
 row_below h.row hx h.lt
theorem ILoop.step {w wr wx w2 : World} {pb : Nat} {pv : List Value} {v v2 : Value} {b b2 : ByteArray} {n2 : Nat} {xs2 : List Value} (h : ILoop w wr pb pv v b) (hx : Below wr.heap.size wr wx) (hgrow : wx.grownBy w2 v.ownBlock)
 (hown : w2.ownsRow 0 5 1 v2 n2 xs2) (e1 : n2 = b2.size) (e2 : xs2 = bytesV b2) (hf : ∀ g, v2.ownBlock = some g → pb < g) : ILoop w w2 pb pv v2 b2 := by
 subst e1 e2;have hl := h.blk.lt;have hx2 := hx.size;refine ⟨⟨by rw [hgrow.os, hx.os, h.below.os], by rw [hgrow.tape, hx.tape, h.below.tape], by rw [hgrow.output, hx.output, h.below.output], Nat.le_trans h.below.size (Nat.le_trans hx.size hgrow.size), fun k hk => ?_⟩, ?_, hown, hf⟩
 ·rw [hgrow.block k (by omega) (fun e => by have := h.far k e.symm; omega), hx.block k (by omega), h.below.block k hk]
 ·exact (hgrow.block pb (by omega) (fun e => by have := h.far pb e.symm; omega)).trans ((hx.block pb hl).trans h.blk)
theorem first_loop {w wb wx w2 : World} {pb : Nat} {pv : List Value} {g n2 cap2 : Nat} {b2 : ByteArray} {xs2 : List Value} (hb : Below pb w wb) (hp : Blk wb pb 39 pv) (hx : Below wb.heap.size wb wx) (hgrow : wx.grownBy w2 none)
 (hown : w2.ownsRow 0 5 1 (.slice (some ⟨g, 0, none⟩) n2 cap2) n2 xs2) (e1 : n2 = b2.size) (e2 : xs2 = bytesV b2) (hf : pb < g) : ILoop w w2 pb pv (.slice (some ⟨g, 0, none⟩) n2 cap2) b2 := by
 have hl := hp.lt;have hx2 := hx.size;refine ⟨⟨by rw [hgrow.os, hx.os, hb.os], by rw [hgrow.tape, hx.tape, hb.tape], by rw [hgrow.output, hx.output, hb.output], Nat.le_trans hb.size (Nat.le_trans hx.size hgrow.size), fun k hk => ?_⟩, ?_, by subst e1 e2; exact hown, fun g' hg' => by simp [Value.ownBlock] at hg'; omega⟩
 ·rw [hgrow.block k (by omega) (by simp), hx.block k (by omega), hb.block k hk]
 ·exact (hgrow.block pb (by omega) (by simp)).trans ((hx.block pb hl).trans hp)
set_option maxRecDepth 100000 in
set_option maxHeartbeats 3200000 in
theorem image_any (st rest : Int) (a : Option Addr) (cap : Nat) (cls : List (Int × Int)) (d : ByteArray) (ia : Option Addr) (icap : Nat) (code : List Ins) (w : World) (h : CRow w a cap cls) (hi : IRow w ia icap code) (hs : soundB st rest cls d.size code = true) :
 Calls Tryz.prog 45 #[.agg #[.int .i64 st, .int .i64 rest, .slice a cls.length cap, .string d, .slice ia code.length icap]] w fun e w' => e = .returned (.string (img4 st rest cls d code code.length)) ∧ Below w.heap.size w w' := by
 obtain ⟨i0, hi0, hz0, hz1, hz2⟩ := info_parts info_byte;have HC := hide2 h;have HI := hide2 hi
 have hval : Cf.Valid st rest cls := by
  refine Cf.valid_of ?_;unfold soundB at hs;simp only [Bool.and_eq_true] at hs;exact hs.1.1
 have hd255 : d.size ≤ 255 ∧ withinB code.length 1 255 = true ∧ codeB code code.length = true := by
  unfold soundB at hs;simp only [Bool.and_eq_true, decide_eq_true_eq] at hs;exact ⟨hs.1.2.1, hs.2.1, hs.2.2⟩
 have hn255 : code.length ≤ 255 := by have := hd255.2.1; unfold withinB at this; simp at this; omega
 have HCB := hide2 hd255.2.2;have hds := hd255.1;have st0 := hval.st0;have st1 := hval.st1;have re0 := hval.re0;have re1 := hval.re1;have n0 := hval.n0;have n1 := hval.n1;have hil := hi.len;have hic := hi.cap;have hcl := h.len;have hcc := h.cap;unfold maxLen at hic hcc;have HVAL := hide2 hval
 have hconv : (convert 77 77 (.slice (some ⟨w.heap.size + 1, 0, none⟩) 2 2)).run Tryz.prog ((w.alloc (.cells #[.int .i64 st, .int .i64 rest, .slice a cls.length cap, .string d, .slice ia code.length icap] 39)).alloc (.cells #[.int .u8 71, .int .u8 82] 5)) = .ok (.slice (some ⟨w.heap.size + 1, 0, none⟩) 2 2) ((w.alloc (.cells #[.int .i64 st, .int .i64 rest, .slice a cls.length cap, .string d, .slice ia code.length icap] 39)).alloc (.cells #[.int .u8 71, .int .u8 82] 5 (2, 3))) :=
  Go.Joins.run_convert_bytes_const_at _ 77 5 _ 2 2 _ (by simp) Tryz.underlying77 Tryz.underlying5
 clear h hi hs hval hd255;go_enter Tryz.func45, Tryz.ntmps45;go_upto_region 2 with (fail);obtain ⟨wb, hwb⟩ : ∃ wb, wb = (w.alloc (.cells #[.int .i64 st, .int .i64 rest, .slice a cls.length cap, .string d, .slice ia code.length icap] 39)).alloc (.cells #[.int .u8 71, .int .u8 82] 5 (2, 3)) := ⟨_, rfl⟩
 rw [← hwb];have HBB : Hid (Below w.heap.size w wb) := by show Below _ _ _; rw [hwb]; exact ((Below.refl _ _).alloc (Nat.le_refl _) _).alloc (by simp) _
 have HPB : Hid (Blk wb w.heap.size 39 [.int .i64 st, .int .i64 rest, .slice a cls.length cap, .string d, .slice ia code.length icap]) := by
  show Blk _ _ _ _; rw [hwb]; exact (Below.heap_alloc _ _ _ (by simp)).trans (heap_alloc_new w _)
 have hk : wb.heap[w.heap.size + 1]? = some (.cells #[.int .u8 71, .int .u8 82] 5 (2, 3)) := by
  rw [hwb, show w.heap.size + 1 = (w.alloc (.cells #[.int .i64 st, .int .i64 rest, .slice a cls.length cap, .string d, .slice ia code.length icap] 39)).heap.size by simp]; exact heap_alloc_new _ _
 have hwsz : wb.heap.size = w.heap.size + 2 := by rw [hwb]; simp
 have hnews := World.news_of_block hk;have HNW := hide2 hnews;have HK := hide2 hk;clear hwb hconv hnews hk;have p0 := HPB.out.cell (j := 0) rfl;have p1 := HPB.out.cell (j := 1) rfl;have p2 := HPB.out.cell (j := 2) rfl;have hpl := HPB.out.lt
 go_wp2_with (at_builtin; refine wpList_append_new _ rfl _ _ _ rfl 0 5 i0 _ 1 1 Tryz.underlying77 hi0 hz0 hz1 hz2 rfl (by omega) ⟨w.heap.size + 1, 0, none⟩ 2 2 [.int .u8 71, .int .u8 82] rfl rfl (World.news_of_block (cs := #[.int .u8 71, .int .u8 82]) ((Below.heap_alloc wb _ _ (by omega)).trans HK.out)) ⟨w.heap.size + 2, 0, none⟩ 3 3 [.int .u8 st, .int .u8 rest, .int .u8 (cls.length : Int)] rfl (by omega) rfl (World.news_of_block (cs := #[.int .u8 st, .int .u8 rest, .int .u8 (cls.length : Int)]) (t := 5) (fr := (0, 0)) (by rw [← hwsz]; exact heap_alloc_new wb _)) (by simp [maxLen]) (by omega) (by omega) (w.heap.size + 3) (by simp [hwsz]) ?_; intro cap2 w2 hown hgrow hlt; have HL0 : Hid (ILoop w w2 w.heap.size [.int .i64 st, .int .i64 rest, .slice a cls.length cap, .string d, .slice ia code.length icap] (.slice (some ⟨w.heap.size + 3, 0, none⟩) (2 + 3) cap2) (img2 st rest cls 0)) := first_loop HBB.out HPB.out ((Below.refl _ _).alloc (Nat.le_refl _) _) hgrow hown (by rw [img2_size]) (by show _ = bytesV (img1 st rest cls); unfold img1; rw [bytesV_append, bytesV_append, bytesV_append, bytesV_one st0 (by omega), bytesV_one re0 (by omega), bytesV_one (by omega) (by omega)]; rfl) (by omega); clear hown hgrow p0 p1 p2 HPB HBB HK HNW hwsz)
 obtain ⟨cg, coff, rfl, hcgl, hccell⟩ := HC.out.cells n0;have HCC := hide2 hccell;clear hccell hlt hpl
 go_loopw [3, 4] (fun v i wr => ∃ (m : Nat) (s : Value), m ≤ cls.length ∧ i = .int .i64 (m : Int) ∧ s = v ∧ Hid (ILoop w wr w.heap.size [.int .i64 st, .int .i64 rest, .slice (some ⟨cg, coff, none⟩) cls.length cap, .string d, .slice ia code.length icap] s (img2 st rest cls m))) (fun _ i _ => cls.length - (intOf i).toNat)
 case atStart => exact ⟨0, _, by omega, rfl, rfl, HL0⟩
 case round =>
  obtain ⟨m, s, hm, rfl, rfl, HL⟩ := hrel;clear HL0;have q2 := HL.out.blk.cell (j := 2) rfl;have hql := HL.out.blk.lt;have hb := HL.out.below
  by_cases hlt : m < cls.length
  ·have hmI : (m : Int) < (cls.length : Int) := by omega
   have dx := (hb.cell (p := ⟨cg, coff + m * 2, none⟩) hcgl).trans (HCC.out m hlt).1;have dy := (hb.cell (p := ⟨cg, coff + m * 2 + 1, none⟩) hcgl).trans (HCC.out m hlt).2;have gx0 := HVAL.out.g0 m hlt;have gx1 := HVAL.out.g1 m hlt;have gy0 := HVAL.out.s0 m hlt;have gy1 := HVAL.out.s1 m hlt;have HNX : Hid (img2 st rest cls (m + 1) = img2 st rest cls m ++ bOne (Cf.gr cls m) ++ bOne (Cf.sl cls m)) := rfl;have hsz : (img2 st rest cls m).size ≤ 100 := by rw [img2_size]; omega
   clear hb;generalize Cf.gr cls m = x at *;generalize Cf.sl cls m = y at *;generalize img2 st rest cls m = sm at *;obtain ⟨wx, hwx⟩ : ∃ wx, wx = wr.alloc (.cells #[.int .i64 x, .int .i64 y] 84) := ⟨_, rfl⟩
   have hwx1 : wx.heap.size = wr.heap.size + 1 := by rw [hwx]; simp
   have HX : Hid (Below wr.heap.size wr wx) := by show Below _ _ _; rw [hwx]; exact (Below.refl _ _).alloc (Nat.le_refl _) _
   have HX2 : Hid (Below wr.heap.size wr (wx.alloc (.cells #[.int .u8 x, .int .u8 y] 5))) := HX.out.alloc (by omega) _;have HRW := hide2 (HL.out.row_at HX2.out);have HLT := hide2 HL.out.lt
   go_wp2_with (at_builtin; go_loud (rw [← hwx]; refine wpList_append_lies _ rfl _ _ _ rfl 0 5 i0 _ 1 1 Tryz.underlying77 hi0 hz0 hz1 hz2 rfl (by omega) s sm.size (bytesV sm) rfl HRW.out ⟨wr.heap.size + 1, 0, none⟩ 2 2 [.int .u8 x, .int .u8 y] rfl rfl (World.news_of_block (cs := #[.int .u8 x, .int .u8 y]) (t := 5) (fr := (0, 0)) (by rw [← hwx1]; exact heap_alloc_new wx _)) (by simp [Value.oneCell']) (by omega) (by simp [maxLen]; omega) (by omega) (by omega) (wr.heap.size + 2) (by simp [hwx1]) ?_; intro gg cap2 w2 hown hgrow hat hlt2))
   have HNL : Hid (ILoop w w2 w.heap.size [.int .i64 st, .int .i64 rest, .slice (some ⟨cg, coff, none⟩) cls.length cap, .string d, .slice ia code.length icap] (.slice (some ⟨gg, 0, none⟩) (sm.size + 2) cap2) (img2 st rest cls (m + 1))) := by
    refine HL.out.step HX2.out hgrow hown ?_ ?_ ?_
    ·rw [HNX.out]; simp [ByteArray.size_append, bOne_size]
    ·rw [HNX.out, bytesV_append, bytesV_append, bytesV_one (by omega) (by omega), bytesV_one (by omega) (by omega)]; simp
    ·intro g hg;simp [Value.ownBlock] at hg;subst hg
     rcases hat with e | e
     ·exact HL.out.far _ e
     ·omega
   go_roundw
   case rel => exact ⟨m + 1, _, by omega, by go_num, rfl, HNL⟩
   case measure => simp [intOf]; omega
  ·obtain rfl : m = cls.length := by omega
   go_upto_region 8 with (fail);have q3 := HL.out.blk.cell (j := 3) rfl;have hsz : (img2 st rest cls cls.length).size ≤ 100 := by rw [img2_size]; omega
   have HNX : Hid (imgD st rest cls d 0 = img2 st rest cls cls.length ++ bOne (d.size : Int)) := imgD_zero _ _ _ _;clear hb;generalize img2 st rest cls cls.length = sm at *;have HX2 : Hid (Below wr.heap.size wr (wr.alloc (.cells #[.int .u8 (d.size : Int)] 5))) := (Below.refl _ _).alloc (Nat.le_refl _) _;have HRW := hide2 (HL.out.row_at HX2.out)
   go_wp2_with (at_builtin; go_loud (refine wpList_append_lies _ rfl _ _ _ rfl 0 5 i0 _ 1 1 Tryz.underlying77 hi0 hz0 hz1 hz2 rfl (by omega) s sm.size (bytesV sm) rfl HRW.out ⟨wr.heap.size, 0, none⟩ 1 1 [.int .u8 (d.size : Int)] rfl rfl (World.news_of_block (cs := #[.int .u8 (d.size : Int)]) (t := 5) (fr := (0, 0)) (heap_alloc_new wr _)) (by simp [Value.oneCell']) (by omega) (by simp [maxLen]; omega) (by omega) (by simp) (wr.heap.size + 1) (by simp) ?_; intro gg cap2 w2 hown hgrow hat hlt2))
   have HL0 : Hid (ILoop w w2 w.heap.size [.int .i64 st, .int .i64 rest, .slice (some ⟨cg, coff, none⟩) cls.length cap, .string d, .slice ia code.length icap] (.slice (some ⟨gg, 0, none⟩) (sm.size + 1) cap2) (imgD st rest cls d 0)) := by
    refine HL.out.step HX2.out hgrow hown ?_ ?_ ?_
    ·rw [HNX.out]; simp [ByteArray.size_append, bOne_size]
    ·rw [HNX.out, bytesV_append, bytesV_one (by omega) (by omega)]
    ·intro g hg;simp [Value.ownBlock] at hg;subst hg
     rcases hat with e | e
     ·exact HL.out.far _ e
     ·omega
   clear hown hgrow hat hlt2 HRW HX2 HNX HL q2 q3 hql hlt hm
   go_loopw [3, 6] (fun v i wr => ∃ (m : Nat) (s : Value), m ≤ d.size ∧ i = .int .i64 (m : Int) ∧ s = v ∧ Hid (ILoop w wr w.heap.size [.int .i64 st, .int .i64 rest, .slice (some ⟨cg, coff, none⟩) cls.length cap, .string d, .slice ia code.length icap] s (imgD st rest cls d m))) (fun _ i _ => d.size - (intOf i).toNat)
   case atStart => exact ⟨0, _, by omega, rfl, rfl, HL0⟩
   case round =>
    obtain ⟨m, s, hm, rfl, rfl, HL⟩ := hrel;clear HL0;have q3 := HL.out.blk.cell (j := 3) rfl;have hql := HL.out.blk.lt
    by_cases hlt : m < d.size
    ·have hmI : (m : Int) < (d.size : Int) := by omega
     have HNX := hide2 (imgD_succ st rest cls d m hlt);have HS1 := hide2 (imgD_size st rest cls d (m + 1) (by omega));have HS0 := hide2 (imgD_size st rest cls d m (by omega));have hsz : (imgD st rest cls d m).size ≤ 1000 := by rw [imgD_size _ _ _ _ _ hm]; omega
     generalize imgD st rest cls d m = sm at *;have HX2 : Hid (Below wr.heap.size wr (wr.alloc (.cells #[.int .u8 (d[m].toNat : Int)] 5))) := (Below.refl _ _).alloc (Nat.le_refl _) _;have HRW := hide2 (HL.out.row_at HX2.out)
     go_wp2_with (at_builtin; go_loud (refine wpList_append_lies _ rfl _ _ _ rfl 0 5 i0 _ 1 1 Tryz.underlying77 hi0 hz0 hz1 hz2 rfl (by omega) s sm.size (bytesV sm) rfl HRW.out ⟨wr.heap.size, 0, none⟩ 1 1 [.int .u8 (d[m].toNat : Int)] rfl rfl (World.news_of_block (cs := #[.int .u8 (d[m].toNat : Int)]) (t := 5) (fr := (0, 0)) (heap_alloc_new wr _)) (by simp [Value.oneCell']) (by omega) (by simp [maxLen]; omega) (by omega) (by simp) (wr.heap.size + 1) (by simp) ?_; intro gg cap2 w2 hown hgrow hat hlt2))
     have HNL : Hid (ILoop w w2 w.heap.size [.int .i64 st, .int .i64 rest, .slice (some ⟨cg, coff, none⟩) cls.length cap, .string d, .slice ia code.length icap] (.slice (some ⟨gg, 0, none⟩) (sm.size + 1) cap2) (imgD st rest cls d (m + 1))) := by
      refine HL.out.step HX2.out hgrow hown ?_ ?_ ?_
      ·rw [HS1.out, HS0.out]; omega
      ·rw [HNX.out]
      ·intro g hg;simp [Value.ownBlock] at hg;subst hg
       rcases hat with e | e
       ·exact HL.out.far _ e
       ·omega
     go_roundw
     case rel => exact ⟨m + 1, _, by omega, by go_num, rfl, HNL⟩
     case measure => simp [intOf]; omega
    ·obtain rfl : m = d.size := by omega
     go_upto_region 13 with (fail);have q4 := HL.out.blk.cell (j := 4) rfl;have HNX : Hid (img4 st rest cls d code 0 = imgD st rest cls d d.size ++ bOne (code.length : Int)) := by show _ = _; rw [imgD_all]; rfl
     have hsz : (imgD st rest cls d d.size).size ≤ 1000 := by rw [imgD_size _ _ _ _ _ hm]; omega
     generalize imgD st rest cls d d.size = sm at *;have HX2 : Hid (Below wr.heap.size wr (wr.alloc (.cells #[.int .u8 (code.length : Int)] 5))) := (Below.refl _ _).alloc (Nat.le_refl _) _;have HRW := hide2 (HL.out.row_at HX2.out)
     go_wp2_with (at_builtin; go_loud (refine wpList_append_lies _ rfl _ _ _ rfl 0 5 i0 _ 1 1 Tryz.underlying77 hi0 hz0 hz1 hz2 rfl (by omega) s sm.size (bytesV sm) rfl HRW.out ⟨wr.heap.size, 0, none⟩ 1 1 [.int .u8 (code.length : Int)] rfl rfl (World.news_of_block (cs := #[.int .u8 (code.length : Int)]) (t := 5) (fr := (0, 0)) (heap_alloc_new wr _)) (by simp [Value.oneCell']) (by omega) (by simp [maxLen]; omega) (by omega) (by simp) (wr.heap.size + 1) (by simp) ?_; intro gg cap2 w2 hown hgrow hat hlt2))
     have HL0 : Hid (ILoop w w2 w.heap.size [.int .i64 st, .int .i64 rest, .slice (some ⟨cg, coff, none⟩) cls.length cap, .string d, .slice ia code.length icap] (.slice (some ⟨gg, 0, none⟩) (sm.size + 1) cap2) (img4 st rest cls d code 0)) := by
      refine HL.out.step HX2.out hgrow hown ?_ ?_ ?_
      ·rw [HNX.out]; simp [ByteArray.size_append, bOne_size]
      ·rw [HNX.out, bytesV_append, bytesV_one (by omega) (by omega)]
      ·intro g hg;simp [Value.ownBlock] at hg;subst hg
       rcases hat with e | e
       ·exact HL.out.far _ e
       ·omega
     clear hown hgrow hat hlt2 HRW HX2 HNX HL q3 q4 hql hlt hm
     go_loopw [3, 7] (fun v i wr => ∃ (m : Nat) (s : Value), m ≤ code.length ∧ i = .int .i64 (m : Int) ∧ s = v ∧ Hid (ILoop w wr w.heap.size [.int .i64 st, .int .i64 rest, .slice (some ⟨cg, coff, none⟩) cls.length cap, .string d, .slice ia code.length icap] s (img4 st rest cls d code m))) (fun _ i _ => code.length - (intOf i).toNat)
     case atStart => exact ⟨0, _, by omega, rfl, rfl, HL0⟩
     case round =>
      obtain ⟨m, s, hm, rfl, rfl, HL⟩ := hrel;clear HL0;have q4 := HL.out.blk.cell (j := 4) rfl;have hql := HL.out.blk.lt;have hb := HL.out.below
      by_cases hlt : m < code.length
      ·have hmI : (m : Int) < (code.length : Int) := by omega
       obtain ⟨ig, ioff, rfl, higl, hicell⟩ := HI.out.cells (by omega);obtain ⟨e0, e1, e2, e3⟩ := hicell m hlt;have e0' := (hb.cell (p := ⟨ig, ioff + m * 4, none⟩) higl).trans e0;have e1' := (hb.cell (p := ⟨ig, ioff + m * 4 + 1, none⟩) higl).trans e1;have e2' := (hb.cell (p := ⟨ig, ioff + m * 4 + 2, none⟩) higl).trans e2;have e3' := (hb.cell (p := ⟨ig, ioff + m * 4 + 3, none⟩) higl).trans e3;have hbd := may_bd (codeB_at HCB.out hlt) (by omega);have HNX : Hid (img4 st rest cls d code (m + 1) = img4 st rest cls d code m ++ bOne (code.getD m Ins.no).op ++ bOne (code.getD m Ins.no).a ++ bOne (code.getD m Ins.no).b ++ bOne (code.getD m Ins.no).c) := rfl;have hsz : (img4 st rest cls d code m).size ≤ 2000 := by rw [img4_size]; omega
       clear e0 e1 e2 e3 hicell hb;generalize (code.getD m Ins.no) = x at *;obtain ⟨xo, xa, xb, xc⟩ := x;obtain ⟨⟨o0, o1⟩, ⟨a0, a1⟩, ⟨b0, b1⟩, ⟨c0, c1⟩⟩ := hbd;simp only at o0 o1 a0 a1 b0 b1 c0 c1 e0' e1' e2' e3';generalize img4 st rest cls d code m = sm at *;obtain ⟨wx, hwx⟩ : ∃ wx, wx = wr.alloc (.cells #[.int .i64 xo, .int .i64 xa, .int .i64 xb, .int .i64 xc] 60) := ⟨_, rfl⟩
       have hwx1 : wx.heap.size = wr.heap.size + 1 := by rw [hwx]; simp
       have HX : Hid (Below wr.heap.size wr wx) := by show Below _ _ _; rw [hwx]; exact (Below.refl _ _).alloc (Nat.le_refl _) _
       have HX2 : Hid (Below wr.heap.size wr (wx.alloc (.cells #[.int .u8 xo, .int .u8 xa, .int .u8 xb, .int .u8 xc] 5))) := HX.out.alloc (by omega) _;have HRW := hide2 (HL.out.row_at HX2.out)
       go_wp2_with (at_builtin; go_loud (rw [← hwx]; refine wpList_append_lies _ rfl _ _ _ rfl 0 5 i0 _ 1 1 Tryz.underlying77 hi0 hz0 hz1 hz2 rfl (by omega) s sm.size (bytesV sm) rfl HRW.out ⟨wr.heap.size + 1, 0, none⟩ 4 4 [.int .u8 xo, .int .u8 xa, .int .u8 xb, .int .u8 xc] rfl rfl (World.news_of_block (cs := #[.int .u8 xo, .int .u8 xa, .int .u8 xb, .int .u8 xc]) (t := 5) (fr := (0, 0)) (by rw [← hwx1]; exact heap_alloc_new wx _)) (by simp [Value.oneCell']) (by omega) (by simp [maxLen]; omega) (by omega) (by omega) (wr.heap.size + 2) (by simp [hwx1]) ?_; intro gg cap2 w2 hown hgrow hat hlt2))
       have HNL : Hid (ILoop w w2 w.heap.size [.int .i64 st, .int .i64 rest, .slice (some ⟨cg, coff, none⟩) cls.length cap, .string d, .slice (some ⟨ig, ioff, none⟩) code.length icap] (.slice (some ⟨gg, 0, none⟩) (sm.size + 4) cap2) (img4 st rest cls d code (m + 1))) := by
        refine HL.out.step HX2.out hgrow hown ?_ ?_ ?_
        ·rw [HNX.out]; simp [ByteArray.size_append, bOne_size]
        ·rw [HNX.out, bytesV_append, bytesV_append, bytesV_append, bytesV_append, bytesV_one (by omega) (by omega), bytesV_one (by omega) (by omega), bytesV_one (by omega) (by omega), bytesV_one (by omega) (by omega)]; simp
        ·intro g hg;simp [Value.ownBlock] at hg;subst hg
         rcases hat with e | e
         ·exact HL.out.far _ e
         ·omega
       go_roundw
       case rel => exact ⟨m + 1, _, by omega, by go_num, rfl, HNL⟩
       case measure => simp [intOf]; omega
      ·obtain rfl : m = code.length := by omega
       have hbel := HL.out.below;have hpos : 0 < (img4 st rest cls d code code.length).size := by rw [img4_size]; omega
       have HRW := HL.out.row;obtain ⟨g, cap3, rfl, -, -⟩ := HRW.form hpos
       have hcv : (convert 77 9 (.slice (some ⟨g, 0, none⟩) (img4 st rest cls d code code.length).size cap3)).run Tryz.prog wr = .ok (.string (img4 st rest cls d code code.length)) wr :=
        Go.Lib.run_convert_whole (P := Tryz.prog) wr 77 5 9 Tryz.underlying77 Tryz.underlying5 Tryz.underlying9 g 0 _ (row_bytes HRW) cap3
       have HBL := hide2 hbel;clear hbel hpos HRW HL hb;go_wp2;go_ret;exact ⟨rfl, HBL.out⟩
set_option maxRecDepth 100000 in
set_option maxHeartbeats 800000 in
theorem gwrite_yes (st rest : Int) (a : Option Addr) (cap : Nat) (cls : List (Int × Int)) (d : ByteArray) (ia : Option Addr) (icap : Nat) (code : List Ins) (w : World) (h : CRow w a cap cls) (hi : IRow w ia icap code) (hs : soundB st rest cls d.size code = true) :
 Calls Tryz.prog 24 #[.agg #[.int .i64 st, .int .i64 rest, .slice a cls.length cap, .string d, .slice ia code.length icap]] w fun e w' => e = .returned (.tuple #[.string (img4 st rest cls d code code.length), .int .i64 0]) ∧ Below w.heap.size w w' := by
 have HC := hide2 h;have HI := hide2 hi;have HS := hide2 hs;clear h hi hs;go_enter Tryz.func24, Tryz.ntmps24
 go_wp2_with fail
 obtain ⟨wa, hwa⟩ : ∃ wa, wa = w.alloc (.cells #[.int .i64 st, .int .i64 rest, .slice a cls.length cap, .string d, .slice ia code.length icap] 39) := ⟨_, rfl⟩
 rw [← hwa];have HBA : Hid (Below w.heap.size w wa) := by show Below _ _ _; rw [hwa]; exact (Below.refl _ _).alloc (Nat.le_refl _) _
 have HP : Hid (Blk wa w.heap.size 39 [.int .i64 st, .int .i64 rest, .slice a cls.length cap, .string d, .slice ia code.length icap]) := by show Blk _ _ _ _; rw [hwa]; exact Blk.alloc _ _ _
 clear hwa;refine (validProgram_any st rest a cap cls d ia icap code _ (HC.out.below HBA.out) (HI.out.below HBA.out)).mono ?_;rw [HS.out];rintro e1 w1 ⟨rfl, hb1⟩;have HP1 := hide2 (HP.out.below hb1 HP.out.lt);have HB : Hid (Below w.heap.size w w1) := HBA.out.trans (hb1.mono HBA.out.size);clear hb1 HP HBA;have p0 := HP1.out.cell (j := 0) rfl;have p1 := HP1.out.cell (j := 1) rfl;have p2 := HP1.out.cell (j := 2) rfl;have p3 := HP1.out.cell (j := 3) rfl;have p4 := HP1.out.cell (j := 4) rfl
 go_wp2_with fail
 refine (image_any st rest a cap cls d ia icap code _ (HC.out.below HB.out) (HI.out.below HB.out) HS.out).mono ?_;rintro e2 w2 ⟨rfl, hb2⟩;have HB2 := hide2 (HB.out.trans (hb2.mono HB.out.size));clear hb2 p0 p1 p2 p3 p4;go_wp2;go_ret2;exact ⟨rfl, HB2.out⟩
end Go.Proofs.YtjikemhmnkckcabGreat
namespace Go.Proofs.YtjikemhmnkckcabGreat
open Go.RowKit
attribute [local go_sem ↓] Go.wp_at_zero Go.wp_at_succ
theorem info_ins : (Tryz.prog.info? 60).map (fun i => (i.zero, i.size, i.bytes)) = some (some (.agg #[.int .i64 0, .int .i64 0, .int .i64 0, .int .i64 0]), 4, 32) := by kernel_rfl
def insCells (x : Ins) : List Value := [.int .i64 x.op, .int .i64 x.a, .int .i64 x.b, .int .i64 x.c]
theorem ins_cells {w : World} {g : Nat} {code : List Ins} (hc : ∀ j u, (code.flatMap insCells)[j]? = some u → w.cell? ⟨g, j, none⟩ = some u) (i : Nat) (hi : i < code.length) :
 w.cell? ⟨g, i * 4, none⟩ = some (.int .i64 (code.getD i Ins.no).op) ∧ w.cell? ⟨g, i * 4 + 1, none⟩ = some (.int .i64 (code.getD i Ins.no).a) ∧ w.cell? ⟨g, i * 4 + 2, none⟩ = some (.int .i64 (code.getD i Ins.no).b) ∧ w.cell? ⟨g, i * 4 + 3, none⟩ = some (.int .i64 (code.getD i Ins.no).c) := by
 have h6 : ∀ j, j < 4 → (code.flatMap insCells)[i * 4 + j]? = (insCells (code.getD i Ins.no))[j]? := fun j hj => by
  rw [flat_get insCells 4 (fun _ => rfl) code i j hj, List.getElem?_eq_getElem hi];simp [List.getD_eq_getElem?_getD, List.getElem?_eq_getElem hi]
 have hx := fun j (hj : j < 4) u hu => hc (i * 4 + j) u (by rw [h6 j hj]; exact hu)
 exact ⟨hx 0 (by omega) _ rfl, hx 1 (by omega) _ rfl, hx 2 (by omega) _ rfl, hx 3 (by omega) _ rfl⟩
end Go.Proofs.YtjikemhmnkckcabGreat
namespace Go.Proofs.YtjikemhmnkckcabGreat
open Go.RowKit
theorem own_lt {w : World} {e : TypeId} {m : Nat} {v : Value} {n : Nat} {xs : List Value} (h : w.ownsRow 0 e m v n xs) : ∀ g, v.ownBlock = some g → g < w.heap.size := fun g hg => by
 rcases h.2 with ⟨rfl, _⟩ | ⟨g', cap, cur, rfl, _, hgg, _⟩
 ·simp [Value.ownBlock] at hg
 ·simp [Value.ownBlock] at hg;subst hg;exact (Array.getElem?_eq_some_iff.1 hgg).1
section
variable {B : Nat} {w wr : World} {pb : Nat} {st rest : Int} {d : ByteArray} {vc vi : Value} {cls : List (Int × Int)} {code : List Ins}
theorem IRow.of_row {w : World} {v : Value} {code : List Ins} (h : w.ownsRow 0 60 4 v code.length (code.flatMap insCells)) : ∃ a cap, v = .slice a code.length cap ∧ IRow w a cap code := by
 obtain ⟨a, cap, rfl, h1, h2, h3⟩ := row_open h;refine ⟨a, cap, rfl, h1, h2, fun h0 => ?_⟩;obtain ⟨g, ha, hg, hc, _⟩ := h3 h0;refine ⟨g, 0, ha, hg, fun i hi => ?_⟩;have := ins_cells hc i hi;simp only [Nat.zero_add];exact this
end
structure Rows2 (w' : World) (B : Nat) (vc vi : Value) (cls : List (Int × Int)) (code : List Ins) : Prop where
 crow : w'.ownsRow 0 84 2 vc cls.length (cls.flatMap clsCells)
 irow : w'.ownsRow 0 60 4 vi code.length (code.flatMap insCells)
 cfar : ∀ g, vc.ownBlock = some g → B ≤ g
 ifar : ∀ g, vi.ownBlock = some g → B ≤ g
 apart : ∀ g, vc.ownBlock = some g → vi.ownBlock ≠ some g
theorem Rows2.kept {w w' : World} {B : Nat} {vc vi : Value} {cls : List (Int × Int)} {code : List Ins} (h : Rows2 w B vc vi cls code) (hk : ∀ g, B ≤ g → g < w.heap.size → w'.heap[g]? = w.heap[g]?) : Rows2 w' B vc vi cls code :=
 ⟨row_kept h.crow (fun g hg => hk g (h.cfar g hg) (own_lt h.crow g hg)), row_kept h.irow (fun g hg => hk g (h.ifar g hg) (own_lt h.irow g hg)), h.cfar, h.ifar, h.apart⟩
theorem Rows2.le {w : World} {B B' : Nat} {vc vi : Value} {cls : List (Int × Int)} {code : List Ins} (h : Rows2 w B vc vi cls code) (hb : B' ≤ B) : Rows2 w B' vc vi cls code :=
 ⟨h.crow, h.irow, fun g hg => Nat.le_trans hb (h.cfar g hg), fun g hg => Nat.le_trans hb (h.ifar g hg), h.apart⟩
theorem rows2_nil (w : World) (B : Nat) : Rows2 w B (.slice none 0 0) (.slice none 0 0) [] [] := ⟨⟨rfl, .inl ⟨rfl, rfl⟩⟩, ⟨rfl, .inl ⟨rfl, rfl⟩⟩, fun g hg => by simp [Value.ownBlock] at hg, fun g hg => by simp [Value.ownBlock] at hg, fun g hg => by simp [Value.ownBlock] at hg⟩
end Go.Proofs.YtjikemhmnkckcabGreat
