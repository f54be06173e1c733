import Derived.Test.YtjikemhmnkckcabImgLaw4
/- The law of Read. -/
namespace Go.Proofs.Ytjikemhmnkckcab
open Go.RowKit
attribute [local go_sem ↓] Go.wp_at_zero Go.wp_at_succ

theorem oc_pos {d : ByteArray} (h : imgB d = true) : 0 < (oCls d).length ∧ 0 < (oCode d).length := by
  have hs : soundB (byteAt d 2) (byteAt d 3) (pCls d) (pM d) (pCode d) = true := by
    unfold imgB at h
    simp only [Bool.and_eq_true] at h
    exact h.2
  have hv : Cf.Valid (byteAt d 2) (byteAt d 3) (pCls d) := by
    refine Cf.valid_of ?_
    unfold soundB at hs
    simp only [Bool.and_eq_true] at hs
    exact hs.1.1
  have hc : withinB (pCode d).length 1 255 = true := by
    unfold soundB at hs
    simp only [Bool.and_eq_true] at hs
    exact hs.2.1
  unfold withinB at hc
  simp at hc
  obtain ⟨-, -, y2, -, y4, -⟩ := o_yes h
  rw [y2, y4]
  exact ⟨hv.n0, by omega⟩

/-- What the owner of a program holds behind full: its lists, all 77. -/
structure Full77 (w : World) (a : Option Addr) (n : Nat) (ia : Option Addr) (ni : Nat) : Prop where
  c : ∀ i, i < n → ∃ g, a = some ⟨g, 0, none⟩ ∧ w.cell? ⟨g, i * 2 + 1, none⟩ = some (.int .i64 77)
  i : ∀ i, i < ni → ∃ g, ia = some ⟨g, 0, none⟩ ∧ w.cell? ⟨g, i * 4, none⟩ = some (.int .i64 77)

/-- full, whatever was read. -/
theorem full_any (d : ByteArray) (a ia : Option Addr) (cap icap B : Nat) (w : World) (h : Rows2 w B (.slice a (oCls d).length cap) (.slice ia (oCode d).length icap) (oCls d) (oCode d)) (hn : imgB d = false → a = none ∧ cap = 0 ∧ ia = none ∧ icap = 0) :
    Calls Try.prog 11 #[.agg #[.int .i64 (oSt d), .int .i64 (oRest d), .slice a (oCls d).length cap, .string (oData d), .slice ia (oCode d).length icap]] w fun e w' => e = .returned (.tuple #[]) ∧ Full77 w' a (oCls d).length ia (oCode d).length ∧
      Kept w w' (fun b => B ≤ b ∧ b < w.heap.size ∧ ((Value.slice a (oCls d).length cap).ownBlock = some b ∨ (Value.slice ia (oCode d).length icap).ownBlock = some b)) := by
  cases hB : imgB d with
  | false =>
    obtain ⟨rfl, rfl, rfl, rfl⟩ := hn hB
    obtain ⟨-, -, y2, -, y4, -⟩ := o_no hB
    rw [y2, y4]
    refine (full_nil (oSt d) (oRest d) (oData d) w).mono fun e w' ⟨he, hb⟩ => ⟨he, ⟨fun i hi => absurd hi (by simp), fun i hi => absurd hi (by simp)⟩, Kept.of_below hb _⟩
  | true =>
    have hp := oc_pos hB
    rcases h.crow.2 with ⟨-, h0⟩ | ⟨g, cap', cur, e1, -, hg, hn1, hm1, hs1, -⟩
    · omega
    rcases h.irow.2 with ⟨-, h0⟩ | ⟨gi, icap', curi, e2, -, hgi, hn2, hm2, hs2, -⟩
    · omega
    injection e1 with e1 _ e1c
    injection e2 with e2 _ e2c
    subst e1 e1c e2 e2c
    have hap : g ≠ gi := fun e => h.apart g rfl (by simp [Value.ownBlock, e])
    have hcf := h.cfar g rfl
    have hif := h.ifar gi rfl
    have hgl := own_lt h.crow g rfl
    have hgil := own_lt h.irow gi rfl
    refine (full_some (oSt d) (oRest d) (oData d) g (oCls d).length cap gi (oCode d).length icap cur.toList curi.toList w hg (by simpa using hs1) hgi (by simpa using hs2) hap hn1 hn2 hm1 hm2).mono fun e w' ⟨he, ⟨xs', hb1, h1⟩, ⟨ys', hb2, h2⟩, hk⟩ => ⟨he, ⟨fun i hi => ⟨g, rfl, hb1.cell (h1 _ (by omega))⟩, fun i hi => ⟨gi, rfl, hb2.cell (h2 _ (by omega))⟩⟩, ?_⟩
    refine ⟨hk.os, hk.tape, hk.output, hk.size, fun k hk1 hs => hk.block k hk1 (fun e => hs ?_)⟩
    rcases e with rfl | rfl
    · exact ⟨hcf, hgl, .inl rfl⟩
    · exact ⟨hif, hgil, .inr rfl⟩

set_option maxRecDepth 100000 in
set_option maxHeartbeats 3200000 in
theorem reads_any (d : ByteArray) (w : World) (hd : (d.size : Int) ≤ 9223372036854775807) : Calls Try.prog 3 #[.string d] w fun e w' => e = .returned (.bool true) ∧ Below w.heap.size w w' := by
  go_enter Try.func3, Try.ntmps3
  go_upto_region 2 with (go_at_call 7; refine (gread_any d w hd).mono ?_; rintro e1 w1 ⟨a, cap, ia, icap, rfl, hrows, hbel, hnil⟩; have HR1 := hide2 hrows; have HB1 := hide2 hbel; have HN := hide2 hnil; clear hrows hbel hnil)
  obtain ⟨w2, hw2⟩ : ∃ w2, w2 = w1.alloc (.cells #[.int .i64 (oSt d), .int .i64 (oRest d), .slice a (oCls d).length cap, .string (oData d), .slice ia (oCode d).length icap] 27) := ⟨_, rfl⟩
  have HX2 : Hid (Below w1.heap.size w1 w2) := by show Below _ _ _; rw [hw2]; exact (Below.refl _ _).alloc (Nat.le_refl _) _
  have HP2 : Hid (Blk w2 w1.heap.size 27 [.int .i64 (oSt d), .int .i64 (oRest d), .slice a (oCls d).length cap, .string (oData d), .slice ia (oCode d).length icap]) := by show Blk _ _ _ _; rw [hw2]; exact Blk.alloc _ _ _
  have hs2 : Hid (w2.heap.size = w1.heap.size + 1) := by show _ = _; rw [hw2]; simp
  rw [← hw2]
  clear hw2
  have HR2 := hide2 (HR1.out.kept (fun g _ hg => HX2.out.block g hg))
  have HF2 : Hid (∀ g, (Value.slice a (oCls d).length cap).ownBlock = some g ∨ (Value.slice ia (oCode d).length icap).ownBlock = some g → g < w1.heap.size) := fun g hg => by
    rcases hg with hg | hg
    · exact own_lt HR1.out.crow g hg
    · exact own_lt HR1.out.irow g hg
  have HB2 : Hid (Below w.heap.size w w2) := HB1.out.trans (HX2.out.mono HB1.out.size)
  have hw1s : w.heap.size ≤ w1.heap.size := HB1.out.size
  clear HR1 HX2 HB1
  go_upto_region 3 with (go_at_call 8; refine (rread_any d w2 hd).mono ?_; rintro e1 w3 ⟨b, bcap, ib, ibcap, rfl, hrows, hbel⟩; have HQ3 := hide2 hrows; have HX3 := hide2 hbel; clear hrows hbel)
  obtain ⟨w4, hw4⟩ : ∃ w4, w4 = w3.alloc (.cells #[.int .i64 (oSt d), .int .i64 (oRest d), .slice b (oCls d).length bcap, .string (oData d), .slice ib (oCode d).length ibcap] 27) := ⟨_, rfl⟩
  have HX4 : Hid (Below w3.heap.size w3 w4) := by show Below _ _ _; rw [hw4]; exact (Below.refl _ _).alloc (Nat.le_refl _) _
  have HW4 : Hid (Blk w4 w3.heap.size 27 [.int .i64 (oSt d), .int .i64 (oRest d), .slice b (oCls d).length bcap, .string (oData d), .slice ib (oCode d).length ibcap]) := by show Blk _ _ _ _; rw [hw4]; exact Blk.alloc _ _ _
  have hs4 : Hid (w4.heap.size = w3.heap.size + 1) := by show _ = _; rw [hw4]; simp
  rw [← hw4]
  clear hw4
  have hsz3 : w2.heap.size ≤ w3.heap.size := HX3.out.size
  have HQ4 := hide2 (HQ3.out.kept (fun g _ hg => HX4.out.block g hg))
  have HQF : Hid (∀ g, (Value.slice b (oCls d).length bcap).ownBlock = some g ∨ (Value.slice ib (oCode d).length ibcap).ownBlock = some g → g < w3.heap.size) := fun g hg => by
    rcases hg with hg | hg
    · exact own_lt HQ3.out.crow g hg
    · exact own_lt HQ3.out.irow g hg
  have HX24 : Hid (Below w2.heap.size w2 w4) := HX3.out.trans (HX4.out.mono hsz3)
  have HP4 := hide2 (HP2.out.below HX24.out HP2.out.lt)
  have HR4 := hide2 (HR2.out.kept (fun g _ hg => HX24.out.block g hg))
  have HB4 : Hid (Below w.heap.size w w4) := HB2.out.trans (HX24.out.mono HB2.out.size)
  clear HX3 HX4 HX24 HQ3 HP2 HR2 HB2
  have p0 := HP4.out.cell (j := 0) rfl
  have p1 := HP4.out.cell (j := 1) rfl
  have p2 := HP4.out.cell (j := 2) rfl
  have p3 := HP4.out.cell (j := 3) rfl
  have p4 := HP4.out.cell (j := 4) rfl
  have q0 := HW4.out.cell (j := 0) rfl
  have q1 := HW4.out.cell (j := 1) rfl
  have q2 := HW4.out.cell (j := 2) rfl
  have q3 := HW4.out.cell (j := 3) rfl
  have q4 := HW4.out.cell (j := 4) rfl
  go_upto_region 4 with (go_at_call 9; refine (sameProgram_any (oSt d) (oRest d) a b cap bcap (oCls d) (oData d) ia ib icap ibcap (oCode d) w4 (crow_of HR4.out.crow) (crow_of HQ4.out.crow) (irow_of HR4.out.irow) (irow_of HQ4.out.irow)).mono ?_; rintro e1 w5 ⟨rfl, hb5⟩; have HX5 := hide2 hb5; have hsz5 := hb5.size; clear hb5)
  have HP5 := hide2 (HP4.out.below HX5.out HP4.out.lt)
  have HW5 := hide2 (HW4.out.below HX5.out HW4.out.lt)
  have HR5 := hide2 (HR4.out.kept (fun g _ hg => HX5.out.block g hg))
  have HQ5 := hide2 (HQ4.out.kept (fun g _ hg => HX5.out.block g hg))
  have HB5 : Hid (Below w.heap.size w w5) := HB4.out.trans (HX5.out.mono HB4.out.size)
  clear p0 p1 p2 p3 p4 q0 q1 q2 q3 q4 HP4 HW4 HR4 HQ4 HB4 HX5
  have p0 := HP5.out.cell (j := 0) rfl
  have p1 := HP5.out.cell (j := 1) rfl
  have p2 := HP5.out.cell (j := 2) rfl
  have p3 := HP5.out.cell (j := 3) rfl
  have p4 := HP5.out.cell (j := 4) rfl
  go_upto_region 6 with (go_at_call 10; refine (lnum_any _ _).mono ?_; rintro e1 w6 ⟨rfl, rfl⟩)
  go_upto_region 7 with (go_at_call 11; refine (full_any d a ia cap icap w.heap.size w5 HR5.out HN.out).mono ?_; rintro e1 w6 ⟨rfl, h77, hk6⟩; have H77 := hide2 h77; have HK6 := hide2 hk6; have hsz6 := hk6.size; clear h77 hk6)
  have hs2' := hs2.out
  have hs4' := hs4.out
  have HP6 := hide2 (HP5.out.kept HK6.out (fun h => by have := HF2.out _ h.2.2; omega))
  have HW6 := hide2 (HW5.out.kept HK6.out (fun h => by have := HF2.out _ h.2.2; omega))
  have HQ6 := hide2 (HQ5.out.kept (fun g hg hl => HK6.out.block g hl (fun h => by have := HF2.out _ h.2.2; omega)))
  have HB6 : Hid (Below w.heap.size w w6) := ⟨by rw [HK6.out.os, HB5.out.os], by rw [HK6.out.tape, HB5.out.tape], by rw [HK6.out.output, HB5.out.output], by omega, fun k hk => (HK6.out.block k (by omega) (fun h => by omega)).trans (HB5.out.block k hk)⟩
  clear p0 p1 p2 p3 p4 HP5 HW5 HR5 HQ5 HB5 HK6 HN HF2 HQF
  go_upto_region 8 with (go_at_call 7; refine (gread_any d w6 hd).mono ?_; rintro e1 w7 ⟨c, ccap, ic, iccap, rfl, hrows, hbel, hnil⟩; have HC7 := hide2 hrows; have HX7 := hide2 hbel; have hsz7 := hbel.size; clear hrows hbel hnil)
  obtain ⟨w8, hw8⟩ : ∃ w8, w8 = w7.alloc (.cells #[.int .i64 (oSt d), .int .i64 (oRest d), .slice c (oCls d).length ccap, .string (oData d), .slice ic (oCode d).length iccap] 27) := ⟨_, rfl⟩
  have HX8 : Hid (Below w7.heap.size w7 w8) := by show Below _ _ _; rw [hw8]; exact (Below.refl _ _).alloc (Nat.le_refl _) _
  have HC8 : Hid (Blk w8 w7.heap.size 27 [.int .i64 (oSt d), .int .i64 (oRest d), .slice c (oCls d).length ccap, .string (oData d), .slice ic (oCode d).length iccap]) := by show Blk _ _ _ _; rw [hw8]; exact Blk.alloc _ _ _
  rw [← hw8]
  clear hw8
  have HX68 : Hid (Below w6.heap.size w6 w8) := HX7.out.trans (HX8.out.mono hsz7)
  have HP8 := hide2 (HP6.out.below HX68.out HP6.out.lt)
  have HW8 := hide2 (HW6.out.below HX68.out HW6.out.lt)
  have HQ8 := hide2 (HQ6.out.kept (fun g _ hg => HX68.out.block g hg))
  have HCR := hide2 (HC7.out.kept (fun g _ hg => HX8.out.block g hg))
  have HB8 : Hid (Below w.heap.size w w8) := HB6.out.trans (HX68.out.mono HB6.out.size)
  have p0 := HC8.out.cell (j := 0) rfl
  have p1 := HC8.out.cell (j := 1) rfl
  have p2 := HC8.out.cell (j := 2) rfl
  have p3 := HC8.out.cell (j := 3) rfl
  have p4 := HC8.out.cell (j := 4) rfl
  have q0 := HW8.out.cell (j := 0) rfl
  have q1 := HW8.out.cell (j := 1) rfl
  have q2 := HW8.out.cell (j := 2) rfl
  have q3 := HW8.out.cell (j := 3) rfl
  have q4 := HW8.out.cell (j := 4) rfl
  go_upto_region 9 with (go_at_call 9; refine (sameProgram_any (oSt d) (oRest d) c b ccap bcap (oCls d) (oData d) ic ib iccap ibcap (oCode d) w8 (crow_of HCR.out.crow) (crow_of HQ8.out.crow) (irow_of HCR.out.irow) (irow_of HQ8.out.irow)).mono ?_; rintro e1 w9 ⟨rfl, hb9⟩; have HX9 := hide2 hb9; clear hb9)
  have HX69 : Hid (Below w6.heap.size w6 w9) := HX68.out.trans (HX9.out.mono HX68.out.size)
  have HP9 := hide2 (HP6.out.below HX69.out HP6.out.lt)
  have HB9 : Hid (Below w.heap.size w w9) := HB6.out.trans (HX69.out.mono HB6.out.size)
  have H9 : Hid (Full77 w9 a (oCls d).length ia (oCode d).length) := by
    refine ⟨fun i hi => ?_, fun i hi => ?_⟩
    · obtain ⟨g, e, hc⟩ := H77.out.c i hi
      exact ⟨g, e, (HX69.out.cell (p := ⟨g, i * 2 + 1, none⟩) (World.block_lt_of_cell? w6 _ hc)).trans hc⟩
    · obtain ⟨g, e, hc⟩ := H77.out.i i hi
      exact ⟨g, e, (HX69.out.cell (p := ⟨g, i * 4, none⟩) (World.block_lt_of_cell? w6 _ hc)).trans hc⟩
  clear p0 p1 p2 p3 p4 q0 q1 q2 q3 q4 HP8 HW8 HQ8 HCR HB8 HC8 HX68 HX8 HX7 HC7 HB6 HQ6 HW6 HP6 H77 HX69 HX9
  have p2 := HP9.out.cell (j := 2) rfl
  have p4 := HP9.out.cell (j := 4) rfl
  have e77 : ((77 : Int) != 77) = false := by decide
  go_upto_region 11 with (go_at_call 10; refine (lnum_any _ _).mono ?_; rintro e1 w10 ⟨rfl, rfl⟩)
  have hl1 : (oCls d).length ≤ 255 := by unfold oCls; split; (rw [pCls_len]; exact pN_le d); simp
  have hl2 : (oCode d).length ≤ 255 := by unfold oCode; split; (rw [pCode_len]; exact pL_le d); simp
  generalize oCls d = cls at *
  generalize oCode d = code at *
  go_wp2
  go_loopw [10] (fun i wr => ∃ m : Nat, m ≤ code.length ∧ i = .int .i64 (m : Int) ∧ wr = w9) (fun i _ => code.length - (intOf i).toNat)
  case atStart => exact ⟨0, by omega, rfl, rfl⟩
  case round =>
    obtain ⟨m, hm, rfl, rfl⟩ := hrel
    by_cases hlt : m < code.length
    · have hmI : (m : Int) < (code.length : Int) := by omega
      obtain ⟨g, rfl, hc⟩ := H9.out.i m hlt
      go_wp2
      go_roundw
      case rel => exact ⟨m + 1, by omega, by go_num, by trivial⟩
      case measure => simp [intOf]; omega
    · obtain rfl : m = code.length := by omega
      go_upto_region 16 with (fail)
      go_wp2
      go_loopw [11] (fun i wr' => ∃ m : Nat, m ≤ cls.length ∧ i = .int .i64 (m : Int) ∧ wr' = wr) (fun i _ => cls.length - (intOf i).toNat)
      case atStart => exact ⟨0, by omega, rfl, rfl⟩
      case round =>
        obtain ⟨m, hm, rfl, rfl⟩ := hrel
        by_cases hlt : m < cls.length
        · have hmI : (m : Int) < (cls.length : Int) := by omega
          obtain ⟨g, rfl, hc⟩ := H9.out.c m hlt
          go_wp2
          go_roundw
          case rel => exact ⟨m + 1, by omega, by go_num, by trivial⟩
          case measure => simp [intOf]; omega
        · go_wp2
          go_ret
          exact ⟨rfl, HB9.out⟩
end Go.Proofs.Ytjikemhmnkckcab
