import Derived.Test.YtjikemhmnkckcabJ50
import Derived.Test.YtjikemhmnkckcabJ52
import Derived.Test.YtjikemhmnkckcabJ53
/- The statements' refusedImage. -/
namespace Go.Proofs.Ytjikemhmnkckcab
open Go.RowKit
attribute [local go_sem ↓] Go.wp_at_zero Go.wp_at_succ

set_option maxRecDepth 100000 in
set_option maxHeartbeats 3200000 in
theorem refused_any (d : ByteArray) (w : World) (hd : (d.size : Int) ≤ 9223372036854775807) (hB : imgB d = false) :
    Calls Try.prog 19 #[.string d] w fun e w' => e = .returned (.bool true) ∧ Below w.heap.size w w' := by
  have HBB := hide2 hB
  clear hB
  go_enter Try.func19, Try.ntmps19
  go_upto_region 2 with (go_at_call 7; refine (gread_any d w hd).mono ?_; rintro e1 w1 ⟨a, cap, ia, icap, rfl, -, hbel, hnil⟩; obtain ⟨rfl, rfl, rfl, rfl⟩ := hnil HBB.out; obtain ⟨y0, y1, y2, y3, y4, y5⟩ := o_no HBB.out; rw [y0, y1, y2, y3, y4, y5]; have HB1 := hide2 hbel; clear hbel hnil y0 y1 y2 y3 y4 y5)
  obtain ⟨w2, hw2⟩ : ∃ w2, w2 = w1.alloc (.cells #[.int .i64 0, .int .i64 0, .slice none 0 0, .string ⟨#[]⟩, .slice none 0 0] 27) := ⟨_, rfl⟩
  have HX2 : Hid (Below w1.heap.size w1 w2) := by show Below _ _ _; rw [hw2]; exact (Below.refl _ _).alloc (Nat.le_refl _) _
  have HP2 : Hid (Blk w2 w1.heap.size 27 [.int .i64 0, .int .i64 0, .slice none 0 0, .string ⟨#[]⟩, .slice none 0 0]) := by show Blk _ _ _ _; rw [hw2]; exact Blk.alloc _ _ _
  first
    | rw [← hw2]
    | (simp only [List.length_nil]; rw [← hw2])
  clear hw2
  have HB2 : Hid (Below w.heap.size w w2) := HB1.out.trans (HX2.out.mono HB1.out.size)
  have p0 := HP2.out.cell (j := 0) rfl
  have p1 := HP2.out.cell (j := 1) rfl
  have p2 := HP2.out.cell (j := 2) rfl
  have p3 := HP2.out.cell (j := 3) rfl
  have p4 := HP2.out.cell (j := 4) rfl
  go_upto_region 3 with (go_at_call 17; refine (ksame_any 0 0 none none 0 0 [] ⟨#[]⟩ none none 0 0 [] w2 (crow_nil _) (crow_nil _) (irow_nil _) (irow_nil _)).mono ?_; rintro e1 w3 ⟨rfl, hb3⟩; have HB3 := hide2 (HB2.out.trans (hb3.mono HB2.out.size)); clear hb3)
  clear p0 p1 p2 p3 p4
  go_upto_region 4 with (go_at_call 18; refine (run_no d _ _ _ _ hd HBB.out).mono ?_; rintro e1 w4 ⟨rfl, hb4⟩; have HB4 : Hid (Below w.heap.size w w4) := (HB3.out.alloc HB3.out.size _).trans (hb4.mono (by have := HB3.out.size; simp; omega)); clear hb4; unfold outC zRep; simp only [List.cons_append, List.nil_append])
  go_wp2
  go_ret
  exact ⟨rfl, HB4.out.alloc HB4.out.size _⟩
end Go.Proofs.Ytjikemhmnkckcab
/- The law of what fuel pays for. -/
namespace Go.Proofs.Ytjikemhmnkckcab
open Go.RowKit
attribute [local go_sem ↓] Go.wp_at_zero Go.wp_at_succ

set_option maxRecDepth 100000 in
set_option maxHeartbeats 3200000 in
theorem kalike_same (fe fx fs fp fd : Int) (fo : ByteArray) (f0 f1 f2 f3 f4 f5 f6 f7 f8 : Int) (va vb : Value) (w : World) :
    Calls Try.prog 23 #[.agg #[.int .i64 fe, .int .i64 fx, .int .i64 fs, .int .i64 fp, .int .i64 fd, .string fo, .int .i64 f0, .int .i64 f1, .int .i64 f2, .int .i64 f3, .int .i64 f4, .int .i64 f5, .int .i64 f6, .int .i64 f7, .int .i64 f8, va], .agg #[.int .i64 fe, .int .i64 fx, .int .i64 fs, .int .i64 fp, .int .i64 fd, .string fo, .int .i64 f0, .int .i64 f1, .int .i64 f2, .int .i64 f3, .int .i64 f4, .int .i64 f5, .int .i64 f6, .int .i64 f7, .int .i64 f8, vb]] w fun e w' => e = .returned (.bool true) ∧ Below w.heap.size w w' := by
  have HB : Hid (Below w.heap.size w ((w.alloc (.cells #[.int .i64 fe, .int .i64 fx, .int .i64 fs, .int .i64 fp, .int .i64 fd, .string fo, .int .i64 f0, .int .i64 f1, .int .i64 f2, .int .i64 f3, .int .i64 f4, .int .i64 f5, .int .i64 f6, .int .i64 f7, .int .i64 f8, va] 49)).alloc (.cells #[.int .i64 fe, .int .i64 fx, .int .i64 fs, .int .i64 fp, .int .i64 fd, .string fo, .int .i64 f0, .int .i64 f1, .int .i64 f2, .int .i64 f3, .int .i64 f4, .int .i64 f5, .int .i64 f6, .int .i64 f7, .int .i64 f8, vb] 49))) := ((Below.refl _ _).alloc (Nat.le_refl _) _).alloc (by simp) _
  go_enter Try.func23, Try.ntmps23
  go_wp2
  all_goals go_ret
  all_goals exact ⟨rfl, HB.out⟩

theorem pre_take {a b : ByteArray} (h : ∃ x, b = a ++ x) : b.extract 0 a.size = a ∧ a.size ≤ b.size := by
  obtain ⟨x, rfl⟩ := h
  refine ⟨?_, by rw [ByteArray.size_append]; omega⟩
  apply ByteArray.ext
  simp
theorem kclip_bd (f : Int) : 0 ≤ kclip f ∧ kclip f ≤ 4096 := by unfold kclip; split; omega; split <;> omega
theorem kclip_fuel {f : Int} (f0 : 0 ≤ f) : kclip f = mFuel f := by unfold kclip mFuel; rw [if_neg (by omega)]

set_option maxRecDepth 100000 in
set_option maxHeartbeats 6400000 in
theorem paid_any (st rest : Int) (a : Option Addr) (cap : Nat) (cls : List (Int × Int)) (d : ByteArray) (ia : Option Addr) (icap : Nat) (code : List Ins) (inp : ByteArray) (da : Option Addr) (dcap : Nat) (ds : List Int) (fuel more : Int) (w : World) (h : CRow w a cap cls) (hi : IRow w ia icap code) (hbd : insIn code) (hdr : DRow w da dcap ds)
    (b0 : -9223372036854775808 ≤ st) (b1 : st ≤ 9223372036854775807) (b2 : -9223372036854775808 ≤ rest) (b3 : rest ≤ 9223372036854775807) (hin : (inp.size : Int) ≤ 9223372036854775807) (k0 : -9223372036854775808 ≤ more) (k1 : more ≤ 9223372036854775807) :
    Calls Try.prog 6 #[.agg #[.int .i64 st, .int .i64 rest, .slice a cls.length cap, .string d, .slice ia code.length icap], .string inp, .slice da ds.length dcap, .int .i64 fuel, .int .i64 more] w fun e w' => e = .returned (.bool true) ∧ Below w.heap.size w w' := by
  have HDR := hide2 hdr
  clear hdr
  have HC := hide2 h
  have HI := hide2 hi
  have HBD := hide2 hbd
  have q17 := kpick_bd st 17 (by omega)
  have r17 := kpick_bd rest 17 (by omega)
  have HSO := hide2 (tidy_sound (kpick st 17) (kpick rest 17) cls d code (by omega) (by omega) (by omega) (by omega))
  clear h hi hbd
  go_enter Try.func6, Try.ntmps6
  go_upto_region 1 with (fail)
  obtain ⟨wa, hwa⟩ : ∃ wa, wa = w.alloc (.cells #[.int .i64 st, .int .i64 rest, .slice a cls.length cap, .string d, .slice ia code.length icap] 27) := ⟨_, rfl⟩
  have HBA : Hid (Below w.heap.size w wa) := by show Below _ _ _; rw [hwa]; exact (Below.refl _ _).alloc (Nat.le_refl _) _
  have HP : Hid (Blk wa w.heap.size 27 [.int .i64 st, .int .i64 rest, .slice a cls.length cap, .string d, .slice ia code.length icap]) := by show Blk _ _ _ _; rw [hwa]; exact Blk.alloc _ _ _
  rw [← hwa]
  clear hwa
  have p0 := HP.out.cell (j := 0) rfl
  have p1 := HP.out.cell (j := 1) rfl
  have p2 := HP.out.cell (j := 2) rfl
  have p3 := HP.out.cell (j := 3) rfl
  have p4 := HP.out.cell (j := 4) rfl
  go_upto_region 2 with (go_at_call 16; refine (tidy_any st rest a cap cls d ia icap code wa (HC.out.below HBA.out) (HI.out.below HBA.out) HBD.out b0 b1 b2 b3).mono ?_; rintro e1 w1 ⟨vc, vi, rfl, hrows, hb1⟩; obtain ⟨ta, tcap, hvc, -, -, -⟩ := row_open hrows.crow; obtain ⟨tia, ticap, hvi, -, -, -⟩ := row_open hrows.irow; subst hvc hvi; have HR1 := hide2 hrows; have HB1 := hide2 (HBA.out.trans (hb1.mono HBA.out.size)); clear hrows hb1)
  clear p0 p1 p2 p3 p4 HP
  generalize kpick st 17 = st' at *
  generalize kpick rest 17 = re' at *
  generalize kfit cls = cl' at *
  generalize tidyD st' d = d' at *
  generalize tidyC code = co' at *
  obtain ⟨w2, hw2⟩ : ∃ w2, w2 = w1.alloc (.cells #[.int .i64 st', .int .i64 re', .slice ta cl'.length tcap, .string d', .slice tia co'.length ticap] 27) := ⟨_, rfl⟩
  have HX2 : Hid (Below w1.heap.size w1 w2) := by show Below _ _ _; rw [hw2]; exact (Below.refl _ _).alloc (Nat.le_refl _) _
  have HT2 : Hid (Blk w2 w1.heap.size 27 [.int .i64 st', .int .i64 re', .slice ta cl'.length tcap, .string d', .slice tia co'.length ticap]) := by show Blk _ _ _ _; rw [hw2]; exact Blk.alloc _ _ _
  rw [← hw2]
  clear hw2
  have HR2 := hide2 (HR1.out.kept (fun g _ hg => HX2.out.block g hg))
  have HB2 : Hid (Below w.heap.size w w2) := HB1.out.trans (HX2.out.mono HB1.out.size)
  clear HR1 HX2 HB1
  have t0 := HT2.out.cell (j := 0) rfl
  have t1 := HT2.out.cell (j := 1) rfl
  have t2 := HT2.out.cell (j := 2) rfl
  have t3 := HT2.out.cell (j := 3) rfl
  have t4 := HT2.out.cell (j := 4) rfl
  go_upto_region 3 with (go_at_call 13; refine (gwrite_yes st' re' ta tcap cl' d' tia ticap co' w2 (crow_of HR2.out.crow) (irow_of HR2.out.irow) HSO.out).mono ?_; rintro e1 w3 ⟨rfl, hb3⟩; have HX3 := hide2 hb3; clear hb3)
  have hback := img_back HSO.out
  have hsize := img4_size st' re' cl' d' co' co'.length
  have hlen : cl'.length ≤ 4 ∧ d'.size ≤ 255 ∧ co'.length ≤ 255 := by
    have hs := HSO.out
    unfold soundB at hs
    simp only [Bool.and_eq_true, decide_eq_true_eq] at hs
    have hc := hs.2.1
    unfold withinB at hc
    simp at hc
    exact ⟨(Cf.valid_of hs.1.1).n1, hs.1.2.1, by omega⟩
  simp only at hback
  generalize img4 st' re' cl' d' co' co'.length = s at *
  obtain ⟨hB, g2, g3, gc, gd, gi, -⟩ := hback
  have HBS := hide2 hB
  have hs1 : 7 ≤ s.size ∧ s.size ≤ 2000 := by omega
  clear hB g2 g3 gc gd gi hsize hlen
  have HT3 := hide2 (HT2.out.below HX3.out HT2.out.lt)
  have HR3 := hide2 (HR2.out.kept (fun g _ hg => HX3.out.block g hg))
  have HB3 : Hid (Below w.heap.size w w3) := HB2.out.trans (HX3.out.mono HB2.out.size)
  clear t0 t1 t2 t3 t4 HT2 HR2 HB2 HX3
  have hkb := kclip_bd fuel
  have hpk := kpick_bd more 4096 (by omega)
  go_upto_region 7 with (first | (go_at_call 21; refine (kclipped_any fuel _).mono ?_; rintro e1 wq ⟨rfl, rfl⟩) | (go_at_call 20; refine (kpick_any more 4096 _ (by omega) k0 k1).mono ?_; rintro e1 wq ⟨rfl, rfl⟩))
  have HDR3 : Hid (DRow w3 da dcap ds) := HDR.out.kept HB3.out.size (fun g _ _ hg => HB3.out.block g hg)
  have HSA := hide2 (fuel_ok s inp ds (kclip fuel) hkb.1)
  have HSB := hide2 (fuel_ok s inp ds (kclip fuel + kpick more 4096) (by omega))
  have HMO := hide2 (fuel_more s inp ds (kclip fuel) (kclip fuel + kpick more 4096) hkb.1 (by omega))
  have HK1 : Hid (kclip (kclip fuel) = mFuel (kclip fuel)) := kclip_fuel hkb.1
  have HK2 : Hid (kclip (kclip fuel + kpick more 4096) = mFuel (kclip fuel + kpick more 4096)) := kclip_fuel (by omega)
  have HRA := fun w hw => hide2 (run_img s inp da dcap ds (kclip fuel) w (by omega) hin HBS.out hw)
  have HRB := fun w hw => hide2 (run_img s inp da dcap ds (kclip fuel + kpick more 4096) w (by omega) hin HBS.out hw)
  generalize mFin s inp ds (kclip fuel) = Sa at *
  generalize mFin s inp ds (kclip fuel + kpick more 4096) = Sb at *
  generalize mBeg s = S0 at *
  generalize mFuel (kclip fuel) = fa at *
  generalize mFuel (kclip fuel + kpick more 4096) = fb at *
  generalize kclip fuel = less at *
  generalize kpick more 4096 = mo at *
  replace HRA := hide2 HRA
  replace HRB := hide2 HRB
  by_cases h3 : Sa.en = 3
  · have hm := HMO.out.2 h3
    clear HMO
    obtain ⟨fR, fr, fh, fd, fo, fp, fn, fs, fe, fx, ⟨f0, f1, f2, f3, f4, f5, f6, f7, f8, fl⟩⟩ := Sa
    obtain ⟨gR, gr, gh, gd, go, gp, gn, gs, ge, gx, ⟨g0, g1, g2, g3, g4, g5, g6, g7, g8, gl⟩⟩ := Sb
    simp only at h3 hm
    subst h3
    obtain ⟨hs, hd, hpre⟩ := hm
    obtain ⟨htk, hle⟩ := pre_take hpre
    have q1 : ¬ (go.size : Int) < (fo.size : Int) := by omega
    have q2 : ¬ (gs : Int) < (fs : Int) := by omega
    have q3 : ¬ (gd : Int) < (fd : Int) := by omega
    have HTK := hide2 htk
    have q4 : (fo.size : Int) ≤ (go.size : Int) := by omega
    have HQ := hide2 (And.intro q1 (And.intro q2 (And.intro q3 q4)))
    clear hpre htk hs hd hle q1 q2 q3 q4
    have HOA : Hid (∀ va, (outOf ⟨fR, fr, fh, fd, fo, fp, fn, fs, 3, fx, ⟨f0, f1, f2, f3, f4, f5, f6, f7, f8, fl⟩⟩ va).toArray = #[.int .i64 3, .int .i64 fx, .int .i64 fs, .int .i64 fp, .int .i64 fd, .string fo, .int .i64 f0, .int .i64 f1, .int .i64 f2, .int .i64 f3, .int .i64 f4, .int .i64 f5, .int .i64 f6, .int .i64 f7, .int .i64 f8, va]) := fun _ => rfl
    have HOB : Hid (∀ vb, (outOf ⟨gR, gr, gh, gd, go, gp, gn, gs, ge, gx, ⟨g0, g1, g2, g3, g4, g5, g6, g7, g8, gl⟩⟩ vb).toArray = #[.int .i64 ge, .int .i64 gx, .int .i64 gs, .int .i64 gp, .int .i64 gd, .string go, .int .i64 g0, .int .i64 g1, .int .i64 g2, .int .i64 g3, .int .i64 g4, .int .i64 g5, .int .i64 g6, .int .i64 g7, .int .i64 g8, vb]) := fun _ => rfl
    go_upto_region 8 with (go_at_call 18; refine ((HRA.out w3 HDR3.out).out).mono ?_; rintro e1 w7 ⟨va, rfl, hn7⟩; obtain ⟨na, nac, hva⟩ := own_shape hn7.row; subst hva; have HN7 := hide2 hn7.below; clear hn7; rw [HOA.out])
    obtain ⟨w8, hw8⟩ : ∃ w8, w8 = w7.alloc (.cells #[.int .i64 3, .int .i64 fx, .int .i64 fs, .int .i64 fp, .int .i64 fd, .string fo, .int .i64 f0, .int .i64 f1, .int .i64 f2, .int .i64 f3, .int .i64 f4, .int .i64 f5, .int .i64 f6, .int .i64 f7, .int .i64 f8, .slice na fl.length nac] 49) := ⟨_, rfl⟩
    have HX8 : Hid (Below w7.heap.size w7 w8) := by show Below _ _ _; rw [hw8]; exact (Below.refl _ _).alloc (Nat.le_refl _) _
    have HO8 : Hid (Blk w8 w7.heap.size 49 [.int .i64 3, .int .i64 fx, .int .i64 fs, .int .i64 fp, .int .i64 fd, .string fo, .int .i64 f0, .int .i64 f1, .int .i64 f2, .int .i64 f3, .int .i64 f4, .int .i64 f5, .int .i64 f6, .int .i64 f7, .int .i64 f8, .slice na fl.length nac]) := by show Blk _ _ _ _; rw [hw8]; exact Blk.alloc _ _ _
    rw [← hw8]
    clear hw8
    have HX38 : Hid (Below w3.heap.size w3 w8) := HN7.out.trans (HX8.out.mono HN7.out.size)
    have HB8 : Hid (Below w.heap.size w w8) := HB3.out.trans (HX38.out.mono HB3.out.size)
    have HDR8 : Hid (DRow w8 da dcap ds) := HDR3.out.kept HX38.out.size (fun g _ _ hg => HX38.out.block g hg)
    clear HX38 HX8 HN7 HDR3 HB3
    go_upto_region 9 with (go_at_call 18; refine ((HRB.out w8 HDR8.out).out).mono ?_; rintro e1 w9 ⟨vb, rfl, hn9⟩; obtain ⟨nb, nbc, hvb⟩ := own_shape hn9.row; subst hvb; have HN9 := hide2 hn9.below; clear hn9; rw [HOB.out])
    obtain ⟨w10, hw10⟩ : ∃ w10, w10 = w9.alloc (.cells #[.int .i64 ge, .int .i64 gx, .int .i64 gs, .int .i64 gp, .int .i64 gd, .string go, .int .i64 g0, .int .i64 g1, .int .i64 g2, .int .i64 g3, .int .i64 g4, .int .i64 g5, .int .i64 g6, .int .i64 g7, .int .i64 g8, .slice nb gl.length nbc] 49) := ⟨_, rfl⟩
    have HX10 : Hid (Below w9.heap.size w9 w10) := by show Below _ _ _; rw [hw10]; exact (Below.refl _ _).alloc (Nat.le_refl _) _
    have HP10 : Hid (Blk w10 w9.heap.size 49 [.int .i64 ge, .int .i64 gx, .int .i64 gs, .int .i64 gp, .int .i64 gd, .string go, .int .i64 g0, .int .i64 g1, .int .i64 g2, .int .i64 g3, .int .i64 g4, .int .i64 g5, .int .i64 g6, .int .i64 g7, .int .i64 g8, .slice nb gl.length nbc]) := by show Blk _ _ _ _; rw [hw10]; exact Blk.alloc _ _ _
    rw [← hw10]
    clear hw10
    have HX810 : Hid (Below w8.heap.size w8 w10) := HN9.out.trans (HX10.out.mono HN9.out.size)
    have HB10 : Hid (Below w.heap.size w w10) := HB8.out.trans (HX810.out.mono HB8.out.size)
    have HO10 := hide2 (HO8.out.below HX810.out HO8.out.lt)
    clear HX810 HX10 HN9 HDR8 HB8 HO8 HRA HRB HT3 HR3
    have o0 := HO10.out.cell (j := 0) rfl
    have p0 := HP10.out.cell (j := 0) rfl
    have ea := HSA.out.en
    have eb := HSB.out.en
    simp only at ea eb
    have z2 : ¬ ge < 2 := by omega
    have z4 : ¬ 5 < ge := by omega
    clear ea eb
    go_upto_region 11 with (fail)
    clear o0 p0
    apply wp_region_lit
    refine wpList_load_row rfl 49 _ rfl w7.heap.size rfl 49 _ (0, 0) _ HO10.out Try.underlying49 rfl (by kernel_rfl) ?_
    go_upto_region 12 with (go_at_call 22; have hx := ksound_any ⟨fR, fr, fh, fd, fo, fp, fn, fs, 3, fx, ⟨f0, f1, f2, f3, f4, f5, f6, f7, f8, fl⟩⟩ (.slice na fl.length nac) ds.length less fa S0 w10 HK1.out HSA.out; rw [HOA.out] at hx; refine hx.mono ?_; clear hx; rintro e1 w11 ⟨rfl, hb11⟩; have HX11 := hide2 hb11; clear hb11)
    have HO11 := hide2 (HO10.out.below HX11.out HO10.out.lt)
    have HP11 := hide2 (HP10.out.below HX11.out HP10.out.lt)
    have HB11 : Hid (Below w.heap.size w w11) := HB10.out.trans (HX11.out.mono HB10.out.size)
    clear HX11 HO10 HP10 HB10
    apply wp_region_lit
    refine wpList_load_row rfl 49 _ rfl w9.heap.size rfl 49 _ (0, 0) _ HP11.out Try.underlying49 rfl (by kernel_rfl) ?_
    go_upto_region 13 with (go_at_call 22; have hx := ksound_any ⟨gR, gr, gh, gd, go, gp, gn, gs, ge, gx, ⟨g0, g1, g2, g3, g4, g5, g6, g7, g8, gl⟩⟩ (.slice nb gl.length nbc) ds.length (less + mo) fb S0 w11 HK2.out HSB.out; rw [HOB.out] at hx; refine hx.mono ?_; clear hx; rintro e1 w12 ⟨rfl, hb12⟩; have HX12 := hide2 hb12; clear hb12)
    have HO12 := hide2 (HO11.out.below HX12.out HO11.out.lt)
    have HP12 := hide2 (HP11.out.below HX12.out HP11.out.lt)
    have HB12 : Hid (Below w.heap.size w w12) := HB11.out.trans (HX12.out.mono HB11.out.size)
    clear HX12 HO11 HP11 HB11 HSA HSB
    obtain ⟨q1, q2, q3, q4⟩ := HQ.out
    have o0 := HO12.out.cell (j := 0) rfl
    have p0 := HP12.out.cell (j := 0) rfl
    have o2 := HO12.out.cell (j := 2) rfl
    have p2 := HP12.out.cell (j := 2) rfl
    have o4 := HO12.out.cell (j := 4) rfl
    have p4 := HP12.out.cell (j := 4) rfl
    have o5 := HO12.out.cell (j := 5) rfl
    have p5 := HP12.out.cell (j := 5) rfl
    go_upto_region 20 with (fail)
    go_quiet (fail)
    rw [HTK.out]
    go_wp2
    go_ret
    exact ⟨ret_bool (by simp), below_drewN HB12.out _⟩
  · have hm := HMO.out.1 h3
    subst hm
    have hne0 := h3
    clear h3 HMO
    obtain ⟨fR, fr, fh, fd, fo, fp, fn, fs, fe, fx, ⟨f0, f1, f2, f3, f4, f5, f6, f7, f8, fl⟩⟩ := Sb
    simp only at hne0
    have hne : (fe != 3) = true := by simpa using hne0
    clear hne0
    have HOA : Hid (∀ va, (outOf ⟨fR, fr, fh, fd, fo, fp, fn, fs, fe, fx, ⟨f0, f1, f2, f3, f4, f5, f6, f7, f8, fl⟩⟩ va).toArray = #[.int .i64 fe, .int .i64 fx, .int .i64 fs, .int .i64 fp, .int .i64 fd, .string fo, .int .i64 f0, .int .i64 f1, .int .i64 f2, .int .i64 f3, .int .i64 f4, .int .i64 f5, .int .i64 f6, .int .i64 f7, .int .i64 f8, va]) := fun _ => rfl
    have HOB : Hid (∀ vb, (outOf ⟨fR, fr, fh, fd, fo, fp, fn, fs, fe, fx, ⟨f0, f1, f2, f3, f4, f5, f6, f7, f8, fl⟩⟩ vb).toArray = #[.int .i64 fe, .int .i64 fx, .int .i64 fs, .int .i64 fp, .int .i64 fd, .string fo, .int .i64 f0, .int .i64 f1, .int .i64 f2, .int .i64 f3, .int .i64 f4, .int .i64 f5, .int .i64 f6, .int .i64 f7, .int .i64 f8, vb]) := fun _ => rfl
    go_upto_region 8 with (go_at_call 18; refine ((HRA.out w3 HDR3.out).out).mono ?_; rintro e1 w7 ⟨va, rfl, hn7⟩; obtain ⟨na, nac, hva⟩ := own_shape hn7.row; subst hva; have HN7 := hide2 hn7.below; clear hn7; rw [HOA.out])
    obtain ⟨w8, hw8⟩ : ∃ w8, w8 = w7.alloc (.cells #[.int .i64 fe, .int .i64 fx, .int .i64 fs, .int .i64 fp, .int .i64 fd, .string fo, .int .i64 f0, .int .i64 f1, .int .i64 f2, .int .i64 f3, .int .i64 f4, .int .i64 f5, .int .i64 f6, .int .i64 f7, .int .i64 f8, .slice na fl.length nac] 49) := ⟨_, rfl⟩
    have HX8 : Hid (Below w7.heap.size w7 w8) := by show Below _ _ _; rw [hw8]; exact (Below.refl _ _).alloc (Nat.le_refl _) _
    have HO8 : Hid (Blk w8 w7.heap.size 49 [.int .i64 fe, .int .i64 fx, .int .i64 fs, .int .i64 fp, .int .i64 fd, .string fo, .int .i64 f0, .int .i64 f1, .int .i64 f2, .int .i64 f3, .int .i64 f4, .int .i64 f5, .int .i64 f6, .int .i64 f7, .int .i64 f8, .slice na fl.length nac]) := by show Blk _ _ _ _; rw [hw8]; exact Blk.alloc _ _ _
    rw [← hw8]
    clear hw8
    have HX38 : Hid (Below w3.heap.size w3 w8) := HN7.out.trans (HX8.out.mono HN7.out.size)
    have HB8 : Hid (Below w.heap.size w w8) := HB3.out.trans (HX38.out.mono HB3.out.size)
    have HDR8 : Hid (DRow w8 da dcap ds) := HDR3.out.kept HX38.out.size (fun g _ _ hg => HX38.out.block g hg)
    clear HX38 HX8 HN7 HDR3 HB3
    go_upto_region 9 with (go_at_call 18; refine ((HRB.out w8 HDR8.out).out).mono ?_; rintro e1 w9 ⟨vb, rfl, hn9⟩; obtain ⟨nb, nbc, hvb⟩ := own_shape hn9.row; subst hvb; have HN9 := hide2 hn9.below; clear hn9; rw [HOB.out])
    obtain ⟨w10, hw10⟩ : ∃ w10, w10 = w9.alloc (.cells #[.int .i64 fe, .int .i64 fx, .int .i64 fs, .int .i64 fp, .int .i64 fd, .string fo, .int .i64 f0, .int .i64 f1, .int .i64 f2, .int .i64 f3, .int .i64 f4, .int .i64 f5, .int .i64 f6, .int .i64 f7, .int .i64 f8, .slice nb fl.length nbc] 49) := ⟨_, rfl⟩
    have HX10 : Hid (Below w9.heap.size w9 w10) := by show Below _ _ _; rw [hw10]; exact (Below.refl _ _).alloc (Nat.le_refl _) _
    have HP10 : Hid (Blk w10 w9.heap.size 49 [.int .i64 fe, .int .i64 fx, .int .i64 fs, .int .i64 fp, .int .i64 fd, .string fo, .int .i64 f0, .int .i64 f1, .int .i64 f2, .int .i64 f3, .int .i64 f4, .int .i64 f5, .int .i64 f6, .int .i64 f7, .int .i64 f8, .slice nb fl.length nbc]) := by show Blk _ _ _ _; rw [hw10]; exact Blk.alloc _ _ _
    rw [← hw10]
    clear hw10
    have HX810 : Hid (Below w8.heap.size w8 w10) := HN9.out.trans (HX10.out.mono HN9.out.size)
    have HB10 : Hid (Below w.heap.size w w10) := HB8.out.trans (HX810.out.mono HB8.out.size)
    have HO10 := hide2 (HO8.out.below HX810.out HO8.out.lt)
    clear HX810 HX10 HN9 HDR8 HB8 HO8 HRA HRB HT3 HR3
    have o0 := HO10.out.cell (j := 0) rfl
    have p0 := HP10.out.cell (j := 0) rfl
    have ea := HSA.out.en
    have eb := HSB.out.en
    simp only at ea eb
    have z1 : ¬ fe < 2 := by omega
    have z3 : ¬ 5 < fe := by omega
    clear ea eb
    go_upto_region 11 with (fail)
    clear o0 p0
    apply wp_region_lit
    refine wpList_load_row rfl 49 _ rfl w7.heap.size rfl 49 _ (0, 0) _ HO10.out Try.underlying49 rfl (by kernel_rfl) ?_
    go_upto_region 12 with (go_at_call 22; have hx := ksound_any ⟨fR, fr, fh, fd, fo, fp, fn, fs, fe, fx, ⟨f0, f1, f2, f3, f4, f5, f6, f7, f8, fl⟩⟩ (.slice na fl.length nac) ds.length less fa S0 w10 HK1.out HSA.out; rw [HOA.out] at hx; refine hx.mono ?_; clear hx; rintro e1 w11 ⟨rfl, hb11⟩; have HX11 := hide2 hb11; clear hb11)
    have HO11 := hide2 (HO10.out.below HX11.out HO10.out.lt)
    have HP11 := hide2 (HP10.out.below HX11.out HP10.out.lt)
    have HB11 : Hid (Below w.heap.size w w11) := HB10.out.trans (HX11.out.mono HB10.out.size)
    clear HX11 HO10 HP10 HB10
    apply wp_region_lit
    refine wpList_load_row rfl 49 _ rfl w9.heap.size rfl 49 _ (0, 0) _ HP11.out Try.underlying49 rfl (by kernel_rfl) ?_
    go_upto_region 13 with (go_at_call 22; have hx := ksound_any ⟨fR, fr, fh, fd, fo, fp, fn, fs, fe, fx, ⟨f0, f1, f2, f3, f4, f5, f6, f7, f8, fl⟩⟩ (.slice nb fl.length nbc) ds.length (less + mo) fb S0 w11 HK2.out HSB.out; rw [HOB.out] at hx; refine hx.mono ?_; clear hx; rintro e1 w12 ⟨rfl, hb12⟩; have HX12 := hide2 hb12; clear hb12)
    have HO12 := hide2 (HO11.out.below HX12.out HO11.out.lt)
    have HP12 := hide2 (HP11.out.below HX12.out HP11.out.lt)
    have HB12 : Hid (Below w.heap.size w w12) := HB11.out.trans (HX12.out.mono HB11.out.size)
    clear HX12 HO11 HP11 HB11 HSA HSB
    have o0 := HO12.out.cell (j := 0) rfl
    go_upto_region 16 with (fail)
    clear o0
    apply wp_region_lit
    refine wpList_load_row rfl 49 _ rfl w7.heap.size rfl 49 _ (0, 0) _ HO12.out Try.underlying49 rfl (by kernel_rfl) ?_
    refine wpList_load_row rfl 49 _ rfl w9.heap.size rfl 49 _ (0, 0) _ HP12.out Try.underlying49 rfl (by kernel_rfl) ?_
    go_upto_region 17 with (go_at_call 23; refine (kalike_same fe fx fs fp fd fo f0 f1 f2 f3 f4 f5 f6 f7 f8 (.slice na fl.length nac) (.slice nb fl.length nbc) w12).mono ?_; rintro e1 w13 ⟨rfl, hb13⟩; have HX13 := hide2 hb13; clear hb13)
    have HO13 := hide2 (HO12.out.below HX13.out HO12.out.lt)
    have HP13 := hide2 (HP12.out.below HX13.out HP12.out.lt)
    have HB13 : Hid (Below w.heap.size w w13) := HB12.out.trans (HX13.out.mono HB12.out.size)
    clear HO12 HP12 HB12 HX13
    have o0 := HO13.out.cell (j := 0) rfl
    have p0 := HP13.out.cell (j := 0) rfl
    have o1 := HO13.out.cell (j := 1) rfl
    have p1 := HP13.out.cell (j := 1) rfl
    have o6 := HO13.out.cell (j := 6) rfl
    have p6 := HP13.out.cell (j := 6) rfl
    have o7 := HO13.out.cell (j := 7) rfl
    have p7 := HP13.out.cell (j := 7) rfl
    go_wp2
    all_goals go_ret
    all_goals exact ⟨rfl, HB13.out⟩
end Go.Proofs.Ytjikemhmnkckcab
