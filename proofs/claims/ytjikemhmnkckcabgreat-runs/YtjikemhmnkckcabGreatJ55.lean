import Derived.Test.YtjikemhmnkckcabGreatJ40
import Derived.Test.YtjikemhmnkckcabGreatJ25
import Derived.Test.YtjikemhmnkckcabGreatJ47
import Derived.Test.YtjikemhmnkckcabGreatJ54
import Derived.Test.YtjikemhmnkckcabGreatRows
import Derived.Test.YtjikemhmnkckcabGreatJ2
import Derived.ProofKit
import Derived.OpenShut
import Derived.Lib.SmallJoins
import Derived.Deep.SlicePairs
import Derived.SizedLaws
import Derived.Test.YtjikemhmnkckcabGreatJ31
import Derived.ChangeMaps5
import Derived.WideShapes
import Derived.ChangeSlices
/- The law of Run (written by genruns.py). -/
namespace Go.Proofs.YtjikemhmnkckcabGreat
open Go.RowKit
attribute [local go_sem ↓] Go.wp_at_zero Go.wp_at_succ

theorem rep_range {w : World} {b : Nat} {en ex st pc dr : Int} {o : ByteArray} {r0 r1 r2 r3 r4 r5 r6 r7 r8 : Int} {rl : List (Int × Int × Int)} {v : Value} (h : Blk w b 28 [.int .i64 en, .int .i64 ex, .int .i64 st, .int .i64 pc, .int .i64 dr, .string o, .int .i64 r0, .int .i64 r1, .int .i64 r2, .int .i64 r3, .int .i64 r4, .int .i64 r5, .int .i64 r6, .int .i64 r7, .int .i64 r8, v]) :
    w.rangeAt b 6 (rptCells (⟨r0, r1, r2, r3, r4, r5, r6, r7, r8, rl⟩ : Rpt) v) := by
  intro j x hx
  refine h.cell ?_
  unfold rptCells at hx
  show ([.int .i64 en, .int .i64 ex, .int .i64 st, .int .i64 pc, .int .i64 dr, .string o] ++ [.int .i64 r0, .int .i64 r1, .int .i64 r2, .int .i64 r3, .int .i64 r4, .int .i64 r5, .int .i64 r6, .int .i64 r7, .int .i64 r8, v])[6 + j]? = some x
  rw [List.getElem?_append_right (by simp)]
  simp only [List.length_cons, List.length_nil]
  rw [show 6 + j - (0 + 1 + 1 + 1 + 1 + 1 + 1) = j by omega]
  exact hx

set_option maxRecDepth 100000 in
set_option maxHeartbeats 6400000 in
theorem runs_gen (d inp : ByteArray) (da : Option Addr) (dcap : Nat) (ds : List Int) (fuel : Int) (S : MS) (w : World) (hdr : DRow w da dcap ds) (hreach : ds.length * 8 ≤ 140737488351232)
    (hra : ∀ wx (a : Option Addr) (c : Nat), DRow wx a c ds → Calls Tryz.prog 6 #[.string d, .string inp, .slice a ds.length c, .int .i64 fuel] wx fun e w' => ∃ vn, e = .returned (.agg (outOf S vn).toArray) ∧ NearRel wx S.rep.near vn w')
    (hrb : ∀ wx (a : Option Addr) (c : Nat), DRow wx a c ds → Calls Tryz.prog 7 #[.string d, .string inp, .slice a ds.length c, .int .i64 fuel] wx fun e w' => ∃ vn, e = .returned (.agg (outOf S vn).toArray) ∧ NearRel wx S.rep.near vn w') :
    Calls Tryz.prog 3 #[.string d, .string inp, .slice da ds.length dcap, .int .i64 fuel] w fun e w' => e = .returned (.bool true) ∧ Below w.heap.size w w' := by
  obtain ⟨i0, hi0, hz0, hz1, hz2⟩ := info_parts info_int2
  have hdl := hdr.len
  have hdc := hdr.cap
  unfold maxLen at hdc
  have HDR := hide2 hdr
  have HRA := hide2 hra
  have HRB := hide2 hrb
  clear hra hrb
  obtain ⟨fR, fr, fh, fd, fo, fp, fn, fs, fe, fx, ⟨f0, f1, f2, f3, f4, f5, f6, f7, f8, fl⟩⟩ := S
  have HOA : Hid (∀ va, (outOf ⟨fR, fr, fh, fd, fo, fp, fn, fs, fe, fx, ⟨f0, f1, f2, f3, f4, f5, f6, f7, f8, fl⟩⟩ va).toArray = #[.int .i64 fe, .int .i64 fx, .int .i64 fs, .int .i64 fp, .int .i64 fd, .string fo, .int .i64 f0, .int .i64 f1, .int .i64 f2, .int .i64 f3, .int .i64 f4, .int .i64 f5, .int .i64 f6, .int .i64 f7, .int .i64 f8, va]) := fun _ => rfl
  obtain ⟨mc, hmc, hmk⟩ : ∃ mc : List Value, mc.length = ds.length + 1 ∧ ∀ w : World, (Instr.makeSlice 22 (.int .i64 ((ds.length : Int) + 1)) (.int .i64 ((ds.length : Int) + 1))).run Tryz.prog w = .ok (.slice (some ⟨w.heap.size, 0, none⟩) (ds.length + 1) (ds.length + 1)) (w.alloc (.cells mc.toArray 3)) := by
    refine ⟨(madeCells #[.int .i64 0] ((ds.length + 1) * 1)).toList, by simp [size_madeCells], fun w => ?_⟩
    have hr := run_make (P := Tryz.prog) w 22 3 i0 (.int .i64 0) Tryz.underlying22 hi0 hz0 .i64 .i64 ((ds.length : Int) + 1) ((ds.length : Int) + 1) (by omega) (by omega) (by rw [hz2]; omega) (by omega)
    rw [hr, hz1]
    simp [show ((ds.length : Int) + 1).toNat = ds.length + 1 by omega, Value.cells]
  obtain ⟨W4, t0, hrun, hblk4, hk4, hs4⟩ := copy_draws ds da dcap w.heap.size mc (w.alloc (.cells mc.toArray 3)) (hdr.kept (by simp) (fun g _ _ hg => ((Below.refl w.heap.size w).alloc (Nat.le_refl _) _).block g hg)) hmc (heap_alloc_new w _)
  have hadd : IntKind.i64.wrap ((ds.length : Int) + 1) = (ds.length : Int) + 1 := by unfold IntKind.wrap; simp [IntKind.bits, IntKind.signed]; omega
  have HB4 : Hid (Below w.heap.size w W4) := by
    have hx := (Below.refl w.heap.size w).alloc (Nat.le_refl _) (.cells mc.toArray 3)
    exact ⟨by rw [hk4.os, hx.os], by rw [hk4.tape, hx.tape], by rw [hk4.output, hx.output], by have := hk4.size; have := hx.size; omega, fun k hkk => (hk4.block k (by have := hx.size; omega) (by omega)).trans (hx.block k hkk)⟩
  have HC4 := hide2 hblk4
  have n0 := hblk4.cell (j := ds.length) (v := t0) (by rw [List.getElem?_append_right (by simp)]; simp)
  have fz0 := hblk4.frozen ds.length
  have x0 : (0 : Int) ≤ (ds.length : Int) := by omega
  have x1 : (ds.length : Int) ≤ (ds.length : Int) + 1 := by omega
  clear hblk4 hk4 hdr hmc
  go_enter Tryz.func3, Tryz.ntmps3
  go_upto_region 4 with (fail)
  obtain ⟨W5, hW5⟩ : ∃ W5, W5 = W4.setCell ⟨w.heap.size, ds.length, none⟩ (.int .i64 77) := ⟨_, rfl⟩
  rw [← hW5]
  have HC5 : Hid (Blk W5 w.heap.size 3 (ds.map (Value.int .i64) ++ [.int .i64 77])) := by
    show Blk _ _ _ _
    have e := HC4.out.setCell ds.length (.int .i64 77)
    rw [← hW5, List.set_append_right _ _ (by simp)] at e
    simpa using e
  have HB5 : Hid (Below w.heap.size w W5) := by show Below _ _ _; rw [hW5]; exact HB4.out.setCell (by show w.heap.size ≤ w.heap.size; omega) _
  clear hW5 n0 fz0 hrun HC4 HB4 hs4 hmk
  obtain ⟨cb, hcb⟩ : ∃ cb, w.heap.size = cb := ⟨_, rfl⟩
  have HCB := hide2 hcb
  rw [hcb] at HC5 ⊢
  clear hcb
  have hcl5 := HC5.out.lt
  have HOWN : Hid (∀ wx, Below W5.heap.size W5 wx → DRow wx (some ⟨cb, 0, none⟩) (ds.length + 1) ds) := fun wx hx => by
    refine ⟨by omega, by unfold maxLen; omega, fun _ => ⟨cb, 0, rfl, by have := HC5.out.lt; have := hx.size; omega, fun i hi => ?_⟩⟩
    refine (HC5.out.below hx HC5.out.lt).cell ?_
    rw [show 0 + i = i by omega, List.getElem?_append_left (by simpa using hi), List.getElem?_map, List.getElem?_eq_getElem hi]
    simp [List.getD_eq_getElem?_getD, List.getElem?_eq_getElem hi]
  have HDRX : Hid (∀ wx, Below W5.heap.size W5 wx → DRow wx da dcap ds) := fun wx hx => by
    have hbx : Below w.heap.size w wx := HB5.out.trans (hx.mono HB5.out.size)
    exact HDR.out.kept hbx.size (fun g _ _ hg => hbx.block g hg)
  go_upto_region 5 with (go_at_call 6; refine (HRA.out W5 _ _ (HOWN.out W5 (Below.refl _ _))).mono ?_; rintro e1 w6 ⟨va, rfl, hn6⟩; obtain ⟨na, nac, hva⟩ := own_shape hn6.row; subst hva; have HN6 := hide2 hn6; clear hn6; rw [HOA.out])
  obtain ⟨w7, hw7⟩ : ∃ wz, wz = w6.alloc (.cells #[.int .i64 fe, .int .i64 fx, .int .i64 fs, .int .i64 fp, .int .i64 fd, .string fo, .int .i64 f0, .int .i64 f1, .int .i64 f2, .int .i64 f3, .int .i64 f4, .int .i64 f5, .int .i64 f6, .int .i64 f7, .int .i64 f8, .slice na fl.length nac] 28) := ⟨_, rfl⟩
  have HXw7 : Hid (Below w6.heap.size w6 w7) := by show Below _ _ _; rw [hw7]; exact (Below.refl _ _).alloc (Nat.le_refl _) _
  have HOa : Hid (Blk w7 w6.heap.size 28 [.int .i64 fe, .int .i64 fx, .int .i64 fs, .int .i64 fp, .int .i64 fd, .string fo, .int .i64 f0, .int .i64 f1, .int .i64 f2, .int .i64 f3, .int .i64 f4, .int .i64 f5, .int .i64 f6, .int .i64 f7, .int .i64 f8, .slice na fl.length nac]) := by show Blk _ _ _ _; rw [hw7]; exact Blk.alloc _ _ _
  rw [← hw7]
  clear hw7
  have HN7 := hide2 (HN6.out.later HXw7.out)
  have ha7 := HOa.out.lt
  have HGA : Hid (∀ g, (Value.slice na fl.length nac).ownBlock = some g → W5.heap.size ≤ g ∧ g < w7.heap.size) := fun g hg => ⟨HN7.out.vlo g hg, own_lt HN7.out.row g hg⟩
  clear HN6 HXw7
  go_upto_region 6 with (go_at_call 7; refine (HRB.out w7 _ _ (HDRX.out w7 HN7.out.below)).mono ?_; rintro e1 w8 ⟨vb, rfl, hn8⟩; obtain ⟨nb, nbc, hvb⟩ := own_shape hn8.row; subst hvb; have HN8 := hide2 hn8; clear hn8; rw [HOA.out])
  obtain ⟨w9, hw9⟩ : ∃ wz, wz = w8.alloc (.cells #[.int .i64 fe, .int .i64 fx, .int .i64 fs, .int .i64 fp, .int .i64 fd, .string fo, .int .i64 f0, .int .i64 f1, .int .i64 f2, .int .i64 f3, .int .i64 f4, .int .i64 f5, .int .i64 f6, .int .i64 f7, .int .i64 f8, .slice nb fl.length nbc] 28) := ⟨_, rfl⟩
  have HXw9 : Hid (Below w8.heap.size w8 w9) := by show Below _ _ _; rw [hw9]; exact (Below.refl _ _).alloc (Nat.le_refl _) _
  have HOb : Hid (Blk w9 w8.heap.size 28 [.int .i64 fe, .int .i64 fx, .int .i64 fs, .int .i64 fp, .int .i64 fd, .string fo, .int .i64 f0, .int .i64 f1, .int .i64 f2, .int .i64 f3, .int .i64 f4, .int .i64 f5, .int .i64 f6, .int .i64 f7, .int .i64 f8, .slice nb fl.length nbc]) := by show Blk _ _ _ _; rw [hw9]; exact Blk.alloc _ _ _
  rw [← hw9]
  clear hw9
  have HN9 := hide2 (HN8.out.later HXw9.out)
  have HS8 : Hid (w7.heap.size ≤ w8.heap.size) := HN8.out.below.size
  have HA9 := hide2 (HN7.out.later HN9.out.below)
  have HOa9 := hide2 (HOa.out.below HN9.out.below ha7)
  clear HN8 HXw9 HN7 HOa
  go_wp2
  go_loopw [12] (fun i wr => ∃ m : Nat, m ≤ ds.length ∧ i = .int .i64 (m : Int) ∧ Hid (Below w9.heap.size w9 wr)) (fun i _ => ds.length - (intOf i).toNat)
  case atStart => exact ⟨0, by omega, rfl, Below.refl _ _⟩
  case round =>
    obtain ⟨m, hm, rfl, HBW⟩ := hrel
    by_cases hlt : m < ds.length
    · have hmI : (m : Int) < (ds.length : Int) := by omega
      have hmJ : (m : Int) < (ds.length : Int) + 1 := by omega
      have HWR : Hid (Below W5.heap.size W5 wr) := HA9.out.below.trans (HBW.out.mono HA9.out.below.size)
      obtain ⟨g, off, hga, hgl, hgc⟩ := (HDRX.out wr HWR.out).cells (by omega)
      subst hga
      have d0 := hgc m hlt
      have e0 : wr.cell? ⟨cb, m, none⟩ = some (.int .i64 (ds.getD m 0)) := (HC5.out.below HWR.out hcl5).cell (by rw [List.getElem?_append_left (by simpa using hlt), List.getElem?_map, List.getElem?_eq_getElem hlt]; simp [List.getD_eq_getElem?_getD, List.getElem?_eq_getElem hlt])
      clear hgc
      generalize ds.getD m 0 = dv at *
      go_wp2
      go_quiet (fail)
      go_wp2
      go_roundw
      case rel => exact ⟨m + 1, by omega, by go_num, below_drewN HBW.out _⟩
      case measure => simp [intOf]; omega
    · obtain rfl : m = ds.length := by omega
      clear hlt hm
      obtain ⟨w10, hw10⟩ : ∃ w10, w10 = wr := ⟨_, rfl⟩
      rw [← hw10] at HBW ⊢
      clear hw10
      have HOa10 := hide2 (HOa9.out.below HBW.out HOa9.out.lt)
      have HOb10 := hide2 (HOb.out.below HBW.out HOb.out.lt)
      have HNa10 := hide2 (HA9.out.later HBW.out)
      have HNb10 := hide2 (HN9.out.later HBW.out)
      clear HOa9 HOb HA9 HN9 HBW
      go_upto_region 11 with (fail)
      apply wp_region_lit
      refine wpList_plain rfl (fun K hK => ?_)
      go_simp
      refine hK _ _ ?_
      clear hK K
      refine wpList_load_mid rfl 26 _ rfl w6.heap.size 6 rfl (rptCells (⟨f0, f1, f2, f3, f4, f5, f6, f7, f8, fl⟩ : Rpt) (.slice na fl.length nac)) _ (rep_range HOa10.out) Tryz.underlying26 rfl (by kernel_rfl) ?_
      refine wpList_plain rfl (fun K hK => ?_)
      go_simp
      refine hK _ _ ?_
      clear hK K
      refine wpList_load_mid rfl 26 _ rfl w8.heap.size 6 rfl (rptCells (⟨f0, f1, f2, f3, f4, f5, f6, f7, f8, fl⟩ : Rpt) (.slice nb fl.length nbc)) _ (rep_range HOb10.out) Tryz.underlying26 rfl (by kernel_rfl) ?_
      go_upto_region 12 with (go_at_call 8; refine (sameReport_yes (⟨f0, f1, f2, f3, f4, f5, f6, f7, f8, fl⟩ : Rpt) (.slice na fl.length nac) (.slice nb fl.length nbc) w10 HNa10.out.row HNb10.out.row).mono ?_; rintro e1 w11 ⟨rfl, hb11⟩; have HX11 := hide2 hb11; clear hb11)
      have HOa11 := hide2 (HOa10.out.below HX11.out HOa10.out.lt)
      have HOb11 := hide2 (HOb10.out.below HX11.out HOb10.out.lt)
      have HNa11 := hide2 (HNa10.out.later HX11.out)
      have HNb11 := hide2 (HNb10.out.later HX11.out)
      clear HX11 HOa10 HOb10 HNa10 HNb10
      have e77 : w11.cell? ⟨cb, ds.length, none⟩ = some (.int .i64 77) := (HC5.out.below HNa11.out.below hcl5).cell (by rw [List.getElem?_append_right (by simp)]; simp)
      have o0 := HOa11.out.cell (j := 0) rfl
      have p0 := HOb11.out.cell (j := 0) rfl
      have o1 := HOa11.out.cell (j := 1) rfl
      have p1 := HOb11.out.cell (j := 1) rfl
      have o2 := HOa11.out.cell (j := 2) rfl
      have p2 := HOb11.out.cell (j := 2) rfl
      have o3 := HOa11.out.cell (j := 3) rfl
      have p3 := HOb11.out.cell (j := 3) rfl
      have o4 := HOa11.out.cell (j := 4) rfl
      have p4 := HOb11.out.cell (j := 4) rfl
      have o5 := HOa11.out.cell (j := 5) rfl
      have p5 := HOb11.out.cell (j := 5) rfl
      have o15 := HOa11.out.cell (j := 15) rfl
      have hl77 : (ds.length : Int) < (ds.length : Int) + 1 := by omega
      go_upto_region 15 with (fail)
      clear o0 o1 o2 o3 o4 o5 p0 p1 p2 p3 p4 p5 e77
      go_upto_region 16 with (go_at_call 9; refine (lent_any _ _ _ w11 HNa11.out.row).mono ?_; rintro e1 w12 ⟨fv, rfl, hl12, hk12, hfb, fa, fk, fc, hfv⟩; subst hfv; have HL12 := hide2 hl12; have HK12 := hide2 hk12; have HFB := hide2 hfb; clear hl12 hk12 hfb)
      clear o15
      have HB12 : Hid (Below W5.heap.size W5 w12) := HNa11.out.below.trans (HK12.out.to_below HNa11.out.below.size (fun b hb => HNa11.out.vlo b hb))
      have HOb12 : Hid (Blk w12 w8.heap.size 28 [.int .i64 fe, .int .i64 fx, .int .i64 fs, .int .i64 fp, .int .i64 fd, .string fo, .int .i64 f0, .int .i64 f1, .int .i64 f2, .int .i64 f3, .int .i64 f4, .int .i64 f5, .int .i64 f6, .int .i64 f7, .int .i64 f8, .slice nb fl.length nbc]) := HOb11.out.kept HK12.out (fun e => by have := HGA.out _ e; have := HS8.out; omega)
      have HRb12 : Hid (w12.ownsRow 0 64 3 (.slice nb fl.length nbc) fl.length (fl.flatMap nearCells)) := row_kept HNb11.out.row (fun g hg => HK12.out.block g (own_lt HNb11.out.row g hg) (fun e => by have := HGA.out _ e; have := HNb11.out.vlo g hg; omega))
      have HFW : Hid (∀ g, (Value.slice fa fk fc).ownBlock = some g → g < w12.heap.size) := fun g hg => by have h1 := own_lt HNa11.out.row g (HFB.out g hg); have h2 := HK12.out.size; omega
      clear HOa11 HOb11 HNa11 HNb11 HK12
      go_upto_region 17 with (go_at_call 6; refine (HRA.out w12 _ _ (HOWN.out w12 HB12.out)).mono ?_; rintro e1 w13 ⟨vz, rfl, hn13⟩; obtain ⟨nc, ncc, hvc⟩ := own_shape hn13.row; subst hvc; have HN13 := hide2 hn13; clear hn13; rw [HOA.out])
      obtain ⟨w14, hw14⟩ : ∃ wz, wz = w13.alloc (.cells #[.int .i64 fe, .int .i64 fx, .int .i64 fs, .int .i64 fp, .int .i64 fd, .string fo, .int .i64 f0, .int .i64 f1, .int .i64 f2, .int .i64 f3, .int .i64 f4, .int .i64 f5, .int .i64 f6, .int .i64 f7, .int .i64 f8, .slice nc fl.length ncc] 28) := ⟨_, rfl⟩
      have HX14 : Hid (Below w13.heap.size w13 w14) := by show Below _ _ _; rw [hw14]; exact (Below.refl _ _).alloc (Nat.le_refl _) _
      have HOc : Hid (Blk w14 w13.heap.size 28 [.int .i64 fe, .int .i64 fx, .int .i64 fs, .int .i64 fp, .int .i64 fd, .string fo, .int .i64 f0, .int .i64 f1, .int .i64 f2, .int .i64 f3, .int .i64 f4, .int .i64 f5, .int .i64 f6, .int .i64 f7, .int .i64 f8, .slice nc fl.length ncc]) := by show Blk _ _ _ _; rw [hw14]; exact Blk.alloc _ _ _
      rw [← hw14]
      clear hw14
      have HN14 := hide2 (HN13.out.later HX14.out)
      have HOb14 := hide2 (HOb12.out.below HN14.out.below HOb12.out.lt)
      have HRb14 := hide2 (row_below HRb12.out HN14.out.below (own_lt HRb12.out))
      have HL14 := hide2 (HL12.out.kept (fun g hg => HN14.out.below.block g (HFW.out g hg)))
      have HB14 : Hid (Below W5.heap.size W5 w14) := HB12.out.trans (HN14.out.below.mono HB12.out.size)
      have HFW14 : Hid (∀ g, (Value.slice fa fk fc).ownBlock = some g → g < w14.heap.size) := fun g hg => by have h1 := HFW.out g hg; have h2 := HN14.out.below.size; omega
      clear HN13 HX14 HOb12 HRb12 HL12 HB12 HFW
      apply wp_region_lit
      refine wpList_plain rfl (fun K hK => ?_)
      go_simp
      refine hK _ _ ?_
      clear hK K
      refine wpList_load_mid rfl 26 _ rfl w13.heap.size 6 rfl (rptCells (⟨f0, f1, f2, f3, f4, f5, f6, f7, f8, fl⟩ : Rpt) (.slice nc fl.length ncc)) _ (rep_range HOc.out) Tryz.underlying26 rfl (by kernel_rfl) ?_
      refine wpList_plain rfl (fun K hK => ?_)
      go_simp
      refine hK _ _ ?_
      clear hK K
      refine wpList_load_mid rfl 26 _ rfl w8.heap.size 6 rfl (rptCells (⟨f0, f1, f2, f3, f4, f5, f6, f7, f8, fl⟩ : Rpt) (.slice nb fl.length nbc)) _ (rep_range HOb14.out) Tryz.underlying26 rfl (by kernel_rfl) ?_
      go_upto_region 18 with (go_at_call 8; refine (sameReport_yes (⟨f0, f1, f2, f3, f4, f5, f6, f7, f8, fl⟩ : Rpt) (.slice nc fl.length ncc) (.slice nb fl.length nbc) w14 HN14.out.row HRb14.out).mono ?_; rintro e1 w15 ⟨rfl, hb15⟩; have HX15 := hide2 hb15; clear hb15)
      have HL15 := hide2 (HL14.out.kept (fun g hg => HX15.out.block g (HFW14.out g hg)))
      have HOc15 := hide2 (HOc.out.below HX15.out HOc.out.lt)
      have HOb15 := hide2 (HOb14.out.below HX15.out HOb14.out.lt)
      have HB15 : Hid (Below W5.heap.size W5 w15) := HB14.out.trans (HX15.out.mono HB14.out.size)
      clear HX15 HL14 HOc HOb14 HB14 HRb14 HN14
      go_upto_region 19 with (go_at_call 10; refine (kept_any _ w15 HL15.out).mono ?_; rintro e1 w16 ⟨rfl, hb16⟩; have HX16 := hide2 hb16; clear hb16)
      have HOc16 := hide2 (HOc15.out.below HX16.out HOc15.out.lt)
      have HOb16 := hide2 (HOb15.out.below HX16.out HOb15.out.lt)
      have HB16 : Hid (Below W5.heap.size W5 w16) := HB15.out.trans (HX16.out.mono HB15.out.size)
      clear HX16 HOc15 HOb15 HB15 HL15
      have c0 := HOc16.out.cell (j := 0) rfl
      have c5 := HOc16.out.cell (j := 5) rfl
      have p0 := HOb16.out.cell (j := 0) rfl
      have p5 := HOb16.out.cell (j := 5) rfl
      go_wp2
      all_goals go_ret
      all_goals exact ⟨rfl, HB5.out.trans (HB16.out.mono HB5.out.size)⟩

/-- What a Run of what is no image comes to. -/
def mNone : MS := ⟨⟨0, 0, [], [], []⟩, [], 0, 0, ⟨#[]⟩, 0, 0, 0, 1, 0, Rpt.only 0⟩
theorem runs_any (d inp : ByteArray) (da : Option Addr) (dcap : Nat) (ds : List Int) (fuel : Int) (w : World) (hd : (d.size : Int) ≤ 9223372036854775807) (hi : (inp.size : Int) ≤ 9223372036854775807) (hdr : DRow w da dcap ds) (hreach : ds.length * 8 ≤ 140737488351232) :
    Calls Tryz.prog 3 #[.string d, .string inp, .slice da ds.length dcap, .int .i64 fuel] w fun e w' => e = .returned (.bool true) ∧ Below w.heap.size w w' := by
  cases hB : imgB d with
  | true => exact runs_gen d inp da dcap ds fuel (mFin d inp ds fuel) w hdr hreach (fun wx a c h => run_img d inp a c ds fuel wx hd hi hB h) (fun wx a c h => rrun_img d inp a c ds fuel wx hd hi hB h)
  | false =>
    refine runs_gen d inp da dcap ds fuel mNone w hdr hreach (fun wx a c h => (run_no d inp _ fuel wx hd hB).mono ?_) (fun wx a c h => (rrun_no d inp _ fuel wx hd hB).mono ?_)
    · rintro e w' ⟨rfl, hb⟩
      exact ⟨.slice none 0 0, rfl, hb, ⟨rfl, .inl ⟨rfl, rfl⟩⟩, fun g hg => by simp [Value.ownBlock] at hg⟩
    · rintro e w' ⟨rfl, hb⟩
      exact ⟨.slice none 0 0, rfl, hb, ⟨rfl, .inl ⟨rfl, rfl⟩⟩, fun g hg => by simp [Value.ownBlock] at hg⟩
end Go.Proofs.YtjikemhmnkckcabGreat
/- A configuration among the arguments, opened. -/
namespace Go.Proofs.YtjikemhmnkckcabGreat
open Go.ChangeShapes Go.WideShapes Go.ChangeAt Go.RowKit Go.Joins Go.Deep

theorem bytes_cls : Tryz.prog.bytesOf 84 = 16 := by kernel_rfl
theorem cells_cls : Tryz.prog.cellsOf 84 = 2 := by kernel_rfl
theorem cells_conf : Tryz.prog.cellsOf 36 = 3 := by kernel_rfl
theorem cells_int : Tryz.prog.cellsOf 3 = 1 := by kernel_rfl

theorem addr_add (g off j : Nat) : (⟨g, off, none⟩ : Addr).add j = ⟨g, off + j, none⟩ := by unfold Addr.add; split <;> simp_all

set_option maxRecDepth 100000 in
theorem open_conf {H : Type} {enc : TypeId × Value → H} {W : World} {base b0 : Nat} {sp : Nat → Bool} {held : Bool} {v : Value} {d : DataW H} {p : List MemPlace}
    (hv : Value.okWide Tryz.prog W .any b0 36 v) (h : DataW.Trod enc Tryz.prog W base sp held 36 v d p) :
    ∃ (st rest : Int) (a : Option Addr) (cap : Nat) (cls : List (Int × Int)), v = .agg #[.int .i64 st, .int .i64 rest, .slice a cls.length cap] ∧ CRow W a cap cls ∧
      ((DataW.weights Tryz.prog 36 d).all (· ≤ reachBytes) = true → cls.length * 16 ≤ 140737488351232) := by
  obtain ⟨v0, v1, v2, y0, y1, y2, n, rfl, rfl, rfl, h0, h1, h2⟩ := open_agg3 Tryz.underlying36 (by kernel_rfl) cells_conf hv h
  obtain ⟨st, e0, rfl, w0⟩ := DataW.trod_int Tryz.underlying3 h0
  obtain ⟨rest, e1, rfl, w1⟩ := DataW.trod_int Tryz.underlying3 h1
  simp only [List.cons.injEq, and_true] at e0 e1
  subst e0 e1
  rcases open_slice_pairs Tryz.underlying34 Tryz.underlying84 cells_cls rfl rfl cells_int cells_int h2 with ⟨e2, rfl⟩ | ⟨a, len, cap, m, n', V0, V1, D0, D1, P0, P1, e2, _, hl, hm, hmm, rfl, hx⟩
  · simp only [List.cons.injEq, and_true] at e2
    subst e2
    exact ⟨st, rest, none, 0, [], rfl, ⟨Nat.le_refl _, by simp [maxLen], fun h => absurd h (by simp)⟩, fun _ => by simp⟩
  · simp only [List.cons.injEq, and_true] at e2
    subst e2
    have hlm : len ≤ m := by rw [hmm]; split <;> omega
    have each : ∀ i, i < len → ∃ q : Int × Int, V0 i = .int .i64 q.1 ∧ V1 i = .int .i64 q.2 := fun i hi => by
      obtain ⟨_, _, hx0, hx1⟩ := hx i (by omega)
      obtain ⟨x, ex, _, _⟩ := DataW.trod_int Tryz.underlying3 hx0
      obtain ⟨y, ey, _, _⟩ := DataW.trod_int Tryz.underlying3 hx1
      simp only [List.cons.injEq, and_true] at ex ey
      exact ⟨(x, y), ex, ey⟩
    obtain ⟨q, hq⟩ := choose_lt each
    refine ⟨st, rest, some a, cap, (List.range len).map q, by simp, ⟨by simpa using hl, hm, fun h0 => ?_⟩, fun hw => ?_⟩
    · simp only [List.length_map, List.length_range] at h0
      obtain ⟨g, off, spot⟩ := a
      have hc0 := (hx 0 (by omega)).1
      have hspot : spot = none := by simpa [Addr.add] using World.cell?_spot hc0
      subst hspot
      refine ⟨g, off, rfl, ?_, fun i hi => ?_⟩
      · have := World.block_lt_of_cell? W _ hc0
        simpa [Addr.add] using this
      · simp only [List.length_map, List.length_range] at hi
        obtain ⟨c0, c1, _, _⟩ := hx i (by omega)
        have hqi := hq i hi
        rw [hqi.1] at c0
        rw [hqi.2] at c1
        have eg : ((List.range len).map q).getD i (0, 0) = q i := by simp [List.getD_eq_getElem?_getD, hi]
        constructor
        · show W.cell? ⟨g, off + i * 2, none⟩ = some (.int .i64 (((List.range len).map q).getD i (0, 0)).1)
          rw [eg, ← addr_add]; exact c0
        · show W.cell? ⟨g, off + i * 2 + 1, none⟩ = some (.int .i64 (((List.range len).map q).getD i (0, 0)).2)
          rw [eg, Nat.add_assoc, ← addr_add]; exact c1
    · have hmem : (len + (m - len)) * 16 ≤ reachBytes := by
        have := List.all_eq_true.1 hw ((len + (m - len)) * 16) (by simp [DataW.weights, DataW.weightsEach, Tryz.underlying36, Tryz.underlying34, bytes_cls])
        simpa using this
      simp only [reachBytes] at hmem
      simp only [List.length_map, List.length_range]
      omega
end Go.Proofs.YtjikemhmnkckcabGreat
/- A program among the arguments, opened. -/
namespace Go.Proofs.YtjikemhmnkckcabGreat
open Go.ChangeShapes Go.WideShapes Go.ChangeAt Go.RowKit Go.Joins Go.Deep

theorem bytes_ins : Tryz.prog.bytesOf 60 = 32 := by kernel_rfl
theorem cells_ins : Tryz.prog.cellsOf 60 = 4 := by kernel_rfl
theorem cells_prog : Tryz.prog.cellsOf 39 = 5 := by kernel_rfl
theorem cells_clss : Tryz.prog.cellsOf 34 = 1 := by kernel_rfl
theorem cells_inss : Tryz.prog.cellsOf 37 = 1 := by kernel_rfl
theorem cells_str : Tryz.prog.cellsOf 9 = 1 := by kernel_rfl
theorem take_one2 {l : List Value} {j : Nat} {v : Value} (h : (l.drop j).take 1 = [v]) : l[j]? = some v := by
  have := congrArg (fun x => x[0]?) h
  simpa [List.getElem?_take, List.getElem?_drop] using this
theorem add_add2 (a : Addr) (i j : Nat) : (a.add i).add j = a.add (i + j) := by
  unfold Addr.add; repeat' split
  all_goals simp_all [Nat.add_assoc]

set_option maxRecDepth 100000 in
theorem open_ins {H : Type} {enc : TypeId × Value → H} {W : World} {base : Nat} {sp : Nat → Bool} {held : Bool} {fuel : Nat} {cs : List Value} {x : DataW H × List MemPlace} (h : DataW.trod enc Tryz.prog W base sp held fuel 60 cs = some x) :
    ∃ u : Nat → Int, ∀ j, j < 4 → cs[j]? = some (.int .i64 (u j)) ∧ -9223372036854775808 ≤ u j ∧ u j ≤ 9223372036854775807 := by
  obtain ⟨xs, n, _, _, _, hlen, hf⟩ := DataW.trod_struct Tryz.underlying60 h
  have hl : xs.length = 4 := hlen
  have hx : ∀ j (hj : j < xs.length), xs[j]? = some xs[j] := fun j hj => List.getElem?_eq_getElem hj
  have fin : ∀ j y, DataW.trod enc Tryz.prog W base sp held n 3 ((cs.drop j).take 1) = some y → ∃ z : Int, cs[j]? = some (.int .i64 z) ∧ -9223372036854775808 ≤ z ∧ z ≤ 9223372036854775807 := by
    intro j y hy
    obtain ⟨z, ez, _, wz⟩ := DataW.trod_int Tryz.underlying3 hy
    have hb := bounds_i64 wz
    exact ⟨z, take_one2 ez, hb.1, hb.2⟩
  have key : ∀ j, j < 4 → ∃ z : Int, cs[j]? = some (.int .i64 z) ∧ -9223372036854775808 ≤ z ∧ z ≤ 9223372036854775807 := by
    intro j hj
    match j, hj with
    | 0, _ => exact fin 0 _ ((hf 0 _ rfl).trans (hx 0 (by omega)))
    | 1, _ => exact fin 1 _ ((hf 1 _ rfl).trans (hx 1 (by omega)))
    | 2, _ => exact fin 2 _ ((hf 2 _ rfl).trans (hx 2 (by omega)))
    | 3, _ => exact fin 3 _ ((hf 3 _ rfl).trans (hx 3 (by omega)))
  obtain ⟨u, hu⟩ := choose_lt key
  exact ⟨u, hu⟩

/-- All numbers of a program are in int. -/
def insBd (code : List Ins) : Prop := ∀ i, i < code.length → (-9223372036854775808 ≤ (code.getD i Ins.no).op ∧ (code.getD i Ins.no).op ≤ 9223372036854775807) ∧ (-9223372036854775808 ≤ (code.getD i Ins.no).a ∧ (code.getD i Ins.no).a ≤ 9223372036854775807) ∧
  (-9223372036854775808 ≤ (code.getD i Ins.no).b ∧ (code.getD i Ins.no).b ≤ 9223372036854775807) ∧ (-9223372036854775808 ≤ (code.getD i Ins.no).c ∧ (code.getD i Ins.no).c ≤ 9223372036854775807)

set_option maxRecDepth 100000 in
theorem open_code {H : Type} {enc : TypeId × Value → H} {W : World} {base : Nat} {sp : Nat → Bool} {held : Bool} {fuel : Nat} {v : Value} {x : DataW H × List MemPlace}
    (hf : DataW.trod enc Tryz.prog W base sp held fuel 37 [v] = some x) :
    ∃ (a : Option Addr) (cap : Nat) (code : List Ins), v = .slice a code.length cap ∧ IRow W a cap code ∧ insBd code ∧
      ((DataW.weights Tryz.prog 37 x.1).all (· ≤ reachBytes) = true → code.length * 32 ≤ 140737488351232) := by
  rcases open_slice Tryz.underlying37 hf with ⟨e2, ex⟩ | ⟨a, len, cap, m, n', D, Pl, e2, _, hl, hm, hmm, ex, hx⟩
  · simp only [List.cons.injEq, and_true] at e2
    subst e2
    exact ⟨none, 0, [], rfl, ⟨Nat.le_refl _, by simp [maxLen], fun h => absurd h (by simp)⟩, fun i hi => absurd hi (by simp), fun _ => by simp⟩
  · simp only [List.cons.injEq, and_true] at e2
    subst e2
    rw [cells_ins] at hx
    have hlm : len ≤ m := by rw [hmm]; split <;> omega
    have each : ∀ i, i < len → ∃ u : Nat → Int, ∀ j, j < 4 → W.cell? (a.add (i * 4 + j)) = some (.int .i64 (u j)) ∧ -9223372036854775808 ≤ u j ∧ u j ≤ 9223372036854775807 := fun i hi => by
      obtain ⟨cs', h1, h2⟩ := hx i (by omega)
      obtain ⟨u, hu⟩ := open_ins h2
      obtain ⟨_, _, hc⟩ := World.cells?_some h1
      refine ⟨u, fun j hj => ⟨?_, (hu j hj).2⟩⟩
      rw [← add_add2, hc j hj]
      exact (hu j hj).1
    obtain ⟨u, hu⟩ := choose_lt each
    have eg : ∀ i, i < len → ((List.range len).map fun i => (⟨u i 0, u i 1, u i 2, u i 3⟩ : Ins)).getD i Ins.no = ⟨u i 0, u i 1, u i 2, u i 3⟩ := fun i hi => by simp [List.getD_eq_getElem?_getD, hi]
    refine ⟨some a, cap, (List.range len).map fun i => ⟨u i 0, u i 1, u i 2, u i 3⟩, by simp, ⟨by simpa using hl, hm, fun h0 => ?_⟩, fun i hi => ?_, fun hw => ?_⟩
    · simp only [List.length_map, List.length_range] at h0
      obtain ⟨g, off, spot⟩ := a
      have hc0 := (hu 0 (by omega) 0 (by omega)).1
      have hspot : spot = none := by simpa [Addr.add] using World.cell?_spot hc0
      subst hspot
      refine ⟨g, off, rfl, ?_, fun i hi => ?_⟩
      · have := World.block_lt_of_cell? W _ hc0
        simpa [Addr.add] using this
      · simp only [List.length_map, List.length_range] at hi
        rw [eg i hi]
        have h4 := fun j hj => (hu i hi j hj).1
        refine ⟨?_, ?_, ?_, ?_⟩
        · have := h4 0 (by omega); rw [addr_add] at this; exact this
        · have := h4 1 (by omega); rw [addr_add, ← Nat.add_assoc] at this; exact this
        · have := h4 2 (by omega); rw [addr_add, ← Nat.add_assoc] at this; exact this
        · have := h4 3 (by omega); rw [addr_add, ← Nat.add_assoc] at this; exact this
    · simp only [List.length_map, List.length_range] at hi
      rw [eg i hi]
      exact ⟨(hu i hi 0 (by omega)).2, (hu i hi 1 (by omega)).2, (hu i hi 2 (by omega)).2, (hu i hi 3 (by omega)).2⟩
    · subst ex
      have hmem : (len + (m - len)) * 32 ≤ reachBytes := by
        have := List.all_eq_true.1 hw ((len + (m - len)) * 32) (by simp [DataW.weights, Tryz.underlying37, bytes_ins])
        simpa using this
      simp only [reachBytes] at hmem
      simp only [List.length_map, List.length_range]
      omega

set_option maxRecDepth 100000 in
theorem open_conf3 {H : Type} {enc : TypeId × Value → H} {W : World} {base : Nat} {sp : Nat → Bool} {held : Bool} {fuel : Nat} {v0 v1 v2 : Value} {x : DataW H × List MemPlace}
    (hf : DataW.trod enc Tryz.prog W base sp held fuel 36 [v0, v1, v2] = some x) :
    ∃ (st rest : Int) (a : Option Addr) (cap : Nat) (cls : List (Int × Int)), v0 = .int .i64 st ∧ v1 = .int .i64 rest ∧ v2 = .slice a cls.length cap ∧ CRow W a cap cls ∧
      (-9223372036854775808 ≤ st ∧ st ≤ 9223372036854775807) ∧ (-9223372036854775808 ≤ rest ∧ rest ≤ 9223372036854775807) ∧
      ((DataW.weights Tryz.prog 36 x.1).all (· ≤ reachBytes) = true → cls.length * 16 ≤ 140737488351232) := by
  obtain ⟨y0, y1, y2, n, hx0, _, h0, h1, h2⟩ := trod_struct3 Tryz.underlying36 hf
  subst hx0
  obtain ⟨st, e0, rfl, w0⟩ := DataW.trod_int Tryz.underlying3 h0
  obtain ⟨rest, e1, rfl, w1⟩ := DataW.trod_int Tryz.underlying3 h1
  simp [cells_int] at e0 e1
  subst e0 e1
  rcases open_slice_pairs Tryz.underlying34 Tryz.underlying84 cells_cls rfl rfl cells_int cells_int h2 with ⟨e2, rfl⟩ | ⟨a, len, cap, m, n', V0, V1, D0, D1, P0, P1, e2, _, hl, hm, hmm, rfl, hx⟩
  · simp [cells_clss] at e2
    subst e2
    exact ⟨st, rest, none, 0, [], rfl, rfl, rfl, ⟨Nat.le_refl _, by simp [maxLen], fun h => absurd h (by simp)⟩, bounds_i64 w0, bounds_i64 w1, fun _ => by simp⟩
  · simp [cells_clss] at e2
    subst e2
    have hlm : len ≤ m := by rw [hmm]; split <;> omega
    have each : ∀ i, i < len → ∃ q : Int × Int, V0 i = .int .i64 q.1 ∧ V1 i = .int .i64 q.2 := fun i hi => by
      obtain ⟨_, _, hx0, hx1⟩ := hx i (by omega)
      obtain ⟨x, ex, _, _⟩ := DataW.trod_int Tryz.underlying3 hx0
      obtain ⟨y, ey, _, _⟩ := DataW.trod_int Tryz.underlying3 hx1
      simp only [List.cons.injEq, and_true] at ex ey
      exact ⟨(x, y), ex, ey⟩
    obtain ⟨q, hq⟩ := choose_lt each
    refine ⟨st, rest, some a, cap, (List.range len).map q, rfl, rfl, by simp, ⟨by simpa using hl, hm, fun h0 => ?_⟩, bounds_i64 w0, bounds_i64 w1, fun hw => ?_⟩
    · simp only [List.length_map, List.length_range] at h0
      obtain ⟨g, off, spot⟩ := a
      have hc0 := (hx 0 (by omega)).1
      have hspot : spot = none := by simpa [Addr.add] using World.cell?_spot hc0
      subst hspot
      refine ⟨g, off, rfl, ?_, fun i hi => ?_⟩
      · have := World.block_lt_of_cell? W _ hc0
        simpa [Addr.add] using this
      · simp only [List.length_map, List.length_range] at hi
        obtain ⟨c0, c1, _, _⟩ := hx i (by omega)
        have hqi := hq i hi
        rw [hqi.1] at c0
        rw [hqi.2] at c1
        have eg : ((List.range len).map q).getD i (0, 0) = q i := by simp [List.getD_eq_getElem?_getD, hi]
        constructor
        · show W.cell? ⟨g, off + i * 2, none⟩ = some (.int .i64 (((List.range len).map q).getD i (0, 0)).1)
          rw [eg, ← addr_add]; exact c0
        · show W.cell? ⟨g, off + i * 2 + 1, none⟩ = some (.int .i64 (((List.range len).map q).getD i (0, 0)).2)
          rw [eg, Nat.add_assoc, ← addr_add]; exact c1
    · have hmem : (len + (m - len)) * 16 ≤ reachBytes := by
        have := List.all_eq_true.1 hw ((len + (m - len)) * 16) (by simp [DataW.weights, DataW.weightsEach, Tryz.underlying36, Tryz.underlying34, bytes_cls])
        simpa using this
      simp only [reachBytes] at hmem
      simp only [List.length_map, List.length_range]
      omega

set_option maxRecDepth 100000 in
theorem open_program {H : Type} {enc : TypeId × Value → H} {W : World} {base b0 : Nat} {sp : Nat → Bool} {held : Bool} {v : Value} {d : DataW H} {p : List MemPlace}
    (hv : Value.okWide Tryz.prog W .any b0 39 v) (h : DataW.Trod enc Tryz.prog W base sp held 39 v d p) :
    ∃ (st rest : Int) (a : Option Addr) (cap : Nat) (cls : List (Int × Int)) (dt : ByteArray) (ia : Option Addr) (icap : Nat) (code : List Ins), v = .agg #[.int .i64 st, .int .i64 rest, .slice a cls.length cap, .string dt, .slice ia code.length icap] ∧ CRow W a cap cls ∧ IRow W ia icap code ∧ insBd code ∧ dt.size ≤ maxLen ∧
      (-9223372036854775808 ≤ st ∧ st ≤ 9223372036854775807) ∧ (-9223372036854775808 ≤ rest ∧ rest ≤ 9223372036854775807) ∧
      ((DataW.weights Tryz.prog 39 d).all (· ≤ reachBytes) = true → cls.length * 16 ≤ 140737488351232 ∧ code.length * 32 ≤ 140737488351232) := by
  obtain ⟨cs, rfl, hsz⟩ := okWide_struct Tryz.underlying39 hv
  rw [cells_prog] at hsz
  obtain ⟨c0, c1, c2, c3, c4, rfl⟩ : ∃ c0 c1 c2 c3 c4, cs = #[c0, c1, c2, c3, c4] := by
    obtain ⟨l⟩ := cs
    match l, hsz with
    | [c0, c1, c2, c3, c4], _ => exact ⟨c0, c1, c2, c3, c4, rfl⟩
  obtain ⟨fuel, hf⟩ := h
  obtain ⟨y0, y1, y2, n, hx, _, h0, h1, h2⟩ := trod_struct3 Tryz.underlying39 hf
  simp only [Prod.mk.injEq] at hx
  obtain ⟨rfl, rfl⟩ := hx
  obtain ⟨st, rest, a, cap, cls, rfl, rfl, rfl, hcr, b0, b1, hw0⟩ := open_conf3 (v0 := c0) (v1 := c1) (v2 := c2) (by simpa [Value.cells, cells_conf] using h0)
  obtain ⟨dt, e3, -, hds⟩ := DataW.trod_string Tryz.underlying9 h1
  obtain ⟨ia, icap, code, rfl, hir, hbd, hw2⟩ := open_code (v := c4) (by simpa [Value.cells, cells_inss] using h2)
  simp [Value.cells, cells_str] at e3
  subst e3
  refine ⟨st, rest, a, cap, cls, dt, ia, icap, code, rfl, hcr, hir, hbd, hds, b0, b1, fun hw => ?_⟩
  simp only [DataW.weights, Tryz.underlying39, List.map_cons, List.map_nil, DataW.weightsEach, List.append_nil, List.all_append, Bool.and_eq_true] at hw
  exact ⟨hw0 hw.1, hw2 hw.2.2⟩
end Go.Proofs.YtjikemhmnkckcabGreat
/- The draws among the arguments, opened. -/
namespace Go.Proofs.YtjikemhmnkckcabGreat
open Go.ChangeShapes Go.WideShapes Go.ChangeAt Go.RowKit Go.Joins Go.Deep

theorem cells_int2 : Tryz.prog.cellsOf 3 = 1 := by kernel_rfl
theorem bytes_int2 : Tryz.prog.bytesOf 3 = 8 := by kernel_rfl
set_option maxRecDepth 100000 in
theorem open_draws {H : Type} {enc : TypeId × Value → H} {W : World} {base : Nat} {sp : Nat → Bool} {held : Bool} {fuel : Nat} {v : Value} {x : DataW H × List MemPlace}
    (hf : DataW.trod enc Tryz.prog W base sp held fuel 22 [v] = some x) :
    ∃ (a : Option Addr) (cap : Nat) (ds : List Int), v = .slice a ds.length cap ∧ DRow W a cap ds ∧ ((DataW.weights Tryz.prog 22 x.1).all (· ≤ reachBytes) = true → ds.length * 8 ≤ 140737488351232) := by
  rcases Go.ChangeShapes.open_ints Tryz.underlying22 Tryz.underlying3 cells_int2 hf with ⟨e2, ex⟩ | ⟨a, len, cap, zs, e2, _, hl, hm, hz, ex, hc, _⟩
  · simp only [List.cons.injEq, and_true] at e2
    subst e2
    exact ⟨none, 0, [], rfl, ⟨Nat.le_refl _, by simp [maxLen], fun h => absurd h (by simp)⟩, fun _ => by simp⟩
  · simp only [List.cons.injEq, and_true] at e2
    subst e2
    have hlz : len ≤ zs.length := by rw [hz]; split <;> omega
    have hlt : (zs.take len).length = len := by rw [List.length_take]; omega
    refine ⟨some a, cap, zs.take len, by rw [hlt], ⟨by rw [hlt]; exact hl, hm, fun h0 => ?_⟩, fun hw => ?_⟩
    · rw [hlt] at h0
      obtain ⟨g, off, spot⟩ := a
      have hc0 := hc 0 (by omega)
      have hspot : spot = none := by simpa [Addr.add] using World.cell?_spot hc0
      subst hspot
      refine ⟨g, off, rfl, ?_, fun i hi => ?_⟩
      · have := World.block_lt_of_cell? W _ hc0
        simpa [Addr.add] using this
      · rw [hlt] at hi
        have := hc i (by omega)
        rw [addr_add] at this
        rw [this]
        congr 2
        rw [List.getD_eq_getElem?_getD, List.getD_eq_getElem?_getD, List.getElem?_take, if_pos hi]
    · subst ex
      have hmem : zs.length * 8 ≤ reachBytes := by
        have hd : (lits (H := H) .i64 (zs.take len)).length + (lits (H := H) .i64 (zs.drop len)).length = zs.length := by simp [lits]; omega
        have := List.all_eq_true.1 hw (((lits (H := H) .i64 (zs.take len)).length + (lits (H := H) .i64 (zs.drop len)).length) * 8) (by simp [DataW.weights, Tryz.underlying22, bytes_int2])
        rw [hd] at this
        simpa using this
      simp only [reachBytes] at hmem
      rw [hlt]
      omega
set_option maxRecDepth 100000 in
theorem open_draws2 {H : Type} {enc : TypeId × Value → H} {W : World} {base b0 : Nat} {sp : Nat → Bool} {held : Bool} {v : Value} {d : DataW H} {p : List MemPlace}
    (hv : Value.okWide Tryz.prog W .any b0 22 v) (h : DataW.Trod enc Tryz.prog W base sp held 22 v d p) :
    ∃ (a : Option Addr) (cap : Nat) (ds : List Int), v = .slice a ds.length cap ∧ DRow W a cap ds ∧ ((DataW.weights Tryz.prog 22 d).all (· ≤ reachBytes) = true → ds.length * 8 ≤ 140737488351232) := by
  obtain ⟨a0, len0, cap0, rfl⟩ := okWide_slice Tryz.underlying22 hv
  obtain ⟨fuel, hf⟩ := h
  exact open_draws hf
end Go.Proofs.YtjikemhmnkckcabGreat
