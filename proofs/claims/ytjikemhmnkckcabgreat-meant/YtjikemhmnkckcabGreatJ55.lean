import Derived.Test.YtjikemhmnkckcabGreatJ52
import Derived.Test.YtjikemhmnkckcabGreatJ54
import Derived.Test.YtjikemhmnkckcabGreatRows
import Derived.ProofKit
import Derived.OpenShut
import Derived.Deep.SlicePairs
import Derived.SizedLaws
import Derived.ChangeMaps5
import Derived.WideShapes
import Derived.ChangeSlices
namespace Go.Proofs.YtjikemhmnkckcabGreat
open Go.RowKit
attribute [local go_sem ↓] Go.wp_at_zero Go.wp_at_succ
theorem results_rows2 {P : Program} {fn : Func} {p q r : Tmp} {ty : TypeId} (h : fn.results = #[.cell p ty, .cell q ty, .tmp r]) (tmps : Array Value) (w : World) (g g' : Nat) (t t' : TypeId) (cs cs' : Array Value) (fr fr' : Nat × Nat) (d : TypeDesc) (v : Value)
 (hp : tmps.getD p undef = .pointer (some ⟨g, 0, none⟩)) (hq : tmps.getD q undef = .pointer (some ⟨g', 0, none⟩)) (hr : tmps.getD r undef = v) (hg : w.heap[g]? = some (.cells cs t fr)) (hg' : w.heap[g']? = some (.cells cs' t' fr'))
 (hu : P.underlying ty = some d) (hd : (match d with | .struct _ | .array _ _ => true | _ => false) = true) (hi : (P.info? ty).map (·.size) = some cs.size) (hi' : (P.info? ty).map (·.size) = some cs'.size) :
 (results fn tmps).run P w = .ok (.tuple #[.agg cs, .agg cs', v]) w := by
 have hp' : tmps[p]?.getD undef = .pointer (some ⟨g, 0, none⟩) := by simpa using hp
 have hq' : tmps[q]?.getD undef = .pointer (some ⟨g', 0, none⟩) := by simpa using hq
 have hr' : tmps[r]?.getD undef = v := by simpa using hr
 simp [results, h, hp', hq', hr', asAddr, run_loadVar_row w g t ty cs fr d hg hu hd hi, run_loadVar_row w g' t' ty cs' fr' d hg' hu hd hi']
theorem fin_neg (d inp : ByteArray) (ds : List Int) {fuel : Int} (h : fuel < 0) : mFin d inp ds fuel = mFin d inp ds 0 := by
 unfold mFin;have e1 : mFuel fuel = fuel := if_neg (by omega);have e2 : mFuel 0 = 0 := if_neg (by omega);rw [e1, e2]
 by_cases c : (pCode d).length ≤ (mBeg d).pc
 ·rw [mRun_over rfl c (by omega), mRun_over rfl c (by omega)]
 ·rw [mRun_out rfl c (by show fuel ≤ ((0 : Nat) : Int); omega) (by omega), mRun_out rfl c (by show (0 : Int) ≤ ((0 : Nat) : Int); omega) (by omega)]
structure FinOk (M : MS) : Prop where
 en : M.en = 2 ∨ M.en = 3 ∨ M.en = 4 ∨ M.en = 5
 er : M.rep.err ≠ 0 ↔ M.en = 5
theorem fin_ok (d inp : ByteArray) (ds : List Int) (fuel : Int) : FinOk (mFin d inp ds fuel) := by
 by_cases h : fuel < 0
 ·rw [fin_neg d inp ds h];have := fuel_ok d inp ds 0 (by omega);exact ⟨this.en, this.er⟩
 ·have := fuel_ok d inp ds fuel (by omega);exact ⟨this.en, this.er⟩
structure RanOk (S : IS) (M : MS) (vn : Value) : Prop where
 means : IMeans S M
 fin : FinOk M
 sh : ∃ a n c, vn = .slice a n c
theorem range_blk {w : World} {b : Nat} {t : TypeId} {cs : List Value} (h : Blk w b t cs) : w.rangeAt b 0 cs := fun j v hv => by
 rw [Nat.zero_add]; exact h.cell hv
theorem blk_setRow_other {w : World} {b g : Nat} {t : TypeId} {cs : List Value} (h : Blk w b t cs) (xs : Array Value) (hn : b ≠ g) : Blk (w.setRow g xs) b t cs := (setRow_other w g b xs hn).trans h
theorem below_setRow {w w' : World} {B g : Nat} (h : Below B w w') (xs : Array Value) (hg : B ≤ g) : Below B w (w'.setRow g xs) :=
 ⟨h.os, h.tape, h.output, by simp [World.setRow]; exact h.size, fun k hk => (setRow_other w' g k xs (by omega)).trans (h.block k hk)⟩
theorem outI_one (S : IS) : (outI S).toArray.all (·.oneCell') = true := by
 unfold outI noRep;simp [Value.oneCell']
theorem outOf_one (S : MS) (a : Option Addr) (n cap : Nat) : (outOf S (.slice a n cap)).toArray.all (·.oneCell') = true := by
 unfold outOf outC rptCells;simp [Value.oneCell']
set_option maxRecDepth 100000 in
set_option maxHeartbeats 6400000 in
theorem ran_any (st rest : Int) (a : Option Addr) (cap : Nat) (cls : List (Int × Int)) (d : ByteArray) (ia : Option Addr) (icap : Nat) (code : List Ins) (inp : ByteArray) (da : Option Addr) (dcap : Nat) (ds : List Int) (fuel : Int) (w : World) (h : CRow w a cap cls) (hi : IRow w ia icap code) (hbd : insIn code) (hdr : DRow w da dcap ds)
 (b0 : -9223372036854775808 ≤ st) (b1 : st ≤ 9223372036854775807) (b2 : -9223372036854775808 ≤ rest) (b3 : rest ≤ 9223372036854775807) (hin : (inp.size : Int) ≤ 9223372036854775807) :
 Calls Tryz.prog 11 #[.agg #[.int .i64 st, .int .i64 rest, .slice a cls.length cap, .string d, .slice ia code.length icap], .string inp, .slice da ds.length dcap, .int .i64 fuel] w fun e w' => ∃ (S : IS) (M : MS) (vn : Value), e = .returned (.tuple #[.agg (outI S).toArray, .agg (outOf M vn).toArray, .bool true]) ∧ Below w.heap.size w w' ∧ RanOk S M vn := by
 have hnd : (ds.length : Int) ≤ 9223372036854775807 := by have h1 := hdr.len; have h2 := hdr.cap; unfold maxLen at h2; omega
 have HDR := hide2 hdr;clear hdr;have HC := hide2 h;have HI := hide2 hi;have HBD := hide2 hbd;have q17 := kpick_bd st 17 (by omega);have r17 := kpick_bd rest 17 (by omega);have HSO := hide2 (tidy_sound (kpick st 17) (kpick rest 17) cls d code (by omega) (by omega) (by omega) (by omega));clear h hi hbd;obtain ⟨wa, hwa⟩ : ∃ wa, wa = ((w.alloc (.cells #[.int .i64 st, .int .i64 rest, .slice a cls.length cap, .string d, .slice ia code.length icap] 39)).alloc (.cells #[.int .i64 0, .int .i64 0, .int .i64 0, .int .i64 0, .int .i64 0, .string ⟨#[]⟩, .int .i64 0, .int .i64 0, .int .i64 0, .int .i64 0, .int .i64 0, .int .i64 0, .int .i64 0, .int .i64 0, .int .i64 0, .slice none 0 0] 28)).alloc (.cells #[.int .i64 0, .int .i64 0, .int .i64 0, .int .i64 0, .int .i64 0, .string ⟨#[]⟩, .int .i64 0, .int .i64 0, .int .i64 0, .int .i64 0, .int .i64 0, .int .i64 0, .int .i64 0, .int .i64 0, .int .i64 0, .slice none 0 0] 28) := ⟨_, rfl⟩
 have HBA : Hid (Below w.heap.size w wa) := by show Below _ _ _; rw [hwa]; exact (((Below.refl _ _).alloc (Nat.le_refl _) _).alloc (by simp) _).alloc (by simp; omega) _
 have HP : Hid (Blk wa w.heap.size 39 [.int .i64 st, .int .i64 rest, .slice a cls.length cap, .string d, .slice ia code.length icap]) := by show Blk _ _ _ _; rw [hwa]; exact (Below.heap_alloc _ _ _ (by simp; omega)).trans ((Below.heap_alloc _ _ _ (by simp)).trans (heap_alloc_new w _))
 have HO1 : Hid (Blk wa (w.heap.size + 1) 28 zOutI) := by
  show Blk _ _ _ _;rw [hwa];have := heap_alloc_new (w.alloc (.cells #[.int .i64 st, .int .i64 rest, .slice a cls.length cap, .string d, .slice ia code.length icap] 39)) (.cells #[.int .i64 0, .int .i64 0, .int .i64 0, .int .i64 0, .int .i64 0, .string ⟨#[]⟩, .int .i64 0, .int .i64 0, .int .i64 0, .int .i64 0, .int .i64 0, .int .i64 0, .int .i64 0, .int .i64 0, .int .i64 0, .slice none 0 0] 28);rw [World.size_alloc] at this;exact (Below.heap_alloc _ _ _ (by simp)).trans this
 have HO2 : Hid (Blk wa (w.heap.size + 1 + 1) 28 zOutI) := by
  show Blk _ _ _ _;rw [hwa];have := heap_alloc_new ((w.alloc (.cells #[.int .i64 st, .int .i64 rest, .slice a cls.length cap, .string d, .slice ia code.length icap] 39)).alloc (.cells #[.int .i64 0, .int .i64 0, .int .i64 0, .int .i64 0, .int .i64 0, .string ⟨#[]⟩, .int .i64 0, .int .i64 0, .int .i64 0, .int .i64 0, .int .i64 0, .int .i64 0, .int .i64 0, .int .i64 0, .int .i64 0, .slice none 0 0] 28)) (.cells #[.int .i64 0, .int .i64 0, .int .i64 0, .int .i64 0, .int .i64 0, .string ⟨#[]⟩, .int .i64 0, .int .i64 0, .int .i64 0, .int .i64 0, .int .i64 0, .int .i64 0, .int .i64 0, .int .i64 0, .int .i64 0, .slice none 0 0] 28);rw [World.size_alloc, World.size_alloc] at this;exact this
 have hsa : wa.heap.size = w.heap.size + 1 + 1 + 1 := by rw [hwa, World.size_alloc, World.size_alloc, World.size_alloc]
 have HSA := hide2 hsa;clear hsa;go_enter Tryz.func11, Tryz.ntmps11;go_upto_region 1 with (fail);rw [← hwa];clear hwa;have p0 := HP.out.cell (j := 0) rfl;have p1 := HP.out.cell (j := 1) rfl;have p2 := HP.out.cell (j := 2) rfl;have p3 := HP.out.cell (j := 3) rfl;have p4 := HP.out.cell (j := 4) rfl;go_upto_region 2 with (go_at_call 23; refine (tidy_any st rest a cap cls d ia icap code wa (HC.out.below HBA.out) (HI.out.below HBA.out) HBD.out b0 b1 b2 b3).mono ?_; rintro e1 w1 ⟨vc, vi, rfl, hrows, hb1⟩; obtain ⟨ta, tcap, hvc, -, -, -⟩ := row_open hrows.crow; obtain ⟨tia, ticap, hvi, -, -, -⟩ := row_open hrows.irow; subst hvc hvi; have HR1 := hide2 hrows; have HB1 := hide2 hb1; clear hrows hb1);clear p0 p1 p2 p3 p4 HP;generalize kpick st 17 = st' at *;generalize kpick rest 17 = re' at *;generalize kfit cls = cl' at *;generalize tidyD st' d = d' at *;generalize tidyC code = co' at *;obtain ⟨w2, hw2⟩ : ∃ w2, w2 = w1.alloc (.cells #[.int .i64 st', .int .i64 re', .slice ta cl'.length tcap, .string d', .slice tia co'.length ticap] 39) := ⟨_, rfl⟩
 have HX2 : Hid (Below w1.heap.size w1 w2) := by show Below _ _ _; rw [hw2]; exact (Below.refl _ _).alloc (Nat.le_refl _) _
 have HT2 : Hid (Blk w2 w1.heap.size 39 [.int .i64 st', .int .i64 re', .slice ta cl'.length tcap, .string d', .slice tia co'.length ticap]) := by show Blk _ _ _ _; rw [hw2]; exact Blk.alloc _ _ _
 rw [← hw2];clear hw2;have HR2 := hide2 (HR1.out.kept (fun g _ hg => HX2.out.block g hg));have HB2 : Hid (Below wa.heap.size wa w2) := HB1.out.trans (HX2.out.mono HB1.out.size);clear HR1 HX2 HB1;have t0 := HT2.out.cell (j := 0) rfl;have t1 := HT2.out.cell (j := 1) rfl;have t2 := HT2.out.cell (j := 2) rfl;have t3 := HT2.out.cell (j := 3) rfl;have t4 := HT2.out.cell (j := 4) rfl;go_upto_region 3 with (go_at_call 24; refine (gwrite_yes st' re' ta tcap cl' d' tia ticap co' w2 (crow_of HR2.out.crow) (irow_of HR2.out.irow) HSO.out).mono ?_; rintro e1 w3 ⟨rfl, hb3⟩; have HX3 := hide2 hb3; clear hb3);have hback := img_back HSO.out;have hsize := img4_size st' re' cl' d' co' co'.length
 have hlen : cl'.length ≤ 4 ∧ d'.size ≤ 255 ∧ co'.length ≤ 255 := by
  have hs := HSO.out;unfold soundB at hs;simp only [Bool.and_eq_true, decide_eq_true_eq] at hs;have hc := hs.2.1;unfold withinB at hc;simp at hc;exact ⟨(Cf.valid_of hs.1.1).n1, hs.1.2.1, by omega⟩
 simp only at hback;generalize img4 st' re' cl' d' co' co'.length = s at *;obtain ⟨hB, g2, g3, gc, gd, gi, -⟩ := hback;have HBS := hide2 hB;have hs1 : 7 ≤ s.size ∧ s.size ≤ 2000 := by omega
 obtain ⟨hv, hdt, -⟩ := img_parts hB;obtain ⟨hcode, hcl⟩ := img_code hB;have HMF : Hid (mFin s inp ds fuel = mRun inp ds co' (mFuel fuel) 4097 (mBegin st' re' cl' d')) := by show _ = _; unfold mFin mBeg mBegin; rw [g2, g3, gc, gd, gi]
 rw [g2, g3, gc] at hv;rw [gd, g2] at hdt;rw [gi] at hcode hcl;have HV := hide2 hv;have HCODE := hide2 hcode;clear hB g2 g3 gc gd gi hsize hlen hv hcode;have HT3 := hide2 (HT2.out.below HX3.out HT2.out.lt);have HR3 := hide2 (HR2.out.kept (fun g _ hg => HX3.out.block g hg));have HB3 : Hid (Below wa.heap.size wa w3) := HB2.out.trans (HX3.out.mono HB2.out.size);have hp3 := HT3.out.lt;have hsw3 := HB3.out.size;clear t0 t1 t2 t3 t4 HT2 HR2 HB2 HX3;have HDR3 : Hid (DRow w3 da dcap ds) := HDR.out.kept (HBA.out.trans (HB3.out.mono HBA.out.size)).size (fun g _ _ hg => (HBA.out.trans (HB3.out.mono HBA.out.size)).block g hg);have HRA := hide2 (run_img s inp da dcap ds fuel w3 (by omega) hin HBS.out HDR3.out);have HFIN := hide2 (fin_ok s inp ds fuel);rw [HMF.out] at HRA HFIN;have HIA := fun wx hc hi => hide2 (ideal_any st' re' ta tcap cl' d' tia ticap co' inp ds fuel wx hc hi HV.out hdt HCODE.out hcl hin hnd)
 generalize mRun inp ds co' (mFuel fuel) 4097 (mBegin st' re' cl' d') = M at *
 replace HIA := hide2 HIA
 clear HMF HBS HSO HV HCODE HDR HDR3 hs1 hdt hcl;obtain ⟨fR, fr, fh, fd, fo, fp, fn, fs, fe, fx, ⟨f0, f1, f2, f3, f4, f5, f6, f7, f8, fl⟩⟩ := M;have HOA : Hid (∀ va, (outOf ⟨fR, fr, fh, fd, fo, fp, fn, fs, fe, fx, ⟨f0, f1, f2, f3, f4, f5, f6, f7, f8, fl⟩⟩ va).toArray = #[.int .i64 fe, .int .i64 fx, .int .i64 fs, .int .i64 fp, .int .i64 fd, .string fo, .int .i64 f0, .int .i64 f1, .int .i64 f2, .int .i64 f3, .int .i64 f4, .int .i64 f5, .int .i64 f6, .int .i64 f7, .int .i64 f8, va]) := fun _ => rfl
 go_upto_region 4 with (go_at_call 6; refine (HRA.out).mono ?_; rintro e1 w7 ⟨va, rfl, hn7⟩; obtain ⟨na, nac, hva⟩ := own_shape hn7.row; subst hva; have HN7 := hide2 hn7.below; clear hn7; rw [HOA.out]);obtain ⟨w8, hw8⟩ : ∃ w8, w8 = w7.alloc (.cells #[.int .i64 fe, .int .i64 fx, .int .i64 fs, .int .i64 fp, .int .i64 fd, .string fo, .int .i64 f0, .int .i64 f1, .int .i64 f2, .int .i64 f3, .int .i64 f4, .int .i64 f5, .int .i64 f6, .int .i64 f7, .int .i64 f8, .slice na fl.length nac] 28) := ⟨_, rfl⟩
 have HX8 : Hid (Below w7.heap.size w7 w8) := by show Below _ _ _; rw [hw8]; exact (Below.refl _ _).alloc (Nat.le_refl _) _
 have HO8 : Hid (Blk w8 w7.heap.size 28 [.int .i64 fe, .int .i64 fx, .int .i64 fs, .int .i64 fp, .int .i64 fd, .string fo, .int .i64 f0, .int .i64 f1, .int .i64 f2, .int .i64 f3, .int .i64 f4, .int .i64 f5, .int .i64 f6, .int .i64 f7, .int .i64 f8, .slice na fl.length nac]) := by show Blk _ _ _ _; rw [hw8]; exact Blk.alloc _ _ _
 rw [← hw8];clear hw8;have HX38 : Hid (Below w3.heap.size w3 w8) := HN7.out.trans (HX8.out.mono HN7.out.size);have HB8 : Hid (Below wa.heap.size wa w8) := HB3.out.trans (HX38.out.mono HB3.out.size);have HT8 := hide2 (HT3.out.below HX38.out HT3.out.lt);have HR8 := hide2 (HR3.out.kept (fun g _ hg => HX38.out.block g hg));have hs73 : w3.heap.size ≤ w7.heap.size := HN7.out.size;clear HX38 HX8 HN7 HB3 HT3 HR3 HRA;have o0 := HO8.out.cell (j := 0) rfl;have ea := HFIN.out.en;simp only at ea;have z1 : ¬ fe < 2 := by omega
 have z2 : ¬ 5 < fe := by omega
 clear ea;have t0 := HT8.out.cell (j := 0) rfl;have t1 := HT8.out.cell (j := 1) rfl;have t2 := HT8.out.cell (j := 2) rfl;have t3 := HT8.out.cell (j := 3) rfl;have t4 := HT8.out.cell (j := 4) rfl;go_upto_region 6 with (fail);clear o0 z1 z2;go_upto_region 7 with (go_at_call 25; refine ((HIA.out w8 (crow_of HR8.out.crow) (irow_of HR8.out.irow)).out).mono ?_; rintro e1 w9 ⟨S1, rfl, hb9, hm9⟩; obtain ⟨gT, gF, gr, gh, gd, go, gp, gn, gs, ge, gx⟩ := S1; have HN9 := hide2 hb9; have HM9 := hide2 hm9; clear hb9 hm9; have HOI : (outI ⟨gT, gF, gr, gh, gd, go, gp, gn, gs, ge, gx⟩).toArray = #[.int .i64 ge, .int .i64 gx, .int .i64 gs, .int .i64 gp, .int .i64 gd, .string go, .int .i64 0, .int .i64 0, .int .i64 0, .int .i64 0, .int .i64 0, .int .i64 0, .int .i64 0, .int .i64 0, .int .i64 0, .slice none 0 0] := rfl; rw [HOI]);obtain ⟨w10, hw10⟩ : ∃ w10, w10 = w9.alloc (.cells #[.int .i64 ge, .int .i64 gx, .int .i64 gs, .int .i64 gp, .int .i64 gd, .string go, .int .i64 0, .int .i64 0, .int .i64 0, .int .i64 0, .int .i64 0, .int .i64 0, .int .i64 0, .int .i64 0, .int .i64 0, .slice none 0 0] 28) := ⟨_, rfl⟩
 have HX10 : Hid (Below w9.heap.size w9 w10) := by show Below _ _ _; rw [hw10]; exact (Below.refl _ _).alloc (Nat.le_refl _) _
 have HI10 : Hid (Blk w10 w9.heap.size 28 [.int .i64 ge, .int .i64 gx, .int .i64 gs, .int .i64 gp, .int .i64 gd, .string go, .int .i64 0, .int .i64 0, .int .i64 0, .int .i64 0, .int .i64 0, .int .i64 0, .int .i64 0, .int .i64 0, .int .i64 0, .slice none 0 0]) := by show Blk _ _ _ _; rw [hw10]; exact Blk.alloc _ _ _
 rw [← hw10];clear hw10 t0 t1 t2 t3 t4;have HX810 : Hid (Below w8.heap.size w8 w10) := HN9.out.trans (HX10.out.mono HN9.out.size);have HB10 : Hid (Below wa.heap.size wa w10) := HB8.out.trans (HX810.out.mono HB8.out.size);have HO10 := hide2 (HO8.out.below HX810.out HO8.out.lt);have hs7 : w7.heap.size < w8.heap.size := HO8.out.lt;have hs98 : w8.heap.size ≤ w9.heap.size := HN9.out.size;clear HX810 HX10 HN9 HB8 HO8 HIA HT8 HR8;have HR10 := hide2 (HO1.out.below HB10.out HO1.out.lt);have HQ10 := hide2 (HO2.out.below HB10.out HO2.out.lt);have hsa := HSA.out;obtain ⟨rb, hrb⟩ : ∃ rb, rb = w.heap.size + 1 := ⟨_, rfl⟩
 obtain ⟨qb, hqb⟩ : ∃ qb, qb = w.heap.size + 1 + 1 := ⟨_, rfl⟩
 obtain ⟨mb, hmb⟩ : ∃ mb, mb = w9.heap.size := ⟨_, rfl⟩
 obtain ⟨ob, hob⟩ : ∃ ob, ob = w7.heap.size := ⟨_, rfl⟩
 have n1 : mb ≠ rb := by omega
 have n2 : mb ≠ qb := by omega
 have n3 : ob ≠ rb := by omega
 have n4 : ob ≠ qb := by omega
 have n5 : qb ≠ rb := by omega
 have hrw : w.heap.size ≤ rb := by omega
 have hqw : w.heap.size ≤ qb := by omega
 rw [← hqb, ← hrb, ← hmb, ← hob];rw [← hqb] at HQ10;rw [← hrb] at HR10;rw [← hmb] at HI10;rw [← hob] at HO10;have HBF : Hid (Below w.heap.size w w10) := HBA.out.trans (HB10.out.mono HBA.out.size);have HRO : Hid (RanOk ⟨gT, gF, gr, gh, gd, go, gp, gn, gs, ge, gx⟩ ⟨fR, fr, fh, fd, fo, fp, fn, fs, fe, fx, ⟨f0, f1, f2, f3, f4, f5, f6, f7, f8, fl⟩⟩ (.slice na fl.length nac)) := ⟨HM9.out, HFIN.out, _, _, _, rfl⟩
 have HI1 := hide2 (outI_one ⟨gT, gF, gr, gh, gd, go, gp, gn, gs, ge, gx⟩);have HO1' := hide2 (outOf_one ⟨fR, fr, fh, fd, fo, fp, fn, fs, fe, fx, ⟨f0, f1, f2, f3, f4, f5, f6, f7, f8, fl⟩⟩ na fl.length nac);rw [HOI] at HI1;rw [HOA.out] at HO1';clear hrb hqb hmb hob hsa HSA HM9 HFIN HBA HB10 HO1 HO2 hs98 hs7 hs73 hsw3 hp3 HC HI HBD;refine wp_region_noPanic ?_;refine wp_region_held (S := fun w' => w'.rangeAt mb 0 [.int .i64 ge, .int .i64 gx, .int .i64 gs, .int .i64 gp, .int .i64 gd, .string go, .int .i64 0, .int .i64 0, .int .i64 0, .int .i64 0, .int .i64 0, .int .i64 0, .int .i64 0, .int .i64 0, .int .i64 0, .slice none 0 0] ∧ w'.rangeAt ob 0 [.int .i64 fe, .int .i64 fx, .int .i64 fs, .int .i64 fp, .int .i64 fd, .string fo, .int .i64 f0, .int .i64 f1, .int .i64 f2, .int .i64 f3, .int .i64 f4, .int .i64 f5, .int .i64 f6, .int .i64 f7, .int .i64 f8, .slice na fl.length nac]) rfl ?_;refine wpAnyH_take (i := 0) (fuel := 4) (v := .agg #[.int .i64 ge, .int .i64 gx, .int .i64 gs, .int .i64 gp, .int .i64 gd, .string go, .int .i64 0, .int .i64 0, .int .i64 0, .int .i64 0, .int .i64 0, .int .i64 0, .int .i64 0, .int .i64 0, .int .i64 0, .slice none 0 0]) rfl (by kernel_rfl) (by kernel_rfl) (by kernel_rfl) (fun _ _ _ h => h.elim) (yieldsIf_load_mid (by kernel_rfl) 28 _ rfl mb 0 rfl [.int .i64 ge, .int .i64 gx, .int .i64 gs, .int .i64 gp, .int .i64 gd, .string go, .int .i64 0, .int .i64 0, .int .i64 0, .int .i64 0, .int .i64 0, .int .i64 0, .int .i64 0, .int .i64 0, .int .i64 0, .slice none 0 0] _ (fun _ h => h.1) Tryz.underlying28 rfl (by kernel_rfl)) ⟨range_blk HI10.out, range_blk HO10.out⟩ ?_;refine wpAnyH_take (i := 1) (fuel := 3) (v := .agg #[.int .i64 fe, .int .i64 fx, .int .i64 fs, .int .i64 fp, .int .i64 fd, .string fo, .int .i64 f0, .int .i64 f1, .int .i64 f2, .int .i64 f3, .int .i64 f4, .int .i64 f5, .int .i64 f6, .int .i64 f7, .int .i64 f8, .slice na fl.length nac]) rfl (by kernel_rfl) (by kernel_rfl) (by kernel_rfl) (fun _ _ _ h => h.elim) (yieldsIf_load_mid (by kernel_rfl) 28 _ rfl ob 0 rfl [.int .i64 fe, .int .i64 fx, .int .i64 fs, .int .i64 fp, .int .i64 fd, .string fo, .int .i64 f0, .int .i64 f1, .int .i64 f2, .int .i64 f3, .int .i64 f4, .int .i64 f5, .int .i64 f6, .int .i64 f7, .int .i64 f8, .slice na fl.length nac] _ (fun _ h => h.2) Tryz.underlying28 rfl (by kernel_rfl)) ⟨range_blk HI10.out, range_blk HO10.out⟩ ?_;refine wpAnyH_all (rs := [2]) (fuel := 2) (by kernel_rfl) (by simp) (fun i hi => ?_);obtain rfl : i = 2 := by simpa using hi
 clear hi;refine wpOp_step rfl (fun K' hK => ?_);rw [if_pos (by kernel_rfl)];refine wp_store_row 28 _ _ rfl rb #[.int .i64 ge, .int .i64 gx, .int .i64 gs, .int .i64 gp, .int .i64 gd, .string go, .int .i64 0, .int .i64 0, .int .i64 0, .int .i64 0, .int .i64 0, .int .i64 0, .int .i64 0, .int .i64 0, .int .i64 0, .slice none 0 0] (by kernel_rfl) (by kernel_rfl) 28 _ HR10.out (by kernel_rfl) rfl HI1.out ?_;refine hK _ _ ⟨⟨range_blk (blk_setRow_other (w := w10.drew) HI10.out _ n1), range_blk (blk_setRow_other (w := w10.drew) HO10.out _ n3)⟩, ?_⟩;clear hK K';refine wpAnyH_all (rs := [3]) (fuel := 1) (by kernel_rfl) (by simp) (fun i hi => ?_);obtain rfl : i = 3 := by simpa using hi
 clear hi;refine wpOp_step rfl (fun K' hK => ?_);rw [if_pos (by kernel_rfl)];refine wp_store_row 28 _ _ rfl qb #[.int .i64 fe, .int .i64 fx, .int .i64 fs, .int .i64 fp, .int .i64 fd, .string fo, .int .i64 f0, .int .i64 f1, .int .i64 f2, .int .i64 f3, .int .i64 f4, .int .i64 f5, .int .i64 f6, .int .i64 f7, .int .i64 f8, .slice na fl.length nac] (by kernel_rfl) (by kernel_rfl) 28 _ (blk_setRow_other (w := w10.drew) HQ10.out _ n5) (by kernel_rfl) rfl HO1'.out ?_;refine hK _ _ ⟨⟨range_blk (blk_setRow_other (blk_setRow_other (w := w10.drew) HI10.out _ n1) _ n2), range_blk (blk_setRow_other (blk_setRow_other (w := w10.drew) HO10.out _ n3) _ n4)⟩, ?_⟩;clear hK K';refine wpAnyH_all (rs := [4]) (fuel := 0) (by kernel_rfl) (by simp) (fun i hi => ?_);obtain rfl : i = 4 := by simpa using hi
 clear hi;refine wpOp_step rfl (fun K' hK => ?_);rw [if_pos (by kernel_rfl)];go_simp;refine hK _ _ ⟨⟨range_blk (blk_setRow_other (blk_setRow_other (w := w10.drew) HI10.out _ n1) _ n2), range_blk (blk_setRow_other (blk_setRow_other (w := w10.drew) HO10.out _ n3) _ n4)⟩, ?_⟩;clear hK K';refine wpAnyH_done (by kernel_rfl) ?_ _;refine NoPanic.normal ?_;have HZ1 : Hid (((w10.drew.setRow rb #[.int .i64 ge, .int .i64 gx, .int .i64 gs, .int .i64 gp, .int .i64 gd, .string go, .int .i64 0, .int .i64 0, .int .i64 0, .int .i64 0, .int .i64 0, .int .i64 0, .int .i64 0, .int .i64 0, .int .i64 0, .slice none 0 0]).setRow qb #[.int .i64 fe, .int .i64 fx, .int .i64 fs, .int .i64 fp, .int .i64 fd, .string fo, .int .i64 f0, .int .i64 f1, .int .i64 f2, .int .i64 f3, .int .i64 f4, .int .i64 f5, .int .i64 f6, .int .i64 f7, .int .i64 f8, .slice na fl.length nac]).heap[rb]? = some (.cells #[.int .i64 ge, .int .i64 gx, .int .i64 gs, .int .i64 gp, .int .i64 gd, .string go, .int .i64 0, .int .i64 0, .int .i64 0, .int .i64 0, .int .i64 0, .int .i64 0, .int .i64 0, .int .i64 0, .int .i64 0, .slice none 0 0] 28 (0, 0))) := blk_setRow_other (w := w10.drew.setRow rb #[.int .i64 ge, .int .i64 gx, .int .i64 gs, .int .i64 gp, .int .i64 gd, .string go, .int .i64 0, .int .i64 0, .int .i64 0, .int .i64 0, .int .i64 0, .int .i64 0, .int .i64 0, .int .i64 0, .int .i64 0, .slice none 0 0]) (cs := [.int .i64 ge, .int .i64 gx, .int .i64 gs, .int .i64 gp, .int .i64 gd, .string go, .int .i64 0, .int .i64 0, .int .i64 0, .int .i64 0, .int .i64 0, .int .i64 0, .int .i64 0, .int .i64 0, .int .i64 0, .slice none 0 0]) (setRow_heap w10.drew rb _ _ _ _ HR10.out) _ (Ne.symm n5);have HZ2 : Hid (((w10.drew.setRow rb #[.int .i64 ge, .int .i64 gx, .int .i64 gs, .int .i64 gp, .int .i64 gd, .string go, .int .i64 0, .int .i64 0, .int .i64 0, .int .i64 0, .int .i64 0, .int .i64 0, .int .i64 0, .int .i64 0, .int .i64 0, .slice none 0 0]).setRow qb #[.int .i64 fe, .int .i64 fx, .int .i64 fs, .int .i64 fp, .int .i64 fd, .string fo, .int .i64 f0, .int .i64 f1, .int .i64 f2, .int .i64 f3, .int .i64 f4, .int .i64 f5, .int .i64 f6, .int .i64 f7, .int .i64 f8, .slice na fl.length nac]).heap[qb]? = some (.cells #[.int .i64 fe, .int .i64 fx, .int .i64 fs, .int .i64 fp, .int .i64 fd, .string fo, .int .i64 f0, .int .i64 f1, .int .i64 f2, .int .i64 f3, .int .i64 f4, .int .i64 f5, .int .i64 f6, .int .i64 f7, .int .i64 f8, .slice na fl.length nac] 28 (0, 0))) := setRow_heap _ qb _ _ _ _ (blk_setRow_other (w := w10.drew) HQ10.out _ n5);have HZB : Hid (Below w.heap.size w ((w10.drew.setRow rb #[.int .i64 ge, .int .i64 gx, .int .i64 gs, .int .i64 gp, .int .i64 gd, .string go, .int .i64 0, .int .i64 0, .int .i64 0, .int .i64 0, .int .i64 0, .int .i64 0, .int .i64 0, .int .i64 0, .int .i64 0, .slice none 0 0]).setRow qb #[.int .i64 fe, .int .i64 fx, .int .i64 fs, .int .i64 fp, .int .i64 fd, .string fo, .int .i64 f0, .int .i64 f1, .int .i64 f2, .int .i64 f3, .int .i64 f4, .int .i64 f5, .int .i64 f6, .int .i64 f7, .int .i64 f8, .slice na fl.length nac])) := below_setRow (below_setRow (HBF.out.drew) _ hrw) _ hqw;go_wp2;refine bodyPost_ret (v := .tuple #[.agg #[.int .i64 ge, .int .i64 gx, .int .i64 gs, .int .i64 gp, .int .i64 gd, .string go, .int .i64 0, .int .i64 0, .int .i64 0, .int .i64 0, .int .i64 0, .int .i64 0, .int .i64 0, .int .i64 0, .int .i64 0, .slice none 0 0], .agg #[.int .i64 fe, .int .i64 fx, .int .i64 fs, .int .i64 fp, .int .i64 fd, .string fo, .int .i64 f0, .int .i64 f1, .int .i64 f2, .int .i64 f3, .int .i64 f4, .int .i64 f5, .int .i64 f6, .int .i64 f7, .int .i64 f8, .slice na fl.length nac], .bool true]) ?_ rfl ⟨_, _, _, rfl, HZB.out, HRO.out⟩;exact results_rows2 Tryz.results11 _ _ rb qb 28 28 #[.int .i64 ge, .int .i64 gx, .int .i64 gs, .int .i64 gp, .int .i64 gd, .string go, .int .i64 0, .int .i64 0, .int .i64 0, .int .i64 0, .int .i64 0, .int .i64 0, .int .i64 0, .int .i64 0, .int .i64 0, .slice none 0 0] #[.int .i64 fe, .int .i64 fx, .int .i64 fs, .int .i64 fp, .int .i64 fd, .string fo, .int .i64 f0, .int .i64 f1, .int .i64 f2, .int .i64 f3, .int .i64 f4, .int .i64 f5, .int .i64 f6, .int .i64 f7, .int .i64 f8, .slice na fl.length nac] (0, 0) (0, 0) _ (.bool true) rfl rfl rfl HZ1.out HZ2.out Tryz.underlying28 rfl (by kernel_rfl) (by kernel_rfl)
set_option maxRecDepth 100000 in
set_option maxHeartbeats 3200000 in
theorem kalike_like (ae ax be bx fs fp fd : Int) (fo : ByteArray) (a0 a1 a2 a3 a4 a5 a6 a7 a8 b0 b1 b2 b3 b4 b5 b6 b7 b8 : Int) (va vb : Value) (w : World) :
 Calls Tryz.prog 12 #[.agg #[.int .i64 ae, .int .i64 ax, .int .i64 fs, .int .i64 fp, .int .i64 fd, .string fo, .int .i64 a0, .int .i64 a1, .int .i64 a2, .int .i64 a3, .int .i64 a4, .int .i64 a5, .int .i64 a6, .int .i64 a7, .int .i64 a8, va], .agg #[.int .i64 be, .int .i64 bx, .int .i64 fs, .int .i64 fp, .int .i64 fd, .string fo, .int .i64 b0, .int .i64 b1, .int .i64 b2, .int .i64 b3, .int .i64 b4, .int .i64 b5, .int .i64 b6, .int .i64 b7, .int .i64 b8, vb]] w fun e w' => e = .returned (.bool true) ∧ Below w.heap.size w w' := by
 have HB : Hid (Below w.heap.size w ((w.alloc (.cells #[.int .i64 ae, .int .i64 ax, .int .i64 fs, .int .i64 fp, .int .i64 fd, .string fo, .int .i64 a0, .int .i64 a1, .int .i64 a2, .int .i64 a3, .int .i64 a4, .int .i64 a5, .int .i64 a6, .int .i64 a7, .int .i64 a8, va] 28)).alloc (.cells #[.int .i64 be, .int .i64 bx, .int .i64 fs, .int .i64 fp, .int .i64 fd, .string fo, .int .i64 b0, .int .i64 b1, .int .i64 b2, .int .i64 b3, .int .i64 b4, .int .i64 b5, .int .i64 b6, .int .i64 b7, .int .i64 b8, vb] 28))) := ((Below.refl _ _).alloc (Nat.le_refl _) _).alloc (by simp) _;go_enter Tryz.func12, Tryz.ntmps12;go_wp2
 all_goals go_ret
 all_goals exact ⟨rfl, HB.out⟩
set_option maxRecDepth 100000 in
set_option maxHeartbeats 6400000 in
theorem meant_any (st rest : Int) (a : Option Addr) (cap : Nat) (cls : List (Int × Int)) (d : ByteArray) (ia : Option Addr) (icap : Nat) (code : List Ins) (inp : ByteArray) (da : Option Addr) (dcap : Nat) (ds : List Int) (fuel : Int) (w : World) (h : CRow w a cap cls) (hi : IRow w ia icap code) (hbd : insIn code) (hdr : DRow w da dcap ds)
 (b0 : -9223372036854775808 ≤ st) (b1 : st ≤ 9223372036854775807) (b2 : -9223372036854775808 ≤ rest) (b3 : rest ≤ 9223372036854775807) (hin : (inp.size : Int) ≤ 9223372036854775807) :
 Calls Tryz.prog 4 #[.agg #[.int .i64 st, .int .i64 rest, .slice a cls.length cap, .string d, .slice ia code.length icap], .string inp, .slice da ds.length dcap, .int .i64 fuel] w fun e w' => e = .returned (.bool true) ∧ Below w.heap.size w w' := by
 obtain ⟨wa, hwa⟩ : ∃ wa, wa = w.alloc (.cells #[.int .i64 st, .int .i64 rest, .slice a cls.length cap, .string d, .slice ia code.length icap] 39) := ⟨_, rfl⟩
 have HBA : Hid (Below w.heap.size w wa) := by show Below _ _ _; rw [hwa]; exact (Below.refl _ _).alloc (Nat.le_refl _) _
 have HP : Hid (Blk wa w.heap.size 39 [.int .i64 st, .int .i64 rest, .slice a cls.length cap, .string d, .slice ia code.length icap]) := by show Blk _ _ _ _; rw [hwa]; exact Blk.alloc _ _ _
 have HRA := hide2 (ran_any st rest a cap cls d ia icap code inp da dcap ds fuel wa (h.below HBA.out) (hi.below HBA.out) hbd (hdr.kept HBA.out.size (fun g _ _ hg => HBA.out.block g hg)) b0 b1 b2 b3 hin);clear h hi hbd hdr;go_enter Tryz.func4, Tryz.ntmps4;go_upto_region 1 with (fail);rw [← hwa];clear hwa;have p0 := HP.out.cell (j := 0) rfl;have p1 := HP.out.cell (j := 1) rfl;have p2 := HP.out.cell (j := 2) rfl;have p3 := HP.out.cell (j := 3) rfl;have p4 := HP.out.cell (j := 4) rfl;have HOA : Hid (∀ fR fr fh fd fo fp fn fs fe fx f0 f1 f2 f3 f4 f5 f6 f7 f8 fl va, (outOf ⟨fR, fr, fh, fd, fo, fp, fn, fs, fe, fx, ⟨f0, f1, f2, f3, f4, f5, f6, f7, f8, fl⟩⟩ va).toArray = #[.int .i64 fe, .int .i64 fx, .int .i64 fs, .int .i64 fp, .int .i64 fd, .string fo, .int .i64 f0, .int .i64 f1, .int .i64 f2, .int .i64 f3, .int .i64 f4, .int .i64 f5, .int .i64 f6, .int .i64 f7, .int .i64 f8, va]) := fun _ _ _ _ _ _ _ _ _ _ _ _ _ _ _ _ _ _ _ _ _ => rfl
 have HOI : Hid (∀ gT gF gr gh gd go gp gn gs ge gx, (outI ⟨gT, gF, gr, gh, gd, go, gp, gn, gs, ge, gx⟩).toArray = #[.int .i64 ge, .int .i64 gx, .int .i64 gs, .int .i64 gp, .int .i64 gd, .string go, .int .i64 0, .int .i64 0, .int .i64 0, .int .i64 0, .int .i64 0, .int .i64 0, .int .i64 0, .int .i64 0, .int .i64 0, .slice none 0 0]) := fun _ _ _ _ _ _ _ _ _ _ _ => rfl
 go_upto_region 2 with (go_at_call 11; refine (HRA.out).mono ?_; rintro e1 w1 ⟨S1, M1, vn, rfl, hb1, hr1⟩; obtain ⟨gT, gF, gr, gh, gd, go, gp, gn, gs, ge, gx⟩ := S1; obtain ⟨fR, fr, fh, fd, fo, fp, fn, fs, fe, fx, ⟨f0, f1, f2, f3, f4, f5, f6, f7, f8, fl⟩⟩ := M1; obtain ⟨na, nn, nac, hvn⟩ := hr1.sh; subst hvn; have HR1 := hide2 hr1; have HB1 := hide2 hb1; clear hr1 hb1; rw [HOA.out, HOI.out]);obtain ⟨w2, hw2⟩ : ∃ w2, w2 = (w1.alloc (.cells #[.int .i64 ge, .int .i64 gx, .int .i64 gs, .int .i64 gp, .int .i64 gd, .string go, .int .i64 0, .int .i64 0, .int .i64 0, .int .i64 0, .int .i64 0, .int .i64 0, .int .i64 0, .int .i64 0, .int .i64 0, .slice none 0 0] 28)).alloc (.cells #[.int .i64 fe, .int .i64 fx, .int .i64 fs, .int .i64 fp, .int .i64 fd, .string fo, .int .i64 f0, .int .i64 f1, .int .i64 f2, .int .i64 f3, .int .i64 f4, .int .i64 f5, .int .i64 f6, .int .i64 f7, .int .i64 f8, .slice na nn nac] 28) := ⟨_, rfl⟩
 rw [← hw2];have HX2 : Hid (Below w1.heap.size w1 w2) := by show Below _ _ _; rw [hw2]; exact ((Below.refl _ _).alloc (Nat.le_refl _) _).alloc (by simp) _
 have HG2 : Hid (Blk w2 w1.heap.size 28 [.int .i64 ge, .int .i64 gx, .int .i64 gs, .int .i64 gp, .int .i64 gd, .string go, .int .i64 0, .int .i64 0, .int .i64 0, .int .i64 0, .int .i64 0, .int .i64 0, .int .i64 0, .int .i64 0, .int .i64 0, .slice none 0 0]) := by show Blk _ _ _ _; rw [hw2]; exact (Below.heap_alloc _ _ _ (by simp)).trans (heap_alloc_new w1 _)
 have HF2 : Hid (Blk w2 (w1.heap.size + 1) 28 [.int .i64 fe, .int .i64 fx, .int .i64 fs, .int .i64 fp, .int .i64 fd, .string fo, .int .i64 f0, .int .i64 f1, .int .i64 f2, .int .i64 f3, .int .i64 f4, .int .i64 f5, .int .i64 f6, .int .i64 f7, .int .i64 f8, .slice na nn nac]) := by
  show Blk _ _ _ _;rw [hw2];have := heap_alloc_new (w1.alloc (.cells #[.int .i64 ge, .int .i64 gx, .int .i64 gs, .int .i64 gp, .int .i64 gd, .string go, .int .i64 0, .int .i64 0, .int .i64 0, .int .i64 0, .int .i64 0, .int .i64 0, .int .i64 0, .int .i64 0, .int .i64 0, .slice none 0 0] 28)) (.cells #[.int .i64 fe, .int .i64 fx, .int .i64 fs, .int .i64 fp, .int .i64 fd, .string fo, .int .i64 f0, .int .i64 f1, .int .i64 f2, .int .i64 f3, .int .i64 f4, .int .i64 f5, .int .i64 f6, .int .i64 f7, .int .i64 f8, .slice na nn nac] 28);rw [World.size_alloc] at this; exact this
 have HB2 : Hid (Below w.heap.size w w2) := (HBA.out.trans (HB1.out.mono HBA.out.size)).trans (HX2.out.mono (HBA.out.trans (HB1.out.mono HBA.out.size)).size);clear hw2 HX2 HB1 HBA HP p0 p1 p2 p3 p4 HRA HOA HOI
 rcases HR1.out.means with hm | hm | ⟨hm, hm5⟩
 ·simp only at hm;subst hm;have o0 := HG2.out.cell (j := 0) rfl;go_wp2;go_ret;exact ⟨rfl, HB2.out⟩
 ·simp only at hm;subst hm;have o0 := HG2.out.cell (j := 0) rfl;go_wp2;go_ret;exact ⟨rfl, HB2.out⟩
 ·have ha := HR1.out.fin.en;have hb := HR1.out.fin.er;obtain ⟨e1, e2, e3, e4, e5, e6⟩ := hm;simp only at e1 e2 e3 e4 e5 e6 ha hb hm5;obtain rfl : gp = fp := e6 (by omega);subst e1 e2 e3 e4 e5
  have hz : f0 = 0 := by
   by_cases c : f0 = 0
   ·exact c
   ·exact absurd (hb.1 c) hm5
  subst hz;have z1 : (ge == 101) = false := by rw [beq_eq_false_iff_ne]; omega
  have z2 : (ge == 102) = false := by rw [beq_eq_false_iff_ne]; omega
  clear ha hb hm5 e6 HR1;have o0 := HG2.out.cell (j := 0) rfl;go_upto_region 6 with (fail);clear o0 z1 z2;apply wp_region_lit;refine wpList_load_row rfl 28 _ rfl w1.heap.size rfl 28 _ (0, 0) _ HG2.out Tryz.underlying28 rfl (by kernel_rfl) ?_;refine wpList_load_row rfl 28 _ rfl (w1.heap.size + 1) rfl 28 _ (0, 0) _ HF2.out Tryz.underlying28 rfl (by kernel_rfl) ?_;go_upto_region 7 with (go_at_call 12; refine (kalike_like _ _ _ _ _ _ _ _ _ _ _ _ _ _ _ _ _ _ _ _ _ _ _ _ _ _ _ _ w2).mono ?_; rintro e1 w3 ⟨rfl, hb3⟩; have HX3 := hide2 hb3; clear hb3);have HG3 := hide2 (HG2.out.below HX3.out HG2.out.lt);have HF3 := hide2 (HF2.out.below HX3.out HF2.out.lt);have HB3 : Hid (Below w.heap.size w w3) := HB2.out.trans (HX3.out.mono HB2.out.size);clear HG2 HF2 HB2 HX3;have o0 := HG3.out.cell (j := 0) rfl;have o1 := HG3.out.cell (j := 1) rfl;have p0 := HF3.out.cell (j := 0) rfl;have p1 := HF3.out.cell (j := 1) rfl;have p6 := HF3.out.cell (j := 6) rfl;go_wp2
  all_goals go_ret
  all_goals exact ⟨rfl, HB3.out⟩
end Go.Proofs.YtjikemhmnkckcabGreat
namespace Go.Proofs.YtjikemhmnkckcabGreat
open Go.ChangeShapes Go.WideShapes Go.ChangeAt Go.RowKit Go.Joins Go.Deep
theorem bytes_cls : Tryz.prog.bytesOf 84 = 16 := by kernel_rfl
theorem cells_cls : Tryz.prog.cellsOf 84 = 2 := by kernel_rfl
theorem cells_conf : Tryz.prog.cellsOf 36 = 3 := by kernel_rfl
theorem cells_int : Tryz.prog.cellsOf 3 = 1 := by kernel_rfl
theorem addr_add (g off j : Nat) : (⟨g, off, none⟩ : Addr).add j = ⟨g, off + j, none⟩ := by unfold Addr.add; split <;> simp_all
theorem bytes_ins : Tryz.prog.bytesOf 60 = 32 := by kernel_rfl
theorem cells_ins : Tryz.prog.cellsOf 60 = 4 := by kernel_rfl
theorem cells_prog : Tryz.prog.cellsOf 39 = 5 := by kernel_rfl
theorem cells_clss : Tryz.prog.cellsOf 34 = 1 := by kernel_rfl
theorem cells_inss : Tryz.prog.cellsOf 37 = 1 := by kernel_rfl
theorem cells_str : Tryz.prog.cellsOf 9 = 1 := by kernel_rfl
theorem take_one2 {l : List Value} {j : Nat} {v : Value} (h : (l.drop j).take 1 = [v]) : l[j]? = some v := by
 have := congrArg (fun x => x[0]?) h
 simpa [List.getElem?_take, List.getElem?_drop] using this
theorem add_add2 (a : Addr) (i j : Nat) : (a.add i).add j = a.add (i + j) := by
 unfold Addr.add; repeat' split
 all_goals simp_all [Nat.add_assoc]
set_option maxRecDepth 100000 in
theorem open_ins {H : Type} {enc : TypeId × Value → H} {W : World} {base : Nat} {sp : Nat → Bool} {held : Bool} {fuel : Nat} {cs : List Value} {x : DataW H × List MemPlace} (h : DataW.trod enc Tryz.prog W base sp held fuel 60 cs = some x) :
 ∃ u : Nat → Int, ∀ j, j < 4 → cs[j]? = some (.int .i64 (u j)) ∧ -9223372036854775808 ≤ u j ∧ u j ≤ 9223372036854775807 := by
 obtain ⟨xs, n, _, _, _, hlen, hf⟩ := DataW.trod_struct Tryz.underlying60 h;have hl : xs.length = 4 := hlen;have hx : ∀ j (hj : j < xs.length), xs[j]? = some xs[j] := fun j hj => List.getElem?_eq_getElem hj
 have fin : ∀ j y, DataW.trod enc Tryz.prog W base sp held n 3 ((cs.drop j).take 1) = some y → ∃ z : Int, cs[j]? = some (.int .i64 z) ∧ -9223372036854775808 ≤ z ∧ z ≤ 9223372036854775807 := by
  intro j y hy;obtain ⟨z, ez, _, wz⟩ := DataW.trod_int Tryz.underlying3 hy;have hb := bounds_i64 wz;exact ⟨z, take_one2 ez, hb.1, hb.2⟩
 have key : ∀ j, j < 4 → ∃ z : Int, cs[j]? = some (.int .i64 z) ∧ -9223372036854775808 ≤ z ∧ z ≤ 9223372036854775807 := by
  intro j hj
  match j, hj with
  | 0, _ => exact fin 0 _ ((hf 0 _ rfl).trans (hx 0 (by omega)))
  | 1, _ => exact fin 1 _ ((hf 1 _ rfl).trans (hx 1 (by omega)))
  | 2, _ => exact fin 2 _ ((hf 2 _ rfl).trans (hx 2 (by omega)))
  | 3, _ => exact fin 3 _ ((hf 3 _ rfl).trans (hx 3 (by omega)))
 obtain ⟨u, hu⟩ := choose_lt key;exact ⟨u, hu⟩
def insBd (code : List Ins) : Prop := ∀ i, i < code.length → (-9223372036854775808 ≤ (code.getD i Ins.no).op ∧ (code.getD i Ins.no).op ≤ 9223372036854775807) ∧ (-9223372036854775808 ≤ (code.getD i Ins.no).a ∧ (code.getD i Ins.no).a ≤ 9223372036854775807) ∧
 (-9223372036854775808 ≤ (code.getD i Ins.no).b ∧ (code.getD i Ins.no).b ≤ 9223372036854775807) ∧ (-9223372036854775808 ≤ (code.getD i Ins.no).c ∧ (code.getD i Ins.no).c ≤ 9223372036854775807)
set_option maxRecDepth 100000 in
theorem open_code {H : Type} {enc : TypeId × Value → H} {W : World} {base : Nat} {sp : Nat → Bool} {held : Bool} {fuel : Nat} {v : Value} {x : DataW H × List MemPlace}
 (hf : DataW.trod enc Tryz.prog W base sp held fuel 37 [v] = some x) :
 ∃ (a : Option Addr) (cap : Nat) (code : List Ins), v = .slice a code.length cap ∧ IRow W a cap code ∧ insBd code ∧
  ((DataW.weights Tryz.prog 37 x.1).all (· ≤ reachBytes) = true → code.length * 32 ≤ 140737488351232) := by
 rcases open_slice Tryz.underlying37 hf with ⟨e2, ex⟩ | ⟨a, len, cap, m, n', D, Pl, e2, _, hl, hm, hmm, ex, hx⟩
 ·simp only [List.cons.injEq, and_true] at e2;subst e2;exact ⟨none, 0, [], rfl, ⟨Nat.le_refl _, by simp [maxLen], fun h => absurd h (by simp)⟩, fun i hi => absurd hi (by simp), fun _ => by simp⟩
 ·simp only [List.cons.injEq, and_true] at e2;subst e2;rw [cells_ins] at hx;have hlm : len ≤ m := by rw [hmm]; split <;> omega
  have each : ∀ i, i < len → ∃ u : Nat → Int, ∀ j, j < 4 → W.cell? (a.add (i * 4 + j)) = some (.int .i64 (u j)) ∧ -9223372036854775808 ≤ u j ∧ u j ≤ 9223372036854775807 := fun i hi => by
   obtain ⟨cs', h1, h2⟩ := hx i (by omega);obtain ⟨u, hu⟩ := open_ins h2;obtain ⟨_, _, hc⟩ := World.cells?_some h1;refine ⟨u, fun j hj => ⟨?_, (hu j hj).2⟩⟩;rw [← add_add2, hc j hj];exact (hu j hj).1
  obtain ⟨u, hu⟩ := choose_lt each;have eg : ∀ i, i < len → ((List.range len).map fun i => (⟨u i 0, u i 1, u i 2, u i 3⟩ : Ins)).getD i Ins.no = ⟨u i 0, u i 1, u i 2, u i 3⟩ := fun i hi => by simp [List.getD_eq_getElem?_getD, hi]
  refine ⟨some a, cap, (List.range len).map fun i => ⟨u i 0, u i 1, u i 2, u i 3⟩, by simp, ⟨by simpa using hl, hm, fun h0 => ?_⟩, fun i hi => ?_, fun hw => ?_⟩
  ·simp only [List.length_map, List.length_range] at h0;obtain ⟨g, off, spot⟩ := a;have hc0 := (hu 0 (by omega) 0 (by omega)).1;have hspot : spot = none := by simpa [Addr.add] using World.cell?_spot hc0
   subst hspot;refine ⟨g, off, rfl, ?_, fun i hi => ?_⟩
   ·have := World.block_lt_of_cell? W _ hc0
    simpa [Addr.add] using this
   ·simp only [List.length_map, List.length_range] at hi;rw [eg i hi];have h4 := fun j hj => (hu i hi j hj).1
    refine ⟨?_, ?_, ?_, ?_⟩
    ·have := h4 0 (by omega); rw [addr_add] at this; exact this
    ·have := h4 1 (by omega); rw [addr_add, ← Nat.add_assoc] at this; exact this
    ·have := h4 2 (by omega); rw [addr_add, ← Nat.add_assoc] at this; exact this
    ·have := h4 3 (by omega); rw [addr_add, ← Nat.add_assoc] at this; exact this
  ·simp only [List.length_map, List.length_range] at hi;rw [eg i hi];exact ⟨(hu i hi 0 (by omega)).2, (hu i hi 1 (by omega)).2, (hu i hi 2 (by omega)).2, (hu i hi 3 (by omega)).2⟩
  ·subst ex
   have hmem : (len + (m - len)) * 32 ≤ reachBytes := by
    have := List.all_eq_true.1 hw ((len + (m - len)) * 32) (by simp [DataW.weights, Tryz.underlying37, bytes_ins])
    simpa using this
   simp only [reachBytes] at hmem;simp only [List.length_map, List.length_range];omega
set_option maxRecDepth 100000 in
theorem open_conf3 {H : Type} {enc : TypeId × Value → H} {W : World} {base : Nat} {sp : Nat → Bool} {held : Bool} {fuel : Nat} {v0 v1 v2 : Value} {x : DataW H × List MemPlace}
 (hf : DataW.trod enc Tryz.prog W base sp held fuel 36 [v0, v1, v2] = some x) :
 ∃ (st rest : Int) (a : Option Addr) (cap : Nat) (cls : List (Int × Int)), v0 = .int .i64 st ∧ v1 = .int .i64 rest ∧ v2 = .slice a cls.length cap ∧ CRow W a cap cls ∧
  (-9223372036854775808 ≤ st ∧ st ≤ 9223372036854775807) ∧ (-9223372036854775808 ≤ rest ∧ rest ≤ 9223372036854775807) ∧
  ((DataW.weights Tryz.prog 36 x.1).all (· ≤ reachBytes) = true → cls.length * 16 ≤ 140737488351232) := by
 obtain ⟨y0, y1, y2, n, hx0, _, h0, h1, h2⟩ := trod_struct3 Tryz.underlying36 hf;subst hx0;obtain ⟨st, e0, rfl, w0⟩ := DataW.trod_int Tryz.underlying3 h0;obtain ⟨rest, e1, rfl, w1⟩ := DataW.trod_int Tryz.underlying3 h1;simp [cells_int] at e0 e1;subst e0 e1
 rcases open_slice_pairs Tryz.underlying34 Tryz.underlying84 cells_cls rfl rfl cells_int cells_int h2 with ⟨e2, rfl⟩ | ⟨a, len, cap, m, n', V0, V1, D0, D1, P0, P1, e2, _, hl, hm, hmm, rfl, hx⟩
 ·simp [cells_clss] at e2;subst e2;exact ⟨st, rest, none, 0, [], rfl, rfl, rfl, ⟨Nat.le_refl _, by simp [maxLen], fun h => absurd h (by simp)⟩, bounds_i64 w0, bounds_i64 w1, fun _ => by simp⟩
 ·simp [cells_clss] at e2;subst e2;have hlm : len ≤ m := by rw [hmm]; split <;> omega
  have each : ∀ i, i < len → ∃ q : Int × Int, V0 i = .int .i64 q.1 ∧ V1 i = .int .i64 q.2 := fun i hi => by
   obtain ⟨_, _, hx0, hx1⟩ := hx i (by omega);obtain ⟨x, ex, _, _⟩ := DataW.trod_int Tryz.underlying3 hx0;obtain ⟨y, ey, _, _⟩ := DataW.trod_int Tryz.underlying3 hx1;simp only [List.cons.injEq, and_true] at ex ey;exact ⟨(x, y), ex, ey⟩
  obtain ⟨q, hq⟩ := choose_lt each;refine ⟨st, rest, some a, cap, (List.range len).map q, rfl, rfl, by simp, ⟨by simpa using hl, hm, fun h0 => ?_⟩, bounds_i64 w0, bounds_i64 w1, fun hw => ?_⟩
  ·simp only [List.length_map, List.length_range] at h0;obtain ⟨g, off, spot⟩ := a;have hc0 := (hx 0 (by omega)).1;have hspot : spot = none := by simpa [Addr.add] using World.cell?_spot hc0
   subst hspot;refine ⟨g, off, rfl, ?_, fun i hi => ?_⟩
   ·have := World.block_lt_of_cell? W _ hc0
    simpa [Addr.add] using this
   ·simp only [List.length_map, List.length_range] at hi;obtain ⟨c0, c1, _, _⟩ := hx i (by omega);have hqi := hq i hi;rw [hqi.1] at c0;rw [hqi.2] at c1;have eg : ((List.range len).map q).getD i (0, 0) = q i := by simp [List.getD_eq_getElem?_getD, hi]
    constructor
    ·show W.cell? ⟨g, off + i * 2, none⟩ = some (.int .i64 (((List.range len).map q).getD i (0, 0)).1);rw [eg, ← addr_add]; exact c0
    ·show W.cell? ⟨g, off + i * 2 + 1, none⟩ = some (.int .i64 (((List.range len).map q).getD i (0, 0)).2);rw [eg, Nat.add_assoc, ← addr_add]; exact c1
  ·have hmem : (len + (m - len)) * 16 ≤ reachBytes := by
    have := List.all_eq_true.1 hw ((len + (m - len)) * 16) (by simp [DataW.weights, DataW.weightsEach, Tryz.underlying36, Tryz.underlying34, bytes_cls])
    simpa using this
   simp only [reachBytes] at hmem;simp only [List.length_map, List.length_range];omega
set_option maxRecDepth 100000 in
theorem open_program {H : Type} {enc : TypeId × Value → H} {W : World} {base b0 : Nat} {sp : Nat → Bool} {held : Bool} {v : Value} {d : DataW H} {p : List MemPlace}
 (hv : Value.okWide Tryz.prog W .any b0 39 v) (h : DataW.Trod enc Tryz.prog W base sp held 39 v d p) :
 ∃ (st rest : Int) (a : Option Addr) (cap : Nat) (cls : List (Int × Int)) (dt : ByteArray) (ia : Option Addr) (icap : Nat) (code : List Ins), v = .agg #[.int .i64 st, .int .i64 rest, .slice a cls.length cap, .string dt, .slice ia code.length icap] ∧ CRow W a cap cls ∧ IRow W ia icap code ∧ insBd code ∧ dt.size ≤ maxLen ∧
  (-9223372036854775808 ≤ st ∧ st ≤ 9223372036854775807) ∧ (-9223372036854775808 ≤ rest ∧ rest ≤ 9223372036854775807) ∧
  ((DataW.weights Tryz.prog 39 d).all (· ≤ reachBytes) = true → cls.length * 16 ≤ 140737488351232 ∧ code.length * 32 ≤ 140737488351232) := by
 obtain ⟨cs, rfl, hsz⟩ := okWide_struct Tryz.underlying39 hv;rw [cells_prog] at hsz
 obtain ⟨c0, c1, c2, c3, c4, rfl⟩ : ∃ c0 c1 c2 c3 c4, cs = #[c0, c1, c2, c3, c4] := by
  obtain ⟨l⟩ := cs
  match l, hsz with
  | [c0, c1, c2, c3, c4], _ => exact ⟨c0, c1, c2, c3, c4, rfl⟩
 obtain ⟨fuel, hf⟩ := h;obtain ⟨y0, y1, y2, n, hx, _, h0, h1, h2⟩ := trod_struct3 Tryz.underlying39 hf;simp only [Prod.mk.injEq] at hx;obtain ⟨rfl, rfl⟩ := hx;obtain ⟨st, rest, a, cap, cls, rfl, rfl, rfl, hcr, b0, b1, hw0⟩ := open_conf3 (v0 := c0) (v1 := c1) (v2 := c2) (by simpa [Value.cells, cells_conf] using h0);obtain ⟨dt, e3, -, hds⟩ := DataW.trod_string Tryz.underlying9 h1;obtain ⟨ia, icap, code, rfl, hir, hbd, hw2⟩ := open_code (v := c4) (by simpa [Value.cells, cells_inss] using h2);simp [Value.cells, cells_str] at e3;subst e3;refine ⟨st, rest, a, cap, cls, dt, ia, icap, code, rfl, hcr, hir, hbd, hds, b0, b1, fun hw => ?_⟩;simp only [DataW.weights, Tryz.underlying39, List.map_cons, List.map_nil, DataW.weightsEach, List.append_nil, List.all_append, Bool.and_eq_true] at hw;exact ⟨hw0 hw.1, hw2 hw.2.2⟩
theorem cells_int2 : Tryz.prog.cellsOf 3 = 1 := by kernel_rfl
theorem bytes_int2 : Tryz.prog.bytesOf 3 = 8 := by kernel_rfl
set_option maxRecDepth 100000 in
theorem open_draws {H : Type} {enc : TypeId × Value → H} {W : World} {base : Nat} {sp : Nat → Bool} {held : Bool} {fuel : Nat} {v : Value} {x : DataW H × List MemPlace}
 (hf : DataW.trod enc Tryz.prog W base sp held fuel 22 [v] = some x) :
 ∃ (a : Option Addr) (cap : Nat) (ds : List Int), v = .slice a ds.length cap ∧ DRow W a cap ds ∧ ((DataW.weights Tryz.prog 22 x.1).all (· ≤ reachBytes) = true → ds.length * 8 ≤ 140737488351232) := by
 rcases Go.ChangeShapes.open_ints Tryz.underlying22 Tryz.underlying3 cells_int2 hf with ⟨e2, ex⟩ | ⟨a, len, cap, zs, e2, _, hl, hm, hz, ex, hc, _⟩
 ·simp only [List.cons.injEq, and_true] at e2;subst e2;exact ⟨none, 0, [], rfl, ⟨Nat.le_refl _, by simp [maxLen], fun h => absurd h (by simp)⟩, fun _ => by simp⟩
 ·simp only [List.cons.injEq, and_true] at e2;subst e2;have hlz : len ≤ zs.length := by rw [hz]; split <;> omega
  have hlt : (zs.take len).length = len := by rw [List.length_take]; omega
  refine ⟨some a, cap, zs.take len, by rw [hlt], ⟨by rw [hlt]; exact hl, hm, fun h0 => ?_⟩, fun hw => ?_⟩
  ·rw [hlt] at h0;obtain ⟨g, off, spot⟩ := a;have hc0 := hc 0 (by omega);have hspot : spot = none := by simpa [Addr.add] using World.cell?_spot hc0
   subst hspot;refine ⟨g, off, rfl, ?_, fun i hi => ?_⟩
   ·have := World.block_lt_of_cell? W _ hc0
    simpa [Addr.add] using this
   ·rw [hlt] at hi;have := hc i (by omega);rw [addr_add] at this;rw [this]
    congr 2
    rw [List.getD_eq_getElem?_getD, List.getD_eq_getElem?_getD, List.getElem?_take, if_pos hi]
  ·subst ex
   have hmem : zs.length * 8 ≤ reachBytes := by
    have hd : (lits (H := H) .i64 (zs.take len)).length + (lits (H := H) .i64 (zs.drop len)).length = zs.length := by simp [lits]; omega
    have := List.all_eq_true.1 hw (((lits (H := H) .i64 (zs.take len)).length + (lits (H := H) .i64 (zs.drop len)).length) * 8) (by simp [DataW.weights, Tryz.underlying22, bytes_int2]);rw [hd] at this
    simpa using this
   simp only [reachBytes] at hmem;rw [hlt];omega
set_option maxRecDepth 100000 in
theorem open_draws2 {H : Type} {enc : TypeId × Value → H} {W : World} {base b0 : Nat} {sp : Nat → Bool} {held : Bool} {v : Value} {d : DataW H} {p : List MemPlace}
 (hv : Value.okWide Tryz.prog W .any b0 22 v) (h : DataW.Trod enc Tryz.prog W base sp held 22 v d p) :
 ∃ (a : Option Addr) (cap : Nat) (ds : List Int), v = .slice a ds.length cap ∧ DRow W a cap ds ∧ ((DataW.weights Tryz.prog 22 d).all (· ≤ reachBytes) = true → ds.length * 8 ≤ 140737488351232) := by
 obtain ⟨a0, len0, cap0, rfl⟩ := okWide_slice Tryz.underlying22 hv;obtain ⟨fuel, hf⟩ := h;exact open_draws hf
end Go.Proofs.YtjikemhmnkckcabGreat
