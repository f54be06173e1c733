import Derived.Test.YtjikemhmnkckcabJ52
import Derived.Test.YtjikemhmnkckcabJ54
import Derived.Test.YtjikemhmnkckcabRows
import Derived.Test.YtjikemhmnkckcabJ4
import Derived.ProofKit
import Derived.OpenShut
import Derived.Lib.SmallJoins
import Derived.Deep.SlicePairs
import Derived.SizedLaws
import Derived.Test.YtjikemhmnkckcabJ41
import Derived.ChangeMaps5
import Derived.WideShapes
/- The law of what is written and read back. -/
namespace Go.Proofs.Ytjikemhmnkckcab
open Go.RowKit
attribute [local go_sem ↓] Go.wp_at_zero Go.wp_at_succ

theorem o_of {s : ByteArray} {st rest : Int} {cls : List (Int × Int)} {e : ByteArray} {code : List Ins} (h : imgB s = true) (h2 : byteAt s 2 = st) (h3 : byteAt s 3 = rest) (hc : pCls s = cls) (hd : pData s = e) (hi : pCode s = code) :
    oSt s = st ∧ oRest s = rest ∧ oCls s = cls ∧ oData s = e ∧ oCode s = code ∧ oErr s = 0 := by
  obtain ⟨y0, y1, y2, y3, y4, y5⟩ := o_yes h
  exact ⟨y0.trans h2, y1.trans h3, y2.trans hc, y3.trans hd, y4.trans hi, y5⟩

set_option maxRecDepth 100000 in
set_option maxHeartbeats 6400000 in
theorem back_any (st rest : Int) (a : Option Addr) (cap : Nat) (cls : List (Int × Int)) (d : ByteArray) (ia : Option Addr) (icap : Nat) (code : List Ins) (text : ByteArray) (cut : Int) (w : World) (h : CRow w a cap cls) (hi : IRow w ia icap code) (hbd : insIn code)
    (b0 : -9223372036854775808 ≤ st) (b1 : st ≤ 9223372036854775807) (b2 : -9223372036854775808 ≤ rest) (b3 : rest ≤ 9223372036854775807) (ht : (text.size : Int) ≤ 9223372036854775807) (k0 : -9223372036854775808 ≤ cut) (k1 : cut ≤ 9223372036854775807) :
    Calls Try.prog 5 #[.agg #[.int .i64 st, .int .i64 rest, .slice a cls.length cap, .string d, .slice ia code.length icap], .string text, .int .i64 cut] w fun e w' => e = .returned (.bool true) ∧ Below w.heap.size w w' := by
  have HC := hide2 h
  have HI := hide2 hi
  have HBD := hide2 hbd
  have q17 := kpick_bd st 17 (by omega)
  have r17 := kpick_bd rest 17 (by omega)
  have HSO := hide2 (tidy_sound (kpick st 17) (kpick rest 17) cls d code (by omega) (by omega) (by omega) (by omega))
  clear h hi hbd
  go_enter Try.func5, Try.ntmps5
  go_upto_region 1 with (fail)
  obtain ⟨wa, hwa⟩ : ∃ wa, wa = w.alloc (.cells #[.int .i64 st, .int .i64 rest, .slice a cls.length cap, .string d, .slice ia code.length icap] 27) := ⟨_, rfl⟩
  have HBA : Hid (Below w.heap.size w wa) := by show Below _ _ _; rw [hwa]; exact (Below.refl _ _).alloc (Nat.le_refl _) _
  have HP : Hid (Blk wa w.heap.size 27 [.int .i64 st, .int .i64 rest, .slice a cls.length cap, .string d, .slice ia code.length icap]) := by show Blk _ _ _ _; rw [hwa]; exact Blk.alloc _ _ _
  rw [← hwa]
  clear hwa
  have p0 := HP.out.cell (j := 0) rfl
  have p1 := HP.out.cell (j := 1) rfl
  have p2 := HP.out.cell (j := 2) rfl
  have p3 := HP.out.cell (j := 3) rfl
  have p4 := HP.out.cell (j := 4) rfl
  go_upto_region 2 with (go_at_call 16; refine (tidy_any st rest a cap cls d ia icap code wa (HC.out.below HBA.out) (HI.out.below HBA.out) HBD.out b0 b1 b2 b3).mono ?_; rintro e1 w1 ⟨vc, vi, rfl, hrows, hb1⟩; obtain ⟨ta, tcap, hvc, -, -, -⟩ := row_open hrows.crow; obtain ⟨tia, ticap, hvi, -, -, -⟩ := row_open hrows.irow; subst hvc hvi; have HR1 := hide2 hrows; have HB1 := hide2 (HBA.out.trans (hb1.mono HBA.out.size)); clear hrows hb1)
  clear p0 p1 p2 p3 p4 HP
  generalize kpick st 17 = st' at *
  generalize kpick rest 17 = re' at *
  generalize kfit cls = cl' at *
  generalize tidyD st' d = d' at *
  generalize tidyC code = co' at *
  obtain ⟨w2, hw2⟩ : ∃ w2, w2 = w1.alloc (.cells #[.int .i64 st', .int .i64 re', .slice ta cl'.length tcap, .string d', .slice tia co'.length ticap] 27) := ⟨_, rfl⟩
  have HX2 : Hid (Below w1.heap.size w1 w2) := by show Below _ _ _; rw [hw2]; exact (Below.refl _ _).alloc (Nat.le_refl _) _
  have HT2 : Hid (Blk w2 w1.heap.size 27 [.int .i64 st', .int .i64 re', .slice ta cl'.length tcap, .string d', .slice tia co'.length ticap]) := by show Blk _ _ _ _; rw [hw2]; exact Blk.alloc _ _ _
  rw [← hw2]
  clear hw2
  have HR2 := hide2 (HR1.out.kept (fun g _ hg => HX2.out.block g hg))
  have HB2 : Hid (Below w.heap.size w w2) := HB1.out.trans (HX2.out.mono HB1.out.size)
  clear HR1 HX2 HB1
  have t0 := HT2.out.cell (j := 0) rfl
  have t1 := HT2.out.cell (j := 1) rfl
  have t2 := HT2.out.cell (j := 2) rfl
  have t3 := HT2.out.cell (j := 3) rfl
  have t4 := HT2.out.cell (j := 4) rfl
  go_upto_region 3 with (go_at_call 13; refine (gwrite_yes st' re' ta tcap cl' d' tia ticap co' w2 (crow_of HR2.out.crow) (irow_of HR2.out.irow) HSO.out).mono ?_; rintro e1 w3 ⟨rfl, hb3⟩; have HX3 := hide2 hb3; clear hb3)
  have hback := img_back HSO.out
  have hsize := img4_size st' re' cl' d' co' co'.length
  have hlen : cl'.length ≤ 4 ∧ d'.size ≤ 255 ∧ co'.length ≤ 255 := by
    have hs := HSO.out
    unfold soundB at hs
    simp only [Bool.and_eq_true, decide_eq_true_eq] at hs
    have hc := hs.2.1
    unfold withinB at hc
    simp at hc
    exact ⟨(Cf.valid_of hs.1.1).n1, hs.1.2.1, by omega⟩
  simp only at hback
  generalize img4 st' re' cl' d' co' co'.length = s at *
  obtain ⟨hB, g2, g3, gc, gd, gi, -⟩ := hback
  have HBS := hide2 hB
  have HOF := hide2 (o_of hB g2 g3 gc gd gi)
  have hs1 : 7 ≤ s.size ∧ s.size ≤ 2000 := by omega
  clear hB g2 g3 gc gd gi hsize hlen
  have HT3 := hide2 (HT2.out.below HX3.out HT2.out.lt)
  have HR3 := hide2 (HR2.out.kept (fun g _ hg => HX3.out.block g hg))
  have HB3 : Hid (Below w.heap.size w w3) := HB2.out.trans (HX3.out.mono HB2.out.size)
  clear t0 t1 t2 t3 t4 HT2 HR2 HB2 HX3
  go_upto_region 4 with (go_at_call 7; refine (gread_any s w3 (by omega)).mono ?_; rintro e1 w4 ⟨qa, qcap, qia, qicap, rfl, hrows, hb4, -⟩; obtain ⟨y0, y1, y2, y3, y4, y5⟩ := HOF.out; rw [y2, y4] at hrows; rw [y0, y1, y2, y3, y4, y5]; have HQ4 := hide2 hrows; have HX4 := hide2 hb4; clear hrows hb4 y0 y1 y2 y3 y4 y5)
  obtain ⟨w5, hw5⟩ : ∃ w5, w5 = w4.alloc (.cells #[.int .i64 st', .int .i64 re', .slice qa cl'.length qcap, .string d', .slice qia co'.length qicap] 27) := ⟨_, rfl⟩
  have HX5 : Hid (Below w4.heap.size w4 w5) := by show Below _ _ _; rw [hw5]; exact (Below.refl _ _).alloc (Nat.le_refl _) _
  have HQB5 : Hid (Blk w5 w4.heap.size 27 [.int .i64 st', .int .i64 re', .slice qa cl'.length qcap, .string d', .slice qia co'.length qicap]) := by show Blk _ _ _ _; rw [hw5]; exact Blk.alloc _ _ _
  rw [← hw5]
  clear hw5
  have HX35 : Hid (Below w3.heap.size w3 w5) := HX4.out.trans (HX5.out.mono HX4.out.size)
  have HT5 := hide2 (HT3.out.below HX35.out HT3.out.lt)
  have HR5 := hide2 (HR3.out.kept (fun g _ hg => HX35.out.block g hg))
  have HQ5 := hide2 (HQ4.out.kept (fun g _ hg => HX5.out.block g hg))
  have HB5 : Hid (Below w.heap.size w w5) := HB3.out.trans (HX35.out.mono HB3.out.size)
  clear HX4 HX5 HX35 HT3 HR3 HQ4 HB3
  have t0 := HT5.out.cell (j := 0) rfl
  have t1 := HT5.out.cell (j := 1) rfl
  have t2 := HT5.out.cell (j := 2) rfl
  have t3 := HT5.out.cell (j := 3) rfl
  have t4 := HT5.out.cell (j := 4) rfl
  have q0 := HQB5.out.cell (j := 0) rfl
  have q1 := HQB5.out.cell (j := 1) rfl
  have q2 := HQB5.out.cell (j := 2) rfl
  have q3 := HQB5.out.cell (j := 3) rfl
  have q4 := HQB5.out.cell (j := 4) rfl
  go_upto_region 5 with (go_at_call 17; refine (ksame_any st' re' qa ta qcap tcap cl' d' qia tia qicap ticap co' w5 (crow_of HQ5.out.crow) (crow_of HR5.out.crow) (irow_of HQ5.out.irow) (irow_of HR5.out.irow)).mono ?_; rintro e1 w6 ⟨rfl, hb6⟩; have HB6 := hide2 (HB5.out.trans (hb6.mono HB5.out.size)); clear hb6)
  clear t0 t1 t2 t3 t4 q0 q1 q2 q3 q4 HT5 HR5 HQ5 HQB5 HB5
  have hne : s.toList.isEmpty = false := by
    cases he : s.toList.isEmpty with
    | false => rfl
    | true =>
      rw [ByteArray.toList_eq, List.isEmpty_iff] at he
      have : s.size = 0 := by rw [← ByteArray.size_data, ← Array.length_toList, he]; rfl
      omega
  go_upto_region 8 with (go_at_call 18; refine (run_zero s _ _ _ _ _ (by omega) HBS.out).mono ?_; rintro e1 w7 ⟨rfl, hb7⟩; have HB7 := hide2 (HB6.out.trans (hb7.mono HB6.out.size)); clear hb7; unfold outC zRep; simp only [List.cons_append, List.nil_append])
  clear hne
  have hpk := kpick_bd cut (s.size : Int) (by omega)
  have hz1 : ¬ (9223372036854775807 < s.size + 1) := by omega
  obtain ⟨w8, hw8⟩ : ∃ w8, w8 = w7.alloc (.cells #[.int .i64 3, .int .i64 0, .int .i64 0, .int .i64 0, .int .i64 0, .string ⟨#[]⟩, .int .i64 0, .int .i64 0, .int .i64 0, .int .i64 0, .int .i64 0, .int .i64 0, .int .i64 0, .int .i64 0, .int .i64 0, .slice none 0 0] 49) := ⟨_, rfl⟩
  have HX8 : Hid (Below w7.heap.size w7 w8) := by show Below _ _ _; rw [hw8]; exact (Below.refl _ _).alloc (Nat.le_refl _) _
  have HO8 : Hid (Blk w8 w7.heap.size 49 [.int .i64 3, .int .i64 0, .int .i64 0, .int .i64 0, .int .i64 0, .string ⟨#[]⟩, .int .i64 0, .int .i64 0, .int .i64 0, .int .i64 0, .int .i64 0, .int .i64 0, .int .i64 0, .int .i64 0, .int .i64 0, .slice none 0 0]) := by show Blk _ _ _ _; rw [hw8]; exact Blk.alloc _ _ _
  rw [← hw8]
  clear hw8
  have HB8 : Hid (Below w.heap.size w w8) := HB7.out.trans (HX8.out.mono HB7.out.size)
  have o0 := HO8.out.cell (j := 0) rfl
  have o2 := HO8.out.cell (j := 2) rfl
  clear HX8 HB7 HB6
  have hsmall := imgB_short HBS.out (kpick cut (s.size : Int)).toNat (by omega)
  have hlong := imgB_long (s := s) (c := ⟨#[0]⟩) HBS.out (by show 0 < 1; omega)
  have hlsz : (s ++ (⟨#[0]⟩ : ByteArray)).size = s.size + 1 := ByteArray.size_append
  have hssz : (s.extract 0 (kpick cut (s.size : Int)).toNat).size ≤ s.size := by rw [ByteArray.size_extract]; omega
  have HSM := hide2 hsmall
  have HLG := hide2 hlong
  have HLS := hide2 hlsz
  have HSS := hide2 hssz
  clear hsmall hlong hlsz hssz
  go_upto_region 11 with (first | (go_at_call 20; refine (kpick_any cut (s.size : Int) _ (by omega) k0 k1).mono ?_; rintro e1 w9 ⟨rfl, rfl⟩) | (go_at_call 19; refine (refused_any _ w8 (by have := HSS.out; omega) HSM.out).mono ?_; rintro e1 w9 ⟨rfl, hb9⟩; have HB9 := hide2 (HB8.out.trans (hb9.mono HB8.out.size)); clear hb9))
  clear o0 o2 HO8
  go_upto_region 14 with (go_at_call 19; refine (refused_any _ w9 (by have := HLS.out; omega) HLG.out).mono ?_; rintro e1 w10 ⟨rfl, hb10⟩; have HB10 := hide2 (HB9.out.trans (hb10.mono HB9.out.size)); clear hb10)
  clear HB8 HB9 HSM HLG HLS HSS
  go_upto_region 15 with (go_at_call 7; refine (gread_any text w10 ht).mono ?_; rintro e1 w11 ⟨ra, rcap, ria, ricap, rfl, hrows, hb11, -⟩; have HR11 := hide2 hrows; have HX11 := hide2 hb11; clear hrows hb11)
  have HB11 : Hid (Below w.heap.size w w11) := HB10.out.trans (HX11.out.mono HB10.out.size)
  clear HX11 HB10
  cases hT : imgB text with
  | false =>
    have HT := hide2 hT
    obtain ⟨y0, y1, y2, y3, y4, y5⟩ := o_no hT
    rw [y5]
    clear y0 y1 y2 y3 y4 y5 hT
    go_wp2_with (go_at_call 19; refine (refused_any text _ ht HT.out).mono ?_; rintro e1 w12 ⟨rfl, hb12⟩; have HX12 := hide2 hb12; clear hb12)
    go_ret
    exact ⟨rfl, (HB11.out.alloc HB11.out.size _).trans (HX12.out.mono (by have := HB11.out.size; simp; omega))⟩
  | true =>
    have hyes := imgB_yes hT
    obtain ⟨y0, y1, y2, y3, y4, y5⟩ := o_yes hT
    rw [y2, y4] at HR11
    rw [y0, y1, y2, y3, y4, y5]
    have HYS : Hid (soundB (byteAt text 2) (byteAt text 3) (pCls text) (pData text).size (pCode text) = true) := hyes.1
    have HYI := hide2 hyes.2
    clear y0 y1 y2 y3 y4 y5 hT hyes
    generalize byteAt text 2 = tst at *
    generalize byteAt text 3 = tre at *
    generalize pCls text = tcl at *
    generalize pData text = tdt at *
    generalize pCode text = tco at *
    obtain ⟨w12, hw12⟩ : ∃ w12, w12 = w11.alloc (.cells #[.int .i64 tst, .int .i64 tre, .slice ra tcl.length rcap, .string tdt, .slice ria tco.length ricap] 27) := ⟨_, rfl⟩
    have HX12 : Hid (Below w11.heap.size w11 w12) := by show Below _ _ _; rw [hw12]; exact (Below.refl _ _).alloc (Nat.le_refl _) _
    have HP12 : Hid (Blk w12 w11.heap.size 27 [.int .i64 tst, .int .i64 tre, .slice ra tcl.length rcap, .string tdt, .slice ria tco.length ricap]) := by show Blk _ _ _ _; rw [hw12]; exact Blk.alloc _ _ _
    rw [← hw12]
    clear hw12
    have HR12 := hide2 (HR11.out.kept (fun g _ hg => HX12.out.block g hg))
    have HB12 : Hid (Below w.heap.size w w12) := HB11.out.trans (HX12.out.mono HB11.out.size)
    have p0 := HP12.out.cell (j := 0) rfl
    have p1 := HP12.out.cell (j := 1) rfl
    have p2 := HP12.out.cell (j := 2) rfl
    have p3 := HP12.out.cell (j := 3) rfl
    have p4 := HP12.out.cell (j := 4) rfl
    go_wp2_with (go_at_call 13; refine (gwrite_yes tst tre ra rcap tcl tdt ria ricap tco w12 (crow_of HR12.out.crow) (irow_of HR12.out.irow) HYS.out).mono ?_; rw [HYI.out]; rintro e1 w13 ⟨rfl, hb13⟩; have HB13 := hide2 (HB12.out.trans (hb13.mono HB12.out.size)); clear hb13)
    all_goals go_ret
    all_goals exact ⟨rfl, HB13.out⟩
end Go.Proofs.Ytjikemhmnkckcab
/- A configuration among the arguments, opened. -/
namespace Go.Proofs.Ytjikemhmnkckcab
open Go.ChangeShapes Go.WideShapes Go.ChangeAt Go.RowKit Go.Joins Go.Deep

theorem bytes_cls : Try.prog.bytesOf 37 = 16 := by kernel_rfl
theorem cells_cls : Try.prog.cellsOf 37 = 2 := by kernel_rfl
theorem cells_conf : Try.prog.cellsOf 24 = 3 := by kernel_rfl
theorem cells_int : Try.prog.cellsOf 3 = 1 := by kernel_rfl

theorem addr_add (g off j : Nat) : (⟨g, off, none⟩ : Addr).add j = ⟨g, off + j, none⟩ := by unfold Addr.add; split <;> simp_all

set_option maxRecDepth 100000 in
theorem open_conf {H : Type} {enc : TypeId × Value → H} {W : World} {base b0 : Nat} {sp : Nat → Bool} {held : Bool} {v : Value} {d : DataW H} {p : List MemPlace}
    (hv : Value.okWide Try.prog W .any b0 24 v) (h : DataW.Trod enc Try.prog W base sp held 24 v d p) :
    ∃ (st rest : Int) (a : Option Addr) (cap : Nat) (cls : List (Int × Int)), v = .agg #[.int .i64 st, .int .i64 rest, .slice a cls.length cap] ∧ CRow W a cap cls ∧
      ((DataW.weights Try.prog 24 d).all (· ≤ reachBytes) = true → cls.length * 16 ≤ 140737488351232) := by
  obtain ⟨v0, v1, v2, y0, y1, y2, n, rfl, rfl, rfl, h0, h1, h2⟩ := open_agg3 Try.underlying24 (by kernel_rfl) cells_conf hv h
  obtain ⟨st, e0, rfl, w0⟩ := DataW.trod_int Try.underlying3 h0
  obtain ⟨rest, e1, rfl, w1⟩ := DataW.trod_int Try.underlying3 h1
  simp only [List.cons.injEq, and_true] at e0 e1
  subst e0 e1
  rcases open_slice_pairs Try.underlying22 Try.underlying37 cells_cls rfl rfl cells_int cells_int h2 with ⟨e2, rfl⟩ | ⟨a, len, cap, m, n', V0, V1, D0, D1, P0, P1, e2, _, hl, hm, hmm, rfl, hx⟩
  · simp only [List.cons.injEq, and_true] at e2
    subst e2
    exact ⟨st, rest, none, 0, [], rfl, ⟨Nat.le_refl _, by simp [maxLen], fun h => absurd h (by simp)⟩, fun _ => by simp⟩
  · simp only [List.cons.injEq, and_true] at e2
    subst e2
    have hlm : len ≤ m := by rw [hmm]; split <;> omega
    have each : ∀ i, i < len → ∃ q : Int × Int, V0 i = .int .i64 q.1 ∧ V1 i = .int .i64 q.2 := fun i hi => by
      obtain ⟨_, _, hx0, hx1⟩ := hx i (by omega)
      obtain ⟨x, ex, _, _⟩ := DataW.trod_int Try.underlying3 hx0
      obtain ⟨y, ey, _, _⟩ := DataW.trod_int Try.underlying3 hx1
      simp only [List.cons.injEq, and_true] at ex ey
      exact ⟨(x, y), ex, ey⟩
    obtain ⟨q, hq⟩ := choose_lt each
    refine ⟨st, rest, some a, cap, (List.range len).map q, by simp, ⟨by simpa using hl, hm, fun h0 => ?_⟩, fun hw => ?_⟩
    · simp only [List.length_map, List.length_range] at h0
      obtain ⟨g, off, spot⟩ := a
      have hc0 := (hx 0 (by omega)).1
      have hspot : spot = none := by simpa [Addr.add] using World.cell?_spot hc0
      subst hspot
      refine ⟨g, off, rfl, ?_, fun i hi => ?_⟩
      · have := World.block_lt_of_cell? W _ hc0
        simpa [Addr.add] using this
      · simp only [List.length_map, List.length_range] at hi
        obtain ⟨c0, c1, _, _⟩ := hx i (by omega)
        have hqi := hq i hi
        rw [hqi.1] at c0
        rw [hqi.2] at c1
        have eg : ((List.range len).map q).getD i (0, 0) = q i := by simp [List.getD_eq_getElem?_getD, hi]
        constructor
        · show W.cell? ⟨g, off + i * 2, none⟩ = some (.int .i64 (((List.range len).map q).getD i (0, 0)).1)
          rw [eg, ← addr_add]; exact c0
        · show W.cell? ⟨g, off + i * 2 + 1, none⟩ = some (.int .i64 (((List.range len).map q).getD i (0, 0)).2)
          rw [eg, Nat.add_assoc, ← addr_add]; exact c1
    · have hmem : (len + (m - len)) * 16 ≤ reachBytes := by
        have := List.all_eq_true.1 hw ((len + (m - len)) * 16) (by simp [DataW.weights, DataW.weightsEach, Try.underlying24, Try.underlying22, bytes_cls])
        simpa using this
      simp only [reachBytes] at hmem
      simp only [List.length_map, List.length_range]
      omega
end Go.Proofs.Ytjikemhmnkckcab
/- A program among the arguments, opened. -/
namespace Go.Proofs.Ytjikemhmnkckcab
open Go.ChangeShapes Go.WideShapes Go.ChangeAt Go.RowKit Go.Joins Go.Deep

theorem bytes_ins : Try.prog.bytesOf 35 = 32 := by kernel_rfl
theorem cells_ins : Try.prog.cellsOf 35 = 4 := by kernel_rfl
theorem cells_prog : Try.prog.cellsOf 27 = 5 := by kernel_rfl
theorem cells_clss : Try.prog.cellsOf 22 = 1 := by kernel_rfl
theorem cells_inss : Try.prog.cellsOf 25 = 1 := by kernel_rfl
theorem cells_str : Try.prog.cellsOf 9 = 1 := by kernel_rfl
theorem take_one2 {l : List Value} {j : Nat} {v : Value} (h : (l.drop j).take 1 = [v]) : l[j]? = some v := by
  have := congrArg (fun x => x[0]?) h
  simpa [List.getElem?_take, List.getElem?_drop] using this
theorem add_add2 (a : Addr) (i j : Nat) : (a.add i).add j = a.add (i + j) := by
  unfold Addr.add; repeat' split
  all_goals simp_all [Nat.add_assoc]

set_option maxRecDepth 100000 in
theorem open_ins {H : Type} {enc : TypeId × Value → H} {W : World} {base : Nat} {sp : Nat → Bool} {held : Bool} {fuel : Nat} {cs : List Value} {x : DataW H × List MemPlace} (h : DataW.trod enc Try.prog W base sp held fuel 35 cs = some x) :
    ∃ u : Nat → Int, ∀ j, j < 4 → cs[j]? = some (.int .i64 (u j)) ∧ -9223372036854775808 ≤ u j ∧ u j ≤ 9223372036854775807 := by
  obtain ⟨xs, n, _, _, _, hlen, hf⟩ := DataW.trod_struct Try.underlying35 h
  have hl : xs.length = 4 := hlen
  have hx : ∀ j (hj : j < xs.length), xs[j]? = some xs[j] := fun j hj => List.getElem?_eq_getElem hj
  have fin : ∀ j y, DataW.trod enc Try.prog W base sp held n 3 ((cs.drop j).take 1) = some y → ∃ z : Int, cs[j]? = some (.int .i64 z) ∧ -9223372036854775808 ≤ z ∧ z ≤ 9223372036854775807 := by
    intro j y hy
    obtain ⟨z, ez, _, wz⟩ := DataW.trod_int Try.underlying3 hy
    have hb := bounds_i64 wz
    exact ⟨z, take_one2 ez, hb.1, hb.2⟩
  have key : ∀ j, j < 4 → ∃ z : Int, cs[j]? = some (.int .i64 z) ∧ -9223372036854775808 ≤ z ∧ z ≤ 9223372036854775807 := by
    intro j hj
    match j, hj with
    | 0, _ => exact fin 0 _ ((hf 0 _ rfl).trans (hx 0 (by omega)))
    | 1, _ => exact fin 1 _ ((hf 1 _ rfl).trans (hx 1 (by omega)))
    | 2, _ => exact fin 2 _ ((hf 2 _ rfl).trans (hx 2 (by omega)))
    | 3, _ => exact fin 3 _ ((hf 3 _ rfl).trans (hx 3 (by omega)))
  obtain ⟨u, hu⟩ := choose_lt key
  exact ⟨u, hu⟩

/-- All numbers of a program are in int. -/
def insBd (code : List Ins) : Prop := ∀ i, i < code.length → (-9223372036854775808 ≤ (code.getD i Ins.no).op ∧ (code.getD i Ins.no).op ≤ 9223372036854775807) ∧ (-9223372036854775808 ≤ (code.getD i Ins.no).a ∧ (code.getD i Ins.no).a ≤ 9223372036854775807) ∧
  (-9223372036854775808 ≤ (code.getD i Ins.no).b ∧ (code.getD i Ins.no).b ≤ 9223372036854775807) ∧ (-9223372036854775808 ≤ (code.getD i Ins.no).c ∧ (code.getD i Ins.no).c ≤ 9223372036854775807)

set_option maxRecDepth 100000 in
theorem open_code {H : Type} {enc : TypeId × Value → H} {W : World} {base : Nat} {sp : Nat → Bool} {held : Bool} {fuel : Nat} {v : Value} {x : DataW H × List MemPlace}
    (hf : DataW.trod enc Try.prog W base sp held fuel 25 [v] = some x) :
    ∃ (a : Option Addr) (cap : Nat) (code : List Ins), v = .slice a code.length cap ∧ IRow W a cap code ∧ insBd code ∧
      ((DataW.weights Try.prog 25 x.1).all (· ≤ reachBytes) = true → code.length * 32 ≤ 140737488351232) := by
  rcases open_slice Try.underlying25 hf with ⟨e2, ex⟩ | ⟨a, len, cap, m, n', D, Pl, e2, _, hl, hm, hmm, ex, hx⟩
  · simp only [List.cons.injEq, and_true] at e2
    subst e2
    exact ⟨none, 0, [], rfl, ⟨Nat.le_refl _, by simp [maxLen], fun h => absurd h (by simp)⟩, fun i hi => absurd hi (by simp), fun _ => by simp⟩
  · simp only [List.cons.injEq, and_true] at e2
    subst e2
    rw [cells_ins] at hx
    have hlm : len ≤ m := by rw [hmm]; split <;> omega
    have each : ∀ i, i < len → ∃ u : Nat → Int, ∀ j, j < 4 → W.cell? (a.add (i * 4 + j)) = some (.int .i64 (u j)) ∧ -9223372036854775808 ≤ u j ∧ u j ≤ 9223372036854775807 := fun i hi => by
      obtain ⟨cs', h1, h2⟩ := hx i (by omega)
      obtain ⟨u, hu⟩ := open_ins h2
      obtain ⟨_, _, hc⟩ := World.cells?_some h1
      refine ⟨u, fun j hj => ⟨?_, (hu j hj).2⟩⟩
      rw [← add_add2, hc j hj]
      exact (hu j hj).1
    obtain ⟨u, hu⟩ := choose_lt each
    have eg : ∀ i, i < len → ((List.range len).map fun i => (⟨u i 0, u i 1, u i 2, u i 3⟩ : Ins)).getD i Ins.no = ⟨u i 0, u i 1, u i 2, u i 3⟩ := fun i hi => by simp [List.getD_eq_getElem?_getD, hi]
    refine ⟨some a, cap, (List.range len).map fun i => ⟨u i 0, u i 1, u i 2, u i 3⟩, by simp, ⟨by simpa using hl, hm, fun h0 => ?_⟩, fun i hi => ?_, fun hw => ?_⟩
    · simp only [List.length_map, List.length_range] at h0
      obtain ⟨g, off, spot⟩ := a
      have hc0 := (hu 0 (by omega) 0 (by omega)).1
      have hspot : spot = none := by simpa [Addr.add] using World.cell?_spot hc0
      subst hspot
      refine ⟨g, off, rfl, ?_, fun i hi => ?_⟩
      · have := World.block_lt_of_cell? W _ hc0
        simpa [Addr.add] using this
      · simp only [List.length_map, List.length_range] at hi
        rw [eg i hi]
        have h4 := fun j hj => (hu i hi j hj).1
        refine ⟨?_, ?_, ?_, ?_⟩
        · have := h4 0 (by omega); rw [addr_add] at this; exact this
        · have := h4 1 (by omega); rw [addr_add, ← Nat.add_assoc] at this; exact this
        · have := h4 2 (by omega); rw [addr_add, ← Nat.add_assoc] at this; exact this
        · have := h4 3 (by omega); rw [addr_add, ← Nat.add_assoc] at this; exact this
    · simp only [List.length_map, List.length_range] at hi
      rw [eg i hi]
      exact ⟨(hu i hi 0 (by omega)).2, (hu i hi 1 (by omega)).2, (hu i hi 2 (by omega)).2, (hu i hi 3 (by omega)).2⟩
    · subst ex
      have hmem : (len + (m - len)) * 32 ≤ reachBytes := by
        have := List.all_eq_true.1 hw ((len + (m - len)) * 32) (by simp [DataW.weights, Try.underlying25, bytes_ins])
        simpa using this
      simp only [reachBytes] at hmem
      simp only [List.length_map, List.length_range]
      omega

set_option maxRecDepth 100000 in
theorem open_conf3 {H : Type} {enc : TypeId × Value → H} {W : World} {base : Nat} {sp : Nat → Bool} {held : Bool} {fuel : Nat} {v0 v1 v2 : Value} {x : DataW H × List MemPlace}
    (hf : DataW.trod enc Try.prog W base sp held fuel 24 [v0, v1, v2] = some x) :
    ∃ (st rest : Int) (a : Option Addr) (cap : Nat) (cls : List (Int × Int)), v0 = .int .i64 st ∧ v1 = .int .i64 rest ∧ v2 = .slice a cls.length cap ∧ CRow W a cap cls ∧
      (-9223372036854775808 ≤ st ∧ st ≤ 9223372036854775807) ∧ (-9223372036854775808 ≤ rest ∧ rest ≤ 9223372036854775807) ∧
      ((DataW.weights Try.prog 24 x.1).all (· ≤ reachBytes) = true → cls.length * 16 ≤ 140737488351232) := by
  obtain ⟨y0, y1, y2, n, hx0, _, h0, h1, h2⟩ := trod_struct3 Try.underlying24 hf
  subst hx0
  obtain ⟨st, e0, rfl, w0⟩ := DataW.trod_int Try.underlying3 h0
  obtain ⟨rest, e1, rfl, w1⟩ := DataW.trod_int Try.underlying3 h1
  simp [cells_int] at e0 e1
  subst e0 e1
  rcases open_slice_pairs Try.underlying22 Try.underlying37 cells_cls rfl rfl cells_int cells_int h2 with ⟨e2, rfl⟩ | ⟨a, len, cap, m, n', V0, V1, D0, D1, P0, P1, e2, _, hl, hm, hmm, rfl, hx⟩
  · simp [cells_clss] at e2
    subst e2
    exact ⟨st, rest, none, 0, [], rfl, rfl, rfl, ⟨Nat.le_refl _, by simp [maxLen], fun h => absurd h (by simp)⟩, bounds_i64 w0, bounds_i64 w1, fun _ => by simp⟩
  · simp [cells_clss] at e2
    subst e2
    have hlm : len ≤ m := by rw [hmm]; split <;> omega
    have each : ∀ i, i < len → ∃ q : Int × Int, V0 i = .int .i64 q.1 ∧ V1 i = .int .i64 q.2 := fun i hi => by
      obtain ⟨_, _, hx0, hx1⟩ := hx i (by omega)
      obtain ⟨x, ex, _, _⟩ := DataW.trod_int Try.underlying3 hx0
      obtain ⟨y, ey, _, _⟩ := DataW.trod_int Try.underlying3 hx1
      simp only [List.cons.injEq, and_true] at ex ey
      exact ⟨(x, y), ex, ey⟩
    obtain ⟨q, hq⟩ := choose_lt each
    refine ⟨st, rest, some a, cap, (List.range len).map q, rfl, rfl, by simp, ⟨by simpa using hl, hm, fun h0 => ?_⟩, bounds_i64 w0, bounds_i64 w1, fun hw => ?_⟩
    · simp only [List.length_map, List.length_range] at h0
      obtain ⟨g, off, spot⟩ := a
      have hc0 := (hx 0 (by omega)).1
      have hspot : spot = none := by simpa [Addr.add] using World.cell?_spot hc0
      subst hspot
      refine ⟨g, off, rfl, ?_, fun i hi => ?_⟩
      · have := World.block_lt_of_cell? W _ hc0
        simpa [Addr.add] using this
      · simp only [List.length_map, List.length_range] at hi
        obtain ⟨c0, c1, _, _⟩ := hx i (by omega)
        have hqi := hq i hi
        rw [hqi.1] at c0
        rw [hqi.2] at c1
        have eg : ((List.range len).map q).getD i (0, 0) = q i := by simp [List.getD_eq_getElem?_getD, hi]
        constructor
        · show W.cell? ⟨g, off + i * 2, none⟩ = some (.int .i64 (((List.range len).map q).getD i (0, 0)).1)
          rw [eg, ← addr_add]; exact c0
        · show W.cell? ⟨g, off + i * 2 + 1, none⟩ = some (.int .i64 (((List.range len).map q).getD i (0, 0)).2)
          rw [eg, Nat.add_assoc, ← addr_add]; exact c1
    · have hmem : (len + (m - len)) * 16 ≤ reachBytes := by
        have := List.all_eq_true.1 hw ((len + (m - len)) * 16) (by simp [DataW.weights, DataW.weightsEach, Try.underlying24, Try.underlying22, bytes_cls])
        simpa using this
      simp only [reachBytes] at hmem
      simp only [List.length_map, List.length_range]
      omega

set_option maxRecDepth 100000 in
theorem open_program {H : Type} {enc : TypeId × Value → H} {W : World} {base b0 : Nat} {sp : Nat → Bool} {held : Bool} {v : Value} {d : DataW H} {p : List MemPlace}
    (hv : Value.okWide Try.prog W .any b0 27 v) (h : DataW.Trod enc Try.prog W base sp held 27 v d p) :
    ∃ (st rest : Int) (a : Option Addr) (cap : Nat) (cls : List (Int × Int)) (dt : ByteArray) (ia : Option Addr) (icap : Nat) (code : List Ins), v = .agg #[.int .i64 st, .int .i64 rest, .slice a cls.length cap, .string dt, .slice ia code.length icap] ∧ CRow W a cap cls ∧ IRow W ia icap code ∧ insBd code ∧ dt.size ≤ maxLen ∧
      (-9223372036854775808 ≤ st ∧ st ≤ 9223372036854775807) ∧ (-9223372036854775808 ≤ rest ∧ rest ≤ 9223372036854775807) ∧
      ((DataW.weights Try.prog 27 d).all (· ≤ reachBytes) = true → cls.length * 16 ≤ 140737488351232 ∧ code.length * 32 ≤ 140737488351232) := by
  obtain ⟨cs, rfl, hsz⟩ := okWide_struct Try.underlying27 hv
  rw [cells_prog] at hsz
  obtain ⟨c0, c1, c2, c3, c4, rfl⟩ : ∃ c0 c1 c2 c3 c4, cs = #[c0, c1, c2, c3, c4] := by
    obtain ⟨l⟩ := cs
    match l, hsz with
    | [c0, c1, c2, c3, c4], _ => exact ⟨c0, c1, c2, c3, c4, rfl⟩
  obtain ⟨fuel, hf⟩ := h
  obtain ⟨y0, y1, y2, n, hx, _, h0, h1, h2⟩ := trod_struct3 Try.underlying27 hf
  simp only [Prod.mk.injEq] at hx
  obtain ⟨rfl, rfl⟩ := hx
  obtain ⟨st, rest, a, cap, cls, rfl, rfl, rfl, hcr, b0, b1, hw0⟩ := open_conf3 (v0 := c0) (v1 := c1) (v2 := c2) (by simpa [Value.cells, cells_conf] using h0)
  obtain ⟨dt, e3, -, hds⟩ := DataW.trod_string Try.underlying9 h1
  obtain ⟨ia, icap, code, rfl, hir, hbd, hw2⟩ := open_code (v := c4) (by simpa [Value.cells, cells_inss] using h2)
  simp [Value.cells, cells_str] at e3
  subst e3
  refine ⟨st, rest, a, cap, cls, dt, ia, icap, code, rfl, hcr, hir, hbd, hds, b0, b1, fun hw => ?_⟩
  simp only [DataW.weights, Try.underlying27, List.map_cons, List.map_nil, DataW.weightsEach, List.append_nil, List.all_append, Bool.and_eq_true] at hw
  exact ⟨hw0 hw.1, hw2 hw.2.2⟩
end Go.Proofs.Ytjikemhmnkckcab
