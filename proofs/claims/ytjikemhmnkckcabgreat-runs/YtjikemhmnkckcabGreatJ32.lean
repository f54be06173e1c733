import Derived.Test.YtjikemhmnkckcabGreatJ31
import Derived.Deep.Cut
/- The document's Write. -/
namespace Go.Proofs.YtjikemhmnkckcabGreat
open Go.RowKit

def bOne (v : Int) : ByteArray := ⟨#[UInt8.ofNat v.toNat]⟩
def img1 (st rest : Int) (cls : List (Int × Int)) : ByteArray := (⟨#[71, 82]⟩ : ByteArray) ++ bOne st ++ bOne rest ++ bOne cls.length
def img2 (st rest : Int) (cls : List (Int × Int)) : Nat → ByteArray
  | 0 => img1 st rest cls
  | m + 1 => img2 st rest cls m ++ bOne (Cf.gr cls m) ++ bOne (Cf.sl cls m)
theorem bOne_size (v : Int) : (bOne v).size = 1 := rfl
theorem img2_size (st rest : Int) (cls : List (Int × Int)) (m : Nat) : (img2 st rest cls m).size = 5 + 2 * m := by
  induction m with
  | zero => simp [img2, img1, ByteArray.size_append, bOne_size]; rfl
  | succ m ih => simp only [img2, ByteArray.size_append, bOne_size, ih]; omega
def img3 (st rest : Int) (cls : List (Int × Int)) (d : ByteArray) (n : Nat) : ByteArray := img2 st rest cls cls.length ++ bOne d.size ++ d ++ bOne n
def img4 (st rest : Int) (cls : List (Int × Int)) (d : ByteArray) (code : List Ins) : Nat → ByteArray
  | 0 => img3 st rest cls d code.length
  | m + 1 => img4 st rest cls d code m ++ bOne (code.getD m Ins.no).op ++ bOne (code.getD m Ins.no).a ++ bOne (code.getD m Ins.no).b ++ bOne (code.getD m Ins.no).c
theorem img4_size (st rest : Int) (cls : List (Int × Int)) (d : ByteArray) (code : List Ins) (m : Nat) : (img4 st rest cls d code m).size = 7 + 2 * cls.length + d.size + 4 * m := by
  induction m with
  | zero => simp only [img4, img3, ByteArray.size_append, bOne_size, img2_size]; omega
  | succ m ih => simp only [img4, ByteArray.size_append, bOne_size, ih]; omega
theorem codeB_at {code : List Ins} {k m : Nat} (h : codeB code k = true) (hm : m < k) : (code.getD m Ins.no).may code.length = true := by
  induction k with
  | zero => omega
  | succ k ih =>
    simp only [codeB, Bool.and_eq_true] at h
    by_cases e : m = k
    · rw [e]; exact h.2
    · exact ih h.1 (by omega)
theorem kind_bd {k v n : Int} (h : kindB k v n = true) (hn : n ≤ 255) : 0 ≤ v ∧ v ≤ 255 := by
  unfold kindB withinB at h
  split at h
  · simp at h; omega
  · split at h
    · simp at h; omega
    · split at h <;> (simp at h; omega)
theorem may_bd {x : Ins} {n : Int} (h : x.may n = true) (hn : n ≤ 255) : (0 ≤ x.op ∧ x.op ≤ 255) ∧ (0 ≤ x.a ∧ x.a ≤ 255) ∧ (0 ≤ x.b ∧ x.b ≤ 255) ∧ (0 ≤ x.c ∧ x.c ≤ 255) := by
  have ho : ¬ (x.op < 0 ∨ 19 < x.op) := fun y => by
    unfold Ins.may mayB at h
    rw [opKinds_none y] at h
    cases h
  have hk : ∃ k1 k2 k3 : Nat, opKinds x.op = [k1, k2, k3] := by
    rcases opKinds_some ho with e | e | e | e | e | e | e <;> exact ⟨_, _, _, e⟩
  obtain ⟨k1, k2, k3, hk⟩ := hk
  unfold Ins.may mayB at h
  rw [hk] at h
  simp only [Bool.and_eq_true] at h
  exact ⟨by omega, kind_bd h.1.1 hn, kind_bd h.1.2 hn, kind_bd h.2 hn⟩

set_option maxRecDepth 100000 in
set_option maxHeartbeats 3200000 in
theorem rwrite_yes (st rest : Int) (a : Option Addr) (cap : Nat) (cls : List (Int × Int)) (d : ByteArray) (ia : Option Addr) (icap : Nat) (code : List Ins) (w : World) (h : CRow w a cap cls) (hi : IRow w ia icap code) (hs : soundB st rest cls d.size code = true) :
    Calls Tryz.prog 31 #[.agg #[.int .i64 st, .int .i64 rest, .slice a cls.length cap, .string d, .slice ia code.length icap]] w fun e w' => e = .returned (.tuple #[.string (img4 st rest cls d code code.length), .int .i64 0]) ∧ Below w.heap.size w w' := by
  have HC := hide2 h
  have HI := hide2 hi
  have HS := hide2 hs
  have hval : Cf.Valid st rest cls := by
    refine Cf.valid_of ?_
    unfold soundB at hs
    simp only [Bool.and_eq_true] at hs
    exact hs.1.1
  have hd255 : d.size ≤ 255 ∧ withinB code.length 1 255 = true ∧ codeB code code.length = true := by
    unfold soundB at hs
    simp only [Bool.and_eq_true, decide_eq_true_eq] at hs
    exact ⟨hs.1.2.1, hs.2.1, hs.2.2⟩
  have hn255 : code.length ≤ 255 := by have := hd255.2.1; unfold withinB at this; simp at this; omega
  have HCB := hide2 hd255.2.2
  have hds := hd255.1
  have st0 := hval.st0
  have st1 := hval.st1
  have re0 := hval.re0
  have re1 := hval.re1
  have n0 := hval.n0
  have n1 := hval.n1
  have hil := hi.len
  have hic := hi.cap
  have hcl := h.len
  have hcc := h.cap
  unfold maxLen at hic hcc
  have HVAL := hide2 hval
  clear h hi hs hval hd255
  go_enter Tryz.func31, Tryz.ntmps31
  go_wp2_with fail
  obtain ⟨wa, hwa⟩ : ∃ wa, wa = w.alloc (.cells #[.int .i64 st, .int .i64 rest, .slice a cls.length cap, .string d, .slice ia code.length icap] 39) := ⟨_, rfl⟩
  rw [← hwa]
  have hba : Below w.heap.size w wa := by rw [hwa]; exact (Below.refl _ _).alloc (Nat.le_refl _) _
  have HP : Hid (Blk wa w.heap.size 39 [.int .i64 st, .int .i64 rest, .slice a cls.length cap, .string d, .slice ia code.length icap]) := by show Blk _ _ _ _; rw [hwa]; exact Blk.alloc _ _ _
  have HBA := hide2 hba
  obtain ⟨pb, hpb⟩ : ∃ pb, pb = w.heap.size := ⟨_, rfl⟩
  rw [← hpb] at HP ⊢
  clear hwa hba hpb
  refine (sound_any st rest a cap cls d ia icap code wa (HC.out.below HBA.out) (HI.out.below HBA.out)).mono ?_
  rw [HS.out]
  rintro e1 w1 ⟨rfl, hb1⟩
  have HP1 := hide2 (HP.out.below hb1 HP.out.lt)
  have HB1 : Hid (Below w.heap.size w w1) := HBA.out.trans (hb1.mono HBA.out.size)
  clear hb1 HP HBA
  have p0 := HP1.out.cell (j := 0) rfl
  have p1 := HP1.out.cell (j := 1) rfl
  have p2 := HP1.out.cell (j := 2) rfl
  have hpl := HP1.out.lt
  have hlI : (cls.length : Int) ≤ 4 := by omega
  go_wp2_with fail
  go_region_held3 (fun w' => w'.cell? ⟨pb, 0, none⟩ = some (.int .i64 st) ∧ w'.cell? ⟨pb, 1, none⟩ = some (.int .i64 rest) ∧ w'.cell? ⟨pb, 2, none⟩ = some (.slice a cls.length cap)) (go_keep)
    (first
      | (go_at_call_of 33 (Value.int IntKind.i64 st); refine (one_any st w1.drew (by omega) (by omega)).mono ?_; rintro e2 w2 ⟨rfl, hb2⟩; have HB2 : Hid (Below w1.heap.size w1 w2) := ⟨hb2.os, hb2.tape, hb2.output, hb2.size, hb2.block⟩; have a0 := (HB2.out.cell (p := ⟨pb, 0, none⟩) hpl).trans p0; have a1 := (HB2.out.cell (p := ⟨pb, 1, none⟩) hpl).trans p1; have a2 := (HB2.out.cell (p := ⟨pb, 2, none⟩) hpl).trans p2; have al : pb < w2.heap.size := Nat.lt_of_lt_of_le hpl HB2.out.size; clear hb2)
      | (go_at_call_of 33 (Value.int IntKind.i64 rest); refine (one_any rest _ (by omega) (by omega)).mono ?_; rintro e3 w3 ⟨rfl, hb3⟩; have HB3 : Hid (Below w2.heap.size w2 w3) := ⟨hb3.os, hb3.tape, hb3.output, hb3.size, hb3.block⟩; have b0 := (HB3.out.cell (p := ⟨pb, 0, none⟩) al).trans a0; have b1 := (HB3.out.cell (p := ⟨pb, 1, none⟩) al).trans a1; have b2 := (HB3.out.cell (p := ⟨pb, 2, none⟩) al).trans a2; have bl : pb < w3.heap.size := Nat.lt_of_lt_of_le al HB3.out.size; clear hb3)
      | (go_at_call_of 33 (Value.int IntKind.i64 (cls.length : Int)); refine (one_any (cls.length : Int) _ (by omega) (by omega)).mono ?_; rintro e4 w4 ⟨rfl, hb4⟩; have HB4 : Hid (Below w3.heap.size w3 w4) := ⟨hb4.os, hb4.tape, hb4.output, hb4.size, hb4.block⟩; have g0 := (HB4.out.cell (p := ⟨pb, 0, none⟩) bl).trans b0; have g1 := (HB4.out.cell (p := ⟨pb, 1, none⟩) bl).trans b1; have g2 := (HB4.out.cell (p := ⟨pb, 2, none⟩) bl).trans b2; clear hb4))
  have HP4 : Hid (Blk w4 pb 39 [.int .i64 st, .int .i64 rest, .slice a cls.length cap, .string d, .slice ia code.length icap]) := ((HP1.out.below HB2.out hpl).below HB3.out al).below HB4.out bl
  have HW2 : Hid (Below w.heap.size w w2) := HB1.out.trans (HB2.out.mono HB1.out.size)
  have HW3 : Hid (Below w.heap.size w w3) := HW2.out.trans (HB3.out.mono HW2.out.size)
  have HW4 : Hid (Below w.heap.size w w4) := HW3.out.trans (HB4.out.mono HW3.out.size)
  clear p0 p1 p2 a0 a1 a2 b0 b1 b2 g0 g1 g2 al bl hpl HB2 HB3 HB4 HW2 HW3 HB1 HP1
  go_upto_region 5 with (fail)
  have HI1 : Hid ((⟨#[71, 82]⟩ : ByteArray) ++ ⟨#[UInt8.ofNat st.toNat]⟩ ++ ⟨#[UInt8.ofNat rest.toNat]⟩ ++ ⟨#[UInt8.ofNat cls.length]⟩ = img2 st rest cls 0) := rfl
  rw [HI1.out]
  obtain ⟨cg, coff, rfl, hcgl, hccell⟩ := HC.out.cells n0
  have HCC := hide2 hccell
  clear hccell
  go_wp2
  go_loopw [5, 6] (fun s i wr => ∃ m : Nat, m ≤ cls.length ∧ i = .int .i64 (m : Int) ∧ s = .string (img2 st rest cls m) ∧ Below w.heap.size w wr ∧ Hid (Blk wr pb 39 [.int .i64 st, .int .i64 rest, .slice (some ⟨cg, coff, none⟩) cls.length cap, .string d, .slice ia code.length icap])) (fun _ i _ => cls.length - (intOf i).toNat)
  case atStart => exact ⟨0, by omega, rfl, rfl, HW4.out, HP4⟩
  case round =>
    obtain ⟨m, hm, rfl, rfl, hb, HPR⟩ := hrel
    have q2 := HPR.out.cell (j := 2) rfl
    have hql := HPR.out.lt
    have HB := hide2 hb
    clear HP4 HW4
    by_cases hlt : m < cls.length
    · have hmI : (m : Int) < (cls.length : Int) := by omega
      have hcr : cg < wr.heap.size := Nat.lt_of_lt_of_le hcgl hb.size
      have dx := (hb.cell (p := ⟨cg, coff + m * 2, none⟩) hcgl).trans (HCC.out m hlt).1
      have dy := (hb.cell (p := ⟨cg, coff + m * 2 + 1, none⟩) hcgl).trans (HCC.out m hlt).2
      have gx0 := HVAL.out.g0 m hlt
      have gx1 := HVAL.out.g1 m hlt
      have gy0 := HVAL.out.s0 m hlt
      have gy1 := HVAL.out.s1 m hlt
      have HNX : Hid (img2 st rest cls (m + 1) = img2 st rest cls m ++ bOne (Cf.gr cls m) ++ bOne (Cf.sl cls m)) := rfl
      clear hb
      generalize Cf.gr cls m = x at *
      generalize Cf.sl cls m = y at *
      have hsz := img2_size st rest cls m
      generalize hsm : img2 st rest cls m = sm at *
      have z1 : ¬ (9223372036854775807 < sm.size + 1) := by omega
      have z2 : ¬ (9223372036854775807 < sm.size + 1 + 1) := by omega
      clear hsz
      go_wp2_with fail
      go_region_held3 (fun w' => w'.cell? ⟨pb, 2, none⟩ = some (.slice (some ⟨cg, coff, none⟩) cls.length cap) ∧ w'.cell? ⟨cg, coff + m * 2, none⟩ = some (.int .i64 x) ∧ w'.cell? ⟨cg, coff + m * 2 + 1, none⟩ = some (.int .i64 y)) (go_keep)
        (first
          | (go_at_call_of 33 (Value.int IntKind.i64 x); refine (one_any x _ (by omega) (by omega)).mono ?_; rintro e1 v1 ⟨rfl, hx1⟩; have HX1 : Hid (Below wr.heap.size wr v1) := ⟨hx1.os, hx1.tape, hx1.output, hx1.size, hx1.block⟩; have f1_0 := (HX1.out.cell (p := ⟨pb, 2, none⟩) hql).trans q2; have f1_1 := (HX1.out.cell (p := ⟨cg, coff + m * 2, none⟩) hcr).trans dx; have f1_2 := (HX1.out.cell (p := ⟨cg, coff + m * 2 + 1, none⟩) hcr).trans dy; clear hx1; have L1 : Hid (wr.heap.size ≤ v1.heap.size) := HX1.out.size)
          | (go_at_call_of 33 (Value.int IntKind.i64 y); refine (one_any y _ (by omega) (by omega)).mono ?_; rintro e2 v2 ⟨rfl, hx2⟩; have HX2 : Hid (Below v1.heap.size v1 v2) := ⟨hx2.os, hx2.tape, hx2.output, hx2.size, hx2.block⟩; have f2_0 := (HX2.out.cell (p := ⟨pb, 2, none⟩) (Nat.lt_of_lt_of_le hql (by first | omega | exact L1.out))).trans f1_0; have f2_1 := (HX2.out.cell (p := ⟨cg, coff + m * 2, none⟩) (Nat.lt_of_lt_of_le hcr (by first | omega | exact L1.out))).trans f1_1; have f2_2 := (HX2.out.cell (p := ⟨cg, coff + m * 2 + 1, none⟩) (Nat.lt_of_lt_of_le hcr (by first | omega | exact L1.out))).trans f1_2; clear hx2; have L2 : Hid (wr.heap.size ≤ v2.heap.size) := Nat.le_trans L1.out HX2.out.size))
      have HPN : Hid (Blk v2 pb 39 [.int .i64 st, .int .i64 rest, .slice (some ⟨cg, coff, none⟩) cls.length cap, .string d, .slice ia code.length icap]) := (HPR.out.below HX1.out hql).below HX2.out (Nat.lt_of_lt_of_le hql L1.out)
      have HBN1 : Hid (Below w.heap.size w v1) := HB.out.trans (HX1.out.mono HB.out.size)
      have HBN : Hid (Below w.heap.size w v2) := HBN1.out.trans (HX2.out.mono HBN1.out.size)
      clear q2 dx dy f1_0 f1_1 f1_2 f2_0 f2_1 f2_2
      go_wp2
      go_roundw
      case rel => exact ⟨m + 1, by omega, by go_num, by rw [HNX.out]; rfl, HBN.out, HPN⟩
      case measure => simp [intOf]; omega
    · obtain rfl : m = cls.length := by omega
      go_upto_region 9 with (fail)
      have q3 := HPR.out.cell (j := 3) rfl
      have q4 := HPR.out.cell (j := 4) rfl
      have hsz := img2_size st rest cls cls.length
      have HI3 : Hid (img2 st rest cls cls.length ++ bOne (d.size : Int) ++ d ++ bOne (code.length : Int) = img4 st rest cls d code 0) := rfl
      generalize img2 st rest cls cls.length = sm at *
      have z1 : ¬ (9223372036854775807 < sm.size + 1) := by omega
      have z2 : ¬ (9223372036854775807 < sm.size + 1 + d.size) := by omega
      have z3 : ¬ (9223372036854775807 < sm.size + 1 + d.size + 1) := by omega
      clear hsz q2 hb
      go_region_held3 (fun w' => w'.cell? ⟨pb, 3, none⟩ = some (.string d) ∧ w'.cell? ⟨pb, 4, none⟩ = some (.slice ia code.length icap)) (go_keep)
        (first
          | (go_at_call_of 33 (Value.int IntKind.i64 (d.size : Int)); refine (one_any (d.size : Int) _ (by omega) (by omega)).mono ?_; rintro e1 v1 ⟨rfl, hx1⟩; have HX1 : Hid (Below wr.heap.size wr v1) := ⟨hx1.os, hx1.tape, hx1.output, hx1.size, hx1.block⟩; have f1_0 := (HX1.out.cell (p := ⟨pb, 3, none⟩) hql).trans q3; have f1_1 := (HX1.out.cell (p := ⟨pb, 4, none⟩) hql).trans q4; clear hx1; have L1 : Hid (wr.heap.size ≤ v1.heap.size) := HX1.out.size)
          | (go_at_call_of 33 (Value.int IntKind.i64 (code.length : Int)); refine (one_any (code.length : Int) _ (by omega) (by omega)).mono ?_; rintro e2 v2 ⟨rfl, hx2⟩; have HX2 : Hid (Below v1.heap.size v1 v2) := ⟨hx2.os, hx2.tape, hx2.output, hx2.size, hx2.block⟩; have f2_0 := (HX2.out.cell (p := ⟨pb, 3, none⟩) (Nat.lt_of_lt_of_le hql (by first | omega | exact L1.out))).trans f1_0; have f2_1 := (HX2.out.cell (p := ⟨pb, 4, none⟩) (Nat.lt_of_lt_of_le hql (by first | omega | exact L1.out))).trans f1_1; clear hx2; have L2 : Hid (wr.heap.size ≤ v2.heap.size) := Nat.le_trans L1.out HX2.out.size))
      have HPN : Hid (Blk v2 pb 39 [.int .i64 st, .int .i64 rest, .slice (some ⟨cg, coff, none⟩) cls.length cap, .string d, .slice ia code.length icap]) := (HPR.out.below HX1.out hql).below HX2.out (Nat.lt_of_lt_of_le hql L1.out)
      have HBN1 : Hid (Below w.heap.size w v1) := HB.out.trans (HX1.out.mono HB.out.size)
      have HBN : Hid (Below w.heap.size w v2) := HBN1.out.trans (HX2.out.mono HBN1.out.size)
      clear q3 q4 f1_0 f1_1 f2_0 f2_1
      go_upto_region 10 with (fail)
      have HI4 : Hid (sm ++ (⟨#[UInt8.ofNat d.size]⟩ : ByteArray) ++ d ++ ⟨#[UInt8.ofNat code.length]⟩ = img4 st rest cls d code 0) := HI3.out
      rw [HI4.out]
      go_wp2
      go_loopw [5, 7] (fun s i wr => ∃ t : Nat, t ≤ code.length ∧ i = .int .i64 (t : Int) ∧ s = .string (img4 st rest cls d code t) ∧ Below w.heap.size w wr ∧ Hid (Blk wr pb 39 [.int .i64 st, .int .i64 rest, .slice (some ⟨cg, coff, none⟩) cls.length cap, .string d, .slice ia code.length icap])) (fun _ i _ => code.length - (intOf i).toNat)
      case atStart => exact ⟨0, by omega, rfl, rfl, HBN.out, HPN⟩
      case round =>
        obtain ⟨t, ht, rfl, rfl, hb2, HPT⟩ := hrel
        have q4 := HPT.out.cell (j := 4) rfl
        have hqt := HPT.out.lt
        have HBT := hide2 hb2
        by_cases htl : t < code.length
        · have htI : (t : Int) < (code.length : Int) := by omega
          obtain ⟨ig, ioff, rfl, higl, hicell⟩ := HI.out.cells (by omega)
          obtain ⟨e0, e1, e2, e3⟩ := hicell t htl
          have e0' := (hb2.cell (p := ⟨ig, ioff + t * 4, none⟩) higl).trans e0
          have e1' := (hb2.cell (p := ⟨ig, ioff + t * 4 + 1, none⟩) higl).trans e1
          have e2' := (hb2.cell (p := ⟨ig, ioff + t * 4 + 2, none⟩) higl).trans e2
          have e3' := (hb2.cell (p := ⟨ig, ioff + t * 4 + 3, none⟩) higl).trans e3
          have hbd := may_bd (codeB_at HCB.out htl) (by omega)
          have HNX : Hid (img4 st rest cls d code (t + 1) = img4 st rest cls d code t ++ bOne (code.getD t Ins.no).op ++ bOne (code.getD t Ins.no).a ++ bOne (code.getD t Ins.no).b ++ bOne (code.getD t Ins.no).c) := rfl
          have hsz := img4_size st rest cls d code t
          generalize (code.getD t Ins.no).op = xo at *
          generalize (code.getD t Ins.no).a = xa at *
          generalize (code.getD t Ins.no).b = xb at *
          generalize (code.getD t Ins.no).c = xc at *
          generalize img4 st rest cls d code t = st4 at *
          have z1 : ¬ (9223372036854775807 < st4.size + 1) := by omega
          have z2 : ¬ (9223372036854775807 < st4.size + 1 + 1) := by omega
          have z3 : ¬ (9223372036854775807 < st4.size + 1 + 1 + 1) := by omega
          have z4 : ¬ (9223372036854775807 < st4.size + 1 + 1 + 1 + 1) := by omega
          clear hb2 e0 e1 e2 e3 hicell hsz
          go_upto_region 14 with (fail)
          obtain ⟨wx, hwx⟩ : ∃ wx, wx = wr.alloc (.cells #[.int .i64 xo, .int .i64 xa, .int .i64 xb, .int .i64 xc] 60) := ⟨_, rfl⟩
          rw [← hwx]
          have hbx : Below wr.heap.size wr wx := by rw [hwx]; exact (Below.refl _ _).alloc (Nat.le_refl _) _
          have HY : Hid (Blk wx wr.heap.size 60 [.int .i64 xo, .int .i64 xa, .int .i64 xb, .int .i64 xc]) := by show Blk _ _ _ _; rw [hwx]; exact Blk.alloc _ _ _
          have HBX := hide2 hbx
          obtain ⟨bx, hbxe⟩ : ∃ bx, bx = wr.heap.size := ⟨_, rfl⟩
          rw [← hbxe] at HY ⊢
          have hbl := HY.out.lt
          have y0 := HY.out.cell (j := 0) rfl
          have y1 := HY.out.cell (j := 1) rfl
          have y2 := HY.out.cell (j := 2) rfl
          have y3 := HY.out.cell (j := 3) rfl
          clear hwx hbx hbxe e0' e1' e2' e3' q4
          go_region_held3 (fun w' => w'.cell? ⟨bx, 0, none⟩ = some (.int .i64 xo) ∧ w'.cell? ⟨bx, 1, none⟩ = some (.int .i64 xa) ∧ w'.cell? ⟨bx, 2, none⟩ = some (.int .i64 xb) ∧ w'.cell? ⟨bx, 3, none⟩ = some (.int .i64 xc)) (go_keep)
            (first
              | (go_at_call_of 33 (Value.int IntKind.i64 xo); refine (one_any xo _ (by omega) (by omega)).mono ?_; rintro e1 v1 ⟨rfl, hx1⟩; have HX1 : Hid (Below wx.heap.size wx v1) := ⟨hx1.os, hx1.tape, hx1.output, hx1.size, hx1.block⟩; have f1_0 := (HX1.out.cell (p := ⟨bx, 0, none⟩) hbl).trans y0; have f1_1 := (HX1.out.cell (p := ⟨bx, 1, none⟩) hbl).trans y1; have f1_2 := (HX1.out.cell (p := ⟨bx, 2, none⟩) hbl).trans y2; have f1_3 := (HX1.out.cell (p := ⟨bx, 3, none⟩) hbl).trans y3; clear hx1; have L1 : Hid (wx.heap.size ≤ v1.heap.size) := HX1.out.size)
              | (go_at_call_of 33 (Value.int IntKind.i64 xa); refine (one_any xa _ (by omega) (by omega)).mono ?_; rintro e2 v2 ⟨rfl, hx2⟩; have HX2 : Hid (Below v1.heap.size v1 v2) := ⟨hx2.os, hx2.tape, hx2.output, hx2.size, hx2.block⟩; have f2_0 := (HX2.out.cell (p := ⟨bx, 0, none⟩) (Nat.lt_of_lt_of_le hbl (by first | omega | exact L1.out))).trans f1_0; have f2_1 := (HX2.out.cell (p := ⟨bx, 1, none⟩) (Nat.lt_of_lt_of_le hbl (by first | omega | exact L1.out))).trans f1_1; have f2_2 := (HX2.out.cell (p := ⟨bx, 2, none⟩) (Nat.lt_of_lt_of_le hbl (by first | omega | exact L1.out))).trans f1_2; have f2_3 := (HX2.out.cell (p := ⟨bx, 3, none⟩) (Nat.lt_of_lt_of_le hbl (by first | omega | exact L1.out))).trans f1_3; clear hx2; have L2 : Hid (wx.heap.size ≤ v2.heap.size) := Nat.le_trans L1.out HX2.out.size)
              | (go_at_call_of 33 (Value.int IntKind.i64 xb); refine (one_any xb _ (by omega) (by omega)).mono ?_; rintro e3 v3 ⟨rfl, hx3⟩; have HX3 : Hid (Below v2.heap.size v2 v3) := ⟨hx3.os, hx3.tape, hx3.output, hx3.size, hx3.block⟩; have f3_0 := (HX3.out.cell (p := ⟨bx, 0, none⟩) (Nat.lt_of_lt_of_le hbl (by first | omega | exact L2.out))).trans f2_0; have f3_1 := (HX3.out.cell (p := ⟨bx, 1, none⟩) (Nat.lt_of_lt_of_le hbl (by first | omega | exact L2.out))).trans f2_1; have f3_2 := (HX3.out.cell (p := ⟨bx, 2, none⟩) (Nat.lt_of_lt_of_le hbl (by first | omega | exact L2.out))).trans f2_2; have f3_3 := (HX3.out.cell (p := ⟨bx, 3, none⟩) (Nat.lt_of_lt_of_le hbl (by first | omega | exact L2.out))).trans f2_3; clear hx3; have L3 : Hid (wx.heap.size ≤ v3.heap.size) := Nat.le_trans L2.out HX3.out.size)
              | (go_at_call_of 33 (Value.int IntKind.i64 xc); refine (one_any xc _ (by omega) (by omega)).mono ?_; rintro e4 v4 ⟨rfl, hx4⟩; have HX4 : Hid (Below v3.heap.size v3 v4) := ⟨hx4.os, hx4.tape, hx4.output, hx4.size, hx4.block⟩; have f4_0 := (HX4.out.cell (p := ⟨bx, 0, none⟩) (Nat.lt_of_lt_of_le hbl (by first | omega | exact L3.out))).trans f3_0; have f4_1 := (HX4.out.cell (p := ⟨bx, 1, none⟩) (Nat.lt_of_lt_of_le hbl (by first | omega | exact L3.out))).trans f3_1; have f4_2 := (HX4.out.cell (p := ⟨bx, 2, none⟩) (Nat.lt_of_lt_of_le hbl (by first | omega | exact L3.out))).trans f3_2; have f4_3 := (HX4.out.cell (p := ⟨bx, 3, none⟩) (Nat.lt_of_lt_of_le hbl (by first | omega | exact L3.out))).trans f3_3; clear hx4; have L4 : Hid (wx.heap.size ≤ v4.heap.size) := Nat.le_trans L3.out HX4.out.size))
          have HPX := hide2 (HPT.out.below HBX.out hqt)
          have hqx := HPX.out.lt
          have HPN4 : Hid (Blk v4 pb 39 [.int .i64 st, .int .i64 rest, .slice (some ⟨cg, coff, none⟩) cls.length cap, .string d, .slice (some ⟨ig, ioff, none⟩) code.length icap]) := (((HPX.out.below HX1.out hqx).below HX2.out (Nat.lt_of_lt_of_le hqx L1.out)).below HX3.out (Nat.lt_of_lt_of_le hqx L2.out)).below HX4.out (Nat.lt_of_lt_of_le hqx L3.out)
          have B0 : Hid (Below w.heap.size w wx) := HBT.out.trans (HBX.out.mono HBT.out.size)
          have B1 : Hid (Below w.heap.size w v1) := B0.out.trans (HX1.out.mono B0.out.size)
          have B2 : Hid (Below w.heap.size w v2) := B1.out.trans (HX2.out.mono B1.out.size)
          have B3 : Hid (Below w.heap.size w v3) := B2.out.trans (HX3.out.mono B2.out.size)
          have B4 : Hid (Below w.heap.size w v4) := B3.out.trans (HX4.out.mono B3.out.size)
          clear y0 y1 y2 y3 f1_0 f1_1 f1_2 f1_3 f2_0 f2_1 f2_2 f2_3 f3_0 f3_1 f3_2 f3_3 f4_0 f4_1 f4_2 f4_3
          go_wp2
          go_roundw
          case rel => exact ⟨t + 1, by omega, by go_num, by rw [HNX.out]; rfl, B4.out, HPN4⟩
          case measure => simp [intOf]; omega
        · obtain rfl : t = code.length := by omega
          go_wp2
          go_ret2
          exact ⟨rfl, HBT.out⟩
end Go.Proofs.YtjikemhmnkckcabGreat
