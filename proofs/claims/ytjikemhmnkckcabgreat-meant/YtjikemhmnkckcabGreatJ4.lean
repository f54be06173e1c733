import Derived.Test.YtjikemhmnkckcabGreatJ3
import Derived.Lib.SlBytesRow
namespace Go.Proofs.YtjikemhmnkckcabGreat
open Go.RowKit
structure Ins where
 op : Int
 a : Int
 b : Int
 c : Int
def Ins.no : Ins := ⟨0, 0, 0, 0⟩
structure IRow (w : World) (a : Option Addr) (cap : Nat) (code : List Ins) : Prop where
 len : code.length ≤ cap
 cap : cap ≤ maxLen
 cells : 0 < code.length → ∃ g off, a = some ⟨g, off, none⟩ ∧ g < w.heap.size ∧ ∀ i, i < code.length →
  w.cell? ⟨g, off + i * 4, none⟩ = some (.int .i64 (code.getD i Ins.no).op) ∧ w.cell? ⟨g, off + i * 4 + 1, none⟩ = some (.int .i64 (code.getD i Ins.no).a) ∧ w.cell? ⟨g, off + i * 4 + 2, none⟩ = some (.int .i64 (code.getD i Ins.no).b) ∧ w.cell? ⟨g, off + i * 4 + 3, none⟩ = some (.int .i64 (code.getD i Ins.no).c)
theorem IRow.below {w w' : World} {a : Option Addr} {cap : Nat} {code : List Ins} (h : IRow w a cap code) (hb : Below w.heap.size w w') : IRow w' a cap code := by
 refine ⟨h.len, h.cap, fun h0 => ?_⟩;obtain ⟨g, off, e, hg, hc⟩ := h.cells h0;exact ⟨g, off, e, Nat.lt_of_lt_of_le hg hb.size, fun i hi => ⟨(hb.cell (p := ⟨g, off + i * 4, none⟩) hg).trans (hc i hi).1, (hb.cell (p := ⟨g, off + i * 4 + 1, none⟩) hg).trans (hc i hi).2.1, (hb.cell (p := ⟨g, off + i * 4 + 2, none⟩) hg).trans (hc i hi).2.2.1, (hb.cell (p := ⟨g, off + i * 4 + 3, none⟩) hg).trans (hc i hi).2.2.2⟩⟩
def Ins.may (x : Ins) (n : Int) : Bool := mayB x.op x.a x.b x.c n
def codeB (code : List Ins) : Nat → Bool
 | 0 => true
 | m + 1 => codeB code m && (code.getD m Ins.no).may code.length
theorem codeB_no {code : List Ins} {m : Nat} (hm : m < code.length) (h : (code.getD m Ins.no).may code.length = false) : codeB code code.length = false := by
 have aux : ∀ k, m < k → codeB code k = false := by
  intro k
  induction k with
  | zero => intro h; omega
  | succ k ih =>
    intro hk;simp only [codeB]
    by_cases e : m = k
    ·rw [← e, h, Bool.and_false]
    ·rw [ih (by omega), Bool.false_and]
 exact aux _ hm
def soundB (st rest : Int) (cls : List (Int × Int)) (dlen : Nat) (code : List Ins) : Bool :=
 Cf.validB st rest cls && (decide (dlen ≤ 255) && decide ((dlen : Int) ≤ st * 16)) && (withinB code.length 1 255 && codeB code code.length)
set_option maxRecDepth 100000 in
set_option maxHeartbeats 1600000 in
theorem validProgram_any (st rest : Int) (a : Option Addr) (cap : Nat) (cls : List (Int × Int)) (d : ByteArray) (ia : Option Addr) (icap : Nat) (code : List Ins) (w : World) (h : CRow w a cap cls) (hi : IRow w ia icap code) :
 Calls Tryz.prog 27 #[.agg #[.int .i64 st, .int .i64 rest, .slice a cls.length cap, .string d, .slice ia code.length icap]] w fun e w' => e = .returned (.bool (soundB st rest cls d.size code)) ∧ Below w.heap.size w w' := by
 have HC := hide2 h;have HI := hide2 hi;have HF : Hid (soundB st rest cls d.size code = (Cf.validB st rest cls && (decide (d.size ≤ 255) && decide ((d.size : Int) ≤ st * 16)) && (withinB code.length 1 255 && codeB code code.length))) := rfl;generalize soundB st rest cls d.size code = res at *;have hil := hi.len;have hic := hi.cap;unfold maxLen at hic;clear h hi
 cases hv : Cf.validB st rest cls
 ·have HR : Hid (res = false) := by show _ = _; rw [HF.out, hv]; rfl
  have HV := hide2 hv;clear hv;go_enter Tryz.func27, Tryz.ntmps27
  go_wp2_with fail
  refine (validConf_any st rest a cap cls _ (HC.out.below ((Below.refl _ _).alloc (Nat.le_refl _) _))).mono ?_;rw [HV.out];rintro e1 w1 ⟨rfl, hb1⟩;go_wp2;go_ret;exact ⟨by rw [HR.out]; rfl, ((Below.refl _ _).alloc (Nat.le_refl _) _).trans (hb1.mono (by simp))⟩
 ·have hval := Cf.valid_of hv;have st0 := hval.st0;have st1 := hval.st1;have HV := hide2 hv
  by_cases d1 : d.size ≤ 255
  ·have d1I : (d.size : Int) ≤ 255 := by omega
   by_cases d2 : (d.size : Int) ≤ st * 16
   ·have HF2 : Hid (res = (withinB code.length 1 255 && codeB code code.length)) := by show _ = _; rw [HF.out, hv]; simp [d1, d2]
    clear HF hv hval d1;generalize hds : (d.size : Int) = ds at *
    cases hw : withinB code.length 1 255
    ·have HR : Hid (res = false) := by show _ = _; rw [HF2.out, hw]; rfl
     have HW := hide2 hw;clear hw HF2;go_enter Tryz.func27, Tryz.ntmps27
     go_wp2_with fail
     obtain ⟨wa, hwa⟩ : ∃ wa, wa = w.alloc (.cells #[.int .i64 st, .int .i64 rest, .slice a cls.length cap, .string d, .slice ia code.length icap] 39) := ⟨_, rfl⟩
     rw [← hwa];have hba : Below w.heap.size w wa := by rw [hwa]; exact (Below.refl _ _).alloc (Nat.le_refl _) _
     have HP : Hid (Blk wa w.heap.size 39 [.int .i64 st, .int .i64 rest, .slice a cls.length cap, .string d, .slice ia code.length icap]) := by show Blk _ _ _ _; rw [hwa]; exact Blk.alloc _ _ _
     have HBA := hide2 hba;obtain ⟨pb, hpb⟩ : ∃ pb, pb = w.heap.size := ⟨_, rfl⟩
     rw [← hpb] at HP ⊢;clear hwa hba hpb;refine (validConf_any st rest a cap cls wa (HC.out.below HBA.out)).mono ?_;rw [HV.out];rintro e1 w1 ⟨rfl, hb1⟩;have HP1 := hide2 (HP.out.below hb1 HP.out.lt);have HB1 : Hid (Below w.heap.size w w1) := HBA.out.trans (hb1.mono HBA.out.size);clear hb1 HP HBA;have p0 := HP1.out.cell (j := 0) rfl;have p3 := HP1.out.cell (j := 3) rfl;have p4 := HP1.out.cell (j := 4) rfl;have hpl := HP1.out.lt
     go_wp2_with (go_at_call 52; refine (within_any _ 1 255 _).mono ?_; rw [HW.out]; rintro e2 w2 ⟨rfl, rfl⟩)
     go_ret;exact ⟨by rw [HR.out]; rfl, HB1.out⟩
    ·have hcl : code.length ≤ 255 := by unfold withinB at hw; simp at hw; omega
     have HW := hide2 hw;have HF3 : Hid (res = codeB code code.length) := by show _ = _; rw [HF2.out, hw]; rfl
     clear hw HF2;go_enter Tryz.func27, Tryz.ntmps27
     go_wp2_with fail
     obtain ⟨wa, hwa⟩ : ∃ wa, wa = w.alloc (.cells #[.int .i64 st, .int .i64 rest, .slice a cls.length cap, .string d, .slice ia code.length icap] 39) := ⟨_, rfl⟩
     rw [← hwa];have hba : Below w.heap.size w wa := by rw [hwa]; exact (Below.refl _ _).alloc (Nat.le_refl _) _
     have HP : Hid (Blk wa w.heap.size 39 [.int .i64 st, .int .i64 rest, .slice a cls.length cap, .string d, .slice ia code.length icap]) := by show Blk _ _ _ _; rw [hwa]; exact Blk.alloc _ _ _
     have HBA := hide2 hba;obtain ⟨pb, hpb⟩ : ∃ pb, pb = w.heap.size := ⟨_, rfl⟩
     rw [← hpb] at HP ⊢;clear hwa hba hpb;refine (validConf_any st rest a cap cls wa (HC.out.below HBA.out)).mono ?_;rw [HV.out];rintro e1 w1 ⟨rfl, hb1⟩;have HP1 := hide2 (HP.out.below hb1 HP.out.lt);have HB1 : Hid (Below w.heap.size w w1) := HBA.out.trans (hb1.mono HBA.out.size);clear hb1 HP HBA;have p0 := HP1.out.cell (j := 0) rfl;have p3 := HP1.out.cell (j := 3) rfl;have p4 := HP1.out.cell (j := 4) rfl;have hpl := HP1.out.lt
     go_wp2_with fail
     refine (within_any _ 1 255 _).mono ?_;rw [HW.out];rintro e2 w2 ⟨rfl, hw2⟩;subst hw2;go_wp2
     go_loopw [3] (fun i wr => ∃ m : Nat, m ≤ code.length ∧ i = .int .i64 (m : Int) ∧ Below w.heap.size w wr ∧ Hid (Blk wr pb 39 [.int .i64 st, .int .i64 rest, .slice a cls.length cap, .string d, .slice ia code.length icap]) ∧ Hid (codeB code m = true)) (fun i _ => code.length - (intOf i).toNat)
     case atStart => exact ⟨0, by omega, rfl, HB1.out, HP1, rfl⟩
     case round =>
      obtain ⟨m, hm, rfl, hb, HPR, HCB⟩ := hrel;have q4 := HPR.out.cell (j := 4) rfl;have hql := HPR.out.lt;have HB := hide2 hb
      by_cases hlt : m < code.length
      ·have hmI : (m : Int) < (code.length : Int) := by omega
       obtain ⟨g, off, rfl, hgl, hcell⟩ := HI.out.cells (by omega);obtain ⟨e0, e1, e2, e3⟩ := hcell m hlt;have e0' := (hb.cell (p := ⟨g, off + m * 4, none⟩) hgl).trans e0;have e1' := (hb.cell (p := ⟨g, off + m * 4 + 1, none⟩) hgl).trans e1;have e2' := (hb.cell (p := ⟨g, off + m * 4 + 2, none⟩) hgl).trans e2;have e3' := (hb.cell (p := ⟨g, off + m * 4 + 3, none⟩) hgl).trans e3;have hgr : g < wr.heap.size := Nat.lt_of_lt_of_le hgl hb.size;have HNX : Hid (codeB code (m + 1) = (codeB code m && (code.getD m Ins.no).may code.length)) := rfl;obtain ⟨x, hx⟩ : ∃ x, code.getD m Ins.no = x := ⟨_, rfl⟩
       rw [hx] at e0' e1' e2' e3';have HX := hide2 hx;rw [hx] at HNX;clear hb e0 e1 e2 e3 hcell hx
       cases hmay : x.may code.length
       ·have HR : Hid (res = false) := by show _ = _; rw [HF3.out]; exact codeB_no hlt (by rw [HX.out]; exact hmay)
        have HMY : Hid (mayB x.op x.a x.b x.c code.length = false) := hmay;clear hmay
        go_wp2_with fail
        go_region_held3 (fun w' => w'.cell? ⟨pb, 4, none⟩ = some (.slice (some ⟨g, off, none⟩) code.length icap) ∧ w'.cell? ⟨g, off + m * 4, none⟩ = some (.int .i64 x.op) ∧ w'.cell? ⟨g, off + m * 4 + 1, none⟩ = some (.int .i64 x.a) ∧ w'.cell? ⟨g, off + m * 4 + 2, none⟩ = some (.int .i64 x.b) ∧ w'.cell? ⟨g, off + m * 4 + 3, none⟩ = some (.int .i64 x.c)) (go_keep)
         (first | (go_at_call 53; refine (validInstr_any x.op x.a x.b x.c code.length wr.drew (by omega) (by omega)).mono ?_; rw [HMY.out]; rintro e5 w5 ⟨rfl, hb5'⟩; have HB5w : Hid (Below wr.heap.size wr w5) := ⟨hb5'.os, hb5'.tape, hb5'.output, hb5'.size, hb5'.block⟩; have k4 := (HB5w.out.cell (p := ⟨pb, 4, none⟩) hql).trans q4; have k0 := (HB5w.out.cell (p := ⟨g, off + m * 4, none⟩) hgr).trans e0'; have k1 := (HB5w.out.cell (p := ⟨g, off + m * 4 + 1, none⟩) hgr).trans e1'; have k2 := (HB5w.out.cell (p := ⟨g, off + m * 4 + 2, none⟩) hgr).trans e2'; have k3 := (HB5w.out.cell (p := ⟨g, off + m * 4 + 3, none⟩) hgr).trans e3'; clear hb5'))
        have hb5 := HB5w.out;have HB5 : Hid (Below w.heap.size w w5) := HB.out.trans (hb5.mono HB.out.size);clear hb5 k0 k1 k2 k3 k4 q4 e0' e1' e2' e3';go_wp2;go_ret;exact ⟨by rw [HR.out]; rfl, HB5.out⟩
       ·have HMY : Hid (mayB x.op x.a x.b x.c code.length = true) := hmay;have HN2 : Hid (codeB code (m + 1) = true) := by show _ = _; rw [HNX.out, HCB.out, hmay]; rfl
        clear hmay
        go_wp2_with fail
        go_region_held3 (fun w' => w'.cell? ⟨pb, 4, none⟩ = some (.slice (some ⟨g, off, none⟩) code.length icap) ∧ w'.cell? ⟨g, off + m * 4, none⟩ = some (.int .i64 x.op) ∧ w'.cell? ⟨g, off + m * 4 + 1, none⟩ = some (.int .i64 x.a) ∧ w'.cell? ⟨g, off + m * 4 + 2, none⟩ = some (.int .i64 x.b) ∧ w'.cell? ⟨g, off + m * 4 + 3, none⟩ = some (.int .i64 x.c)) (go_keep)
         (first | (go_at_call 53; refine (validInstr_any x.op x.a x.b x.c code.length wr.drew (by omega) (by omega)).mono ?_; rw [HMY.out]; rintro e5 w5 ⟨rfl, hb5'⟩; have HB5w : Hid (Below wr.heap.size wr w5) := ⟨hb5'.os, hb5'.tape, hb5'.output, hb5'.size, hb5'.block⟩; have k4 := (HB5w.out.cell (p := ⟨pb, 4, none⟩) hql).trans q4; have k0 := (HB5w.out.cell (p := ⟨g, off + m * 4, none⟩) hgr).trans e0'; have k1 := (HB5w.out.cell (p := ⟨g, off + m * 4 + 1, none⟩) hgr).trans e1'; have k2 := (HB5w.out.cell (p := ⟨g, off + m * 4 + 2, none⟩) hgr).trans e2'; have k3 := (HB5w.out.cell (p := ⟨g, off + m * 4 + 3, none⟩) hgr).trans e3'; clear hb5'))
        have hb5 := HB5w.out;have HB5 : Hid (Below w.heap.size w w5) := HB.out.trans (hb5.mono HB.out.size);have HP5 := hide2 (HPR.out.below hb5 hql);clear hb5 k0 k1 k2 k3 k4 q4 e0' e1' e2' e3';go_wp2
        go_roundw
        case rel => exact ⟨m + 1, by omega, by go_num, HB5.out, HP5, HN2⟩
        case measure => simp [intOf]; omega
      ·obtain rfl : m = code.length := by omega
       have HR : Hid (res = true) := by show _ = _; rw [HF3.out]; exact HCB.out
       go_wp2;go_ret;exact ⟨by rw [HR.out]; rfl, HB.out⟩
   ·have HR : Hid (res = false) := by show _ = _; rw [HF.out]; simp [d2]
    clear HF hv hval d1;generalize hds : (d.size : Int) = ds at *;go_enter Tryz.func27, Tryz.ntmps27
    go_wp2_with fail
    obtain ⟨wa, hwa⟩ : ∃ wa, wa = w.alloc (.cells #[.int .i64 st, .int .i64 rest, .slice a cls.length cap, .string d, .slice ia code.length icap] 39) := ⟨_, rfl⟩
    rw [← hwa];have hba : Below w.heap.size w wa := by rw [hwa]; exact (Below.refl _ _).alloc (Nat.le_refl _) _
    have HP : Hid (Blk wa w.heap.size 39 [.int .i64 st, .int .i64 rest, .slice a cls.length cap, .string d, .slice ia code.length icap]) := by show Blk _ _ _ _; rw [hwa]; exact Blk.alloc _ _ _
    have HBA := hide2 hba;obtain ⟨pb, hpb⟩ : ∃ pb, pb = w.heap.size := ⟨_, rfl⟩
    rw [← hpb] at HP ⊢;clear hwa hba hpb;refine (validConf_any st rest a cap cls wa (HC.out.below HBA.out)).mono ?_;rw [HV.out];rintro e1 w1 ⟨rfl, hb1⟩;have HP1 := hide2 (HP.out.below hb1 HP.out.lt);have HB1 : Hid (Below w.heap.size w w1) := HBA.out.trans (hb1.mono HBA.out.size);clear hb1 HP HBA;have p0 := HP1.out.cell (j := 0) rfl;have p3 := HP1.out.cell (j := 3) rfl;have p4 := HP1.out.cell (j := 4) rfl;have hpl := HP1.out.lt;go_wp2;go_ret;exact ⟨by rw [HR.out]; rfl, HB1.out⟩
  ·have HR : Hid (res = false) := by show _ = _; rw [HF.out]; simp [d1]
   have d1I : ¬ (d.size : Int) ≤ 255 := by omega
   clear HF hv hval d1;generalize hds : (d.size : Int) = ds at *;go_enter Tryz.func27, Tryz.ntmps27
   go_wp2_with fail
   obtain ⟨wa, hwa⟩ : ∃ wa, wa = w.alloc (.cells #[.int .i64 st, .int .i64 rest, .slice a cls.length cap, .string d, .slice ia code.length icap] 39) := ⟨_, rfl⟩
   rw [← hwa];have hba : Below w.heap.size w wa := by rw [hwa]; exact (Below.refl _ _).alloc (Nat.le_refl _) _
   have HP : Hid (Blk wa w.heap.size 39 [.int .i64 st, .int .i64 rest, .slice a cls.length cap, .string d, .slice ia code.length icap]) := by show Blk _ _ _ _; rw [hwa]; exact Blk.alloc _ _ _
   have HBA := hide2 hba;obtain ⟨pb, hpb⟩ : ∃ pb, pb = w.heap.size := ⟨_, rfl⟩
   rw [← hpb] at HP ⊢;clear hwa hba hpb;refine (validConf_any st rest a cap cls wa (HC.out.below HBA.out)).mono ?_;rw [HV.out];rintro e1 w1 ⟨rfl, hb1⟩;have HP1 := hide2 (HP.out.below hb1 HP.out.lt);have HB1 : Hid (Below w.heap.size w w1) := HBA.out.trans (hb1.mono HBA.out.size);clear hb1 HP HBA;have p0 := HP1.out.cell (j := 0) rfl;have p3 := HP1.out.cell (j := 3) rfl;have p4 := HP1.out.cell (j := 4) rfl;have hpl := HP1.out.lt;go_wp2;go_ret;exact ⟨by rw [HR.out]; rfl, HB1.out⟩
end Go.Proofs.YtjikemhmnkckcabGreat
