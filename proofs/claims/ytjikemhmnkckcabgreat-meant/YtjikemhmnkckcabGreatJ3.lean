import Derived.Test.YtjikemhmnkckcabGreatJ2
import Derived.Deep.RegionHeld3
import Derived.Deep.AppendLies
import Derived.Deep.DrawnRows
import Derived.Deep.RegionLaw
namespace Go.Proofs.YtjikemhmnkckcabGreat
open Go.RowKit
theorem hide2 {p : Prop} (h : p) : Hid p := h
def withinB (n lo hi : Int) : Bool := decide (lo ≤ n) && decide (n ≤ hi)
set_option maxHeartbeats 400000 in
theorem within_any (n lo hi : Int) (w : World) :
 Calls Tryz.prog 52 #[.int .i64 n, .int .i64 lo, .int .i64 hi] w fun e w' => e = .returned (.bool (withinB n lo hi)) ∧ w' = w := by
 go_enter Tryz.func52, Tryz.ntmps52;go_wp2
 all_goals
  go_ret;refine ⟨ret_bool ?_, rfl⟩
  first | (simp [withinB, *]; done) | (simp [withinB, *]; omega)
namespace Cf
def entryC (cls : List (Int × Int)) (i : Nat) : Bool := withinB (gr cls i) ((if i = 0 then 0 else gr cls (i - 1)) + 1) 8 && withinB (sl cls i) 1 16
def classesC (cls : List (Int × Int)) : Bool := withinB cls.length 1 4 && allTo (entryC cls) cls.length
theorem classes_eq (st rest : Int) (cls : List (Int × Int)) : validB st rest cls = (headB st rest && classesC cls) := by
 unfold validB
 congr 1
 rw [Bool.eq_iff_iff];simp only [classesC, Bool.and_eq_true, allTo_iff, decide_eq_true_eq, withinB]
 constructor
 ·rintro ⟨h1, h2⟩
  have he : ∀ i, i < cls.length → i < 4 ∧ 1 ≤ gr cls i ∧ gr cls i ≤ 8 ∧ 1 ≤ sl cls i ∧ sl cls i ≤ 16 ∧ ∀ j, j < i → gr cls j < gr cls i := fun i hi => by
   have := h1 i hi;simp only [entryB, Bool.and_eq_true, decide_eq_true_eq, allTo_iff] at this;obtain ⟨⟨⟨⟨⟨a, b⟩, c⟩, d⟩, e⟩, f⟩ := this;exact ⟨a, b, c, d, e, f⟩
  refine ⟨⟨by omega, ?_⟩, fun i hi => ?_⟩
  ·have := (he (cls.length - 1) (by omega)).1; omega
  ·obtain ⟨a, b, c, d, e, f⟩ := he i hi;simp only [entryC, withinB, Bool.and_eq_true, decide_eq_true_eq];refine ⟨⟨?_, c⟩, d, e⟩
   by_cases h0 : i = 0
   ·rw [if_pos h0]; omega
   ·rw [if_neg h0]; have := f (i - 1) (by omega); omega
 ·rintro ⟨⟨h1, h2⟩, h3⟩
  have he : ∀ i, i < cls.length → (if i = 0 then 0 else gr cls (i - 1)) + 1 ≤ gr cls i ∧ gr cls i ≤ 8 ∧ 1 ≤ sl cls i ∧ sl cls i ≤ 16 := fun i hi => by
   have := h3 i hi;simp only [entryC, withinB, Bool.and_eq_true, decide_eq_true_eq] at this;exact ⟨this.1.1, this.1.2, this.2.1, this.2.2⟩
  have hup : ∀ i, i < cls.length → 1 ≤ gr cls i ∧ ∀ j, j < i → gr cls j < gr cls i := by
   intro i
   induction i with
   | zero => intro hi; have := (he 0 hi).1; simp at this; exact ⟨this, fun j hj => by omega⟩
   | succ i ih =>
     intro hi;obtain ⟨a, b⟩ := ih (by omega);have := (he (i + 1) hi).1;rw [if_neg (by omega), show i + 1 - 1 = i by omega] at this;refine ⟨by omega, fun j hj => ?_⟩
     by_cases e : j = i
     ·subst e; omega
     ·have := b j (by omega); omega
  refine ⟨fun i hi => ?_, by omega⟩;simp only [entryB, Bool.and_eq_true, decide_eq_true_eq, allTo_iff];exact ⟨⟨⟨⟨⟨by omega, (hup i hi).1⟩, (he i hi).2.1⟩, (he i hi).2.2.1⟩, (he i hi).2.2.2⟩, (hup i hi).2⟩
end Cf
set_option maxHeartbeats 1000000 in
theorem classes_any (a : Option Addr) (cap : Nat) (cls : List (Int × Int)) (w : World) (h : CRow w a cap cls) :
 Calls Tryz.prog 73 #[.slice a cls.length cap] w fun e w' => e = .returned (.bool (Cf.classesC cls)) ∧ w' = w := by
 have hlen := h.len;have hcap := h.cap;unfold maxLen at hcap;have HC : Hid (CCells w a cls) := h.cells;clear h
 cases hw : withinB cls.length 1 4
 ·have hfin : Hid (Cf.classesC cls = false) := by show _ = _; simp [Cf.classesC, hw]
  have HW : Hid (withinB cls.length 1 4 = false) := hw;clear hw;go_enter Tryz.func73, Tryz.ntmps73
  go_wp2_with (go_at_call 52; refine (within_any _ _ _ _).mono ?_; rw [HW.out]; rintro e1 w1 ⟨rfl, rfl⟩)
  go_ret;exact ⟨ret_bool hfin.out.symm, rfl⟩
 ·have hb : 1 ≤ (cls.length : Int) ∧ (cls.length : Int) ≤ 4 := by simpa [withinB] using hw
  have hfin : Hid (Cf.classesC cls = Cf.allTo (Cf.entryC cls) cls.length) := by show _ = _; simp [Cf.classesC, hw]
  have HW : Hid (withinB cls.length 1 4 = true) := hw;obtain ⟨b1, b2⟩ := hb;clear hw;obtain ⟨g, off, rfl, hgl, hcell⟩ := HC.out (by omega);have HCL : Hid (∀ i, i < cls.length → w.cell? ⟨g, off + i * 2, none⟩ = some (.int .i64 (Cf.gr cls i)) ∧ w.cell? ⟨g, off + i * 2 + 1, none⟩ = some (.int .i64 (Cf.sl cls i))) := hcell;clear hcell HC;go_enter Tryz.func73, Tryz.ntmps73
  go_wp2_with (go_at_call 52; refine (within_any _ _ _ _).mono ?_; rw [HW.out]; rintro e1 w1 ⟨rfl, rfl⟩)
  go_loop [3, 4] (fun h i => ∃ (m : Nat) (x : Int), m ≤ cls.length ∧ i = .int .i64 (m : Int) ∧ h = .int .i64 x ∧ x ≤ 8 ∧ 0 ≤ x ∧ Hid (x = if m = 0 then 0 else Cf.gr cls (m - 1)) ∧ Hid (Cf.allTo (Cf.entryC cls) m = true)) (fun _ i => cls.length - (intOf i).toNat)
  case atStart => exact ⟨0, 0, by omega, rfl, rfl, by omega, by omega, rfl, rfl⟩
  case round =>
   obtain ⟨m, x, hm, rfl, rfl, x8, x0, hx, hall⟩ := hrel
   by_cases hlt : m < cls.length
   ·obtain ⟨d0, d1⟩ := HCL.out m hlt;have hent : Hid (Cf.entryC cls m = (withinB (Cf.gr cls m) (x + 1) 8 && withinB (Cf.sl cls m) 1 16)) := by show _ = _; rw [hx.out]; rfl
    have hno : Hid (Cf.entryC cls m = false → Cf.classesC cls = false) := fun h => by rw [hfin.out]; exact Cf.allTo_false _ hlt h
    have hxt : Hid (Cf.gr cls m = if m + 1 = 0 then 0 else Cf.gr cls (m + 1 - 1)) := by show _ = _; rw [if_neg (by omega)]; rfl
    cases h1 : withinB (Cf.gr cls m) (x + 1) 8
    ·have H1 : Hid (withinB (Cf.gr cls m) (x + 1) 8 = false) := h1;have hff : Hid (Cf.classesC cls = false) := hno.out (by rw [hent.out, h1]; rfl);clear h1 hent hno hxt
     go_wp2_with (go_at_call 52; refine (within_any _ _ _ _).mono ?_; rw [H1.out]; rintro e1 w1 ⟨rfl, rfl⟩)
     go_ret;exact ⟨ret_bool hff.out.symm, rfl⟩
    ·have hxb : x + 1 ≤ Cf.gr cls m ∧ Cf.gr cls m ≤ 8 := by simpa [withinB] using h1
     have H1 : Hid (withinB (Cf.gr cls m) (x + 1) 8 = true) := h1
     cases h2 : withinB (Cf.sl cls m) 1 16
     ·have H2 : Hid (withinB (Cf.sl cls m) 1 16 = false) := h2;have hff : Hid (Cf.classesC cls = false) := hno.out (by rw [hent.out, h1, h2]; rfl);clear h1 h2 hent hno hxt
      go_wp2_with fail
      refine (within_any _ _ _ _).mono ?_; rw [H1.out]; rintro e1 w1 ⟨rfl, rfl⟩
      go_wp2_with fail
      refine (within_any _ _ _ _).mono ?_; rw [H2.out]; rintro e1 w1 ⟨rfl, rfl⟩
      go_wp2;go_ret;exact ⟨ret_bool hff.out.symm, rfl⟩
     ·have H2 : Hid (withinB (Cf.sl cls m) 1 16 = true) := h2;have hall2 : Hid (Cf.allTo (Cf.entryC cls) (m + 1) = true) := by show (_ && _) = true; rw [hall.out, hent.out, h1, h2]; rfl
      clear h1 h2 hent hno
      go_wp2_with fail
      refine (within_any _ _ _ _).mono ?_; rw [H1.out]; rintro e1 w1 ⟨rfl, rfl⟩
      go_wp2_with fail
      refine (within_any _ _ _ _).mono ?_; rw [H2.out]; rintro e1 w1 ⟨rfl, rfl⟩
      go_wp2
      go_round
      case rel => exact ⟨m + 1, Cf.gr cls m, by omega, by go_num, rfl, by omega, by omega, hxt, hall2⟩
      case measure => simp [intOf]; omega
   ·obtain rfl : m = cls.length := by omega
    go_wp2;go_ret;exact ⟨ret_bool (by rw [hfin.out, hall.out]), rfl⟩
set_option maxHeartbeats 1000000 in
theorem validConf_any (st rest : Int) (a : Option Addr) (cap : Nat) (cls : List (Int × Int)) (w : World) (h : CRow w a cap cls) :
 Calls Tryz.prog 51 #[.agg #[.int .i64 st, .int .i64 rest, .slice a cls.length cap]] w fun e w' => e = .returned (.bool (Cf.validB st rest cls)) ∧ Below w.heap.size w w' := by
 have HV : Hid (Cf.validB st rest cls = (withinB st 0 16 && withinB rest 0 16 && Cf.classesC cls)) := by
  show _ = _;rw [Cf.classes_eq]; simp [Cf.headB, withinB, Bool.and_assoc]
 have HC : Hid (CRow w a cap cls) := h;clear h
 cases h1 : withinB st 0 16
 ·have H1 : Hid (withinB st 0 16 = false) := h1;have hff : Hid (Cf.validB st rest cls = false) := by show _ = _; rw [HV.out, h1]; rfl
  clear h1;go_enter Tryz.func51, Tryz.ntmps51
  go_wp2_with (go_at_call 52; refine (within_any _ _ _ _).mono ?_; rw [H1.out]; rintro e1 w1 ⟨rfl, rfl⟩)
  go_ret;exact ⟨ret_bool hff.out.symm, (Below.refl _ _).alloc (Nat.le_refl _) _⟩
 ·cases h2 : withinB rest 0 16
  ·have H1 : Hid (withinB st 0 16 = true) := h1;have H2 : Hid (withinB rest 0 16 = false) := h2;have hff : Hid (Cf.validB st rest cls = false) := by show _ = _; rw [HV.out, h1, h2]; rfl
   clear h1 h2;go_enter Tryz.func51, Tryz.ntmps51
   go_wp2_with fail
   refine (within_any _ _ _ _).mono ?_; rw [H1.out]; rintro e1 w1 ⟨rfl, rfl⟩
   go_wp2_with fail
   refine (within_any _ _ _ _).mono ?_; rw [H2.out]; rintro e1 w1 ⟨rfl, rfl⟩
   go_wp2;go_ret;exact ⟨ret_bool hff.out.symm, (Below.refl _ _).alloc (Nat.le_refl _) _⟩
  ·have H1 : Hid (withinB st 0 16 = true) := h1;have H2 : Hid (withinB rest 0 16 = true) := h2;have hff : Hid (Cf.validB st rest cls = Cf.classesC cls) := by show _ = _; rw [HV.out, h1, h2]; rfl
   clear h1 h2;go_enter Tryz.func51, Tryz.ntmps51
   go_wp2_with fail
   refine (within_any _ _ _ _).mono ?_; rw [H1.out]; rintro e1 w1 ⟨rfl, rfl⟩
   go_wp2_with fail
   refine (within_any _ _ _ _).mono ?_; rw [H2.out]; rintro e1 w1 ⟨rfl, rfl⟩
   go_wp2_with (go_at_call 73; refine (classes_any _ cap cls _ (HC.out.below ((Below.refl _ _).alloc (Nat.le_refl _) _))).mono ?_; rintro e1 w1 ⟨rfl, rfl⟩)
   go_ret;exact ⟨ret_bool hff.out.symm, (Below.refl _ _).alloc (Nat.le_refl _) _⟩
end Go.Proofs.YtjikemhmnkckcabGreat
namespace Go.Proofs.YtjikemhmnkckcabGreat
open Go.RowKit
def opKinds (op : Int) : List Nat :=
 if op = 0 ∨ op = 8 ∨ op = 9 ∨ op = 12 then [82, 90, 90]
 else if op = 1 ∨ op = 10 then [82, 66, 66]
 else if op = 2 ∨ op = 3 ∨ op = 4 ∨ op = 5 ∨ op = 13 ∨ op = 19 then [82, 82, 82]
 else if op = 6 then [84, 90, 90]
 else if op = 7 then [82, 84, 90]
 else if op = 11 ∨ op = 14 then [82, 82, 90]
 else if op = 15 ∨ op = 16 ∨ op = 17 ∨ op = 18 then [82, 82, 66]
 else []
def kindB (k : Int) (v n : Int) : Bool := if k = 82 then withinB v 0 7 else if k = 66 then withinB v 0 255 else if k = 84 then withinB v 0 (n - 1) else withinB v 0 0
def mayB (op a b c n : Int) : Bool := match opKinds op with
 | [x, y, z] => kindB x a n && kindB y b n && kindB z c n
 | _ => false
def kindsV (op : Int) : Value := .string ⟨((opKinds op).map UInt8.ofNat).toArray⟩
theorem opKinds_none {op : Int} (h : op < 0 ∨ 19 < op) : opKinds op = [] := by
 unfold opKinds;rw [if_neg (by omega), if_neg (by omega), if_neg (by omega), if_neg (by omega), if_neg (by omega), if_neg (by omega), if_neg (by omega)]
theorem op_cases {op : Int} (h : ¬ (op < 0 ∨ 19 < op)) : op = 0 ∨ op = 1 ∨ op = 2 ∨ op = 3 ∨ op = 4 ∨ op = 5 ∨ op = 6 ∨ op = 7 ∨ op = 8 ∨ op = 9 ∨ op = 10 ∨ op = 11 ∨ op = 12 ∨ op = 13 ∨ op = 14 ∨ op = 15 ∨ op = 16 ∨ op = 17 ∨ op = 18 ∨ op = 19 := by omega
set_option maxRecDepth 100000 in
set_option maxHeartbeats 1600000 in
theorem operands_any (op : Int) (w : World) : Calls Tryz.prog 74 #[.int .i64 op] w fun e w' => e = .returned (kindsV op) ∧ w = w' := by
 by_cases h : op < 0 ∨ 19 < op
 ·have HF : Hid (kindsV op = .string ⟨#[]⟩) := by show _ = _; unfold kindsV; rw [opKinds_none h]; rfl
  have q0 : (op == 0) = false := by rw [beq_eq_false_iff_ne]; omega
  have q1 : (op == 1) = false := by rw [beq_eq_false_iff_ne]; omega
  have q2 : (op == 2) = false := by rw [beq_eq_false_iff_ne]; omega
  have q3 : (op == 3) = false := by rw [beq_eq_false_iff_ne]; omega
  have q4 : (op == 4) = false := by rw [beq_eq_false_iff_ne]; omega
  have q5 : (op == 5) = false := by rw [beq_eq_false_iff_ne]; omega
  have q6 : (op == 6) = false := by rw [beq_eq_false_iff_ne]; omega
  have q7 : (op == 7) = false := by rw [beq_eq_false_iff_ne]; omega
  have q8 : (op == 8) = false := by rw [beq_eq_false_iff_ne]; omega
  have q9 : (op == 9) = false := by rw [beq_eq_false_iff_ne]; omega
  have q10 : (op == 10) = false := by rw [beq_eq_false_iff_ne]; omega
  have q11 : (op == 11) = false := by rw [beq_eq_false_iff_ne]; omega
  have q12 : (op == 12) = false := by rw [beq_eq_false_iff_ne]; omega
  have q13 : (op == 13) = false := by rw [beq_eq_false_iff_ne]; omega
  have q14 : (op == 14) = false := by rw [beq_eq_false_iff_ne]; omega
  have q15 : (op == 15) = false := by rw [beq_eq_false_iff_ne]; omega
  have q16 : (op == 16) = false := by rw [beq_eq_false_iff_ne]; omega
  have q17 : (op == 17) = false := by rw [beq_eq_false_iff_ne]; omega
  have q18 : (op == 18) = false := by rw [beq_eq_false_iff_ne]; omega
  have q19 : (op == 19) = false := by rw [beq_eq_false_iff_ne]; omega
  clear h;go_enter Tryz.func74, Tryz.ntmps74;go_wp2;go_ret;exact ⟨by rw [HF.out]; rfl, rfl⟩
 ·rcases op_cases h with rfl | rfl | rfl | rfl | rfl | rfl | rfl | rfl | rfl | rfl | rfl | rfl | rfl | rfl | rfl | rfl | rfl | rfl | rfl | rfl
  all_goals
   clear h;go_enter Tryz.func74, Tryz.ntmps74;go_wp2;go_ret;exact ⟨rfl, rfl⟩
set_option maxRecDepth 100000 in
set_option maxHeartbeats 1600000 in
theorem validOperand_any (k v n : Int) (w : World) (n0 : -9223372036854775807 ≤ n) (n1 : n ≤ 9223372036854775807) : Calls Tryz.prog 75 #[.int .u8 k, .int .i64 v, .int .i64 n] w fun e w' => e = .returned (.bool (kindB k v n)) ∧ w = w' := by
 have HF : Hid (kindB k v n = if k = 82 then withinB v 0 7 else if k = 66 then withinB v 0 255 else if k = 84 then withinB v 0 (n - 1) else withinB v 0 0) := rfl;generalize kindB k v n = res at *
 by_cases c1 : k = 82
 ·rw [if_pos c1] at HF;subst c1;go_enter Tryz.func75, Tryz.ntmps75
  go_wp2_with (go_at_call 52; refine (within_any v 0 7 _).mono ?_; rintro e1 w1 ⟨rfl, rfl⟩)
  go_ret;exact ⟨by rw [HF.out]; rfl, rfl⟩
 ·rw [if_neg c1] at HF;have b1 : (k == 82) = false := by rw [beq_eq_false_iff_ne]; exact c1
  by_cases c2 : k = 66
  ·rw [if_pos c2] at HF;subst c2;go_enter Tryz.func75, Tryz.ntmps75
   go_wp2_with (go_at_call 52; refine (within_any v 0 255 _).mono ?_; rintro e1 w1 ⟨rfl, rfl⟩)
   go_ret;exact ⟨by rw [HF.out]; rfl, rfl⟩
  ·rw [if_neg c2] at HF;have b2 : (k == 66) = false := by rw [beq_eq_false_iff_ne]; exact c2
   by_cases c3 : k = 84
   ·rw [if_pos c3] at HF;subst c3;go_enter Tryz.func75, Tryz.ntmps75
    go_wp2_with (go_at_call 52; refine (within_any v 0 (n - 1) _).mono ?_; rintro e1 w1 ⟨rfl, rfl⟩)
    go_ret;exact ⟨by rw [HF.out]; rfl, rfl⟩
   ·rw [if_neg c3] at HF;have b3 : (k == 84) = false := by rw [beq_eq_false_iff_ne]; exact c3
    clear c1 c2 c3;go_enter Tryz.func75, Tryz.ntmps75
    go_wp2_with (go_at_call 52; refine (within_any v 0 0 _).mono ?_; rintro e1 w1 ⟨rfl, rfl⟩)
    go_ret;exact ⟨by rw [HF.out]; rfl, rfl⟩
theorem opKinds_some {op : Int} (h : ¬ (op < 0 ∨ 19 < op)) : opKinds op = [82, 90, 90] ∨ opKinds op = [82, 66, 66] ∨ opKinds op = [82, 82, 82] ∨ opKinds op = [84, 90, 90] ∨ opKinds op = [82, 84, 90] ∨ opKinds op = [82, 82, 90] ∨ opKinds op = [82, 82, 66] := by
 rcases op_cases h with rfl | rfl | rfl | rfl | rfl | rfl | rfl | rfl | rfl | rfl | rfl | rfl | rfl | rfl | rfl | rfl | rfl | rfl | rfl | rfl <;> decide
def restB (x y z a b c n : Int) (m : Nat) : Bool := (decide (0 < m) || kindB x a n) && (decide (1 < m) || kindB y b n) && (decide (2 < m) || kindB z c n)
set_option maxRecDepth 100000 in
set_option maxHeartbeats 1600000 in
theorem validInstr_no (op a b c n : Int) (w : World) (h : op < 0 ∨ 19 < op) :
 Calls Tryz.prog 53 #[.agg #[.int .i64 op, .int .i64 a, .int .i64 b, .int .i64 c], .int .i64 n] w fun e w' => e = .returned (.bool (mayB op a b c n)) ∧ Below w.heap.size w w' := by
 have HM : Hid (mayB op a b c n = false) := by show _ = _; unfold mayB; rw [opKinds_none h]
 have HK : Hid (kindsV op = .string ⟨#[]⟩) := by show _ = _; unfold kindsV; rw [opKinds_none h]; rfl
 rw [HM.out];clear h;go_enter Tryz.func53, Tryz.ntmps53
 go_wp2_with (go_at_call 74; refine (operands_any op _).mono ?_; rw [HK.out]; rintro e2 w2 ⟨rfl, rfl⟩)
 go_ret;exact ⟨rfl, ((Below.refl _ _).alloc (Nat.le_refl _) _).alloc (by simp) _⟩
set_option maxRecDepth 100000 in
set_option maxHeartbeats 3200000 in
theorem validInstr_at (op a b c n : Int) (x y z : Nat) (w : World) (n0 : 0 ≤ n) (n1 : n ≤ 9223372036854775807) (hx : x < 256) (hy : y < 256) (hz : z < 256) (hk : opKinds op = [x, y, z]) :
 Calls Tryz.prog 53 #[.agg #[.int .i64 op, .int .i64 a, .int .i64 b, .int .i64 c], .int .i64 n] w fun e w' => e = .returned (.bool (mayB op a b c n)) ∧ Below w.heap.size w w' := by
 have HM : Hid (mayB op a b c n = restB x y z a b c n 0) := by show _ = _; unfold mayB restB; rw [hk]; simp
 have HK : Hid (kindsV op = .string ⟨#[UInt8.ofNat x, UInt8.ofNat y, UInt8.ofNat z]⟩) := by show _ = _; unfold kindsV; rw [hk]; rfl
 have hux : (((UInt8.ofNat x).toNat : Nat) : Int) = (x : Int) := by rw [UInt8.toNat_ofNat']; omega
 have huy : (((UInt8.ofNat y).toNat : Nat) : Int) = (y : Int) := by rw [UInt8.toNat_ofNat']; omega
 have huz : (((UInt8.ofNat z).toNat : Nat) : Int) = (z : Int) := by rw [UInt8.toNat_ofNat']; omega
 generalize mayB op a b c n = res at *;clear hk;go_enter Tryz.func53, Tryz.ntmps53
 go_wp2_with fail
 obtain ⟨w1, hw1⟩ : ∃ w1, w1 = (w.alloc (.cells #[.int .i64 op, .int .i64 a, .int .i64 b, .int .i64 c] 60)).alloc (.cells #[.int .i64 a, .int .i64 b, .int .i64 c] 143) := ⟨_, rfl⟩
 rw [← hw1];have hb1 : Below w.heap.size w w1 := by rw [hw1]; exact ((Below.refl _ _).alloc (Nat.le_refl _) _).alloc (by simp) _
 have HG : Hid (Blk w1 (w.heap.size + 1) 143 [.int .i64 a, .int .i64 b, .int .i64 c]) := by
  show Blk _ _ _ _;rw [hw1];have := Blk.alloc (w.alloc (.cells #[.int .i64 op, .int .i64 a, .int .i64 b, .int .i64 c] 60)) 143 [.int .i64 a, .int .i64 b, .int .i64 c];rw [World.size_alloc] at this;exact this
 have HB1 := hide2 hb1;obtain ⟨gb, hgb⟩ : ∃ gb, gb = w.heap.size + 1 := ⟨_, rfl⟩
 rw [← hgb] at HG ⊢;clear hw1 hb1 hgb;refine (operands_any op w1).mono ?_;rw [HK.out];rintro e2 w2 ⟨rfl, rfl⟩;go_wp2
 go_loopw [7] (fun i wr => ∃ m : Nat, m ≤ 3 ∧ i = .int .i64 (m : Int) ∧ Below w.heap.size w wr ∧ Hid (Blk wr gb 143 [.int .i64 a, .int .i64 b, .int .i64 c]) ∧ Hid (res = restB x y z a b c n m)) (fun i _ => 3 - (intOf i).toNat)
 case atStart => exact ⟨0, by omega, rfl, HB1.out, HG, HM⟩
 case round =>
  obtain ⟨m, hm, rfl, hb, HGR, HRS⟩ := hrel;have HB := hide2 hb;have hgl := HGR.out.lt;have a0 := HGR.out.cell (j := 0) rfl;have a1 := HGR.out.cell (j := 1) rfl;have a2 := HGR.out.cell (j := 2) rfl;clear hb
  by_cases h3 : m = 3
  ·subst h3;have HT : Hid (res = true) := by show _ = _; rw [HRS.out]; rfl
   go_wp2;go_ret;exact ⟨by rw [HT.out]; rfl, HB.out⟩
  ·by_cases h0 : m = 0
   ·subst h0
    cases hv : kindB x a n
    ·have HT : Hid (res = false) := by show _ = _; rw [HRS.out]; unfold restB; rw [hv]; simp
     have HVx : Hid (kindB (((UInt8.ofNat x).toNat : Nat) : Int) a n = false) := by show _ = _; rw [hux]; exact hv
     clear hv
     go_wp2_with fail
     go_quiet (first | (go_at_call 75; refine Calls.quiet_of_same ((validOperand_any _ a n _ (by omega) n1).mono (fun _ _ h => ⟨h.1.trans (congrArg (fun b => Ending.returned (Value.bool b)) (HVx.out)), h.2.symm⟩))))
     go_wp2;go_ret;exact ⟨by rw [HT.out]; rfl, below_drewN HB.out _⟩
    ·have HT : Hid (res = restB x y z a b c n 1) := by show _ = _; rw [HRS.out]; unfold restB; rw [hv]; simp
     have HVx : Hid (kindB (((UInt8.ofNat x).toNat : Nat) : Int) a n = true) := by show _ = _; rw [hux]; exact hv
     clear hv
     go_wp2_with fail
     go_quiet (first | (go_at_call 75; refine Calls.quiet_of_same ((validOperand_any _ a n _ (by omega) n1).mono (fun _ _ h => ⟨h.1.trans (congrArg (fun b => Ending.returned (Value.bool b)) (HVx.out)), h.2.symm⟩))))
     go_wp2
     go_roundw
     case rel => exact ⟨1, by omega, by go_num, below_drewN HB.out _, HGR.out.below (below_drewN (Below.refl wr.heap.size wr) _) hgl, HT⟩
     case measure => simp [intOf]
   ·by_cases h1 : m = 1
    ·subst h1
     cases hv : kindB y b n
     ·have HT : Hid (res = false) := by show _ = _; rw [HRS.out]; unfold restB; rw [hv]; simp
      have HVy : Hid (kindB (((UInt8.ofNat y).toNat : Nat) : Int) b n = false) := by show _ = _; rw [huy]; exact hv
      clear hv
      go_wp2_with fail
      go_quiet (first | (go_at_call 75; refine Calls.quiet_of_same ((validOperand_any _ b n _ (by omega) n1).mono (fun _ _ h => ⟨h.1.trans (congrArg (fun b => Ending.returned (Value.bool b)) (HVy.out)), h.2.symm⟩))))
      go_wp2;go_ret;exact ⟨by rw [HT.out]; rfl, below_drewN HB.out _⟩
     ·have HT : Hid (res = restB x y z a b c n 2) := by show _ = _; rw [HRS.out]; unfold restB; rw [hv]; simp
      have HVy : Hid (kindB (((UInt8.ofNat y).toNat : Nat) : Int) b n = true) := by show _ = _; rw [huy]; exact hv
      clear hv
      go_wp2_with fail
      go_quiet (first | (go_at_call 75; refine Calls.quiet_of_same ((validOperand_any _ b n _ (by omega) n1).mono (fun _ _ h => ⟨h.1.trans (congrArg (fun b => Ending.returned (Value.bool b)) (HVy.out)), h.2.symm⟩))))
      go_wp2
      go_roundw
      case rel => exact ⟨2, by omega, by go_num, below_drewN HB.out _, HGR.out.below (below_drewN (Below.refl wr.heap.size wr) _) hgl, HT⟩
      case measure => simp [intOf]
    ·obtain rfl : m = 2 := by omega
     cases hv : kindB z c n
     ·have HT : Hid (res = false) := by show _ = _; rw [HRS.out]; unfold restB; rw [hv]; simp
      have HVz : Hid (kindB (((UInt8.ofNat z).toNat : Nat) : Int) c n = false) := by show _ = _; rw [huz]; exact hv
      clear hv
      go_wp2_with fail
      go_quiet (first | (go_at_call 75; refine Calls.quiet_of_same ((validOperand_any _ c n _ (by omega) n1).mono (fun _ _ h => ⟨h.1.trans (congrArg (fun b => Ending.returned (Value.bool b)) (HVz.out)), h.2.symm⟩))))
      go_wp2;go_ret;exact ⟨by rw [HT.out]; rfl, below_drewN HB.out _⟩
     ·have HT : Hid (res = restB x y z a b c n 3) := by show _ = _; rw [HRS.out]; unfold restB; rw [hv]; simp
      have HVz : Hid (kindB (((UInt8.ofNat z).toNat : Nat) : Int) c n = true) := by show _ = _; rw [huz]; exact hv
      clear hv
      go_wp2_with fail
      go_quiet (first | (go_at_call 75; refine Calls.quiet_of_same ((validOperand_any _ c n _ (by omega) n1).mono (fun _ _ h => ⟨h.1.trans (congrArg (fun b => Ending.returned (Value.bool b)) (HVz.out)), h.2.symm⟩))))
      go_wp2
      go_roundw
      case rel => exact ⟨3, by omega, by go_num, below_drewN HB.out _, HGR.out.below (below_drewN (Below.refl wr.heap.size wr) _) hgl, HT⟩
      case measure => simp [intOf]
theorem validInstr_any (op a b c n : Int) (w : World) (n0 : 0 ≤ n) (n1 : n ≤ 9223372036854775807) :
 Calls Tryz.prog 53 #[.agg #[.int .i64 op, .int .i64 a, .int .i64 b, .int .i64 c], .int .i64 n] w fun e w' => e = .returned (.bool (mayB op a b c n)) ∧ Below w.heap.size w w' := by
 by_cases h : op < 0 ∨ 19 < op
 ·exact validInstr_no op a b c n w h
 ·rcases opKinds_some h with hk | hk | hk | hk | hk | hk | hk
  all_goals exact validInstr_at op a b c n _ _ _ w n0 n1 (by decide) (by decide) (by decide) hk
end Go.Proofs.YtjikemhmnkckcabGreat
