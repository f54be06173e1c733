import Derived.Test.YtjikemhmnkckcabJ38
import Derived.Test.YtjikemhmnkckcabJ7
import Derived.WalkLawsBesides
import Derived.Deep.RegionHeld3
import Derived.Deep.AppendLies
import Derived.Deep.DrawnRows
import Derived.Deep.RegionLaw
namespace Go.Proofs.Ytjikemhmnkckcab
open Go.RowKit
attribute [local go_sem ↓] Go.wp_at_zero Go.wp_at_succ

set_option maxRecDepth 100000 in
set_option maxHeartbeats 3200000 in
theorem kfit_none (st rest : Int) (a : Option Addr) (cap : Nat) (w : World) (b0 : -9223372036854775808 ≤ st) (b1 : st ≤ 9223372036854775807) (b2 : -9223372036854775808 ≤ rest) (b3 : rest ≤ 9223372036854775807) :
    Calls Try.prog 31 #[.agg #[.int .i64 st, .int .i64 rest, .slice a 0 cap]] w fun e w' => ∃ v, e = .returned (.agg #[.int .i64 (kpick st 17), .int .i64 (kpick rest 17), v]) ∧
      w'.ownsRow 0 37 2 v 1 [.int .i64 1, .int .i64 1] ∧ Below w.heap.size w w' ∧ ∀ g, v.ownBlock = some g → w.heap.size ≤ g := by
  go_enter Try.func31, Try.ntmps31
  go_wp2_with fail
  obtain ⟨wa, hwa⟩ : ∃ wa, wa = ((w.alloc (.cells #[.int .i64 st, .int .i64 rest, .slice a 0 cap] 24)).alloc (.cells #[.int .i64 0, .int .i64 0, .slice none 0 0] 24)) := ⟨_, rfl⟩
  rw [← hwa]
  have c0 : wa.cell? ⟨w.heap.size, 0, none⟩ = some (.int .i64 st) := by rw [hwa, World.cell?_alloc_lt _ _ _ (by show w.heap.size < _; simp)]; exact World.cell?_alloc_new _ _ _ _
  have c1 : wa.cell? ⟨w.heap.size, 1, none⟩ = some (.int .i64 rest) := by rw [hwa, World.cell?_alloc_lt _ _ _ (by show w.heap.size < _; simp)]; exact World.cell?_alloc_new _ _ _ _
  have c2 : wa.cell? ⟨w.heap.size, 2, none⟩ = some (.slice a 0 cap) := by rw [hwa, World.cell?_alloc_lt _ _ _ (by show w.heap.size < _; simp)]; exact World.cell?_alloc_new _ _ _ _
  have HBA : Hid (Below w.heap.size w wa) := by show Below _ _ _; rw [hwa]; exact ((Below.refl _ _).alloc (Nat.le_refl _) _).alloc (by simp) _
  have HFA : Hid (Blk wa (w.heap.size + 1) 24 [.int .i64 0, .int .i64 0, .slice none 0 0]) := by
    show Blk _ _ _ _
    rw [hwa]
    have := Blk.alloc (w.alloc (.cells #[.int .i64 st, .int .i64 rest, .slice a 0 cap] 24)) 24 [.int .i64 0, .int .i64 0, .slice none 0 0]
    rwa [World.size_alloc] at this
  have HSA : Hid (wa.heap.size = w.heap.size + 2) := by show _ = _; rw [hwa]; simp
  have hsa : w.heap.size < wa.heap.size := by rw [HSA.out]; omega
  clear hwa
  refine (fun (key : Unit → ?T) => ?region) (fun _ => ?pf)
  case region =>
    go_region_held3 (fun w' => w'.cell? ⟨w.heap.size, 0, none⟩ = some (.int .i64 st) ∧ w'.cell? ⟨w.heap.size, 1, none⟩ = some (.int .i64 rest)) (go_keep)
      (first | (go_at_call 20; refine (kpick_any _ _ _ (by omega) (by omega) (by omega)).mono ?_; rintro e1 w1 ⟨rfl, rfl⟩))
    all_goals exact key ()
  generalize hst : kpick st 17 = st'
  generalize hrs : kpick rest 17 = rest'
  obtain ⟨wf, hwf⟩ : ∃ wf, wf = (wa.alloc (.cells #[.int .i64 st', .int .i64 rest', .slice none 0 0] 24)).drew := ⟨_, rfl⟩
  rw [← hwf]
  have e2 : wf.cell? ⟨w.heap.size, 2, none⟩ = some (.slice a 0 cap) := by rw [hwf, World.cell?_drew, World.cell?_alloc_lt _ _ _ hsa]; exact c2
  have HBF : Hid (Below w.heap.size w wf) := by show Below _ _ _; rw [hwf]; exact (HBA.out.alloc HBA.out.size _).drew
  have HFF : Hid (Blk wf wa.heap.size 24 [.int .i64 st', .int .i64 rest', .slice none 0 0]) := by show Blk _ _ _ _; rw [hwf]; exact Blk.alloc _ _ _
  have HFR : Hid (Blk wf (w.heap.size + 1) 24 [.int .i64 0, .int .i64 0, .slice none 0 0]) := by
    show Blk _ _ _ _
    rw [hwf]
    exact (Below.heap_alloc wa _ _ (by rw [HSA.out]; omega) : _).trans HFA.out
  have hsf : wf.heap.size = wa.heap.size + 1 := by rw [hwf, World.size_drew, World.size_alloc]
  clear hwf c0 c1 c2
  go_wp2_with fail
  go_loopw [6] (fun i wr => i = .int .i64 0 ∧ wr = wf) (fun _ _ => 0)
  case atStart => exact ⟨rfl, rfl⟩
  case round =>
    obtain ⟨rfl, rfl⟩ := hrel
    have HFF2 : Hid (Blk (wr.alloc (.cells #[.int .i64 1, .int .i64 1] 37)) wa.heap.size 24 [.int .i64 st', .int .i64 rest', .slice none 0 0]) := (Below.heap_alloc wr _ _ (by omega) : _).trans HFF.out
    have HFR2 : Hid (Blk (wr.alloc (.cells #[.int .i64 1, .int .i64 1] 37)) (w.heap.size + 1) 24 [.int .i64 0, .int .i64 0, .slice none 0 0]) := (Below.heap_alloc wr _ _ HFR.out.lt : _).trans HFR.out
    have o0 := HFF2.out.cell (j := 0) rfl
    have o1 := HFF2.out.cell (j := 1) rfl
    have o2 := HFF2.out.cell (j := 2) rfl
    have of2 := HFF2.out.frozen 2
    have p0 := HFR2.out.cell (j := 0) rfl
    have p1 := HFR2.out.cell (j := 1) rfl
    have p2 := HFR2.out.cell (j := 2) rfl
    have f0 := HFR2.out.frozen 0
    have f1 := HFR2.out.frozen 1
    have f2 := HFR2.out.frozen 2
    have HSF := hide2 hsf
    have hne : w.heap.size + 1 ≠ wa.heap.size := by rw [HSA.out]; omega
    have hne2 : wa.heap.size ≠ w.heap.size + 1 := fun e => hne e.symm
    clear e2 hsf
    go_wp2
    have hge : w.heap.size ≤ w.heap.size + 1 := Nat.le_succ _
    have hsw := HSF.out
    have hsa2 := HSA.out
    refine bodyPost_ret (v := .agg #[.int .i64 st', .int .i64 rest', .slice (some ⟨wr.heap.size, 0, none⟩) 1 1]) (by simp [results, Try.results31, go_sem, p0, p1, p2]) rfl ⟨_, by rw [hst, hrs], ?_, ((((HBF.out.alloc HBF.out.size _).setCell (p := ⟨wa.heap.size, 2, none⟩) (by show _ ≤ wa.heap.size; omega) _).setCell (p := ⟨w.heap.size + 1, 0, none⟩) hge _).setCell (p := ⟨w.heap.size + 1, 1, none⟩) hge _).setCell (p := ⟨w.heap.size + 1, 2, none⟩) hge _, fun g hg => ?_⟩
    · have hrw : (wr.alloc (.cells #[.int .i64 1, .int .i64 1] 37)).ownsRow 0 37 2 (.slice (some ⟨wr.heap.size, 0, none⟩) 1 1) 1 [.int .i64 1, .int .i64 1] :=
        ⟨rfl, .inr ⟨wr.heap.size, 1, _, rfl, Nat.zero_le _, heap_alloc_new wr _, Nat.le_refl _, by unfold maxLen; omega, rfl, rfl⟩⟩
      refine row_kept hrw (fun g hg => ?_)
      obtain rfl : wr.heap.size = g := by simpa [Value.ownBlock] using hg
      rw [Below.heap_setCell _ _ _ _ (by show wr.heap.size ≠ w.heap.size + 1; omega), Below.heap_setCell _ _ _ _ (by show wr.heap.size ≠ w.heap.size + 1; omega), Below.heap_setCell _ _ _ _ (by show wr.heap.size ≠ w.heap.size + 1; omega), Below.heap_setCell _ _ _ _ (by show wr.heap.size ≠ wa.heap.size; omega)]
    · obtain rfl : wr.heap.size = g := by simpa [Value.ownBlock] using hg
      omega

theorem kfit_any (st rest : Int) (a : Option Addr) (cap : Nat) (cls : List (Int × Int)) (w : World) (h : CRow w a cap cls) (b0 : -9223372036854775808 ≤ st) (b1 : st ≤ 9223372036854775807) (b2 : -9223372036854775808 ≤ rest) (b3 : rest ≤ 9223372036854775807) :
    Calls Try.prog 31 #[.agg #[.int .i64 st, .int .i64 rest, .slice a cls.length cap]] w fun e w' => ∃ v, e = .returned (.agg #[.int .i64 (kpick st 17), .int .i64 (kpick rest 17), v]) ∧
      w'.ownsRow 0 37 2 v (kfit cls).length ((kfit cls).flatMap clsCells) ∧ Below w.heap.size w w' ∧ ∀ g, v.ownBlock = some g → w.heap.size ≤ g := by
  by_cases h0 : cls.length = 0
  · obtain rfl : cls = [] := List.length_eq_zero_iff.1 h0
    exact kfit_none st rest a cap w b0 b1 b2 b3
  · by_cases h4 : 4 < cls.length
    · exact kfit_big st rest a cap cls w h h4 b0 b1 b2 b3
    · exact kfit_small st rest a cap cls w h (by omega) (by omega) b0 b1 b2 b3
end Go.Proofs.Ytjikemhmnkckcab
/- For the images: a configuration in memory, on both sides, is in CodeConf and what it imports. -/
/- An instruction that may stand in a program, on both sides. -/
namespace Go.Proofs.Ytjikemhmnkckcab
open Go.RowKit

/-- the letters of an operation: R 82, B 66, T 84, Z 90 -/
def opKinds (op : Int) : List Nat :=
  if op = 0 ∨ op = 8 ∨ op = 9 ∨ op = 12 then [82, 90, 90]
  else if op = 1 ∨ op = 10 then [82, 66, 66]
  else if op = 2 ∨ op = 3 ∨ op = 4 ∨ op = 5 ∨ op = 13 ∨ op = 19 then [82, 82, 82]
  else if op = 6 then [84, 90, 90]
  else if op = 7 then [82, 84, 90]
  else if op = 11 ∨ op = 14 then [82, 82, 90]
  else if op = 15 ∨ op = 16 ∨ op = 17 ∨ op = 18 then [82, 82, 66]
  else []
def kindB (k : Int) (v n : Int) : Bool := if k = 82 then withinB v 0 7 else if k = 66 then withinB v 0 255 else if k = 84 then withinB v 0 (n - 1) else withinB v 0 0
def mayB (op a b c n : Int) : Bool := match opKinds op with
  | [x, y, z] => kindB x a n && kindB y b n && kindB z c n
  | _ => false
def kindsV (op : Int) : Value := .string ⟨((opKinds op).map UInt8.ofNat).toArray⟩
theorem opKinds_none {op : Int} (h : op < 0 ∨ 19 < op) : opKinds op = [] := by
  unfold opKinds
  rw [if_neg (by omega), if_neg (by omega), if_neg (by omega), if_neg (by omega), if_neg (by omega), if_neg (by omega), if_neg (by omega)]
theorem op_cases {op : Int} (h : ¬ (op < 0 ∨ 19 < op)) : op = 0 ∨ op = 1 ∨ op = 2 ∨ op = 3 ∨ op = 4 ∨ op = 5 ∨ op = 6 ∨ op = 7 ∨ op = 8 ∨ op = 9 ∨ op = 10 ∨ op = 11 ∨ op = 12 ∨ op = 13 ∨ op = 14 ∨ op = 15 ∨ op = 16 ∨ op = 17 ∨ op = 18 ∨ op = 19 := by omega

set_option maxRecDepth 100000 in
set_option maxHeartbeats 1600000 in
theorem operands_any (op : Int) (w : World) : Calls Try.prog 50 #[.int .i64 op] w fun e w' => e = .returned (kindsV op) ∧ w = w' := by
  by_cases h : op < 0 ∨ 19 < op
  · have HF : Hid (kindsV op = .string ⟨#[]⟩) := by show _ = _; unfold kindsV; rw [opKinds_none h]; rfl
    have q0 : (op == 0) = false := by rw [beq_eq_false_iff_ne]; omega
    have q1 : (op == 1) = false := by rw [beq_eq_false_iff_ne]; omega
    have q2 : (op == 2) = false := by rw [beq_eq_false_iff_ne]; omega
    have q3 : (op == 3) = false := by rw [beq_eq_false_iff_ne]; omega
    have q4 : (op == 4) = false := by rw [beq_eq_false_iff_ne]; omega
    have q5 : (op == 5) = false := by rw [beq_eq_false_iff_ne]; omega
    have q6 : (op == 6) = false := by rw [beq_eq_false_iff_ne]; omega
    have q7 : (op == 7) = false := by rw [beq_eq_false_iff_ne]; omega
    have q8 : (op == 8) = false := by rw [beq_eq_false_iff_ne]; omega
    have q9 : (op == 9) = false := by rw [beq_eq_false_iff_ne]; omega
    have q10 : (op == 10) = false := by rw [beq_eq_false_iff_ne]; omega
    have q11 : (op == 11) = false := by rw [beq_eq_false_iff_ne]; omega
    have q12 : (op == 12) = false := by rw [beq_eq_false_iff_ne]; omega
    have q13 : (op == 13) = false := by rw [beq_eq_false_iff_ne]; omega
    have q14 : (op == 14) = false := by rw [beq_eq_false_iff_ne]; omega
    have q15 : (op == 15) = false := by rw [beq_eq_false_iff_ne]; omega
    have q16 : (op == 16) = false := by rw [beq_eq_false_iff_ne]; omega
    have q17 : (op == 17) = false := by rw [beq_eq_false_iff_ne]; omega
    have q18 : (op == 18) = false := by rw [beq_eq_false_iff_ne]; omega
    have q19 : (op == 19) = false := by rw [beq_eq_false_iff_ne]; omega
    clear h
    go_enter Try.func50, Try.ntmps50
    go_wp2
    go_ret
    exact ⟨by rw [HF.out]; rfl, rfl⟩
  · rcases op_cases h with rfl | rfl | rfl | rfl | rfl | rfl | rfl | rfl | rfl | rfl | rfl | rfl | rfl | rfl | rfl | rfl | rfl | rfl | rfl | rfl
    all_goals
      clear h
      go_enter Try.func50, Try.ntmps50
      go_wp2
      go_ret
      exact ⟨rfl, rfl⟩

set_option maxRecDepth 100000 in
set_option maxHeartbeats 1600000 in
theorem validOperand_any (k v n : Int) (w : World) (n0 : -9223372036854775807 ≤ n) (n1 : n ≤ 9223372036854775807) : Calls Try.prog 51 #[.int .u8 k, .int .i64 v, .int .i64 n] w fun e w' => e = .returned (.bool (kindB k v n)) ∧ w = w' := by
  have HF : Hid (kindB k v n = if k = 82 then withinB v 0 7 else if k = 66 then withinB v 0 255 else if k = 84 then withinB v 0 (n - 1) else withinB v 0 0) := rfl
  generalize kindB k v n = res at *
  by_cases c1 : k = 82
  · rw [if_pos c1] at HF
    subst c1
    go_enter Try.func51, Try.ntmps51
    go_wp2_with (go_at_call 42; refine (within_any v 0 7 _).mono ?_; rintro e1 w1 ⟨rfl, rfl⟩)
    go_ret
    exact ⟨by rw [HF.out]; rfl, rfl⟩
  · rw [if_neg c1] at HF
    have b1 : (k == 82) = false := by rw [beq_eq_false_iff_ne]; exact c1
    by_cases c2 : k = 66
    · rw [if_pos c2] at HF
      subst c2
      go_enter Try.func51, Try.ntmps51
      go_wp2_with (go_at_call 42; refine (within_any v 0 255 _).mono ?_; rintro e1 w1 ⟨rfl, rfl⟩)
      go_ret
      exact ⟨by rw [HF.out]; rfl, rfl⟩
    · rw [if_neg c2] at HF
      have b2 : (k == 66) = false := by rw [beq_eq_false_iff_ne]; exact c2
      by_cases c3 : k = 84
      · rw [if_pos c3] at HF
        subst c3
        go_enter Try.func51, Try.ntmps51
        go_wp2_with (go_at_call 42; refine (within_any v 0 (n - 1) _).mono ?_; rintro e1 w1 ⟨rfl, rfl⟩)
        go_ret
        exact ⟨by rw [HF.out]; rfl, rfl⟩
      · rw [if_neg c3] at HF
        have b3 : (k == 84) = false := by rw [beq_eq_false_iff_ne]; exact c3
        clear c1 c2 c3
        go_enter Try.func51, Try.ntmps51
        go_wp2_with (go_at_call 42; refine (within_any v 0 0 _).mono ?_; rintro e1 w1 ⟨rfl, rfl⟩)
        go_ret
        exact ⟨by rw [HF.out]; rfl, rfl⟩
end Go.Proofs.Ytjikemhmnkckcab
/- validInstr. -/
namespace Go.Proofs.Ytjikemhmnkckcab
open Go.RowKit

theorem opKinds_some {op : Int} (h : ¬ (op < 0 ∨ 19 < op)) : opKinds op = [82, 90, 90] ∨ opKinds op = [82, 66, 66] ∨ opKinds op = [82, 82, 82] ∨ opKinds op = [84, 90, 90] ∨ opKinds op = [82, 84, 90] ∨ opKinds op = [82, 82, 90] ∨ opKinds op = [82, 82, 66] := by
  rcases op_cases h with rfl | rfl | rfl | rfl | rfl | rfl | rfl | rfl | rfl | rfl | rfl | rfl | rfl | rfl | rfl | rfl | rfl | rfl | rfl | rfl <;> decide
/-- what is still to be looked at -/
def restB (x y z a b c n : Int) (m : Nat) : Bool := (decide (0 < m) || kindB x a n) && (decide (1 < m) || kindB y b n) && (decide (2 < m) || kindB z c n)

set_option maxRecDepth 100000 in
set_option maxHeartbeats 1600000 in
theorem validInstr_no (op a b c n : Int) (w : World) (h : op < 0 ∨ 19 < op) :
    Calls Try.prog 43 #[.agg #[.int .i64 op, .int .i64 a, .int .i64 b, .int .i64 c], .int .i64 n] w fun e w' => e = .returned (.bool (mayB op a b c n)) ∧ Below w.heap.size w w' := by
  have HM : Hid (mayB op a b c n = false) := by show _ = _; unfold mayB; rw [opKinds_none h]
  have HK : Hid (kindsV op = .string ⟨#[]⟩) := by show _ = _; unfold kindsV; rw [opKinds_none h]; rfl
  rw [HM.out]
  clear h
  go_enter Try.func43, Try.ntmps43
  go_wp2_with (go_at_call 50; refine (operands_any op _).mono ?_; rw [HK.out]; rintro e2 w2 ⟨rfl, rfl⟩)
  go_ret
  exact ⟨rfl, ((Below.refl _ _).alloc (Nat.le_refl _) _).alloc (by simp) _⟩

set_option maxRecDepth 100000 in
set_option maxHeartbeats 3200000 in
theorem validInstr_at (op a b c n : Int) (x y z : Nat) (w : World) (n0 : 0 ≤ n) (n1 : n ≤ 9223372036854775807) (hx : x < 256) (hy : y < 256) (hz : z < 256) (hk : opKinds op = [x, y, z]) :
    Calls Try.prog 43 #[.agg #[.int .i64 op, .int .i64 a, .int .i64 b, .int .i64 c], .int .i64 n] w fun e w' => e = .returned (.bool (mayB op a b c n)) ∧ Below w.heap.size w w' := by
  have HM : Hid (mayB op a b c n = restB x y z a b c n 0) := by show _ = _; unfold mayB restB; rw [hk]; simp
  have HK : Hid (kindsV op = .string ⟨#[UInt8.ofNat x, UInt8.ofNat y, UInt8.ofNat z]⟩) := by show _ = _; unfold kindsV; rw [hk]; rfl
  have hux : (((UInt8.ofNat x).toNat : Nat) : Int) = (x : Int) := by rw [UInt8.toNat_ofNat']; omega
  have huy : (((UInt8.ofNat y).toNat : Nat) : Int) = (y : Int) := by rw [UInt8.toNat_ofNat']; omega
  have huz : (((UInt8.ofNat z).toNat : Nat) : Int) = (z : Int) := by rw [UInt8.toNat_ofNat']; omega
  generalize mayB op a b c n = res at *
  clear hk
  go_enter Try.func43, Try.ntmps43
  go_wp2_with fail
  obtain ⟨w1, hw1⟩ : ∃ w1, w1 = (w.alloc (.cells #[.int .i64 op, .int .i64 a, .int .i64 b, .int .i64 c] 35)).alloc (.cells #[.int .i64 a, .int .i64 b, .int .i64 c] 88) := ⟨_, rfl⟩
  rw [← hw1]
  have hb1 : Below w.heap.size w w1 := by rw [hw1]; exact ((Below.refl _ _).alloc (Nat.le_refl _) _).alloc (by simp) _
  have HG : Hid (Blk w1 (w.heap.size + 1) 88 [.int .i64 a, .int .i64 b, .int .i64 c]) := by
    show Blk _ _ _ _
    rw [hw1]
    have := Blk.alloc (w.alloc (.cells #[.int .i64 op, .int .i64 a, .int .i64 b, .int .i64 c] 35)) 88 [.int .i64 a, .int .i64 b, .int .i64 c]
    rw [World.size_alloc] at this
    exact this
  have HB1 := hide2 hb1
  obtain ⟨gb, hgb⟩ : ∃ gb, gb = w.heap.size + 1 := ⟨_, rfl⟩
  rw [← hgb] at HG ⊢
  clear hw1 hb1 hgb
  refine (operands_any op w1).mono ?_
  rw [HK.out]
  rintro e2 w2 ⟨rfl, rfl⟩
  go_wp2
  go_loopw [7] (fun i wr => ∃ m : Nat, m ≤ 3 ∧ i = .int .i64 (m : Int) ∧ Below w.heap.size w wr ∧ Hid (Blk wr gb 88 [.int .i64 a, .int .i64 b, .int .i64 c]) ∧ Hid (res = restB x y z a b c n m)) (fun i _ => 3 - (intOf i).toNat)
  case atStart => exact ⟨0, by omega, rfl, HB1.out, HG, HM⟩
  case round =>
    obtain ⟨m, hm, rfl, hb, HGR, HRS⟩ := hrel
    have HB := hide2 hb
    have hgl := HGR.out.lt
    have a0 := HGR.out.cell (j := 0) rfl
    have a1 := HGR.out.cell (j := 1) rfl
    have a2 := HGR.out.cell (j := 2) rfl
    clear hb
    by_cases h3 : m = 3
    · subst h3
      have HT : Hid (res = true) := by show _ = _; rw [HRS.out]; rfl
      go_wp2
      go_ret
      exact ⟨by rw [HT.out]; rfl, HB.out⟩
    · by_cases h0 : m = 0
      · subst h0
        cases hv : kindB x a n
        · have HT : Hid (res = false) := by show _ = _; rw [HRS.out]; unfold restB; rw [hv]; simp
          have HVx : Hid (kindB (((UInt8.ofNat x).toNat : Nat) : Int) a n = false) := by show _ = _; rw [hux]; exact hv
          clear hv
          go_wp2_with fail
          go_quiet (first | (go_at_call 51; refine Calls.quiet_of_same ((validOperand_any _ a n _ (by omega) n1).mono (fun _ _ h => ⟨h.1.trans (congrArg (fun b => Ending.returned (Value.bool b)) (HVx.out)), h.2.symm⟩))))
          go_wp2
          go_ret
          exact ⟨by rw [HT.out]; rfl, below_drewN HB.out _⟩
        · have HT : Hid (res = restB x y z a b c n 1) := by show _ = _; rw [HRS.out]; unfold restB; rw [hv]; simp
          have HVx : Hid (kindB (((UInt8.ofNat x).toNat : Nat) : Int) a n = true) := by show _ = _; rw [hux]; exact hv
          clear hv
          go_wp2_with fail
          go_quiet (first | (go_at_call 51; refine Calls.quiet_of_same ((validOperand_any _ a n _ (by omega) n1).mono (fun _ _ h => ⟨h.1.trans (congrArg (fun b => Ending.returned (Value.bool b)) (HVx.out)), h.2.symm⟩))))
          go_wp2
          go_roundw
          case rel => exact ⟨1, by omega, by go_num, below_drewN HB.out _, HGR.out.below (below_drewN (Below.refl wr.heap.size wr) _) hgl, HT⟩
          case measure => simp [intOf]
      · by_cases h1 : m = 1
        · subst h1
          cases hv : kindB y b n
          · have HT : Hid (res = false) := by show _ = _; rw [HRS.out]; unfold restB; rw [hv]; simp
            have HVy : Hid (kindB (((UInt8.ofNat y).toNat : Nat) : Int) b n = false) := by show _ = _; rw [huy]; exact hv
            clear hv
            go_wp2_with fail
            go_quiet (first | (go_at_call 51; refine Calls.quiet_of_same ((validOperand_any _ b n _ (by omega) n1).mono (fun _ _ h => ⟨h.1.trans (congrArg (fun b => Ending.returned (Value.bool b)) (HVy.out)), h.2.symm⟩))))
            go_wp2
            go_ret
            exact ⟨by rw [HT.out]; rfl, below_drewN HB.out _⟩
          · have HT : Hid (res = restB x y z a b c n 2) := by show _ = _; rw [HRS.out]; unfold restB; rw [hv]; simp
            have HVy : Hid (kindB (((UInt8.ofNat y).toNat : Nat) : Int) b n = true) := by show _ = _; rw [huy]; exact hv
            clear hv
            go_wp2_with fail
            go_quiet (first | (go_at_call 51; refine Calls.quiet_of_same ((validOperand_any _ b n _ (by omega) n1).mono (fun _ _ h => ⟨h.1.trans (congrArg (fun b => Ending.returned (Value.bool b)) (HVy.out)), h.2.symm⟩))))
            go_wp2
            go_roundw
            case rel => exact ⟨2, by omega, by go_num, below_drewN HB.out _, HGR.out.below (below_drewN (Below.refl wr.heap.size wr) _) hgl, HT⟩
            case measure => simp [intOf]
        · obtain rfl : m = 2 := by omega
          cases hv : kindB z c n
          · have HT : Hid (res = false) := by show _ = _; rw [HRS.out]; unfold restB; rw [hv]; simp
            have HVz : Hid (kindB (((UInt8.ofNat z).toNat : Nat) : Int) c n = false) := by show _ = _; rw [huz]; exact hv
            clear hv
            go_wp2_with fail
            go_quiet (first | (go_at_call 51; refine Calls.quiet_of_same ((validOperand_any _ c n _ (by omega) n1).mono (fun _ _ h => ⟨h.1.trans (congrArg (fun b => Ending.returned (Value.bool b)) (HVz.out)), h.2.symm⟩))))
            go_wp2
            go_ret
            exact ⟨by rw [HT.out]; rfl, below_drewN HB.out _⟩
          · have HT : Hid (res = restB x y z a b c n 3) := by show _ = _; rw [HRS.out]; unfold restB; rw [hv]; simp
            have HVz : Hid (kindB (((UInt8.ofNat z).toNat : Nat) : Int) c n = true) := by show _ = _; rw [huz]; exact hv
            clear hv
            go_wp2_with fail
            go_quiet (first | (go_at_call 51; refine Calls.quiet_of_same ((validOperand_any _ c n _ (by omega) n1).mono (fun _ _ h => ⟨h.1.trans (congrArg (fun b => Ending.returned (Value.bool b)) (HVz.out)), h.2.symm⟩))))
            go_wp2
            go_roundw
            case rel => exact ⟨3, by omega, by go_num, below_drewN HB.out _, HGR.out.below (below_drewN (Below.refl wr.heap.size wr) _) hgl, HT⟩
            case measure => simp [intOf]

theorem validInstr_any (op a b c n : Int) (w : World) (n0 : 0 ≤ n) (n1 : n ≤ 9223372036854775807) :
    Calls Try.prog 43 #[.agg #[.int .i64 op, .int .i64 a, .int .i64 b, .int .i64 c], .int .i64 n] w fun e w' => e = .returned (.bool (mayB op a b c n)) ∧ Below w.heap.size w w' := by
  by_cases h : op < 0 ∨ 19 < op
  · exact validInstr_no op a b c n w h
  · rcases opKinds_some h with hk | hk | hk | hk | hk | hk | hk
    all_goals exact validInstr_at op a b c n _ _ _ w n0 n1 (by decide) (by decide) (by decide) hk
end Go.Proofs.Ytjikemhmnkckcab
