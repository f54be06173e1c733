import Derived.Test.YtjikemhmnkckcabImgBase
/- An instruction that may stand in a program, on both sides. -/
namespace Go.Proofs.Ytjikemhmnkckcab
open Go.RowKit

/-- the letters of an operation: R 82, B 66, T 84, Z 90 -/
def opKinds (op : Int) : List Nat :=
  if op = 0 ∨ op = 8 ∨ op = 9 ∨ op = 12 then [82, 90, 90]
  else if op = 1 ∨ op = 10 then [82, 66, 66]
  else if op = 2 ∨ op = 3 ∨ op = 4 ∨ op = 5 ∨ op = 13 ∨ op = 19 then [82, 82, 82]
  else if op = 6 then [84, 90, 90]
  else if op = 7 then [82, 84, 90]
  else if op = 11 ∨ op = 14 then [82, 82, 90]
  else if op = 15 ∨ op = 16 ∨ op = 17 ∨ op = 18 then [82, 82, 66]
  else []
def kindB (k : Int) (v n : Int) : Bool := if k = 82 then withinB v 0 7 else if k = 66 then withinB v 0 255 else if k = 84 then withinB v 0 (n - 1) else withinB v 0 0
def mayB (op a b c n : Int) : Bool := match opKinds op with
  | [x, y, z] => kindB x a n && kindB y b n && kindB z c n
  | _ => false
def kindsV (op : Int) : Value := .string ⟨((opKinds op).map UInt8.ofNat).toArray⟩
theorem opKinds_none {op : Int} (h : op < 0 ∨ 19 < op) : opKinds op = [] := by
  unfold opKinds
  rw [if_neg (by omega), if_neg (by omega), if_neg (by omega), if_neg (by omega), if_neg (by omega), if_neg (by omega), if_neg (by omega)]
theorem op_cases {op : Int} (h : ¬ (op < 0 ∨ 19 < op)) : op = 0 ∨ op = 1 ∨ op = 2 ∨ op = 3 ∨ op = 4 ∨ op = 5 ∨ op = 6 ∨ op = 7 ∨ op = 8 ∨ op = 9 ∨ op = 10 ∨ op = 11 ∨ op = 12 ∨ op = 13 ∨ op = 14 ∨ op = 15 ∨ op = 16 ∨ op = 17 ∨ op = 18 ∨ op = 19 := by omega

set_option maxRecDepth 100000 in
set_option maxHeartbeats 1600000 in
theorem operands_any (op : Int) (w : World) : Calls Try.prog 50 #[.int .i64 op] w fun e w' => e = .returned (kindsV op) ∧ w = w' := by
  by_cases h : op < 0 ∨ 19 < op
  · have HF : Hid (kindsV op = .string ⟨#[]⟩) := by show _ = _; unfold kindsV; rw [opKinds_none h]; rfl
    have q0 : (op == 0) = false := by rw [beq_eq_false_iff_ne]; omega
    have q1 : (op == 1) = false := by rw [beq_eq_false_iff_ne]; omega
    have q2 : (op == 2) = false := by rw [beq_eq_false_iff_ne]; omega
    have q3 : (op == 3) = false := by rw [beq_eq_false_iff_ne]; omega
    have q4 : (op == 4) = false := by rw [beq_eq_false_iff_ne]; omega
    have q5 : (op == 5) = false := by rw [beq_eq_false_iff_ne]; omega
    have q6 : (op == 6) = false := by rw [beq_eq_false_iff_ne]; omega
    have q7 : (op == 7) = false := by rw [beq_eq_false_iff_ne]; omega
    have q8 : (op == 8) = false := by rw [beq_eq_false_iff_ne]; omega
    have q9 : (op == 9) = false := by rw [beq_eq_false_iff_ne]; omega
    have q10 : (op == 10) = false := by rw [beq_eq_false_iff_ne]; omega
    have q11 : (op == 11) = false := by rw [beq_eq_false_iff_ne]; omega
    have q12 : (op == 12) = false := by rw [beq_eq_false_iff_ne]; omega
    have q13 : (op == 13) = false := by rw [beq_eq_false_iff_ne]; omega
    have q14 : (op == 14) = false := by rw [beq_eq_false_iff_ne]; omega
    have q15 : (op == 15) = false := by rw [beq_eq_false_iff_ne]; omega
    have q16 : (op == 16) = false := by rw [beq_eq_false_iff_ne]; omega
    have q17 : (op == 17) = false := by rw [beq_eq_false_iff_ne]; omega
    have q18 : (op == 18) = false := by rw [beq_eq_false_iff_ne]; omega
    have q19 : (op == 19) = false := by rw [beq_eq_false_iff_ne]; omega
    clear h
    go_enter Try.func50, Try.ntmps50
    go_wp2
    go_ret
    exact ⟨by rw [HF.out]; rfl, rfl⟩
  · rcases op_cases h with rfl | rfl | rfl | rfl | rfl | rfl | rfl | rfl | rfl | rfl | rfl | rfl | rfl | rfl | rfl | rfl | rfl | rfl | rfl | rfl
    all_goals
      clear h
      go_enter Try.func50, Try.ntmps50
      go_wp2
      go_ret
      exact ⟨rfl, rfl⟩

set_option maxRecDepth 100000 in
set_option maxHeartbeats 1600000 in
theorem validOperand_any (k v n : Int) (w : World) (n0 : -9223372036854775807 ≤ n) (n1 : n ≤ 9223372036854775807) : Calls Try.prog 51 #[.int .u8 k, .int .i64 v, .int .i64 n] w fun e w' => e = .returned (.bool (kindB k v n)) ∧ w = w' := by
  have HF : Hid (kindB k v n = if k = 82 then withinB v 0 7 else if k = 66 then withinB v 0 255 else if k = 84 then withinB v 0 (n - 1) else withinB v 0 0) := rfl
  generalize kindB k v n = res at *
  by_cases c1 : k = 82
  · rw [if_pos c1] at HF
    subst c1
    go_enter Try.func51, Try.ntmps51
    go_wp2_with (go_at_call 42; refine (within_any v 0 7 _).mono ?_; rintro e1 w1 ⟨rfl, rfl⟩)
    go_ret
    exact ⟨by rw [HF.out]; rfl, rfl⟩
  · rw [if_neg c1] at HF
    have b1 : (k == 82) = false := by rw [beq_eq_false_iff_ne]; exact c1
    by_cases c2 : k = 66
    · rw [if_pos c2] at HF
      subst c2
      go_enter Try.func51, Try.ntmps51
      go_wp2_with (go_at_call 42; refine (within_any v 0 255 _).mono ?_; rintro e1 w1 ⟨rfl, rfl⟩)
      go_ret
      exact ⟨by rw [HF.out]; rfl, rfl⟩
    · rw [if_neg c2] at HF
      have b2 : (k == 66) = false := by rw [beq_eq_false_iff_ne]; exact c2
      by_cases c3 : k = 84
      · rw [if_pos c3] at HF
        subst c3
        go_enter Try.func51, Try.ntmps51
        go_wp2_with (go_at_call 42; refine (within_any v 0 (n - 1) _).mono ?_; rintro e1 w1 ⟨rfl, rfl⟩)
        go_ret
        exact ⟨by rw [HF.out]; rfl, rfl⟩
      · rw [if_neg c3] at HF
        have b3 : (k == 84) = false := by rw [beq_eq_false_iff_ne]; exact c3
        clear c1 c2 c3
        go_enter Try.func51, Try.ntmps51
        go_wp2_with (go_at_call 42; refine (within_any v 0 0 _).mono ?_; rintro e1 w1 ⟨rfl, rfl⟩)
        go_ret
        exact ⟨by rw [HF.out]; rfl, rfl⟩
end Go.Proofs.Ytjikemhmnkckcab
